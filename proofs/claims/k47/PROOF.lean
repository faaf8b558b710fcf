import PyProof.Rows.All
import Wide.All
import OpenK.AllK
import Wide.FinOn
import HandS.ForMost
import HandS.Codes
import HandS.Steps
import HandS.IsInst
import HandS.Property
import HandS.Wide
import HandS.WideBits
import HandS.Exc
import HandS.Defaults
import HandS.ExcOwn
import HandS.TryOnly
import HandS.WordsExc
import HandS.ExcIs
import HandS.MakeKwOnly
import HandS.RaiseMore
import HandS.Style
import HandS.Zip
import HandS.Iter
import HandS.Walk
import PySem.Challenge.RW_thaumatrope_k47_whole_transform_blocks_r
set_option Elab.async false
set_option linter.all false
set_option maxRecDepth 100000
set_option maxHeartbeats 8000000
namespace Vx
open PySem PySem.Spec PyProof.Rows L2

/-! ### heaps -/
def SameX (m : Addr) (H H' : Hp) : Prop := ∀ b o, H b = some o → b ≠ m → H' b = some o
theorem gen_new {H H' : Hp} {p : Addr} {o : HO} (n : H p = none) (h : upd H p o = H') : Same H H' ∧ H' p = some o := by
  subst h
  exact ⟨fun b u e => by rw [upd_ne (ne_of_none e n)]; exact e, upd_same⟩
theorem gen_mut {H H' : Hp} {m : Addr} {o : HO} (h : upd H m o = H') : SameX m H H' ∧ H' m = some o := by
  subst h
  exact ⟨fun b u e n => by rw [upd_ne n]; exact e, upd_same⟩
theorem same_mut {H0 H H' : Hp} {m : Addr} (B : Same H0 H) (x : SameX m H H') (f : H0 m = none) : Same H0 H' :=
  fun b o e => x b o (B b o e) (ne_of_none e f)
theorem map_get {xs : List Int} {i : Nat} {x : V} (h : (xs.map V.int)[i]? = some x) : ∃ o, xs[i]? = some o ∧ x = .int o := by
  rw [List.getElem?_map] at h
  cases e : xs[i]? with
  | none => rw [e] at h; cases h
  | some z => rw [e] at h; exact ⟨z, rfl, (Option.some.inj h).symm⟩
theorem get_len {α : Type} {xs : List α} {i : Nat} {x : α} (h : xs[i]? = some x) : i < xs.length := (List.getElem?_eq_some_iff.mp h).1
theorem eq_int {Q : VK} {H : Hp} {a b : Int} (h : Q (.int a) H) (e : a = b) : Q (.int b) H := e ▸ h
theorem eq_bl {Q : VK} {H : Hp} {a b : Bool} (h : Q (.bl a) H) (e : a = b) : Q (.bl b) H := e ▸ h
theorem small {n : Nat} (h : n ≤ 1000000) : n < sizeLine := Nat.lt_of_le_of_lt h (by decide)
theorem smallE {n : Nat} (h : n ≤ 1000000) : n ≤ sizeLine := Nat.le_of_lt (small h)
theorem snoc_int {xs : List Int} {y : Int} {H : Hp} {p : Addr} (h : H p = some (.lst (xs.map V.int ++ [V.int y]))) : H p = some (.lst ((xs ++ [y]).map V.int)) := by
  rw [List.map_append]; exact h
theorem cat_int {xs ys : List Int} {H : Hp} {p : Addr} (h : H p = some (.lst (xs.map V.int ++ ys.map V.int))) : H p = some (.lst ((xs ++ ys).map V.int)) := by
  rw [List.map_append]; exact h
theorem cast_lst {xs ys : List Int} {H : Hp} {p : Addr} (h : H p = some (.lst (xs.map V.int))) (e : xs = ys) : H p = some (.lst (ys.map V.int)) := e ▸ h

/-! ### tests -/
theorem dT {p : Prop} [Decidable p] (h : decide p = true) : p := of_decide_eq_true h
theorem dF {p : Prop} [Decidable p] (h : ¬ decide p = true) : ¬ p := fun x => h (decide_eq_true x)
theorem iteD {p A B : Prop} [Decidable p] (h1 : p → A) (h2 : ¬ p → B) : if decide p = true then A else B := by
  by_cases h : p
  · rw [if_pos (decide_eq_true h)]; exact h1 h
  · rw [if_neg (fun x => h (of_decide_eq_true x))]; exact h2 h
theorem iteN {p A B : Prop} [Decidable p] (h1 : ¬ p → A) (h2 : p → B) : if (!decide p) = true then A else B := by
  by_cases h : p
  · rw [decide_eq_true h]; exact iteF (h2 h)
  · rw [decide_eq_false h]; exact iteT (h1 h)
theorem iteB {b : Bool} {A B : Prop} (h1 : b = true → A) (h2 : b = false → B) : if b = true then A else B := by
  cases b with
  | true => exact iteT (h1 rfl)
  | false => exact iteF (h2 rfl)
theorem iteBN {b : Bool} {A B : Prop} (h1 : b = false → A) (h2 : b = true → B) : if (!b) = true then A else B := by
  cases b with
  | true => exact iteF (h2 rfl)
  | false => exact iteT (h1 rfl)
theorem iteDT {p A B : Prop} [Decidable p] (h : p) (k : A) : if decide p = true then A else B := by
  rw [if_pos (decide_eq_true h)]; exact k
theorem iteDF {p A B : Prop} [Decidable p] (h : ¬ p) (k : B) : if decide p = true then A else B := by
  rw [if_neg (fun x => h (of_decide_eq_true x))]; exact k
theorem iteNT {p A B : Prop} [Decidable p] (h : ¬ p) (k : A) : if (!decide p) = true then A else B := iteN (fun _ => k) (fun x => (h x).elim)
theorem iteNF {p A B : Prop} [Decidable p] (h : p) (k : B) : if (!decide p) = true then A else B := iteN (fun x => (x h).elim) (fun _ => k)

/-! ### equality of lists of ints -/
theorem eqvAll_ints : ∀ xs ys : List Int, PyData.eqvAll (xs.map PyData.int) (ys.map PyData.int) = decide (xs = ys)
  | [], [] => by simp [PyData.eqvAll]
  | [], y :: ys => by simp [PyData.eqvAll]
  | x :: xs, [] => by simp [PyData.eqvAll]
  | x :: xs, y :: ys => by
    have ih := eqvAll_ints xs ys
    simp only [List.map_cons, PyData.eqvAll, PyData.eqv, ih]
    by_cases h : x = y <;> by_cases h2 : xs = ys <;> simp [h, h2]
end Vx

namespace Vx
open PySem PySem.Spec PyProof.Rows L2
section
variable {X : Cx}
def rEqLi (K : PySem.W.Frag) : R2 := fun x y H Q => ∃ (a b : Addr) (xs ys : List Int), x = .ref a ∧ y = .ref b ∧ SqL K H a (xs.map V.int) ∧ SqL K H b (ys.map V.int) ∧ Q (.bl (decide (xs = ys))) H
def rNeLi (K : PySem.W.Frag) : R2 := fun x y H Q => ∃ (a b : Addr) (xs ys : List Int), x = .ref a ∧ y = .ref b ∧ SqL K H a (xs.map V.int) ∧ SqL K H b (ys.map V.int) ∧ Q (.bl (!decide (xs = ys))) H
theorem dpAll_ints {K : PySem.W.Frag} {H : Hp} : ∀ xs : List Int, DpAll K H (xs.map V.int) (xs.map PyData.int)
  | [] => .nil
  | x :: xs => .cons (.int x) (dpAll_ints xs)
theorem dp_ints {K : PySem.W.Frag} {H : Hp} {a : Addr} {xs : List Int} (h : SqL K H a (xs.map V.int)) : Dp K H (.ref a) (.list (xs.map PyData.int)) := .lst h (dpAll_ints xs)
theorem canLay_ints : ∀ xs : List Int, PyData.canLayAll0 (xs.map PyData.int) = true
  | [] => by simp [PyData.canLayAll0]
  | x :: xs => by simp [PyData.canLayAll0, PyData.canLay0, canLay_ints xs]
theorem depth_ints : ∀ xs : List Int, PyData.depthAll (xs.map PyData.int) = 0
  | [] => by simp [PyData.depthAll]
  | x :: xs => by simp [PyData.depthAll, PyData.depth, depth_ints xs]
theorem shaped_ints (xs : List Int) : SeqAt.shaped (.list (xs.map PyData.int)) = true := by
  unfold SeqAt.shaped
  simp [PyData.canLay0, canLay_ints, PyData.depth, depth_ints]
theorem eqv_ints (xs ys : List Int) : PyData.eqv (.list (xs.map PyData.int)) (.list (ys.map PyData.int)) = decide (xs = ys) := by
  simp only [PyData.eqv]
  exact eqvAll_ints xs ys
theorem op_eqLi (hu : X.A.units + 64 < cLine) : OpR X (compareOp .Eq) (rEqLi X.K) := by
  intro pins s σ H x y v u Q I rx ry h
  obtain ⟨a, b, xs, ys, rfl, rfl, h1, h2, q⟩ := h
  exact op_eqD hu pins s σ H _ _ v u Q I rx ry ⟨_, _, dp_ints h1, dp_ints h2, shaped_ints xs, shaped_ints ys, by rw [eqv_ints]; exact q⟩
theorem op_neLi (hu : X.A.units + 64 < cLine) : OpR X (compareOp .NotEq) (rNeLi X.K) := by
  intro pins s σ H x y v u Q I rx ry h
  obtain ⟨a, b, xs, ys, rfl, rfl, h1, h2, q⟩ := h
  exact op_neD hu pins s σ H _ _ v u Q I rx ry ⟨_, _, dp_ints h1, dp_ints h2, shaped_ints xs, shaped_ints ys, by rw [eqv_ints]; exact q⟩

/-! ### items, slices, repetition, comprehensions of ints -/
def itI (xs : List Int) (i : Int) : Int := (atI xs i).getD 0
theorem atI_int {xs : List Int} {i : Int} (h : -(xs.length : Int) ≤ i ∧ i < xs.length) : atI (xs.map V.int) i = some (.int (itI xs i)) := by
  unfold itI atI
  rw [List.length_map]
  have hk : ∃ j, ixN xs.length i = some j ∧ j < xs.length := by
    unfold ixN
    by_cases h0 : 0 ≤ i
    · refine ⟨i.toNat, ?_, by omega⟩
      rw [if_pos h0, if_pos h.2]
    · refine ⟨(i + xs.length).toNat, ?_, by omega⟩
      rw [if_neg h0, if_pos h.1]
  obtain ⟨j, e, hj⟩ := hk
  rw [e]
  show (xs.map V.int)[j]? = some (V.int ((xs[j]?).getD 0))
  rw [List.getElem?_map, List.getElem?_eq_getElem hj] <;> rfl
def cutI (xs : List Int) (lo hi : Option Int) : List Int := (xs.drop (HT.sIx xs.length 0 lo)).take (HT.sIx xs.length xs.length hi - HT.sIx xs.length 0 lo)
theorem cut_int {xs : List Int} {lo hi : Option Int} {H : Hp} {p : Addr} (h : H p = some (.lst (cutV (xs.map V.int) lo hi))) : H p = some (.lst ((cutI xs lo hi).map V.int)) := by
  rw [h]
  unfold cutV cutI
  rw [List.length_map, List.map_take, List.map_drop]
def rep (xs : List Int) (k : Int) : List Int := (List.replicate k.toNat xs).flatten
theorem rep_int {xs : List Int} {k : Int} {H : Hp} {p : Addr} (h : H p = some (.lst (List.replicate k.toNat (xs.map V.int)).flatten)) : H p = some (.lst ((rep xs k).map V.int)) := by
  rw [h]
  unfold rep
  rw [List.map_flatten, List.map_replicate]
theorem divW_lit {i j : Int} (h : 0 < j) (h2 : j.natAbs.log2 < 9000) : CDivW i j := ⟨h, h2⟩
theorem divW_small {i j : Int} (h : 0 < j) (h2 : j < 2 ^ 128) : CDivW i j := wide_div h (show j.natAbs < 2 ^ 128 by omega) (by decide) (by decide)
theorem comp_list {xs : List Int} {i : Nat} {x y : Int} {f : Int → Int} {H : Hp} {D : Addr} (hi : xs[i]? = some x) (h : H D = some (.lst (((xs.take i).map f).map V.int ++ [V.int y]))) (e : f x = y) : H D = some (.lst (((xs.take (i + 1)).map f).map V.int)) := by
  rw [h, ← e, List.take_succ, hi, List.map_append, List.map_append] <;> rfl
theorem comp_done {xs : List Int} {f : Int → Int} {H : Hp} {D : Addr} (h : H D = some (.lst (((xs.take (xs.map V.int).length).map f).map V.int))) : H D = some (.lst ((xs.map f).map V.int)) := by
  rw [List.length_map, List.take_length] at h
  exact h
theorem comp_range {i : Nat} {y : Int} {f : Nat → Int} {H : Hp} {D : Addr} (h : H D = some (.lst (((List.range i).map f).map V.int ++ [V.int y]))) (e : f i = y) : H D = some (.lst (((List.range (i + 1)).map f).map V.int)) := by
  rw [h, ← e, List.range_succ, List.map_append, List.map_append] <;> rfl
theorem iteBT {b : Bool} {A B : Prop} (h : b = true) (k : A) : if b = true then A else B := by rw [if_pos h]; exact k
theorem iteBF {b : Bool} {A B : Prop} (h : b = false) (k : B) : if b = true then A else B := by rw [if_neg (by rw [h]; decide)]; exact k
theorem take_succ_get {α : Type} {xs : List α} {i : Nat} {x : α} (hi : xs[i]? = some x) : xs.take (i + 1) = xs.take i ++ [x] := by rw [List.take_succ, hi] <;> rfl
end

/-! ### defs of the module, as callers see them -/
section
variable {P : Program} {w : World} {K : PySem.W.Frag} {mg : Str → Option Value} {base : Heap}
structure DefIn (K : PySem.W.Frag) (mg : Str → Option Value) (x : Str) (st : Stmt) (ps : List Str) : Prop where
  ex : ∃ (f : Addr) (fd : FuncData), Fun K x x st f fd ∧ mg x = some (.ref f) ∧ Binds K fd ps []
structure Cal (P : Program) (w : World) (K : PySem.W.Frag) (mg : Str → Option Value) (base : Heap) (k : Nat) (x : Str) (sp : Sp) : Prop where
  ex : ∃ (f : Addr) (fd : FuncData) (ps : List Str), FnOk P w K mg base CX0 k f fd ps sp ∧ mg x = some (.ref f) ∧ PySem.W.keepIn K (.ref f) = true ∧ Binds K fd ps []
theorem DefIn.ok {x : Str} {st : Stmt} {N ps : List Str} {k : Nat} {sp : Sp} (D : DefIn K mg x st ps) (S : FnScope N ps (defScope st)) (len : ∀ vs H Q E, sp vs H Q E → vs.length = ps.length)
    (hbody : ∀ (f : Addr) (cdv : Value) (A : Around) (outer : List Env) (s : Shared) (H : Hp) (vs : List V) (Q : VK) (E : XK), Room k (A.deeper (envOfC x (defScope st) s.heap.objs.size f cdv)) → sp vs H Q E →
      ∃ t, PSs (cxOf CX0 P w K mg base N x (defScope st) f cdv A outer s H E).nox (defBody st) t ∧ t { nx := fun _ H' => Q .non H', rt := Q } (start N vs) H) : Cal P w K mg base (k + 1) x sp := by
  obtain ⟨f, fd, F, hm, b⟩ := D.ex
  exact ⟨f, fd, ps, F.ok S len (fun cdv A outer s H vs Q E hr h => hbody f cdv A outer s H vs Q E hr h), hm, F.kp, b⟩
end
section
variable {X : Cx} {k j : Nat} {x : Str} {sp : Sp} {p pos : Pos} {e : Expr} {es : List Expr} {t : TA}
theorem vx_call (c : Cal X.prog X.w X.K X.mg X.base k x sp) (hr : Room j X.A) (hk : k ≤ j) (hg : Gl X x) (ha : PA X (e :: es) t)
    (hdb : (x == ("__debug__" : Str)) = false := by decide) (he : starEach (e :: es) X.env = (false, eval e X.env) :: starEach es X.env := by rfl) (hpl : (backTo pos (starEach es X.env)).any (·.1) = false := by rfl) :
    PE X (.Call (.Name x p) (e :: es) [] pos) (tCall sp [] E0 t) := by
  obtain ⟨f, fd, ps, F, hm, kp, b⟩ := c.ex
  exact pe_call F (hr.mono hk) hg hm kp b .nil pass0 ha hdb he hpl
end
end Vx

namespace Vx
open PySem PySem.Spec PyProof.Rows L2
section
variable {σ : L2.St} {H : Hp} {ta tb : TE} {x y z : V} {t : TT}
theorem vv_and {a b : Bool} (h1 : Val ta σ H (.bl a)) (h2 : Val tb σ H (.bl b)) : Val (tAndV ta tb) σ H (.bl (a && b)) := fun Q q => h1 _ ⟨a, rfl, by
  cases a with
  | true => exact iteT (h2 Q q)
  | false => exact iteF q⟩
theorem vv_or {a b : Bool} (h1 : Val ta σ H (.bl a)) (h2 : Val tb σ H (.bl b)) : Val (tOrV ta tb) σ H (.bl (a || b)) := fun Q q => h1 _ ⟨a, rfl, by
  cases a with
  | true => exact iteT q
  | false => exact iteF (h2 Q q)⟩
theorem vv_not {a : Bool} (h1 : Val ta σ H (.bl a)) : Val (tNotV ta) σ H (.bl (!a)) := fun Q q => h1 _ ⟨a, rfl, q⟩
theorem vv_un {r : V → Hp → VK → Prop} (ha : Val ta σ H x) (hr : ∀ Q : VK, Q z H → r x H Q) : Val (tUn r ta) σ H z := fun Q q => ha _ (hr Q q)
theorem vv_cmp {p : Int → Int → Bool} (ha : Val ta σ H x) (hb : Val tb σ H y) (hr : ∀ Q : VK, Q z H → ∃ i j, x = .int i ∧ y = .int j ∧ Q (.bl (p i j)) H) : Val (tCmp p ta tb) σ H z := fun Q q => ha _ (hb _ (hr Q q))
theorem vv_call1 {r : List V → Hp → VK → Prop} (ha : Val ta σ H x) (hr : ∀ Q : VK, Q z H → r [x] H Q) : Val (tCB r (tCons ta tNil)) σ H z := fun Q q => ha _ (hr Q q)
theorem vt_cmp {b : Bool} (h : Val ta σ H (.bl b)) : Ans (tB ta) σ H b := fun Q q => h _ ⟨b, rfl, q⟩
theorem vt_val {b : Bool} (h : Val ta σ H (.bl b)) : Ans (tB ta) σ H b := fun Q q => h _ ⟨b, rfl, q⟩
theorem vt_int {i : Int} {K : PySem.W.Frag} (h : Val ta σ H (.int i)) : Ans (fun σ H Q => ta σ H fun x H' => ∃ k, TruV K x H' k ∧ Q k H') σ H (i != 0) := fun Q q => h _ ⟨_, rfl, q⟩
theorem vv_if {p : Prop} [Decidable p] {a b : Int} (ht : Ans t σ H (decide p)) (hx : Val ta σ H (.int a)) (hy : Val tb σ H (.int b)) : Val (tIf t ta tb) σ H (.int (if p then a else b)) := fun Q q => ht _ (by
  by_cases h : p
  · rw [if_pos h] at q; exact iteDT h (hx Q q)
  · rw [if_neg h] at q; exact iteDF h (hy Q q))
theorem vv_ifb {c : Bool} {a b : Int} (ht : Ans t σ H c) (hx : Val ta σ H (.int a)) (hy : Val tb σ H (.int b)) : Val (tIf t ta tb) σ H (.int (if c = true then a else b)) := fun Q q => ht _ (by
  cases c with
  | true => exact iteT (hx Q q)
  | false => exact iteF (hy Q q))
end
end Vx

namespace Vx
open PySem PySem.Spec PyProof.Rows L2
def rLenLi (K : PySem.W.Frag) : List V → Hp → VK → Prop := fun xs H Q => ∃ (p : Addr) (ns : List Int), xs = [.ref p] ∧ SqL K H p (ns.map V.int) ∧ Q (.int (ns.length : Int)) H
theorem call_lenLi {X : Cx} : CallR X (.builtin "len") (rLenLi X.K) := by
  intro pins s σ H xs us Q I r h
  obtain ⟨p, ns, rfl, hs, q⟩ := h
  exact call_len_seq pins s σ H _ us Q I r ⟨p, _, rfl, Or.inl hs, by rw [List.length_map]; exact q⟩
end Vx

namespace Vx
open PySem PySem.Spec PyProof.Rows L2
section
variable {X : Cx} {K : PySem.W.Frag}
theorem ix_listK (hK : X.K = K := by rfl) : IxR X (rIxL K) := hK ▸ ix_list
theorem sl_listK (hK : X.K = K := by rfl) : SlR X (rSlL K) := hK ▸ sl_list
theorem call_lenLiK (hK : X.K = K := by rfl) : CallR X (.builtin "len") (rLenLi K) := hK ▸ call_lenLi
theorem op_eqLiK (hu : X.A.units + 64 < cLine) (hK : X.K = K := by rfl) : OpR X (compareOp .Eq) (rEqLi K) := hK ▸ op_eqLi hu
theorem op_neLiK (hu : X.A.units + 64 < cLine) (hK : X.K = K := by rfl) : OpR X (compareOp .NotEq) (rNeLi K) := hK ▸ op_neLi hu
theorem pi_listK {tg l : Expr} {tl : TE} (hl : PE X l tl) (hK : X.K = K := by rfl) : PI X tg l (iList K tl) := hK ▸ pi_list hl
theorem cr_sumK (hc : X.calm = true) (hK : X.K = K := by rfl) : CallR X (.builtin "sum") (rSum K) := hK ▸ cr_sum hc
theorem cr_maxK (hc : X.calm = true) (hK : X.K = K := by rfl) : CallR X (.builtin "max") (rMax K) := hK ▸ cr_max hc
theorem cr_minK (hc : X.calm = true) (hK : X.K = K := by rfl) : CallR X (.builtin "min") (rMin K) := hK ▸ cr_min hc
end
end Vx

namespace Vx
open PySem PySem.Spec PyProof.Rows L2
theorem tyes_go {σ : L2.St} {H : Hp} {f g : Hp → Prop} (h : f H) : tYes σ H (fun b H3 => if b = true then f H3 else g H3) := by
  show if true = true then f H else g H
  exact iteT h
end Vx

/-! # second part: data of any depth, the stable heap G, the owned addresses O -/
namespace Vx
open PySem PySem.Spec PyProof.Rows L2
mutual
inductive Rp (H : Hp) : V → PyData → Prop
  | non : Rp H .non .none
  | bl (b : Bool) : Rp H (.bl b) (.bool b)
  | int (i : Int) : Rp H (.int i) (.int i)
  | str (x : Str) : Rp H (.str x) (.str x)
  | lst {a : Addr} {xs : List V} {ds : List PyData} : H a = some (.lst xs) → RpAll H xs ds → Rp H (.ref a) (.list ds)
  | tup {a : Addr} {xs : List V} {ds : List PyData} : H a = some (.tup xs) → RpAll H xs ds → Rp H (.ref a) (.tuple ds)
inductive RpAll (H : Hp) : List V → List PyData → Prop
  | nil : RpAll H [] []
  | cons {v : V} {vs : List V} {d : PyData} {ds : List PyData} : Rp H v d → RpAll H vs ds → RpAll H (v :: vs) (d :: ds)
end
mutual
theorem Rp.mono {H H' : Hp} (e : Same H H') : ∀ {v : V} {d : PyData}, Rp H v d → Rp H' v d
  | _, _, .non => .non
  | _, _, .bl b => .bl b
  | _, _, .int i => .int i
  | _, _, .str x => .str x
  | _, _, .lst h r => .lst (e _ _ h) (RpAll.mono e r)
  | _, _, .tup h r => .tup (e _ _ h) (RpAll.mono e r)
theorem RpAll.mono {H H' : Hp} (e : Same H H') : ∀ {vs : List V} {ds : List PyData}, RpAll H vs ds → RpAll H' vs ds
  | _, _, .nil => .nil
  | _, _, .cons a b => .cons (Rp.mono e a) (RpAll.mono e b)
end
mutual
theorem Rp.dp {K : PySem.W.Frag} {H : Hp} : ∀ {v : V} {d : PyData}, Rp H v d → Dp K H v d
  | _, _, .non => .non
  | _, _, .bl b => .bl b
  | _, _, .int i => .int i
  | _, _, .str x => .str x
  | _, _, .lst h r => .lst (SqL.of h) (RpAll.dp r)
  | _, _, .tup h r => .tup (SqT.of h) (RpAll.dp r)
theorem RpAll.dp {K : PySem.W.Frag} {H : Hp} : ∀ {vs : List V} {ds : List PyData}, RpAll H vs ds → DpAll K H vs ds
  | _, _, .nil => .nil
  | _, _, .cons a b => .cons (Rp.dp a) (RpAll.dp b)
end
theorem RpAll.append {H : Hp} : ∀ {xs ys : List V} {ds es : List PyData}, RpAll H xs ds → RpAll H ys es → RpAll H (xs ++ ys) (ds ++ es)
  | _, _, _, _, .nil, s => s
  | _, _, _, _, .cons r t, s => .cons r (RpAll.append t s)
theorem RpAll.ints {H : Hp} : ∀ xs : List Int, RpAll H (xs.map V.int) (xs.map PyData.int)
  | [] => .nil
  | x :: xs => .cons (.int x) (RpAll.ints xs)
theorem RpAll.bls {H : Hp} : ∀ xs : List Bool, RpAll H (xs.map V.bl) (xs.map PyData.bool)
  | [] => .nil
  | x :: xs => .cons (.bl x) (RpAll.bls xs)
theorem RpAll.one {H : Hp} {v : V} {d : PyData} (h : Rp H v d) : RpAll H [v] [d] := .cons h .nil
theorem RpAll.len {H : Hp} : ∀ {vs : List V} {ds : List PyData}, RpAll H vs ds → vs.length = ds.length
  | _, _, .nil => rfl
  | _, _, .cons _ t => by rw [List.length_cons, List.length_cons, RpAll.len t]
theorem RpAll.at {H : Hp} : ∀ {vs : List V} {ds : List PyData} {i : Nat} {v : V}, RpAll H vs ds → vs[i]? = some v → ∃ d, ds[i]? = some d ∧ Rp H v d
  | _, _, _, _, .nil, h => by simp at h
  | _, _, 0, _, .cons r _, h => by
    simp at h
    subst h
    exact ⟨_, rfl, r⟩
  | _, _, i + 1, _, .cons _ t, h => by
    obtain ⟨d, h1, h2⟩ := RpAll.at (i := i) t (by simpa using h)
    exact ⟨d, by simpa using h1, h2⟩
theorem RpAll.at' {H : Hp} : ∀ {vs : List V} {ds : List PyData} {i : Nat} {d : PyData}, RpAll H vs ds → ds[i]? = some d → ∃ v, vs[i]? = some v ∧ Rp H v d
  | _, _, _, _, .nil, h => by simp at h
  | _, _, 0, _, .cons r _, h => by
    simp at h
    subst h
    exact ⟨_, rfl, r⟩
  | _, _, i + 1, _, .cons _ t, h => by
    obtain ⟨v, h1, h2⟩ := RpAll.at' (i := i) t (by simpa using h)
    exact ⟨v, by simpa using h1, h2⟩
theorem RpAll.take {H : Hp} : ∀ (n : Nat) {vs : List V} {ds : List PyData}, RpAll H vs ds → RpAll H (vs.take n) (ds.take n)
  | 0, _, _, _ => by simpa using RpAll.nil
  | n + 1, _, _, .nil => by simpa using RpAll.nil
  | n + 1, _, _, .cons r t => .cons r (RpAll.take n t)
theorem RpAll.drop {H : Hp} : ∀ (n : Nat) {vs : List V} {ds : List PyData}, RpAll H vs ds → RpAll H (vs.drop n) (ds.drop n)
  | 0, _, _, r => r
  | n + 1, _, _, .nil => by simpa using RpAll.nil
  | n + 1, _, _, .cons r t => RpAll.drop n t
theorem RpAll.set {H : Hp} {v : V} {d : PyData} (h : Rp H v d) : ∀ (n : Nat) {vs : List V} {ds : List PyData}, RpAll H vs ds → RpAll H (vs.set n v) (ds.set n d)
  | _, _, _, .nil => .nil
  | 0, _, _, .cons _ t => .cons h t
  | n + 1, _, _, .cons r t => .cons r (RpAll.set h n t)
theorem RpAll.rep {H : Hp} {vs : List V} {ds : List PyData} (h : RpAll H vs ds) : ∀ n : Nat, RpAll H (List.replicate n vs).flatten (List.replicate n ds).flatten
  | 0 => by simpa using RpAll.nil
  | n + 1 => by
    rw [List.replicate_succ, List.flatten_cons, List.replicate_succ, List.flatten_cons]
    exact RpAll.append h (RpAll.rep h n)
theorem RpAll.get {α : Type} {f : α → PyData} {H : Hp} {vs : List V} {xs : List α} {i : Nat} {v : V} (r : RpAll H vs (xs.map f)) (h : vs[i]? = some v) : ∃ x, xs[i]? = some x ∧ Rp H v (f x) := by
  obtain ⟨d, h1, h2⟩ := RpAll.at r h
  rw [List.getElem?_map] at h1
  cases e : xs[i]? with
  | none => rw [e] at h1; cases h1
  | some x =>
    rw [e] at h1
    have : f x = d := Option.some.inj h1
    exact ⟨x, rfl, this ▸ h2⟩
/-- the item at an index, data -/
theorem RpAll.ix {α : Type} {f : α → PyData} {H : Hp} {vs : List V} {xs : List α} {k : Int} (r : RpAll H vs (xs.map f)) (h : -(xs.length : Int) ≤ k ∧ k < xs.length) : ∃ v x, atI vs k = some v ∧ atI xs k = some x ∧ Rp H v (f x) := by
  have hl : vs.length = xs.length := by rw [r.len, List.length_map]
  have hk : ∃ j, ixN xs.length k = some j ∧ j < xs.length := by
    unfold ixN
    by_cases h0 : 0 ≤ k
    · refine ⟨k.toNat, ?_, by omega⟩
      rw [if_pos h0, if_pos h.2]
    · refine ⟨(k + xs.length).toNat, ?_, by omega⟩
      rw [if_neg h0, if_pos h.1]
  obtain ⟨j, e, hj⟩ := hk
  have hx := List.getElem?_eq_getElem hj
  obtain ⟨v, h1, h2⟩ := RpAll.at' (i := j) (d := f xs[j]) r (by rw [List.getElem?_map, hx] <;> rfl)
  refine ⟨v, xs[j], ?_, ?_, h2⟩
  · unfold atI
    rw [hl, e]
    exact h1
  · unfold atI
    rw [e]
    exact hx

/-! ### types -/
def encL {α : Type} (f : α → PyData) (xs : List α) : PyData := .list (xs.map f)
def encT2 {α β : Type} (f : α → PyData) (g : β → PyData) (p : α × β) : PyData := .tuple [f p.1, g p.2]
def encT3 {α β γ : Type} (f : α → PyData) (g : β → PyData) (h : γ → PyData) (p : α × β × γ) : PyData := .tuple [f p.1, g p.2.1, h p.2.2]
def encT4 {α β γ δ : Type} (f : α → PyData) (g : β → PyData) (h : γ → PyData) (i : δ → PyData) (p : α × β × γ × δ) : PyData := .tuple [f p.1, g p.2.1, h p.2.2.1, i p.2.2.2]
structure EncOk {α : Type} [DecidableEq α] (n : Nat) (f : α → PyData) : Prop where
  lay : ∀ x, PyData.canLay0 (f x) = true
  dep : ∀ x, PyData.depth (f x) ≤ n
  eqv : ∀ x y, PyData.eqv (f x) (f y) = decide (x = y)
theorem encOk_int : EncOk 0 PyData.int := ⟨fun _ => by simp [PyData.canLay0], fun _ => by simp [PyData.depth], fun x y => by simp [PyData.eqv]; by_cases h : x = y <;> simp [h]⟩
theorem encOk_bool : EncOk 0 PyData.bool := ⟨fun _ => by simp [PyData.canLay0], fun _ => by simp [PyData.depth], fun x y => by cases x <;> cases y <;> simp [PyData.eqv]⟩
section
variable {α β γ δ : Type} [DecidableEq α] [DecidableEq β] [DecidableEq γ] [DecidableEq δ] {n m l o : Nat} {f : α → PyData} {g : β → PyData} {h : γ → PyData} {i : δ → PyData}
theorem lay_map (ok : EncOk n f) : ∀ xs : List α, PyData.canLayAll0 (xs.map f) = true
  | [] => by simp [PyData.canLayAll0]
  | x :: xs => by simp [PyData.canLayAll0, ok.lay x, lay_map ok xs]
theorem dep_map (ok : EncOk n f) : ∀ xs : List α, PyData.depthAll (xs.map f) ≤ n
  | [] => by simp [PyData.depthAll]
  | x :: xs => by
    have h1 := ok.dep x
    have h2 := dep_map ok xs
    simp only [List.map_cons, PyData.depthAll]
    omega
theorem eqv_map (ok : EncOk n f) : ∀ xs ys : List α, PyData.eqvAll (xs.map f) (ys.map f) = decide (xs = ys)
  | [], [] => by simp [PyData.eqvAll]
  | [], y :: ys => by simp [PyData.eqvAll]
  | x :: xs, [] => by simp [PyData.eqvAll]
  | x :: xs, y :: ys => by
    have ih := eqv_map ok xs ys
    simp only [List.map_cons, PyData.eqvAll, ok.eqv, ih]
    by_cases h : x = y <;> by_cases h2 : xs = ys <;> simp [h, h2]
theorem encOk_L (ok : EncOk n f) : EncOk (n + 1) (encL f) := ⟨fun xs => by simp [encL, PyData.canLay0, lay_map ok], fun xs => by
  have := dep_map ok xs
  simp only [encL, PyData.depth]
  omega, fun xs ys => by simp only [encL, PyData.eqv]; exact eqv_map ok xs ys⟩
theorem encOk_T2 (ok : EncOk n f) (ok2 : EncOk m g) : EncOk (max n m + 1) (encT2 f g) := ⟨fun x => by simp [encT2, PyData.canLay0, PyData.canLayAll0, ok.lay, ok2.lay], fun x => by
  have h1 := ok.dep x.1
  have h2 := ok2.dep x.2
  simp only [encT2, PyData.depth, PyData.depthAll]
  omega, fun x y => by
  obtain ⟨a, b⟩ := x
  obtain ⟨c, d⟩ := y
  simp only [encT2, PyData.eqv, PyData.eqvAll, ok.eqv, ok2.eqv, Prod.mk.injEq]
  by_cases h1 : a = c <;> by_cases h2 : b = d <;> simp [h1, h2]⟩
theorem encOk_T3 (ok : EncOk n f) (ok2 : EncOk m g) (ok3 : EncOk l h) : EncOk (max n (max m l) + 1) (encT3 f g h) := ⟨fun x => by simp [encT3, PyData.canLay0, PyData.canLayAll0, ok.lay, ok2.lay, ok3.lay], fun x => by
  have h1 := ok.dep x.1
  have h2 := ok2.dep x.2.1
  have h3 := ok3.dep x.2.2
  simp only [encT3, PyData.depth, PyData.depthAll]
  omega, fun x y => by
  obtain ⟨a, b, e⟩ := x
  obtain ⟨c, d, e'⟩ := y
  simp only [encT3, PyData.eqv, PyData.eqvAll, ok.eqv, ok2.eqv, ok3.eqv, Prod.mk.injEq]
  by_cases h1 : a = c <;> by_cases h2 : b = d <;> by_cases h3 : e = e' <;> simp [h1, h2, h3]⟩
theorem encOk_T4 (ok : EncOk n f) (ok2 : EncOk m g) (ok3 : EncOk l h) (ok4 : EncOk o i) : EncOk (max n (max m (max l o)) + 1) (encT4 f g h i) := ⟨fun x => by simp [encT4, PyData.canLay0, PyData.canLayAll0, ok.lay, ok2.lay, ok3.lay, ok4.lay], fun x => by
  have h1 := ok.dep x.1
  have h2 := ok2.dep x.2.1
  have h3 := ok3.dep x.2.2.1
  have h4 := ok4.dep x.2.2.2
  simp only [encT4, PyData.depth, PyData.depthAll]
  omega, fun x y => by
  obtain ⟨a, b, e, u⟩ := x
  obtain ⟨c, d, e', u'⟩ := y
  simp only [encT4, PyData.eqv, PyData.eqvAll, ok.eqv, ok2.eqv, ok3.eqv, ok4.eqv, Prod.mk.injEq]
  by_cases h1 : a = c <;> by_cases h2 : b = d <;> by_cases h3 : e = e' <;> by_cases h4 : u = u' <;> simp [h1, h2, h3, h4]⟩
end
section
variable {X : Cx} {α : Type} [DecidableEq α] {n : Nat} {f : α → PyData}
def rEqT (f : α → PyData) : R2 := fun x y H Q => ∃ (a b : α), Rp H x (f a) ∧ Rp H y (f b) ∧ Q (.bl (decide (a = b))) H
def rNeT (f : α → PyData) : R2 := fun x y H Q => ∃ (a b : α), Rp H x (f a) ∧ Rp H y (f b) ∧ Q (.bl (!decide (a = b))) H
theorem shaped_of (ok : EncOk n f) (hn : n ≤ 64) (a : α) : SeqAt.shaped (f a) = true := by
  unfold SeqAt.shaped
  have h := ok.dep a
  rw [ok.lay]
  simp
  omega
theorem op_eqT (ok : EncOk n f) (hu : X.A.units + 64 < cLine) (hn : n ≤ 64 := by decide) : OpR X (compareOp .Eq) (rEqT f) := by
  intro pins s σ H x y v u Q I rx ry h
  obtain ⟨a, b, h1, h2, q⟩ := h
  exact op_eqD hu pins s σ H _ _ v u Q I rx ry ⟨_, _, h1.dp, h2.dp, shaped_of ok hn a, shaped_of ok hn b, by rw [ok.eqv]; exact q⟩
theorem op_neT (ok : EncOk n f) (hu : X.A.units + 64 < cLine) (hn : n ≤ 64 := by decide) : OpR X (compareOp .NotEq) (rNeT f) := by
  intro pins s σ H x y v u Q I rx ry h
  obtain ⟨a, b, h1, h2, q⟩ := h
  exact op_neD hu pins s σ H _ _ v u Q I rx ry ⟨_, _, h1.dp, h2.dp, shaped_of ok hn a, shaped_of ok hn b, by rw [ok.eqv]; exact q⟩
end
section
variable {H : Hp} {v : V} {α β γ δ : Type} {f : α → PyData} {g : β → PyData} {h : γ → PyData} {i : δ → PyData}
theorem rp_int {x : Int} (r : Rp H v (.int x)) : v = .int x := by cases r; rfl
theorem rp_bool {x : Bool} (r : Rp H v (.bool x)) : v = .bl x := by cases r; rfl
theorem rp_str {x : Str} (r : Rp H v (.str x)) : v = .str x := by cases r; rfl
theorem rp_list {xs : List α} (r : Rp H v (encL f xs)) : ∃ a vs, v = .ref a ∧ H a = some (.lst vs) ∧ RpAll H vs (xs.map f) := by
  unfold encL at r
  cases r with
  | lst h1 h2 => exact ⟨_, _, rfl, h1, h2⟩
theorem rpAll_ints : ∀ {vs : List V} {xs : List Int}, RpAll H vs (xs.map PyData.int) → vs = xs.map V.int
  | _, [], .nil => rfl
  | _, x :: xs, .cons r t => by rw [rp_int r, rpAll_ints t] <;> rfl
theorem rp_ints {xs : List Int} (r : Rp H v (encL PyData.int xs)) : ∃ a, v = .ref a ∧ H a = some (.lst (xs.map V.int)) := by
  obtain ⟨a, vs, e, h1, h2⟩ := rp_list r
  rw [rpAll_ints h2] at h1
  exact ⟨a, e, h1⟩
theorem rp_tup2 {x : α × β} (r : Rp H v (encT2 f g x)) : ∃ a v1 v2, v = .ref a ∧ H a = some (.tup [v1, v2]) ∧ Rp H v1 (f x.1) ∧ Rp H v2 (g x.2) := by
  unfold encT2 at r
  cases r with
  | tup h1 h2 =>
    cases h2 with
    | cons a b =>
      cases b with
      | cons b c =>
        cases c
        exact ⟨_, _, _, rfl, h1, a, b⟩
theorem rp_tup3 {x : α × β × γ} (r : Rp H v (encT3 f g h x)) : ∃ a v1 v2 v3, v = .ref a ∧ H a = some (.tup [v1, v2, v3]) ∧ Rp H v1 (f x.1) ∧ Rp H v2 (g x.2.1) ∧ Rp H v3 (h x.2.2) := by
  unfold encT3 at r
  cases r with
  | tup h1 h2 =>
    cases h2 with
    | cons a b =>
      cases b with
      | cons b c =>
        cases c with
        | cons c d =>
          cases d
          exact ⟨_, _, _, _, rfl, h1, a, b, c⟩
theorem rp_mk_list {a : Addr} {vs : List V} {xs : List α} (h1 : H a = some (.lst vs)) (h2 : RpAll H vs (xs.map f)) : Rp H (.ref a) (encL f xs) := .lst h1 h2
theorem rp_mk_ints {a : Addr} {xs : List Int} (h1 : H a = some (.lst (xs.map V.int))) : Rp H (.ref a) (encL PyData.int xs) := .lst h1 (RpAll.ints xs)
theorem rp_mk2 {a : Addr} {v1 v2 : V} {x : α} {y : β} (h1 : H a = some (.tup [v1, v2])) (r1 : Rp H v1 (f x)) (r2 : Rp H v2 (g y)) : Rp H (.ref a) (encT2 f g (x, y)) := .tup h1 (.cons r1 (.cons r2 .nil))
theorem rp_mk3 {a : Addr} {v1 v2 v3 : V} {x : α} {y : β} {z : γ} (h1 : H a = some (.tup [v1, v2, v3])) (r1 : Rp H v1 (f x)) (r2 : Rp H v2 (g y)) (r3 : Rp H v3 (h z)) : Rp H (.ref a) (encT3 f g h (x, y, z)) := .tup h1 (.cons r1 (.cons r2 (.cons r3 .nil)))
end

/-! ### the two heaps -/
def SameXs (L : List Addr) (H H' : Hp) : Prop := ∀ b o, H b = some o → b ∉ L → H' b = some o
theorem SameXs.of {H H' : Hp} {m : Addr} (x : SameX m H H') : SameXs [m] H H' := fun b o e n => x b o e (fun z => n (by rw [z]; exact List.mem_cons_self))
theorem ni1 {b m : Addr} (h : b ≠ m) : b ∉ [m] := by simpa using h
theorem ni2 {b m n : Addr} (h : b ≠ m) (h2 : b ≠ n) : b ∉ [m, n] := by simp [h, h2]
theorem ni3 {b m n o : Addr} (h : b ≠ m) (h2 : b ≠ n) (h3 : b ≠ o) : b ∉ [m, n, o] := by simp [h, h2, h3]
theorem ni4 {b m n o p : Addr} (h : b ≠ m) (h2 : b ≠ n) (h3 : b ≠ o) (h4 : b ≠ p) : b ∉ [m, n, o, p] := by simp [h, h2, h3, h4]
def hideL (L : List Addr) (H : Hp) : Hp := fun b => if b ∈ L then none else H b
theorem hideL_same (L : List Addr) (H : Hp) : Same (hideL L H) H := fun b o e => by
  unfold hideL at e
  split at e
  · cases e
  · exact e
theorem hideL_in {L : List Addr} {H : Hp} {b : Addr} (h : b ∈ L) : hideL L H b = none := if_pos h
theorem hideL_out {L : List Addr} {H : Hp} {b : Addr} (h : b ∉ L) : hideL L H b = H b := if_neg h
/-- M: owned from outside; H0, G0: at the entry; G: what stays as it is; O: what may change -/
structure Sep (M : List Addr) (H0 G0 G H : Hp) (O : List Addr) : Prop where
  base : SameXs M H0 H
  pm : ∀ a ∈ M, H a ≠ none
  sG : Same G H
  g0 : Same G0 G
  gn : ∀ b, H0 b ≠ none → G0 b = none → G b = none
  ow : ∀ a ∈ O, G a = none ∧ H a ≠ none ∧ (a ∈ M ∨ H0 a = none)
theorem all_nil {P : Addr → Prop} : ∀ x ∈ ([] : List Addr), P x := fun x h => by cases h
theorem all_cons {P : Addr → Prop} {a : Addr} {l : List Addr} (h : P a) (t : ∀ x ∈ l, P x) : ∀ x ∈ a :: l, P x := fun x hx => by
  cases hx with
  | head => exact h
  | tail _ hx => exact t x hx
theorem some_ne {H : Hp} {a : Addr} {o : HO} (h : H a = some o) : H a ≠ none := by
  rw [h]
  exact fun z => nomatch z
theorem same_ne {H H' : Hp} {a : Addr} (e : Same H H') (h : H a ≠ none) : H' a ≠ none := by
  cases q : H a with
  | none => exact absurd q h
  | some o => exact some_ne (e a o q)
section
variable {M : List Addr} {H0 G0 G H H' : Hp} {O : List Addr} {p m : Addr} {o : HO}
theorem Sep.start (M : List Addr) (H : Hp) (hM : ∀ a ∈ M, H a ≠ none) : Sep M H (hideL M H) (hideL M H) H M :=
  ⟨fun _ _ e _ => e, hM, hideL_same M H, Same.refl _, fun _ _ e => e, fun a ha => ⟨hideL_in ha, hM a ha, .inl ha⟩⟩
theorem Sep.startG {G H : Hp} (e : Same G H) : Sep [] H G G H [] := ⟨fun _ _ e _ => e, all_nil, e, Same.refl _, fun _ _ e => e, fun a ha => by cases ha⟩
theorem Sep.start0 (H : Hp) : Sep [] H H H H [] := Sep.startG (Same.refl H)
theorem Sep.b0 (S : Sep [] H0 G0 G H O) : Same H0 H := fun b o e => S.base b o e List.not_mem_nil
theorem Sep.free (S : Sep M H0 G0 G H O) {q : Addr} (n : H q = none) : H0 q = none := by
  cases e : H0 q with
  | none => rfl
  | some o =>
    by_cases h : q ∈ M
    · exact absurd n (S.pm q h)
    · rw [S.base q o e h] at n
      cases n
theorem Sep.same (S : Sep M H0 G0 G H O) (e : Same H H') : Sep M H0 G0 G H' O :=
  ⟨fun b o h n => e b o (S.base b o h n), fun a ha => same_ne e (S.pm a ha), S.sG.trans e, S.g0, S.gn, fun a ha => ⟨(S.ow a ha).1, same_ne e (S.ow a ha).2.1, (S.ow a ha).2.2⟩⟩
theorem Sep.gfree (S : Sep M H0 G0 G H O) {q : Addr} (n : H q = none) : G q = none := by
  cases e : G q with
  | none => rfl
  | some o => rw [S.sG q o e] at n; cases n
theorem Sep.new (S : Sep M H0 G0 G H O) (n : H p = none) (e : Same H H') (h : H' p = some o) (hm : H0 p = none) : Sep M H0 G0 G H' (p :: O) := by
  have S1 := S.same e
  refine ⟨S1.base, S1.pm, S1.sG, S1.g0, S1.gn, fun a ha => ?_⟩
  cases ha with
  | head => exact ⟨S.gfree n, some_ne h, .inr hm⟩
  | tail _ ha => exact S1.ow a ha
theorem Sep.grow (S : Sep M H0 G0 G H O) (n : H p = none) (e : Same H H') (h : H' p = some o) (hm : H0 p = none) : ∃ G', Same G G' ∧ G' p = some o ∧ Sep M H0 G0 G' H' O := by
  have S1 := S.same e
  have ng := S.gfree n
  refine ⟨upd G p o, fun b u q => by rw [upd_ne (ne_of_none q ng)]; exact q, upd_same, S1.base, S1.pm, fun b u q => ?_, fun b u q => ?_, fun b hb gb => ?_, fun a ha => ?_⟩
  · by_cases z : b = p
    · subst z
      rw [upd_same] at q
      exact q ▸ h
    · rw [upd_ne z] at q
      exact S1.sG b u q
  · have := S.g0 b u q
    rw [upd_ne (ne_of_none this ng)]
    exact this
  · by_cases z : b = p
    · subst z
      exact absurd hm hb
    · rw [upd_ne z]
      exact S.gn b hb gb
  · have hne : a ≠ p := fun z => (S.ow a ha).2.1 (by rw [z]; exact n)
    rw [upd_ne hne]
    exact S1.ow a ha
theorem Sep.mut (S : Sep M H0 G0 G H O) {L : List Addr} (x : SameXs L H H') (hL : ∀ a ∈ L, a ∈ O) (hs : ∀ a ∈ L, H' a ≠ none) : Sep M H0 G0 G H' O := by
  have keep : ∀ a, H a ≠ none → H' a ≠ none := fun a h => by
    by_cases hb : a ∈ L
    · exact hs a hb
    · cases q : H a with
      | none => exact absurd q h
      | some o => exact some_ne (x a o q hb)
  refine ⟨fun b o e n => ?_, fun a ha => keep a (S.pm a ha), fun b o e => ?_, S.g0, S.gn, fun a ha => ⟨(S.ow a ha).1, keep a (S.ow a ha).2.1, (S.ow a ha).2.2⟩⟩
  · refine x b o (S.base b o e n) fun hb => ?_
    rcases (S.ow b (hL b hb)).2.2 with z | z
    · exact n z
    · rw [e] at z; cases z
  · refine x b o (S.sG b o e) fun hb => ?_
    have := (S.ow b (hL b hb)).1
    rw [e] at this
    cases this
theorem Sep.mut1 (S : Sep M H0 G0 G H O) (x : SameX m H H') (hm : m ∈ O) (h : H' m = some o) : Sep M H0 G0 G H' O :=
  S.mut (SameXs.of x) (all_cons hm all_nil) (all_cons (some_ne h) all_nil)
theorem Sep.sub (S : Sep M H0 G0 G H O) {O' : List Addr} (h : ∀ a ∈ O', a ∈ O) : Sep M H0 G0 G H O' := ⟨S.base, S.pm, S.sG, S.g0, S.gn, fun a ha => S.ow a (h a ha)⟩
/-- what was owned and is to stay as it is from now on -/
theorem Sep.freeze (S : Sep M H0 G0 G H O) {O' : List Addr} (hp : p ∈ O) (h : H p = some o) (hm : H0 p = none) (hO : ∀ a ∈ O', a ∈ O ∧ a ≠ p) : ∃ G', Same G G' ∧ G' p = some o ∧ Sep M H0 G0 G' H O' := by
  have ng := (S.ow p hp).1
  refine ⟨upd G p o, fun b u q => by rw [upd_ne (ne_of_none q ng)]; exact q, upd_same, S.base, S.pm, fun b u q => ?_, fun b u q => ?_, fun b hb gb => ?_, fun a ha => ?_⟩
  · by_cases z : b = p
    · subst z
      rw [upd_same] at q
      exact q ▸ h
    · rw [upd_ne z] at q
      exact S.sG b u q
  · have := S.g0 b u q
    rw [upd_ne (ne_of_none this ng)]
    exact this
  · by_cases z : b = p
    · subst z
      exact absurd hm hb
    · rw [upd_ne z]
      exact S.gn b hb gb
  · rw [upd_ne (hO a ha).2]
    exact S.ow a (hO a ha).1
/-- a callee that hands on data in a stable heap of its own -/
theorem Sep.step (S : Sep M H0 G0 G H O) {G' : Hp} (e : Same H H') (eG : Same G G') (sG : Same G' H') (hn : ∀ b, H b ≠ none → G b = none → G' b = none) : Sep M H0 G0 G' H' O := by
  have S1 := S.same e
  refine ⟨S1.base, S1.pm, sG, S.g0.trans eG, fun b hb gb => ?_, fun a ha => ⟨hn a (S.ow a ha).2.1 (S.ow a ha).1, (S1.ow a ha).2⟩⟩
  refine hn b (fun z => ?_) (S.gn b hb gb)
  exact hb (S.free z)
theorem Sep.hid (S : Sep M H0 G0 G H O) {L : List Addr} (h : ∀ a ∈ L, a ∈ O) : Same G (hideL L H) := fun b o e => by
  rw [hideL_out fun z => by
    have := (S.ow b (h b z)).1
    rw [e] at this
    cases this]
  exact S.sG b o e
end
end Vx

namespace Vx
open PySem PySem.Spec PyProof.Rows L2
/-! ### lists of plain things (f : V.int, V.bl, V.str) -/
section
variable {α : Type} {f : α → V} {H : Hp} {p : Addr}
theorem cat_map {xs ys : List α} (h : H p = some (.lst (xs.map f ++ ys.map f))) : H p = some (.lst ((xs ++ ys).map f)) := by
  rw [List.map_append]; exact h
theorem snoc_map {xs : List α} {y : α} (h : H p = some (.lst (xs.map f ++ [f y]))) : H p = some (.lst ((xs ++ [y]).map f)) := by
  rw [List.map_append]; exact h
def repL (xs : List α) (k : Int) : List α := (List.replicate k.toNat xs).flatten
theorem rep_map {xs : List α} {k : Int} (h : H p = some (.lst (List.replicate k.toNat (xs.map f)).flatten)) : H p = some (.lst ((repL xs k).map f)) := by
  rw [h]
  unfold repL
  rw [List.map_flatten, List.map_replicate]
def cutL (xs : List α) (lo hi : Option Int) : List α := (xs.drop (HT.sIx xs.length 0 lo)).take (HT.sIx xs.length xs.length hi - HT.sIx xs.length 0 lo)
theorem cut_map {xs : List α} {lo hi : Option Int} (h : H p = some (.lst (cutV (xs.map f) lo hi))) : H p = some (.lst ((cutL xs lo hi).map f)) := by
  rw [h]
  unfold cutV cutL
  rw [List.length_map, List.map_take, List.map_drop]
theorem cast_map {xs ys : List α} (h : H p = some (.lst (xs.map f))) (e : xs = ys) : H p = some (.lst (ys.map f)) := e ▸ h
theorem drop_map {xs : List α} (h : H p = some (.lst (xs.map f).dropLast)) : H p = some (.lst (xs.dropLast.map f)) := by
  rw [h, List.map_dropLast]
theorem ixN_some {n : Nat} {k : Int} (h : -(n : Int) ≤ k ∧ k < n) : ∃ j, ixN n k = some j ∧ j < n := by
  unfold ixN
  by_cases h0 : 0 ≤ k
  · exact ⟨k.toNat, by rw [if_pos h0, if_pos h.2], by omega⟩
  · exact ⟨(k + n).toNat, by rw [if_neg h0, if_pos h.1], by omega⟩
def itD [Inhabited α] (xs : List α) (k : Int) : α := (atI xs k).getD default
theorem atI_map [Inhabited α] {xs : List α} {k : Int} (h : -(xs.length : Int) ≤ k ∧ k < xs.length) : atI (xs.map f) k = some (f (itD xs k)) := by
  obtain ⟨j, e, hj⟩ := ixN_some h
  unfold itD atI
  rw [List.length_map, e]
  show (xs.map f)[j]? = some (f ((xs[j]?).getD default))
  rw [List.getElem?_map, List.getElem?_eq_getElem hj] <;> rfl
def setL (xs : List α) (k : Int) (y : α) : List α := xs.set ((ixN xs.length k).getD 0) y
theorem ixN_map {xs : List α} {k : Int} (h : -(xs.length : Int) ≤ k ∧ k < xs.length) : ixN (xs.map f).length k = some ((ixN xs.length k).getD 0) := by
  obtain ⟨j, e, hj⟩ := ixN_some h
  rw [List.length_map, e] <;> rfl
theorem set_map {xs : List α} {k : Int} {y : α} (h : H p = some (.lst ((xs.map f).set ((ixN xs.length k).getD 0) (f y)))) : H p = some (.lst ((setL xs k y).map f)) := by
  rw [h]
  unfold setL
  rw [List.map_set]
def lastD [Inhabited α] (xs : List α) : α := xs.getLastD default
theorem pop_map [Inhabited α] {xs : List α} (h : xs ≠ []) : (xs.map f)[(xs.map f).length - 1]? = some (f (lastD xs)) := by
  rw [← List.getLast?_eq_getElem?, List.getLast?_map]
  unfold lastD
  cases e : xs.getLast? with
  | none => exact absurd (List.getLast?_eq_none_iff.mp e) h
  | some y =>
    rw [List.getLastD_eq_getLast?, e] <;> rfl
end
/-! ### lists of data -/
section
variable {α β : Type} {f : α → PyData} {g : β → PyData} {G : Hp} {vs ws : List V} {xs ys : List α}
theorem app_map (a : RpAll G vs (xs.map f)) (b : RpAll G ws (ys.map f)) : RpAll G (vs ++ ws) ((xs ++ ys).map f) := by
  rw [List.map_append]; exact a.append b
theorem one_map {v : V} {y : α} (a : RpAll G vs (xs.map f)) (b : Rp G v (f y)) : RpAll G (vs ++ [v]) ((xs ++ [y]).map f) := by
  rw [List.map_append]; exact a.append (.one b)
theorem rep_all (k : Int) (a : RpAll G vs (xs.map f)) : RpAll G (List.replicate k.toNat vs).flatten ((repL xs k).map f) := by
  unfold repL
  rw [List.map_flatten, List.map_replicate]
  exact a.rep _
theorem cut_all (lo hi : Option Int) (a : RpAll G vs (xs.map f)) : RpAll G (cutV vs lo hi) ((cutL xs lo hi).map f) := by
  unfold cutV cutL
  rw [a.len, List.length_map, List.map_take, List.map_drop]
  exact (a.drop _).take _
theorem rp_cast {v : V} {d e : PyData} (r : Rp G v d) (h : d = e) : Rp G v e := h ▸ r
theorem comp_listD {i : Nat} {x : α} {y : β} {v : V} {h : α → β} (hi : xs[i]? = some x) (a : RpAll G vs (((xs.take i).map h).map g)) (r : Rp G v (g y)) (e : h x = y) : RpAll G (vs ++ [v]) (((xs.take (i + 1)).map h).map g) := by
  rw [take_succ_get hi, List.map_append, List.map_append]
  exact a.append (.one (e ▸ r))
theorem comp_rangeD {i : Nat} {y : β} {v : V} {h : Nat → β} (a : RpAll G vs (((List.range i).map h).map g)) (r : Rp G v (g y)) (e : h i = y) : RpAll G (vs ++ [v]) (((List.range (i + 1)).map h).map g) := by
  rw [List.range_succ, List.map_append, List.map_append]
  exact a.append (.one (e ▸ r))
theorem comp_doneD {n : Nat} {h : List α → List β} (hl : n = xs.length) (a : RpAll G vs ((h (xs.take n)).map g)) : RpAll G vs ((h xs).map g) := by
  rw [hl, List.take_length] at a
  exact a
theorem comp_listFD {i : Nat} {x : α} {y : β} {v : V} {h : α → β} {q : α → Bool} (hi : xs[i]? = some x) (hq : q x = true) (a : RpAll G vs ((((xs.take i).filter q).map h).map g)) (r : Rp G v (g y)) (e : h x = y) : RpAll G (vs ++ [v]) ((((xs.take (i + 1)).filter q).map h).map g) := by
  rw [take_succ_get hi, List.filter_append, List.filter_cons, if_pos hq, List.map_append, List.map_append]
  exact a.append (.one (e ▸ r))
theorem skip_listD {i : Nat} {x : α} {h : α → β} {q : α → Bool} (hi : xs[i]? = some x) (hq : q x = false) (a : RpAll G vs ((((xs.take i).filter q).map h).map g)) : RpAll G vs ((((xs.take (i + 1)).filter q).map h).map g) := by
  rw [take_succ_get hi, List.filter_append, List.filter_cons, if_neg (by rw [hq]; decide), List.filter_nil, List.append_nil]
  exact a
end
section
variable {α β : Type} {f : β → V} {H : Hp} {D : Addr} {xs : List α}
theorem compM_list {i : Nat} {x : α} {y : β} {h : α → β} (hi : xs[i]? = some x) (a : H D = some (.lst (((xs.take i).map h).map f ++ [f y]))) (e : h x = y) : H D = some (.lst (((xs.take (i + 1)).map h).map f)) := by
  rw [a, ← e, take_succ_get hi, List.map_append, List.map_append] <;> rfl
theorem compM_range {i : Nat} {y : β} {h : Nat → β} (a : H D = some (.lst (((List.range i).map h).map f ++ [f y]))) (e : h i = y) : H D = some (.lst (((List.range (i + 1)).map h).map f)) := by
  rw [a, ← e, List.range_succ, List.map_append, List.map_append] <;> rfl
theorem compM_done {n : Nat} {h : List α → List β} (hl : n = xs.length) (a : H D = some (.lst ((h (xs.take n)).map f))) : H D = some (.lst ((h xs).map f)) := by
  rw [hl, List.take_length] at a
  exact a
theorem compM_listF {i : Nat} {x : α} {y : β} {h : α → β} {q : α → Bool} (hi : xs[i]? = some x) (hq : q x = true) (a : H D = some (.lst ((((xs.take i).filter q).map h).map f ++ [f y]))) (e : h x = y) : H D = some (.lst ((((xs.take (i + 1)).filter q).map h).map f)) := by
  rw [a, ← e, take_succ_get hi, List.filter_append, List.filter_cons, if_pos hq, List.map_append, List.map_append] <;> rfl
theorem skipM_list {i : Nat} {x : α} {h : α → β} {q : α → Bool} (hi : xs[i]? = some x) (hq : q x = false) (a : H D = some (.lst ((((xs.take i).filter q).map h).map f))) : H D = some (.lst ((((xs.take (i + 1)).filter q).map h).map f)) := by
  rw [a, take_succ_get hi, List.filter_append, List.filter_cons, if_neg (by rw [hq]; decide), List.filter_nil, List.append_nil]
theorem compM_rangeF {i : Nat} {y : β} {h : Nat → β} {q : Nat → Bool} (hq : q i = true) (a : H D = some (.lst ((((List.range i).filter q).map h).map f ++ [f y]))) (e : h i = y) : H D = some (.lst ((((List.range (i + 1)).filter q).map h).map f)) := by
  rw [a, ← e, List.range_succ, List.filter_append, List.filter_cons, if_pos hq, List.map_append, List.map_append] <;> rfl
theorem skipM_range {i : Nat} {h : Nat → β} {q : Nat → Bool} (hq : q i = false) (a : H D = some (.lst ((((List.range i).filter q).map h).map f))) : H D = some (.lst ((((List.range (i + 1)).filter q).map h).map f)) := by
  rw [a, List.range_succ, List.filter_append, List.filter_cons, if_neg (by rw [hq]; decide), List.filter_nil, List.append_nil]
end
/-! ### more rules -/
section
variable {X : Cx} {K : PySem.W.Frag}
theorem ix_tupK (hK : X.K = K := by rfl) : IxR X (rIxT K) := hK ▸ ix_tup
def rLenLK (K : PySem.W.Frag) : List V → Hp → VK → Prop := fun xs H Q => ∃ (p : Addr) (vs : List V) (n : Nat), xs = [.ref p] ∧ SqL K H p vs ∧ vs.length = n ∧ Q (.int (n : Int)) H
theorem call_lenLK (hK : X.K = K := by rfl) : CallR X (.builtin "len") (rLenLK K) := by
  subst hK
  intro pins s σ H xs us Q I r h
  obtain ⟨p, vs, n, rfl, hs, hn, q⟩ := h
  exact call_len_seq pins s σ H _ us Q I r ⟨p, _, rfl, Or.inl hs, by rw [hn]; exact q⟩
def rListLK (K : PySem.W.Frag) : List V → Hp → VK → Prop := fun xs H Q => ∃ (p : Addr) (vs : List V), xs = [.ref p] ∧ SqL K H p vs ∧ ∀ l, H l = none → Q (.ref l) (upd H l (.lst vs))
theorem call_listLK (hK : X.K = K := by rfl) : CallR X (.type "list") (rListLK K) := by
  subst hK
  intro pins s σ H xs us Q I r h
  obtain ⟨p, vs, rfl, hs, q⟩ := h
  exact call_list_of pins s σ H _ us Q I r ⟨p, _, rfl, Or.inl hs, q⟩
theorem cr_anyK (hc : X.calm = true) (hK : X.K = K := by rfl) : CallR X (.builtin "any") (rAny K) := hK ▸ cr_any hc
theorem cr_allK (hc : X.calm = true) (hK : X.K = K := by rfl) : CallR X (.builtin "all") (rAll K) := hK ▸ cr_all hc
theorem pi_tupK {tg l : Expr} {tl : TE} (hl : PE X l tl) (hK : X.K = K := by rfl) : PI X tg l (iTup K tl) := hK ▸ pi_tup hl
theorem pip {op : Operator} {r : R2} (h : OpR X (inplaceOp op) r) : PIp X op r := fun pins s σ H x y v u Q I rx ry q => h pins s σ H x y v u Q I rx ry q
/-- an item at a place from 0 on, by itself (ahead of o[i] op= e) -/
def rIxP (K : PySem.W.Frag) : R2 := fun x y H Q => ∃ (p : Addr) (xs : List V) (k : Int) (v : V), x = .ref p ∧ y = .int k ∧ SqL K H p xs ∧ 0 ≤ k ∧ k < 2 ^ 62 ∧ atI xs k = some v ∧ Q v H
theorem pget_list (hK : X.K = K := by rfl) : PGet X (rIxP K) := by
  subst hK
  intro pins s σ H o i ov iv Q I ro ri h
  obtain ⟨p, xs, k, v, rfl, rfl, hq, h0, h62, ha, q⟩ := h
  cases ro
  obtain ⟨t, rfl⟩ := ri
  obtain ⟨its, r, pl, hz⟩ := I.list hq
  obtain ⟨j, h1, h2, h3, h4, h5⟩ := atI_get ha
  obtain ⟨w, ew, rw'⟩ := r.get h2
  have hj : k.toNat = j := by
    rw [seqIndex_of h0 h5] at h1
    exact Option.some.inj h1
  exact getItem_listL pl.isList h0 (by omega) (by rw [hj]; simpa using ew) ⟨v, H, I, rw', q⟩
theorem tru_map {α : Type} [DecidableEq α] {f : α → V} {xs : List α} : (!decide (xs = [])) = !(xs.map f).isEmpty := by
  cases xs <;> simp
end
end Vx

namespace Vx
open PySem PySem.Spec PyProof.Rows L2
/-! ### objects -/
section
variable {M : List Addr} {H0 G0 G H H' : Hp} {O : List Addr} {p m : Addr} {o : HO}
theorem gen_obj {x dx : Addr} {o1 o2 : HO} (nx : H x = none) (nd : H dx = none) (ne : dx ≠ x) (h : upd (upd H dx o1) x o2 = H') : Same H H' ∧ H' x = some o2 := by
  subst h
  exact ⟨fun b u e => by rw [upd_ne (ne_of_none e nx), upd_ne (ne_of_none e nd)]; exact e, upd_same⟩
theorem sameX_of {m : Addr} (x : SameXs [m] H H') : SameX m H H' := fun b o e n => x b o e (by simpa using n)
theorem g_ne {a b : Addr} (h : G a = some o) (S : Sep M H0 G0 G H O) (hb : b ∈ O) : a ≠ b := fun z => by
  have := (S.ow b hb).1
  rw [← z, h] at this
  cases this
/-- an object whose making has laid some lists -/
theorem Sep.mutnew (S : Sep M H0 G0 G H O) {L : List Addr} (x : SameXs L H H') (hL : ∀ a ∈ L, a ∈ O) (hs : ∀ a ∈ L, H' a ≠ none) (hn : H p = none) (hp : H' p ≠ none) (h0 : H0 p = none) : Sep M H0 G0 G H' (p :: O) := by
  have S1 := S.mut x hL hs
  refine ⟨S1.base, S1.pm, S1.sG, S1.g0, S1.gn, all_cons ⟨S.gfree hn, hp, .inr h0⟩ S1.ow⟩
theorem Sep.init (S : Sep M H0 G0 G H O) (x : SameX m H H') (hm : m ∈ O) (h : H' m = some o) (L : List Addr) (hL : ∀ a ∈ L, H a = none ∧ H' a ≠ none ∧ H0 a = none) : Sep M H0 G0 G H' (L ++ O) := by
  have S1 := S.mut1 x hm h
  refine ⟨S1.base, S1.pm, S1.sG, S1.g0, S1.gn, fun a ha => ?_⟩
  rcases List.mem_append.mp ha with z | z
  · obtain ⟨h1, h2, h3⟩ := hL a z
    exact ⟨S.gfree h1, h2, .inr h3⟩
  · exact S1.ow a z
end
section
variable {P : Program} {w : World} {K : PySem.W.Frag} {mg : Str → Option Value} {base : Heap}
structure MethIn (K : PySem.W.Frag) (C : Addr) (q m : Str) (st : Stmt) (ps : List Str) : Prop where
  ex : ∃ (f : Addr) (fd : FuncData), Fun K m q st f fd ∧ Meth K C m f ∧ Binds K fd ps []
structure PropIn (K : PySem.W.Frag) (C : Addr) (q m : Str) (st : Stmt) (ps : List Str) : Prop where
  ex : ∃ (r f : Addr) (fd : FuncData), Fun K m q st f fd ∧ PropOf K C m r f ∧ Binds K fd ps []
structure InitIn (K : PySem.W.Frag) (mg : Str → Option Value) (C : Addr) (cn q : Str) (st : Stmt) (ps : List Str) : Prop where
  ex : ∃ (f : Addr) (fd : FuncData), Fun K "__init__" q st f fd ∧ Mk K C f ∧ mg cn = some (.ref C) ∧ Binds K fd ps []
structure MetC (P : Program) (w : World) (K : PySem.W.Frag) (mg : Str → Option Value) (base : Heap) (k : Nat) (C : Addr) (m : Str) (sp : Sp) : Prop where
  ex : ∃ (f : Addr) (fd : FuncData) (ps : List Str), Cls K C ∧ Meth K C m f ∧ FnOk P w K mg base CX0 k f fd ps sp ∧ Binds K fd ps []
structure PropC (P : Program) (w : World) (K : PySem.W.Frag) (mg : Str → Option Value) (base : Heap) (k : Nat) (C : Addr) (m : Str) (sp : Sp) : Prop where
  ex : ∃ (q f : Addr) (fd : FuncData) (ps : List Str), Cls K C ∧ PropOf K C m q f ∧ FnOk P w K mg base CX0 k f fd ps sp ∧ Binds K fd ps []
structure MakC (P : Program) (w : World) (K : PySem.W.Frag) (mg : Str → Option Value) (base : Heap) (k : Nat) (cn : Str) (C : Addr) (sp : Sp) : Prop where
  ex : ∃ (f : Addr) (fd : FuncData) (ps : List Str), Mk K C f ∧ FnOk P w K mg base CX0 k f fd ps sp ∧ mg cn = some (.ref C) ∧ Binds K fd ps []
abbrev Body (P : Program) (w : World) (K : PySem.W.Frag) (mg : Str → Option Value) (base : Heap) (x : Str) (st : Stmt) (N : List Str) (k : Nat) (sp : Sp) : Prop :=
  ∀ (f : Addr) (cdv : Value) (A : Around) (outer : List Env) (s : Shared) (H : Hp) (vs : List V) (Q : VK) (E : XK), Room k (A.deeper (envOfC x (defScope st) s.heap.objs.size f cdv)) → sp vs H Q E →
    ∃ t, PSs (cxOf CX0 P w K mg base N x (defScope st) f cdv A outer s H E).nox (defBody st) t ∧ t { nx := fun _ H' => Q .non H', rt := Q } (start N vs) H
theorem MethIn.ok {C : Addr} {q m : Str} {st : Stmt} {N ps : List Str} {k : Nat} {sp : Sp} (D : MethIn K C q m st ps) (c : Cls K C) (S : FnScope N ps (defScope st)) (len : ∀ vs H Q E, sp vs H Q E → vs.length = ps.length)
    (hbody : Body P w K mg base q st N k sp) : MetC P w K mg base (k + 1) C m sp := by
  obtain ⟨f, fd, F, me, b⟩ := D.ex
  exact ⟨f, fd, ps, c, me, F.ok S len (fun cdv A outer s H vs Q E hr h => hbody f cdv A outer s H vs Q E hr h), b⟩
theorem PropIn.ok {C : Addr} {q m : Str} {st : Stmt} {N ps : List Str} {k : Nat} {sp : Sp} (D : PropIn K C q m st ps) (c : Cls K C) (S : FnScope N ps (defScope st)) (len : ∀ vs H Q E, sp vs H Q E → vs.length = ps.length)
    (hbody : Body P w K mg base q st N k sp) : PropC P w K mg base (k + 1) C m sp := by
  obtain ⟨r, f, fd, F, me, b⟩ := D.ex
  exact ⟨r, f, fd, ps, c, me, F.ok S len (fun cdv A outer s H vs Q E hr h => hbody f cdv A outer s H vs Q E hr h), b⟩
theorem InitIn.ok {C : Addr} {cn q : Str} {st : Stmt} {N ps : List Str} {k : Nat} {sp : Sp} (D : InitIn K mg C cn q st ps) (S : FnScope N ps (defScope st)) (len : ∀ vs H Q E, sp vs H Q E → vs.length = ps.length)
    (hbody : Body P w K mg base q st N k sp) : MakC P w K mg base (k + 1) cn C sp := by
  obtain ⟨f, fd, F, me, hm, b⟩ := D.ex
  exact ⟨f, fd, ps, me, F.ok S len (fun cdv A outer s H vs Q E hr h => hbody f cdv A outer s H vs Q E hr h), hm, b⟩
end
section
variable {X : Cx} {k j : Nat} {C : Addr} {x m : Str} {sp : Sp} {p pos apos : Pos} {e o : Expr} {es : List Expr} {ta : TE} {t : TA}
theorem vx_call0 (c : Cal X.prog X.w X.K X.mg X.base k x sp) (hr : Room j X.A) (hk : k ≤ j) (hg : Gl X x) (hdb : (x == ("__debug__" : Str)) = false := by decide) : PE X (.Call (.Name x p) [] [] pos) (tCall sp [] E0 tNil) := by
  obtain ⟨f, fd, ps, F, hm, kp, b⟩ := c.ex
  exact pe_call0 F (hr.mono hk) hg hm kp b .nil pass0 hdb
theorem vx_make (c : MakC X.prog X.w X.K X.mg X.base k x C sp) (hr : Room j X.A) (hk : k + 1 ≤ j) (hg : Gl X x) (ha : PA X (e :: es) t)
    (hdb : (x == ("__debug__" : Str)) = false := by decide) (he : starEach (e :: es) X.env = (false, eval e X.env) :: starEach es X.env := by rfl) (hpl : (backTo pos (starEach es X.env)).any (·.1) = false := by rfl) :
    PE X (.Call (.Name x p) (e :: es) [] pos) (tMake C sp [] E0 t) := by
  obtain ⟨f, fd, ps, M, F, hm, b⟩ := c.ex
  exact pe_make M F (hr.mono hk) hg hm b .nil pass0 ha hdb he hpl
theorem vx_make0 (c : MakC X.prog X.w X.K X.mg X.base k x C sp) (hr : Room j X.A) (hk : k + 1 ≤ j) (hg : Gl X x) (hdb : (x == ("__debug__" : Str)) = false := by decide) :
    PE X (.Call (.Name x p) [] [] pos) (tMake C sp [] E0 tNil) := by
  obtain ⟨f, fd, ps, M, F, hm, b⟩ := c.ex
  exact pe_make0 M F (hr.mono hk) hg hm b .nil pass0 hdb
theorem vx_meth {pl : Sem Bool} (c : MetC X.prog X.w X.K X.mg X.base k C m sp) (hr : Room j X.A) (hk : k ≤ j) (he : PE X o ta) (ha : PA X (e :: es) t)
    (hst : starEach (e :: es) X.env = (false, eval e X.env) :: starEach es X.env := by rfl) (hpl : (backTo pos (starEach es X.env)).any (·.1) = false := by rfl)
    (ht : eval (.Call (.Attribute o m apos) (e :: es) [] pos) X.env = (do
      let ov ← eval o X.env
      standAt apos.atName
      let (f, first) ← holding [ov] (getMethod ov m pl)
      callWith pos f first (backTo pos (starEach (e :: es) X.env)) (backToKw pos (keywordEach [] X.env))) := by rfl) :
    PE X (.Call (.Attribute o m apos) (e :: es) [] pos) (tMeth C m sp [] E0 ta t) := by
  obtain ⟨f, fd, ps, hc, hm, F, b⟩ := c.ex
  exact pe_meth he hc hm F (hr.mono hk) b .nil pass0 ha hst hpl ht
theorem vx_meth0 {pl : Sem Bool} (c : MetC X.prog X.w X.K X.mg X.base k C m sp) (hr : Room j X.A) (hk : k ≤ j) (he : PE X o ta)
    (ht : eval (.Call (.Attribute o m apos) [] [] pos) X.env = (do
      let ov ← eval o X.env
      standAt apos.atName
      let (f, first) ← holding [ov] (getMethod ov m pl)
      callWith pos f first (backTo pos (starEach [] X.env)) (backToKw pos (keywordEach [] X.env))) := by rfl) :
    PE X (.Call (.Attribute o m apos) [] [] pos) (tMeth C m sp [] E0 ta tNil) := by
  obtain ⟨f, fd, ps, hc, hm, F, b⟩ := c.ex
  exact pe_meth0 he hc hm F (hr.mono hk) b .nil pass0 ht
theorem vx_prop (c : PropC X.prog X.w X.K X.mg X.base k C m sp) (hr : Room j X.A) (hk : k + 1 ≤ j) (he : PE X o ta) (hab : attributeBase o m X.env (eval o X.env) = eval o X.env) : PE X (.Attribute o m pos) (tProp C sp [] E0 ta) := by
  obtain ⟨q, f, fd, ps, hc, hp, F, b⟩ := c.ex
  exact pe_prop he hc hp F (hr.mono hk) b .nil pass0 hab
end
theorem iteBNT {b : Bool} {A B : Prop} (h : b = false) (k : A) : if (!b) = true then A else B := by rw [h]; exact iteT k
theorem iteNN {b : Bool} {A B : Prop} (h : if b = true then A else B) : if (!!b) = true then A else B := by rw [Bool.not_not]; exact h
theorem iteBNF {b : Bool} {A B : Prop} (h : b = true) (k : B) : if (!b) = true then A else B := by rw [h]; exact iteF k
theorem shl_side {i j : Int} (h0 : 0 ≤ j) (h1 : j ≤ 4096) (h2 : -(2 ^ 4096) < i) (h3 : i < 2 ^ 4096) : CShl i j := by
  obtain ⟨k, rfl⟩ := Int.eq_ofNat_of_zero_le h0
  exact shl_ok (n := 4096) (by omega) (by omega)
end Vx

namespace Vx
open PySem PySem.Spec PyProof.Rows L2
section
variable {X : Cx} {K : PySem.W.Frag}
theorem fldK {e : Expr} {f : Str} {pos : Pos} {ta : TE} (he : PE X e ta) (hb : attributeBase e f X.env (eval e X.env) = eval e X.env := by rfl) (hK : X.K = K := by rfl) : PE X (.Attribute e f pos) (tFld K ta f) := hK ▸ pe_fld he hb
theorem pg_tupK {es : List Expr} {k : Nat} {t : TGs} {n : Nat} {pos : Pos} (h : PGs X es t) (hc : X.calm = true := by rfl)
    (hn : (assignEach es X.env).length = n := by rfl) (hst : (assignEach es X.env).findIdx? (·.1) = none := by rfl) (hK : X.K = K := by rfl) : PG X (.Tuple es k pos) (gTup K n t) := hK ▸ pg_tup hc h hn hst
end
end Vx

namespace Vx
open PySem PySem.Spec PyProof.Rows L2
section
variable {α β : Type} {f : α → PyData} {g : β → PyData} {fv : α → V} {gv : β → V} {G : Hp} {vs ws : List V} {xs : List α} {ys : List β}
theorem big1 {n : Nat} (h : n ≤ 1000000) : n ≤ sizeLine := smallE h
theorem cat_len (a : RpAll G vs (xs.map f)) (b : RpAll G ws (ys.map g)) (h : xs.length + ys.length ≤ 1000000) : vs.length + ws.length ≤ sizeLine := by
  rw [a.len, b.len, List.length_map, List.length_map]; exact smallE h
theorem cat_lenM (h : xs.length + ys.length ≤ 1000000) : (xs.map fv).length + (ys.map gv).length ≤ sizeLine := by
  rw [List.length_map, List.length_map]; exact smallE h
theorem rep_len {k : Nat} (a : RpAll G vs (xs.map f)) (h : xs.length * k ≤ 1000000) : vs.length * k ≤ sizeLine := by
  rw [a.len, List.length_map]; exact smallE h
theorem rep_lenM {k : Nat} (h : xs.length * k ≤ 1000000) : (xs.map fv).length * k ≤ sizeLine := by
  rw [List.length_map]; exact smallE h
theorem app_len (a : RpAll G vs (xs.map f)) (h : xs.length ≤ 1000000) : vs.length < sizeLine := by
  rw [a.len, List.length_map]; exact small h
theorem app_lenM (h : xs.length ≤ 1000000) : (xs.map fv).length < sizeLine := by
  rw [List.length_map]; exact small h
theorem cutL_len {α : Type} (xs : List α) (lo hi : Option Int) : (cutL xs lo hi).length ≤ xs.length := by
  unfold cutL
  rw [List.length_take, List.length_drop]
  omega
theorem repL_len {α : Type} (xs : List α) (k : Int) : (repL xs k).length = k.toNat * xs.length := by
  unfold repL
  simp
end
end Vx
/-! # promises of defs that know that nothing is being shown (so that repr may be called) -/
namespace Vx
open PySem PySem.Spec PyProof.Rows L2
structure RoomG (k : Nat) (A : Around) : Prop extends Room k A where
  gd : A.guards = some []
theorem RoomG.low {j k : Nat} {A : Around} (r : RoomG k A) (h : j ≤ k) : RoomG j A := ⟨r.toRoom.mono h, r.gd⟩
theorem RoomG.one {k : Nat} {A : Around} (r : RoomG (k + 1) A) : RoomG k A.in1 := ⟨r.toRoom.in1, r.gd⟩
theorem make_gd {A : Around} (C : Addr) (us : List Value) (kw : List (Str × Value)) (h : A.guards = some []) : (A.under (.builtin "type.__call__" ⟨.ref C :: us, kw⟩)).guards = some [] := by
  obtain ⟨hd, d, fr, gs, u⟩ := A
  subst h
  simp [Around.under, Code.guards, Code.isGuard, guardIds, pushGuards]
theorem RoomG.made {k : Nat} {A : Around} (r : RoomG (k + 1) A) (C : Addr) (us : List Value) (kw : List (Str × Value)) : RoomG k (A.under (.builtin "type.__call__" ⟨.ref C :: us, kw⟩)) := ⟨r.toRoom.make C us kw, make_gd C us kw r.gd⟩
structure FnG (P : Program) (w : World) (K : PySem.W.Frag) (mg : Str → Option Value) (base : Heap) (cx : CXT) (k : Nat) (f : Addr) (fd : FuncData) (ps : List Str) (sp : Sp) : Prop where
  len : ∀ vs H Q E, sp vs H Q E → vs.length = ps.length
  run : ∀ (A : Around) (outer : List Env) (s : Shared) (H : Hp) (args : Args) (us : List Value) (vs : List V) (Q : VK) (E : XK), RoomG k A → Env0 P w K mg base A outer s H → BindsTo s fd args (ps.zip us) → Vals vs us → sp vs H Q E → codeAny (model P w) A (.call (.ref f) args) (CR cx outer P w H s Q E) s
section
variable {P : Program} {w : World} {K : PySem.W.Frag} {mg : Str → Option Value} {base : Heap} {cx : CXT} {j k : Nat} {f : Addr} {fd : FuncData} {ps : List Str} {sp sp' : Sp}
theorem FnG.imp (F : FnG P w K mg base cx k f fd ps sp) (h : ∀ vs H Q E, sp' vs H Q E → sp vs H Q E) : FnG P w K mg base cx k f fd ps sp' := ⟨fun vs H Q E q => F.len vs H Q E (h vs H Q E q), fun A o s H a us vs Q E r e b v q => F.run A o s H a us vs Q E r e b v (h vs H Q E q)⟩
/-- the body's promise is the def's -/
theorem FnG.body {x qual : Str} {params : Arguments} {body : List Stmt} {scope : Scope} {dvs : List V} {kws : List (Str × V)} {N : List Str} (F : FunD K x qual params body scope dvs kws f fd) (S : FnScope N ps scope) (len : ∀ vs H Q E, sp vs H Q E → vs.length = ps.length)
    (hb : ∀ (cdv : Value) (A : Around) (outer : List Env) (s : Shared) (H : Hp) (vs : List V) (Q : VK) (E : XK), RoomG k (A.deeper (envOfC qual scope s.heap.objs.size f cdv)) → sp vs H Q E →
      ∃ t, PSs (cxOf cx P w K mg base N qual scope f cdv A outer s H E) body t ∧ t { nx := fun _ H' => Q .non H', rt := Q } (start N vs) H) : FnG P w K mg base cx (k + 1) f fd ps sp := by
  obtain ⟨oc, od, dV, kV, doc, pm, an, cdv, ct, osl, rfl, lk, code, _, _⟩ := F.ex
  constructor
  · exact len
  · intro A outer s H args us vs Q E room env binds vals prom
    have nvs := len vs H Q E prom
    have kin : K.In s.heap := env.mod.kin.keeps fun b o q => (env.bs b o q).1
    have nolim : s.heap.NoLimit := env.mod.nolimit.keeps fun b o q => (env.bs b o q).1
    have kinds : ∀ q ∈ ps.zip us, scope.names.lookup q.1 = some .local ∨ (scope.names.lookup q.1 = some .cell ∧ ((cellsFrom (s.heap.objs.size + 1) scope.names []).lookup q.1).isSome = true) := by
      rintro ⟨n, v⟩ hq
      cases S.par n (List.of_mem_zip hq).1 with
      | inl z => exact .inl z
      | inr z => exact .inr ⟨z, PySem.W.cellsFrom_some _ _ _ (.inl z)⟩
    refine codeAny_call_function room.toRoom.depth (kin _ _ lk) rfl S.co S.gen rfl (PySem.W.codeRec_of kin code) (binds _ _ _ _ ?_)
    refine wpAny_newFunctionEnv_cells S.kind kinds ?_
    rintro _ rfl s1 made
    refine ⟨nolim.keeps made.toInCall.keep, codeAny_func ?_⟩
    obtain ⟨t, pss, start_⟩ := hb cdv A outer s H vs Q E ⟨room.toRoom.deeper _, room.gd⟩ prom
    have inv := inv_start (CX := cx) (E := E) S room.hd env nvs vals made
    have close : ∀ {τ : L2.St} {H2 : Hp} {v : V} {u : Value} {s2 : Shared}, Inv (cxOf cx P w K mg base N qual scope f cdv A outer s H E) [] τ H2 s2 → RelV v u → Q v H2 → CE outer P w H s Q u s2 := fun inv2 rel q => ⟨_, _, inv2.os, inv2.bare, inv2.base, inv2.hok, rel, q⟩
    refine wpAny_mono (pss.run [] s1 (start N vs) H _ inv start_) ?_ fun _ _ z => z
    intro flow s2 out
    cases flow with
    | next =>
      obtain ⟨τ, H2, inv2, q⟩ := out
      exact close (v := .non) (u := .none) inv2 rfl q
    | ret u =>
      obtain ⟨v, τ, H2, inv2, rel, q⟩ := out
      exact close inv2 rel q
    | brk =>
      obtain ⟨_, _, _, q⟩ := out
      exact q.elim
    | cont =>
      obtain ⟨_, _, _, q⟩ := out
      exact q.elim
/-- the same of a body that nothing leaves -/
theorem FnG.bodyN {x qual : Str} {params : Arguments} {body : List Stmt} {scope : Scope} {dvs : List V} {kws : List (Str × V)} {N : List Str} (F : FunD K x qual params body scope dvs kws f fd) (S : FnScope N ps scope) (len : ∀ vs H Q E, sp vs H Q E → vs.length = ps.length)
    (hb : ∀ (cdv : Value) (A : Around) (outer : List Env) (s : Shared) (H : Hp) (vs : List V) (Q : VK) (E : XK), RoomG k (A.deeper (envOfC qual scope s.heap.objs.size f cdv)) → sp vs H Q E →
      ∃ t, PSs (cxOf CX0 P w K mg base N qual scope f cdv A outer s H E).nox body t ∧ t { nx := fun _ H' => Q .non H', rt := Q } (start N vs) H) : FnG P w K mg base CX0 (k + 1) f fd ps sp :=
  FnG.body F S len fun cdv A outer s H vs Q E r p => by
    obtain ⟨t, h, q⟩ := hb cdv A outer s H vs Q E r p
    exact ⟨t, h.nox, q⟩
end
/-- where a law's call begins: an abstract heap that tells the script at most -/
theorem law_start {P : Program} {w : World} {K : PySem.W.Frag} {mg mb : Str → Option Value} {a : Addr} {s : Shared} {vs : List Value} {ns : List Int} (kin : K.In s.heap) (top : s.heap.Ns mainGlobals mg) (blt : s.heap.Ns builtinsNs mb) (boot : ∀ y : Str, y ≠ "__name__" → mb y = bootBuiltins y)
    (lim : s.heap.NoLimit) (gens : s.gens = #[]) (script : s.heap.get? a = some { cls := .type "list", data := .seq vs.toArray }) (whole : IntsAre vs ns) (short : ns.length ≤ sizeLine) :
    ∃ (H : Hp) (base : Heap), SqL K H a (ns.map V.int) ∧ K.In base ∧ base.Ns mainGlobals mg ∧ Env0 P w K mg base callerA [] s H ∧
      ∀ (Z : V → Prop) (u : Value) (s2 : Shared), CE [] P w H s (fun v _ => Z v) u s2 → (∃ v, RelV v u ∧ Z v) ∧ OldK s.heap s2.heap ∧ s2.os = s.os ∧ AllBare s2.gens := by
  have rel := vals_ints whole
  have lenV := whole.length
  -- any H that tells no more than the script, and that only where the written part does not hold it, will do
  have fits : ∀ H : Hp, (∀ b, H b = none ∨ ∃ o xs, H b = some (.frz o (.lst xs))) → SqL K H a (ns.map V.int) → HOk P w H s.heap → (∀ b, b ≠ a → H b = none) → (∀ o, K.lookup a = some o → H a = none) →
      ∃ (H : Hp) (base : Heap), SqL K H a (ns.map V.int) ∧ K.In base ∧ base.Ns mainGlobals mg ∧ Env0 P w K mg base callerA [] s H ∧
        ∀ (Z : V → Prop) (u : Value) (s2 : Shared), CE [] P w H s (fun v _ => Z v) u s2 → (∃ v, RelV v u ∧ Z v) ∧ OldK s.heap s2.heap ∧ s2.os = s.os ∧ AllBare s2.gens := by
    intro H only seq ok else_ apart
    have dictFree : ∀ (b : Addr) (o : Obj) (es : Array DictEntry) (n : Nat), s.heap.get? b = some o → o.data = .dict es n → H b = none := by
      intro b o es n e d
      by_cases z : b = a
      · subst z
        rw [script] at e
        injection e with e
        subst e
        cases d
      · exact else_ b z
    have nsOf : ∀ {b : Addr} {m : Str → Option Value}, s.heap.Ns b m → (hidT s.heap H).Ns b m := by
      rintro b m ⟨o, es, n, e, d, r⟩
      exact ⟨o, es, n, hidT_get e (dictFree b o es n e d), d, r⟩
    have kinB : K.In (hidT s.heap H) := by
      intro b o e
      refine hidT_get (kin b o e) ?_
      by_cases z : b = a
      · subst z
        exact apart o e
      · exact else_ b z
    obtain ⟨mc, lim1, lim2⟩ := lim
    refine ⟨H, hidT s.heap H, seq, kinB, nsOf top, ⟨rfl, ⟨kinB, nsOf top, ⟨mb, nsOf blt, boot⟩, mc, nsOf lim1, lim2⟩, fun b o e => of_hidT e, Nat.le_of_eq (hidT_size _ _), trivial, fun b hb => (nomatch (show b ∈ ([] : List Addr) from hb)), ok, .of_eq gens⟩, ?_⟩
    rintro Z u s2 ⟨v, H2, os, bare, un, ok2, r, z⟩
    refine ⟨⟨v, r, z⟩, OldK.of_keep fun b o e => ?_, os, bare⟩
    rcases only b with n | ⟨o1, xs, n⟩
    · exact un.keep b o e n (fun y => nomatch (show b ∈ ([] : List Addr) from y)) (fun y => nomatch y)
    · obtain ⟨e1, _⟩ := ok b _ n
      obtain ⟨e2, _⟩ := ok2 b _ (un.frzs b o1 _ n)
      rw [e] at e1
      injection e1 with e1
      subst e1
      exact e2
  cases kl : K.lookup a with
  | some o =>
    have e := kin a o kl
    rw [script] at e
    injection e with e
    subst e
    exact fits (fun _ => none) (fun _ => .inl rfl) (.inr ⟨_, vs.toArray, _, kl, rfl, rfl, rfl, by rw [List.size_toArray, lenV]; exact short, by simpa using rel⟩) (fun _ _ z => nomatch z) (fun _ _ => rfl) fun _ _ => rfl
  | none =>
    refine fits (fun b => if b = a then some (.frz { cls := .type "list", data := .seq vs.toArray } (.lst (ns.map V.int))) else none) ?_ (.inl (.inr ⟨_, if_pos rfl⟩)) ?_ (fun b n => if_neg n) fun o z => ?_
    · intro b
      by_cases z : b = a
      · exact .inr ⟨_, _, if_pos z⟩
      · exact .inl (if_neg z)
    · intro b u q
      by_cases z : b = a
      · subst z
        have q := (if_pos rfl).symm.trans q
        injection q with q
        subst q
        exact ⟨script, by rw [List.length_map]; exact short, vs, _, rel, script⟩
      · have q := (if_neg z).symm.trans q
        cases q
    · rw [kl] at z
      cases z
/-- the goal that the head leaves, from the law's promise; the script's numbers have at most 2 ^ 20 bits -/
theorem walkG {l : PySem.W.OpenLaw} {n k : Nat} {q : Program} {loose : List Str} {XP : (Str → Option Value) → Heap → Prop} {YP : World → Heap → Prop} {d : DefRec} {K : Params → PySem.W.Frag} {x : Str} (hn : l.most = some n) (hn2 : n ≤ sizeLine) (hdf : d.params.defaults = []) (room : Room k callerA)
    (hY : ∀ (w : World) (h : Heap), YP w h → (K w.params).In h)
    (F : ∀ (w : World) (mg : Str → Option Value) (fa : Addr) (h : Heap), (K w.params).In h → h.Ns mainGlobals mg → mg d.name = some (.ref fa) →
      ∃ fd : FuncData, (∀ (s : Shared) (u : Value), BindsTo s fd ⟨[u], []⟩ [(x, u)]) ∧ ∀ base : Heap, (K w.params).In base → base.Ns mainGlobals mg → FnG l.prog w (K w.params) mg base CX0 k fa fd [x] (fun vs H Q _ => ∃ (a : Addr) (ns : List Int), vs = [.ref a] ∧ SqL (K w.params) H a (ns.map V.int) ∧ ns.length ≤ n ∧ ∀ H', Q (.bl true) H')) :
    PySem.W.WalkO q loose XP YP l.row.toRowW d [] (fun f vs => PySem.call f vs) := by
  refine Att.attach_call hn hdf ?_
  intro w s₀ s₁ mg mb fa o pm cd doc a vs ns G Y _ _ _ hmg script whole short gens
  have kin := hY w _ Y
  obtain ⟨fd, bind, prom⟩ := F w mg fa _ kin G.T.g hmg
  obtain ⟨H, base, seq, kinB, nsB, env, fin⟩ := law_start (P := l.prog) (w := w) kin G.T.g G.T.b G.T.builtins G.T.nolimit gens script whole (Nat.le_trans short hn2)
  refine codeAny_mono ((prom base kinB nsB).run callerA [] s₁ H ⟨[.ref a], []⟩ [.ref a] [.ref a] (fun v _ => v = .bl true) (fun _ _ _ => False) ⟨room, rfl⟩ env (bind s₁ (.ref a)) (.cons rfl .nil) ⟨a, ns, rfl, seq, short, fun _ => rfl⟩) ?_
  intro r s2 out
  cases r with
  | error e => exact out.elim
  | ok flow =>
    cases flow with
    | ret u =>
      obtain ⟨⟨v, rv, z⟩, h1, h2, h3⟩ := fin (fun v => v = .bl true) u s2 out
      subst z
      obtain rfl : u = Value.bool true := rv
      exact ⟨rfl, h1, h2, h3⟩
    | next => exact out.elim
    | brk => exact out.elim
    | cont => exact out.elim
end Vx
/-! # third part: what a def computes, as a plain function with refusals -/
namespace Vx
open PySem PySem.Spec PyProof.Rows L2
inductive Rx (α : Type) where
  | ok (a : α)
  | er (e : Nat)
  | bad
def Rx.bind {α β : Type} (m : Rx α) (f : α → Rx β) : Rx β :=
  match m with
  | .ok a => f a
  | .er e => .er e
  | .bad => .bad
/-- what is wanted of an outcome -/
@[irreducible] def cW {α : Type} (m : Rx α) (K : α → Prop) (E : Nat → Prop) : Prop :=
  match m with
  | .ok a => K a
  | .er e => E e
  | .bad => False
def grd {α : Type} (p : Prop) [Decidable p] (m : Rx α) : Rx α := if p then m else .bad
/-- within a comprehension nothing may be raised -/
def noEr {α : Type} (m : Rx α) : Rx α :=
  match m with
  | .ok a => .ok a
  | _ => .bad
/-- what the clause does not name may not come -/
def tryR {α β : Type} (m : Rx α) (cs : List Nat) (f : α → Rx β) (h : Nat → Rx β) : Rx β :=
  match m with
  | .ok a => f a
  | .er e => if e ∈ cs then h e else .bad
  | .bad => .bad
def bnd {α β : Type} (a : α) (f : α → Rx β) : Rx β := f a
inductive Lp (σ ρ : Type) where
  | go (s : σ)
  | bk (s : σ)
  | rt (r : ρ)
def Lp.aft {σ ρ τ : Type} (l : Lp σ ρ) (kr : ρ → Rx τ) (k : σ → Rx τ) : Rx τ :=
  match l with
  | .go s => k s
  | .bk s => k s
  | .rt r => kr r
def forS {σ α : Type} : List α → σ → (σ → α → Rx σ) → Rx σ
  | [], s, _ => .ok s
  | x :: r, s, f => (f s x).bind fun s' => forS r s' f
def forR {σ α ρ : Type} : List α → σ → (σ → α → Rx (Lp σ ρ)) → Rx (Lp σ ρ)
  | [], s, _ => .ok (.go s)
  | x :: r, s, f => (f s x).bind fun l =>
    match l with
    | .go s' => forR r s' f
    | .bk s' => .ok (.go s')
    | .rt v => .ok (.rt v)
def whileR {σ ρ : Type} : Nat → σ → (σ → Rx (Lp σ ρ)) → Rx (Lp σ ρ)
  | 0, _, _ => .bad
  | n + 1, s, f => (f s).bind fun l =>
    match l with
    | .go s' => whileR n s' f
    | .bk s' => .ok (.go s')
    | .rt v => .ok (.rt v)
def mapA {α β : Type} : List α → List β → (α → Rx β) → Rx (List β)
  | [], acc, _ => .ok acc
  | x :: r, acc, f => grd (acc.length ≤ 1000000) ((f x).bind fun y => mapA r (acc ++ [y]) f)
def mapF {α β : Type} : List α → List β → (α → Rx (Option β)) → Rx (List β)
  | [], acc, _ => .ok acc
  | x :: r, acc, f => grd (acc.length ≤ 1000000) ((f x).bind fun y =>
    match y with
    | some z => mapF r (acc ++ [z]) f
    | none => mapF r acc f)
section
variable {α β γ σ ρ τ : Type} {K : α → Prop} {E : Nat → Prop}
theorem cW_ok {a : α} (h : cW (.ok a) K E) : K a := by
  unfold cW at h
  exact h
theorem cW_er {e : Nat} (h : cW (.er e : Rx α) K E) : E e := by
  unfold cW at h
  exact h
theorem cW_bad {C : Prop} (h : cW (.bad : Rx α) K E) : C := by
  unfold cW at h
  exact h.elim
theorem cW_mk {a : α} (h : K a) : cW (.ok a) K E := by
  unfold cW
  exact h
theorem cW_mkE {e : Nat} (h : E e) : cW (.er e : Rx α) K E := by
  unfold cW
  exact h
theorem cW_gen {m : Rx α} (h : cW m K E) : ∃ (K' : α → Prop) (E' : Nat → Prop), (∀ v, K' v → K v) ∧ (∀ e, E' e → E e) ∧ cW m K' E' := ⟨K, E, fun _ x => x, fun _ x => x, h⟩
theorem cW_grd {p : Prop} {dp : Decidable p} {m : Rx α} (h : cW (grd p m) K E) : p ∧ cW m K E := by
  unfold grd at h
  split at h
  · exact ⟨‹p›, h⟩
  · exact cW_bad h
theorem cW_pos {p : Prop} {dp : Decidable p} {a b : Rx α} (c : p) (h : cW (if p then a else b) K E) : cW a K E := by rwa [if_pos c] at h
theorem cW_neg {p : Prop} {dp : Decidable p} {a b : Rx α} (c : ¬ p) (h : cW (if p then a else b) K E) : cW b K E := by rwa [if_neg c] at h
theorem cW_call {m : Rx β} {f : β → Rx α} {K2 : β → Prop} {E2 : Nat → Prop} (h : cW (m.bind f) K E) (ho : ∀ v, cW (f v) K E → K2 v) (he : ∀ e, E e → E2 e) : cW m K2 E2 := by
  cases m with
  | ok a => exact cW_mk (ho a h)
  | er e => exact cW_mkE (he e (cW_er (α := α) h))
  | bad => exact cW_bad (α := α) h
theorem cW_push {m : Rx β} {f : β → Rx α} (h : cW (m.bind f) K E) : ∃ K2 : β → Prop, (∀ v, K2 v → cW (f v) K E) ∧ cW m K2 E := ⟨fun v => cW (f v) K E, fun _ x => x, cW_call h (fun _ x => x) fun _ x => x⟩
theorem cW_name {m : Rx α} (h : cW m K E) : ∃ K' : α → Prop, (∀ v, K' v → K v) ∧ cW m K' E := ⟨K, fun _ x => x, h⟩
theorem cW_noEr {m : Rx α} (h : cW (noEr m) K E) : cW m K (fun _ => False) := by
  cases m with
  | ok a => exact cW_mk (cW_ok (α := α) h)
  | er e => exact cW_bad (α := α) h
  | bad => exact cW_bad (α := α) h
theorem cW_try {m : Rx β} {cs : List Nat} {f : β → Rx α} {g : Nat → Rx α} {K2 : β → Prop} {E2 : Nat → Prop} (h : cW (tryR m cs f g) K E) (ho : ∀ v, cW (f v) K E → K2 v) (hc : ∀ e, e ∈ cs → cW (g e) K E → E2 e) : cW m K2 E2 := by
  cases m with
  | ok a => exact cW_mk (ho a h)
  | er e =>
    have h2 : cW (if e ∈ cs then g e else .bad) K E := h
    by_cases q : e ∈ cs
    · exact cW_mkE (hc e q (cW_pos q h2))
    · exact cW_bad (cW_neg q h2)
  | bad => exact cW_bad (α := α) h
theorem cW_bnd {a : β} {f : β → Rx α} (h : cW (bnd a f) K E) : cW (f a) K E := h
theorem cW_negB {b : Bool} {x y : Rx α} (c : b = false) (h : cW (if b = true then x else y) K E) : cW y K E := cW_neg (by rw [c]; decide) h
theorem cW_forS {xs : List β} {i : Nat} {x : β} {s : α} {f : α → β → Rx α} (hx : xs[i]? = some x) (h : cW (forS (xs.drop i) s f) K E) : cW (f s x) (fun s' => cW (forS (xs.drop (i + 1)) s' f) K E) E := by
  rw [List.drop_eq_getElem?_toList_append, hx] at h
  exact cW_call h (fun _ z => z) fun _ z => z
theorem cW_forS0 {xs : List β} {n : Nat} {s : α} {f : α → β → Rx α} (hn : n = xs.length) (h : cW (forS (xs.drop n) s f) K E) : K s := by
  subst hn
  rw [List.drop_length] at h
  exact cW_ok h
theorem cW_forR {K : Lp σ ρ → Prop} {xs : List β} {i : Nat} {x : β} {s : σ} {f : σ → β → Rx (Lp σ ρ)} (hx : xs[i]? = some x) (h : cW (forR (xs.drop i) s f) K E) :
    cW (f s x) (fun l => match l with | .go s' => cW (forR (xs.drop (i + 1)) s' f) K E | .bk s' => K (.go s') | .rt v => K (.rt v)) E := by
  rw [List.drop_eq_getElem?_toList_append, hx] at h
  refine cW_call h (fun l z => ?_) fun _ z => z
  cases l with
  | go s' => exact z
  | bk s' => exact cW_ok (K := K) (a := .go s') z
  | rt v => exact cW_ok (K := K) (a := .rt v) z
theorem cW_forR0 {K : Lp σ ρ → Prop} {xs : List β} {n : Nat} {s : σ} {f : σ → β → Rx (Lp σ ρ)} (hn : n = xs.length) (h : cW (forR (xs.drop n) s f) K E) : K (.go s) := by
  subst hn
  rw [List.drop_length] at h
  exact cW_ok h
theorem cW_whileR {K : Lp σ ρ → Prop} {m : Nat} {s : σ} {f : σ → Rx (Lp σ ρ)} (h : cW (whileR m s f) K E) :
    ∃ n, m = n + 1 ∧ cW (f s) (fun l => match l with | .go s' => cW (whileR n s' f) K E | .bk s' => K (.go s') | .rt v => K (.rt v)) E := by
  cases m with
  | zero => exact cW_bad h
  | succ n =>
    refine ⟨n, rfl, cW_call h (fun l z => ?_) fun _ z => z⟩
    cases l with
    | go s' => exact z
    | bk s' => exact cW_ok (K := K) (a := .go s') z
    | rt v => exact cW_ok (K := K) (a := .rt v) z
theorem cW_mapA {K : List α → Prop} {xs : List β} {acc : List α} {i : Nat} {x : β} {f : β → Rx α} (hx : xs[i]? = some x) (h : cW (mapA (xs.drop i) acc f) K E) :
    acc.length ≤ 1000000 ∧ cW (f x) (fun y => cW (mapA (xs.drop (i + 1)) (acc ++ [y]) f) K E) E := by
  rw [List.drop_eq_getElem?_toList_append, hx] at h
  obtain ⟨z, h⟩ := cW_grd h
  exact ⟨z, cW_call h (fun _ z => z) fun _ z => z⟩
theorem cW_mapA0 {K : List α → Prop} {xs : List β} {acc : List α} {n : Nat} {f : β → Rx α} (hn : n = xs.length) (h : cW (mapA (xs.drop n) acc f) K E) : K acc := by
  subst hn
  rw [List.drop_length] at h
  exact cW_ok h
theorem cW_mapF {K : List α → Prop} {xs : List β} {acc : List α} {i : Nat} {x : β} {f : β → Rx (Option α)} (hx : xs[i]? = some x) (h : cW (mapF (xs.drop i) acc f) K E) :
    acc.length ≤ 1000000 ∧ cW (f x) (fun y => match y with | some z => cW (mapF (xs.drop (i + 1)) (acc ++ [z]) f) K E | none => cW (mapF (xs.drop (i + 1)) acc f) K E) E := by
  rw [List.drop_eq_getElem?_toList_append, hx] at h
  obtain ⟨z, h⟩ := cW_grd h
  refine ⟨z, cW_call h (fun y z => ?_) fun _ z => z⟩
  cases y with
  | none => exact z
  | some w => exact z
theorem cW_mapF0 {K : List α → Prop} {xs : List β} {acc : List α} {n : Nat} {f : β → Rx (Option α)} (hn : n = xs.length) (h : cW (mapF (xs.drop n) acc f) K E) : K acc := by
  subst hn
  rw [List.drop_length] at h
  exact cW_ok h
end
/-- the numbers of a range -/
def rng (lo : Int) (n : Nat) : List Int := (List.range n).map fun (j : Nat) => lo + (j : Int)
theorem rng_get {lo : Int} {n i : Nat} (h : i < n) : (rng lo n)[i]? = some (lo + (i : Int)) := by
  unfold rng
  rw [List.getElem?_map, List.getElem?_range h] <;> rfl
theorem rng_len (lo : Int) (n : Nat) : (rng lo n).length = n := by
  unfold rng
  rw [List.length_map, List.length_range]

def rngD (lo : Int) (n : Nat) : List Int := (List.range n).map fun (j : Nat) => lo + (j : Int) * (-1)
theorem rngD_get {lo : Int} {n i : Nat} (h : i < n) : (rngD lo n)[i]? = some (lo + (i : Int) * (-1)) := by
  unfold rngD
  rw [List.getElem?_map, List.getElem?_range h] <;> rfl
theorem rngD_len (lo : Int) (n : Nat) : (rngD lo n).length = n := by
  unfold rngD
  rw [List.length_map, List.length_range]

/-! ### calls that may raise -/
/-- what a call with n values and keywords ks gives the parameters -/
structure Bnd (K : PySem.W.Frag) (fd : FuncData) (ps : List Str) (n : Nat) (ks : List Str) (g : List V → List V → List V) : Prop where
  to : ∀ (s : Shared) (us ws : List Value) (vs zs : List V), K.In s.heap → vs.length = n → zs.length = ks.length → Vals vs us → Vals zs ws → ∃ vv : List Value, BindsTo s fd ⟨us, ks.zip ws⟩ (ps.zip vv) ∧ Vals (g vs zs) vv
theorem Bnd.of_kbn {K : PySem.W.Frag} {fd : FuncData} {ps ks : List Str} {n : Nat} {g : List Value → List Value → List Value} {gV : List V → List V → List V} (b : KBn K fd ps n ks g gV) : Bnd K fd ps n ks gV :=
  ⟨fun s us ws vs zs X l1 l2 r rz => ⟨g us ws, b.to s us ws X (r.length.symm.trans l1) (rz.length.symm.trans l2), b.rel r rz⟩⟩
theorem Bnd.all {K : PySem.W.Frag} {fd : FuncData} {ps ks : List Str} {n : Nat} {g : List V → List V → List V} (h : ∀ (us ws : List Value) (vs zs : List V), vs.length = n → zs.length = ks.length → Vals vs us → Vals zs ws →
    ∃ vv : List Value, bindArgs fd ⟨us, ks.zip ws⟩ = pure (ps.zip vv) ∧ Vals (g vs zs) vv) : Bnd K fd ps n ks g :=
  ⟨fun s us ws vs zs _ l1 l2 r rz => by
    obtain ⟨vv, e, q⟩ := h us ws vs zs l1 l2 r rz
    exact ⟨vv, BindsTo.of_eq e, q⟩⟩
abbrev Pat := Nat × List Str × (List V → List V → List V)
def Bnd1 (K : PySem.W.Frag) (fd : FuncData) (ps : List Str) (p : Pat) : Prop := Bnd K fd ps p.1 p.2.1 p.2.2
section
variable {P : Program} {w : World} {K : PySem.W.Frag} {mg : Str → Option Value} {base : Heap}
/-- a def of the top, with the ways it is called -/
structure DefX (K : PySem.W.Frag) (mg : Str → Option Value) (x : Str) (st : Stmt) (ps : List Str) (pats : List Pat) : Prop where
  ex : ∃ (f : Addr) (fd : FuncData) (dvs : List V) (kws : List (Str × V)), FunD K x x (defArgs st) (defBody st) (defScope st) dvs kws f fd ∧ mg x = some (.ref f) ∧ ∀ p ∈ pats, Bnd1 K fd ps p
structure CalX (P : Program) (w : World) (K : PySem.W.Frag) (mg : Str → Option Value) (base : Heap) (k : Nat) (x : Str) (sp : Sp) (pats : List Pat) : Prop where
  ex : ∃ (f : Addr) (fd : FuncData) (ps : List Str), FnG P w K mg base (L2.CX P w) k f fd ps sp ∧ mg x = some (.ref f) ∧ PySem.W.keepIn K (.ref f) = true ∧ ∀ p ∈ pats, Bnd1 K fd ps p
abbrev BodyX (P : Program) (w : World) (K : PySem.W.Frag) (mg : Str → Option Value) (base : Heap) (x : Str) (st : Stmt) (N : List Str) (k : Nat) (sp : Sp) : Prop :=
  ∀ (f : Addr) (cdv : Value) (A : Around) (outer : List Env) (s : Shared) (H : Hp) (vs : List V) (Q : VK) (E : XK), RoomG k (A.deeper (envOfC x (defScope st) s.heap.objs.size f cdv)) → sp vs H Q E →
    ∃ t, PSs (cxOf (L2.CX P w) P w K mg base N x (defScope st) f cdv A outer s H E) (defBody st) t ∧ t { nx := fun _ H' => Q .non H', rt := Q } (start N vs) H
theorem DefX.ok {x : Str} {st : Stmt} {N ps : List Str} {pats : List Pat} {k : Nat} {sp : Sp} (D : DefX K mg x st ps pats) (S : FnScope N ps (defScope st)) (len : ∀ vs H Q E, sp vs H Q E → vs.length = ps.length)
    (hbody : BodyX P w K mg base x st N k sp) : CalX P w K mg base (k + 1) x sp pats := by
  obtain ⟨f, fd, dvs, kws, F, hm, b⟩ := D.ex
  exact ⟨f, fd, ps, FnG.body F S len (fun cdv A outer s H vs Q E hr h => hbody f cdv A outer s H vs Q E hr h), hm, F.kp, b⟩
end
section
variable {X : Cx} {k j n : Nat} {f : Addr} {fd : FuncData} {ps ks : List Str} {g : List V → List V → List V} {sp : Sp} {x : Str} {pos p : Pos} {e : Expr} {es : List Expr} {kws : List Keyword} {t tk : TA} {W : WX}
theorem run_X {pins : List (Addr × Obj)} {σ : L2.St} {H : Hp} {s : Shared} {Q : VK} {us ws : List Value} {vs zs : List V} (F : FnG X.prog X.w X.K X.mg X.base (L2.CX X.prog X.w) k f fd ps sp) (hr : RoomG k X.A) (hb : Bnd X.K fd ps n ks g) (tkW : Takes X W)
    (I : Inv X pins σ H s) (r : Vals vs us) (rz : Vals zs ws) (l1 : vs.length = n) (l2 : zs.length = ks.length) (h : sp (g vs zs) H Q (WE W σ)) :
    wpAny (model X.prog X.w) X.A (call (.ref f) us (ks.zip ws)) (EP X pins σ Q) X.xe s := by
  obtain ⟨vv, b, r2⟩ := hb.to s us ws vs zs I.kIn l1 l2 r rz
  refine wpAny_call (codeAny_mono (F.run X.A X.stack s H ⟨us, ks.zip ws⟩ vv (g vs zs) Q (WE W σ) hr I.env0 b r2 h) fun rr s' hq => ?_)
  cases rr with
  | error er => exact passAt tkW σ pins H s er s' I hq
  | ok fl =>
    cases fl with
    | ret u => exact I.after hq
    | next => exact hq.elim
    | brk => exact hq.elim
    | cont => exact hq.elim
/-- f(e, .., k = v, ..) -/
def tCallX (n m : Nat) (sp : Sp) (g : List V → List V → List V) (W : WX) (t tk : TA) : TE := fun σ H Q => t σ H fun vs H1 => tk σ H1 fun zs H2 => vs.length = n ∧ zs.length = m ∧ sp (g vs zs) H2 Q (WE W σ)
theorem vx_callX {pats : List Pat} (c : CalX X.prog X.w X.K X.mg X.base k x sp pats) (pt : Pat) (hpt : pt ∈ pats) (hr : RoomG j X.A) (hk : k ≤ j) (tkW : Takes X W) (hg : Gl X x) (ha : PA X (e :: es) t) (hkw : PK X kws tk)
    (hall : (backToKw pos (keywordEach kws X.env)).all (·.1.isSome) = true := by rfl) (hks : (backToKw pos (keywordEach kws X.env)).filterMap (·.1) = pt.2.1 := by rfl)
    (hdb : (x == ("__debug__" : Str)) = false := by decide) (he : starEach (e :: es) X.env = (false, eval e X.env) :: starEach es X.env := by rfl)
    (hpl : ((backTo pos (starEach (e :: es) X.env)).any (·.1) || (backToKw pos (keywordEach kws X.env)).any (·.1.isNone)) = false := by rfl) :
    PE X (.Call (.Name x p) (e :: es) kws pos) (tCallX pt.1 pt.2.1.length sp pt.2.2 W t tk) := by
  obtain ⟨f, fd, ps, F, hm, kp, b⟩ := c.ex
  refine ⟨fun pins s σ H Q I h => ?_⟩
  refine wpAny_Call_Name_kw (ld_glob I hg hm ?_ hdb)
  refine PySem.W.callWith_KW (h₀ := X.base) I.ok.mod.kin kp hall (thn (ha.run pos pins s σ H _ I h) fun us s1 ⟨vs, H1, I1, r, q⟩ => ?_) hpl he
  refine thn (hkw.run pos pins s1 σ H1 _ I1 q) fun ws s2 ⟨zs, H2, I2, rz, l1, l2, q2⟩ => ⟨I2.kIn, ?_⟩
  rw [hks]
  exact run_X F (hr.low hk) (b pt hpt) tkW I2 r rz l1 l2 q2
theorem vx_callX0 {pats : List Pat} (c : CalX X.prog X.w X.K X.mg X.base k x sp pats) (pt : Pat) (hpt : pt ∈ pats) (hr : RoomG j X.A) (hk : k ≤ j) (tkW : Takes X W) (hg : Gl X x) (hks : pt.2.1 = [] := by rfl)
    (hdb : (x == ("__debug__" : Str)) = false := by decide) : PE X (.Call (.Name x p) [] [] pos) (tCallX pt.1 pt.2.1.length sp pt.2.2 W tNil tNil) := by
  obtain ⟨f, fd, ps, F, hm, kp, b⟩ := c.ex
  refine ⟨fun pins s σ H Q I h => ?_⟩
  refine wpAny_Call_Name_kw (ld_glob I hg hm ?_ hdb)
  obtain ⟨l1, l2, q2⟩ := h
  have hz := run_X (us := []) (ws := []) F (hr.low hk) (b pt hpt) tkW I .nil .nil l1 l2 q2
  rw [hks] at hz
  exact PySem.W.callWith_K0 I.kIn kp hz
end
/-! ### borrowed things -/
theorem Sep.bM {M : List Addr} {H0 G0 G H : Hp} {O : List (Addr)} (S : Sep M H0 G0 G H O) : Same (hideL M H0) H := fun b o e => by
  by_cases h : b ∈ M
  · rw [hideL_in h] at e
    cases e
  · rw [hideL_out h] at e
    exact S.base b o e h
theorem b_ne {M : List Addr} {H0 G0 G H : Hp} {O : List Addr} {a b : Addr} {o : HO} (h : (hideL M H0) a = some o) (S : Sep M H0 G0 G H O) (hb : b ∈ O) : a ≠ b := fun z => by
  subst z
  rcases (S.ow a hb).2.2 with q | q
  · rw [hideL_in q] at h
    cases h
  · by_cases hM : a ∈ M
    · rw [hideL_in hM] at h
      cases h
    · rw [hideL_out hM, q] at h
      cases h
theorem hide0 {H : Hp} : hideL [] H = H := by
  funext b
  unfold hideL
  rw [if_neg List.not_mem_nil]
theorem hide_nil {H : Hp} {a : Addr} {o : HO} (h : H a = some o) : (hideL [] H) a = some o := by
  rw [hide0]
  exact h
theorem Rp.hide_nil {H : Hp} {v : V} {d : PyData} (h : Rp H v d) : Rp (hideL [] H) v d := by
  rw [hide0]
  exact h
theorem Sep.startM {M : List Addr} {G H : Hp} (e : Same G H) (hM : ∀ a ∈ M, H a ≠ none) (hG : ∀ a ∈ M, G a = none) : Sep M H G G H M :=
  ⟨fun _ _ e _ => e, hM, e, Same.refl _, fun _ _ e => e, fun a ha => ⟨hG a ha, hM a ha, .inl ha⟩⟩
theorem Sep.gno {M : List Addr} {H0 G0 G H : Hp} {O L : List Addr} (S : Sep M H0 G0 G H O) (h : ∀ a ∈ L, a ∈ O) : ∀ a ∈ L, G a = none := fun a ha => (S.ow a (h a ha)).1
theorem RpAll.ixD {α : Type} [Inhabited α] {f : α → PyData} {H : Hp} {vs : List V} {xs : List α} {k : Int} (r : RpAll H vs (xs.map f)) (h : -(xs.length : Int) ≤ k ∧ k < xs.length) : ∃ v, atI vs k = some v ∧ Rp H v (f (itD xs k)) := by
  obtain ⟨v, x, h1, h2, h3⟩ := RpAll.ix r h
  refine ⟨v, h1, ?_⟩
  unfold itD
  rw [h2]
  exact h3
theorem tru_all {α : Type} [DecidableEq α] {f : α → PyData} {H : Hp} {vs : List V} {xs : List α} (r : RpAll H vs (xs.map f)) : (!decide (xs = [])) = !vs.isEmpty := by
  have h := r.len
  rw [List.length_map] at h
  cases xs <;> cases vs <;> simp_all
theorem ix_nn {α : Type} {xs : List α} {k : Int} (h0 : 0 ≤ k) (h1 : k < xs.length) : -(xs.length : Int) ≤ k ∧ k < xs.length := ⟨by omega, h1⟩
theorem all_nilQ {α : Type} {P : α → Prop} : ∀ x ∈ ([] : List α), P x := fun x h => by cases h
theorem all_consQ {α : Type} {P : α → Prop} {a : α} {l : List α} (h : P a) (t : ∀ x ∈ l, P x) : ∀ x ∈ a :: l, P x := fun x hx => by
  rcases List.mem_cons.mp hx with rfl | hx
  · exact h
  · exact t x hx
theorem mem_one {a b : Nat} (h : a ∈ [b]) : a = b := by simpa using h
theorem mem_cons2 {a b : Nat} {l : List Nat} (h : a ∈ b :: l) : a = b ∨ a ∈ l := List.mem_cons.mp h
theorem len0 {α : Type} {l : List α} (h : l.length = 0) : l = [] := List.length_eq_zero_iff.mp h
theorem len1 {α : Type} {l : List α} (h : l.length = 1) : ∃ a, l = [a] := List.length_eq_one_iff.mp h
theorem len_s {α : Type} {l : List α} {n : Nat} (h : l.length = n + 1) : ∃ a r, l = a :: r ∧ r.length = n := by
  cases l with
  | nil => cases h
  | cons a r => exact ⟨a, r, rfl, Nat.succ.inj h⟩
theorem len2 {α : Type} {l : List α} (h : l.length = 2) : ∃ a b, l = [a, b] := by
  obtain ⟨a, r, rfl, h2⟩ := len_s h
  obtain ⟨b, rfl⟩ := len1 h2
  exact ⟨a, b, rfl⟩
theorem len3 {α : Type} {l : List α} (h : l.length = 3) : ∃ a b c, l = [a, b, c] := by
  obtain ⟨a, r, rfl, h2⟩ := len_s h
  obtain ⟨b, c, rfl⟩ := len2 h2
  exact ⟨a, b, c, rfl⟩
theorem len4 {α : Type} {l : List α} (h : l.length = 4) : ∃ a b c d, l = [a, b, c, d] := by
  obtain ⟨a, r, rfl, h2⟩ := len_s h
  obtain ⟨b, c, d, rfl⟩ := len3 h2
  exact ⟨a, b, c, d, rfl⟩
theorem len5 {α : Type} {l : List α} (h : l.length = 5) : ∃ a b c d e, l = [a, b, c, d, e] := by
  obtain ⟨a, r, rfl, h2⟩ := len_s h
  obtain ⟨b, c, d, e, rfl⟩ := len4 h2
  exact ⟨a, b, c, d, e, rfl⟩
theorem len6 {α : Type} {l : List α} (h : l.length = 6) : ∃ a b c d e f, l = [a, b, c, d, e, f] := by
  obtain ⟨a, r, rfl, h2⟩ := len_s h
  obtain ⟨b, c, d, e, f, rfl⟩ := len5 h2
  exact ⟨a, b, c, d, e, f, rfl⟩
theorem len7 {α : Type} {l : List α} (h : l.length = 7) : ∃ a b c d e f g, l = [a, b, c, d, e, f, g] := by
  obtain ⟨a, r, rfl, h2⟩ := len_s h
  obtain ⟨b, c, d, e, f, g, rfl⟩ := len6 h2
  exact ⟨a, b, c, d, e, f, g, rfl⟩
def rLenTK (K : PySem.W.Frag) : List V → Hp → VK → Prop := fun xs H Q => ∃ (p : Addr) (vs : List V) (n : Nat), xs = [.ref p] ∧ SqT K H p vs ∧ vs.length = n ∧ Q (.int (n : Int)) H
theorem call_lenTK {X : Cx} {K : PySem.W.Frag} (hK : X.K = K := by rfl) : CallR X (.builtin "len") (rLenTK K) := by
  subst hK
  intro pins s σ H xs us Q I r h
  obtain ⟨p, vs, n, rfl, hs, hn, q⟩ := h
  exact call_len_seq pins s σ H _ us Q I r ⟨p, _, rfl, Or.inr hs, by rw [hn]; exact q⟩
theorem exm_mk {K : PySem.W.Frag} {S C : Addr} (h1 : PySem.W.subIn K (.ref C) (.type "BaseException") = some true) (h2 : PySem.W.isClsIn K C = true) (h3 : PySem.W.typeIn K (.ref C) = some (.type "type")) (h4 : PySem.W.subIn K (.ref S) (.ref C) = some true) :
    PySem.W.exmOne K (.ref S) (.ref C) = some true := by
  unfold PySem.W.isClsIn at h2
  unfold PySem.W.exmOne
  unfold PySem.W.kitCls
  simp only [h1, h2, h3, h4, beq_self_eq_true, Bool.and_self, if_true]
theorem kit_mk {K : PySem.W.Frag} {S C : Addr} (h2 : PySem.W.isClsIn K C = true) (h3 : PySem.W.typeIn K (.ref C) = some (.type "type")) (h4 : PySem.W.subIn K (.ref S) (.ref C) = some true) :
    PySem.W.kitOne K (.ref S) (.ref C) = some true := by
  unfold PySem.W.isClsIn at h2
  unfold PySem.W.kitOne
  split
  · rfl
  · unfold PySem.W.kitCls
    simp only [h2, h3, h4, beq_self_eq_true, Bool.and_self, if_true]
/-- isinstance(e, C) of the exception in hand -/
def rIsX (K : PySem.W.Frag) (a : Addr) (cls : Value) (d : Option Addr) : List V → Hp → VK → Prop := fun xs H Q => ∃ (D C : Addr) (b : Bool), cls = .ref D ∧ d = none ∧ ExcC K D ∧ xs = [.ref a, .ref C] ∧ PySem.W.kitOne K (.ref D) (.ref C) = some b ∧ Q (.bl b) H
theorem call_isX {X : Cx} {K : PySem.W.Frag} {a : Addr} {cls : Value} {d : Option Addr} {oe : Obj} {pn : List (Addr × Obj)} (hz : Zc cls d oe) (hf : ∃ vs, oe.data = .fields vs) (hK : X.K = K := by rfl) : CallR (X.suite a ((a, oe) :: pn)) (.builtin "isinstance") (rIsX K a cls d) := by
  subst hK
  intro pins s σ H xs us Q I r h
  obtain ⟨D, C, b, rfl, rfl, c, rfl, e, q⟩ := h
  exact call_isE c hz hf pins s σ H _ us Q I r ⟨_, _, b, rfl, fun u z => z, e, q⟩
/-! ### unpacking a list -/
section
variable {X : Cx} {K : PySem.W.Frag} {pos : Pos}
theorem pg_seqK {es : List Expr} {k : Nat} {t : TGs} {n : Nat} (h : PGs X es t) (hc : X.calm = true := by rfl) (hK : X.K = K := by rfl)
    (hn : (assignEach es X.env).length = n := by rfl) (hst : (assignEach es X.env).findIdx? (·.1) = none := by rfl) : PG X (.Tuple es k pos) (gLst K n t) := hK ▸ pg_lst hc h hn hst
end
theorem SqL.cast {K : PySem.W.Frag} {H : Hp} {a : Addr} {xs ys : List V} (h : SqL K H a xs) (e : xs = ys) : SqL K H a ys := e ▸ h
section
variable {α : Type} [Inhabited α] {f : α → V}
theorem unp2 {xs : List α} (h : xs.length = 2) : xs.map f = [f (itD xs 0), f (itD xs 1)] := by
  obtain ⟨a, b, rfl⟩ := len2 h
  rfl
theorem unp3 {xs : List α} (h : xs.length = 3) : xs.map f = [f (itD xs 0), f (itD xs 1), f (itD xs 2)] := by
  obtain ⟨a, b, c, rfl⟩ := len3 h
  rfl
theorem unp4 {xs : List α} (h : xs.length = 4) : xs.map f = [f (itD xs 0), f (itD xs 1), f (itD xs 2), f (itD xs 3)] := by
  obtain ⟨a, b, c, d, rfl⟩ := len4 h
  rfl
theorem unp6 {xs : List α} (h : xs.length = 6) : xs.map f = [f (itD xs 0), f (itD xs 1), f (itD xs 2), f (itD xs 3), f (itD xs 4), f (itD xs 5)] := by
  obtain ⟨a, b, c, d, e, g, rfl⟩ := len6 h
  rfl
theorem unp8 {xs : List α} (h : xs.length = 8) : xs.map f = [f (itD xs 0), f (itD xs 1), f (itD xs 2), f (itD xs 3), f (itD xs 4), f (itD xs 5), f (itD xs 6), f (itD xs 7)] := by
  obtain ⟨a, r, rfl, h2⟩ := len_s h
  obtain ⟨b, c, d, e, g, i, j, rfl⟩ := len7 h2
  rfl
end
/-! ### classes -/
section
variable {P : Program} {w : World} {K : PySem.W.Frag} {mg : Str → Option Value} {base : Heap}
structure MethX (K : PySem.W.Frag) (C : Addr) (q m : Str) (st : Stmt) (ps : List Str) (pats : List Pat) : Prop where
  ex : ∃ (f : Addr) (fd : FuncData) (dvs : List V) (kws : List (Str × V)), FunD K m q (defArgs st) (defBody st) (defScope st) dvs kws f fd ∧ Meth K C m f ∧ ∀ p ∈ pats, Bnd1 K fd ps p
structure InitX (K : PySem.W.Frag) (mg : Str → Option Value) (C : Addr) (cn q : Str) (st : Stmt) (ps : List Str) (pats : List Pat) : Prop where
  ex : ∃ (f : Addr) (fd : FuncData) (dvs : List V) (kws : List (Str × V)), FunD K "__init__" q (defArgs st) (defBody st) (defScope st) dvs kws f fd ∧ Mk K C f ∧ mg cn = some (.ref C) ∧ ∀ p ∈ pats, Bnd1 K fd ps p
structure PropX (K : PySem.W.Frag) (C : Addr) (q m : Str) (st : Stmt) (ps : List Str) (pats : List Pat) : Prop where
  ex : ∃ (r f : Addr) (fd : FuncData) (dvs : List V) (kws : List (Str × V)), FunD K m q (defArgs st) (defBody st) (defScope st) dvs kws f fd ∧ PropOf K C m r f ∧ Binds K fd ps []
structure MetX (P : Program) (w : World) (K : PySem.W.Frag) (mg : Str → Option Value) (base : Heap) (k : Nat) (C : Addr) (m : Str) (sp : Sp) (pats : List Pat) : Prop where
  ex : ∃ (f : Addr) (fd : FuncData) (ps : List Str), Cls K C ∧ Meth K C m f ∧ FnG P w K mg base (L2.CX P w) k f fd ps sp ∧ ∀ p ∈ pats, Bnd1 K fd ps p
structure PropY (P : Program) (w : World) (K : PySem.W.Frag) (mg : Str → Option Value) (base : Heap) (k : Nat) (C : Addr) (m : Str) (sp : Sp) (pats : List Pat) : Prop where
  ex : ∃ (q f : Addr) (fd : FuncData) (ps : List Str), Cls K C ∧ PropOf K C m q f ∧ FnG P w K mg base (L2.CX P w) k f fd ps sp ∧ Binds K fd ps []
structure MakX (P : Program) (w : World) (K : PySem.W.Frag) (mg : Str → Option Value) (base : Heap) (k : Nat) (cn : Str) (C : Addr) (sp : Sp) (pats : List Pat) : Prop where
  ex : ∃ (f : Addr) (fd : FuncData) (ps : List Str), Mk K C f ∧ FnG P w K mg base (L2.CX P w) k f fd ps sp ∧ mg cn = some (.ref C) ∧ ∀ p ∈ pats, Bnd1 K fd ps p
theorem MethX.ok {C : Addr} {q m : Str} {st : Stmt} {N ps : List Str} {pats : List Pat} {k : Nat} {sp : Sp} (D : MethX K C q m st ps pats) (c : Cls K C) (S : FnScope N ps (defScope st)) (len : ∀ vs H Q E, sp vs H Q E → vs.length = ps.length)
    (hbody : BodyX P w K mg base q st N k sp) : MetX P w K mg base (k + 1) C m sp pats := by
  obtain ⟨f, fd, dvs, kws, F, me, b⟩ := D.ex
  exact ⟨f, fd, ps, c, me, FnG.body F S len (fun cdv A outer s H vs Q E hr h => hbody f cdv A outer s H vs Q E hr h), b⟩
theorem PropX.ok {C : Addr} {q m : Str} {st : Stmt} {N ps : List Str} {pats : List Pat} {k : Nat} {sp : Sp} (D : PropX K C q m st ps pats) (c : Cls K C) (S : FnScope N ps (defScope st)) (len : ∀ vs H Q E, sp vs H Q E → vs.length = ps.length)
    (hbody : BodyX P w K mg base q st N k sp) : PropY P w K mg base (k + 1) C m sp pats := by
  obtain ⟨r, f, fd, dvs, kws, F, me, b⟩ := D.ex
  exact ⟨r, f, fd, ps, c, me, FnG.body F S len (fun cdv A outer s H vs Q E hr h => hbody f cdv A outer s H vs Q E hr h), b⟩
theorem InitX.ok {C : Addr} {cn q : Str} {st : Stmt} {N ps : List Str} {pats : List Pat} {k : Nat} {sp : Sp} (D : InitX K mg C cn q st ps pats) (S : FnScope N ps (defScope st)) (len : ∀ vs H Q E, sp vs H Q E → vs.length = ps.length)
    (hbody : BodyX P w K mg base q st N k sp) : MakX P w K mg base (k + 1) cn C sp pats := by
  obtain ⟨f, fd, dvs, kws, F, me, hm, b⟩ := D.ex
  exact ⟨f, fd, ps, me, FnG.body F S len (fun cdv A outer s H vs Q E hr h => hbody f cdv A outer s H vs Q E hr h), hm, b⟩
end
theorem cW_callN {α β : Type} {m : Rx β} {f : β → Rx α} {K : α → Prop} {E : Nat → Prop} {K2 : β → Prop} {E2 : Nat → Prop} (h : cW ((noEr m).bind f) K E) (ho : ∀ v, cW (f v) K E → K2 v) (_ : True) : cW m K2 E2 := by
  cases m with
  | ok a => exact cW_mk (ho a h)
  | er e => exact cW_bad (α := α) h
  | bad => exact cW_bad (α := α) h
section
variable {X : Cx} {k j n : Nat} {f C : Addr} {fd : FuncData} {ps ks : List Str} {g : List V → List V → List V} {sp : Sp} {x m : Str} {pos p apos : Pos} {e o : Expr} {es : List Expr} {kws : List Keyword} {ta : TE} {t tk : TA} {W : WX}
theorem run_mkX {pins : List (Addr × Obj)} {σ : L2.St} {H : Hp} {s : Shared} {Q : VK} {us ws : List Value} {vs zs : List V} (M : Mk X.K C f) (F : FnG X.prog X.w X.K X.mg X.base (L2.CX X.prog X.w) k f fd ps sp) (hr : RoomG (k + 1) X.A) (hb : Bnd X.K fd ps n ks g) (tkW : Takes X W)
    (I : Inv X pins σ H s) (r : Vals vs us) (rz : Vals zs ws) (l1 : vs.length + 1 = n) (l2 : zs.length = ks.length)
    (h : ∀ x dx, H x = none → H dx = none → dx ≠ x → sp (g (.ref x :: vs) zs) (upd (upd H dx (.own x)) x (.ins C dx [])) (fun v H2 => v = .non ∧ Q (.ref x) H2) (WE W σ)) :
    wpAny (model X.prog X.w) X.A (call (.ref C) us (ks.zip ws)) (EP X pins σ Q) X.xe s := by
  have hq := h (s.heap.objs.size + 1) s.heap.objs.size (I.hok.fresh (Nat.le_succ _)) (I.hok.fresh (Nat.le_refl _)) (Nat.ne_of_lt (Nat.lt_succ_self _))
  have I2 := Inv.made (C := C) I
  have r1 : Vals (V.ref (s.heap.objs.size + 1) :: vs) (Value.ref (s.heap.objs.size + 1) :: us) := .cons rfl r
  obtain ⟨vv, b, r2⟩ := hb.to _ (Value.ref (s.heap.objs.size + 1) :: us) ws (V.ref (s.heap.objs.size + 1) :: vs) zs I2.kIn (by rw [List.length_cons, l1]) l2 r1 rz
  refine wpAny_call (make_map (f := f) I.kIn M.makes M.init (beq_iff_eq.mp M.fn) (codeAny_mono (F.run _ X.stack _ _ ⟨Value.ref (s.heap.objs.size + 1) :: us, ks.zip ws⟩ vv _ _ (WE W σ) (hr.made C us (ks.zip ws))
    (I2.env0.make C us (ks.zip ws)) b r2 hq) fun r s' hq' => ?_))
  cases r with
  | error e => exact passAt tkW σ pins _ _ e s' I2 hq'
  | ok fl =>
    cases fl with
    | ret u =>
      obtain ⟨v, H', I3, rv, ev, q3⟩ := I2.after hq'
      subst ev
      exact ⟨rv, ⟨V.ref (s.heap.objs.size + 1), H', I3, rfl, q3⟩⟩
    | next => exact False.elim hq'
    | brk => exact False.elim hq'
    | cont => exact False.elim hq'
/-- C(e, .., k = v, ..) -/
def tMakeX (C : Addr) (n m : Nat) (sp : Sp) (g : List V → List V → List V) (W : WX) (t tk : TA) : TE := fun σ H Q => t σ H fun vs H1 => tk σ H1 fun zs H2 => vs.length + 1 = n ∧ zs.length = m ∧ ∀ x dx, H2 x = none → H2 dx = none → dx ≠ x →
  sp (g (.ref x :: vs) zs) (upd (upd H2 dx (.own x)) x (.ins C dx [])) (fun v H3 => v = .non ∧ Q (.ref x) H3) (WE W σ)
theorem vx_makeX {pats : List Pat} (c : MakX X.prog X.w X.K X.mg X.base k x C sp pats) (pt : Pat) (hpt : pt ∈ pats) (hr : RoomG j X.A) (hk : k + 1 ≤ j) (tkW : Takes X W) (hg : Gl X x) (ha : PA X (e :: es) t) (hkw : PK X kws tk)
    (hall : (backToKw pos (keywordEach kws X.env)).all (·.1.isSome) = true := by rfl) (hks : (backToKw pos (keywordEach kws X.env)).filterMap (·.1) = pt.2.1 := by rfl) (hdb : (x == ("__debug__" : Str)) = false := by decide)
    (he : starEach (e :: es) X.env = (false, eval e X.env) :: starEach es X.env := by rfl) (hpl : ((backTo pos (starEach (e :: es) X.env)).any (·.1) || (backToKw pos (keywordEach kws X.env)).any (·.1.isNone)) = false := by rfl) :
    PE X (.Call (.Name x p) (e :: es) kws pos) (tMakeX C pt.1 pt.2.1.length sp pt.2.2 W t tk) := by
  obtain ⟨f, fd, ps, M, F, hm, b⟩ := c.ex
  refine ⟨fun pins s σ H Q I h => ?_⟩
  refine wpAny_Call_Name_kw (ld_glob I hg hm ?_ hdb)
  refine PySem.W.callWith_KW (h₀ := X.base) I.ok.mod.kin M.kp hall (thn (ha.run pos pins s σ H _ I h) fun us s1 ⟨vs, H1, I1, r, q⟩ => ?_) hpl he
  refine thn (hkw.run pos pins s1 σ H1 _ I1 q) fun ws s2 ⟨zs, H2, I2, rz, l1, l2, q2⟩ => ⟨I2.kIn, ?_⟩
  rw [hks]
  exact run_mkX M F (hr.low hk) (b pt hpt) tkW I2 r rz l1 l2 q2
theorem vx_makeX0 {pats : List Pat} (c : MakX X.prog X.w X.K X.mg X.base k x C sp pats) (pt : Pat) (hpt : pt ∈ pats) (hr : RoomG j X.A) (hk : k + 1 ≤ j) (tkW : Takes X W) (hg : Gl X x) (hks : pt.2.1 = [] := by rfl)
    (hdb : (x == ("__debug__" : Str)) = false := by decide) : PE X (.Call (.Name x p) [] [] pos) (tMakeX C pt.1 pt.2.1.length sp pt.2.2 W tNil tNil) := by
  obtain ⟨f, fd, ps, M, F, hm, b⟩ := c.ex
  refine ⟨fun pins s σ H Q I h => ?_⟩
  refine wpAny_Call_Name_kw (ld_glob I hg hm ?_ hdb)
  obtain ⟨l1, l2, q2⟩ := h
  have hz := run_mkX (us := []) (ws := []) M F (hr.low hk) (b pt hpt) tkW I .nil .nil l1 l2 q2
  rw [hks] at hz
  exact PySem.W.callWith_K0 I.kIn M.kp hz
/-- o.m(e, .., k = v, ..) -/
def tMethX (C : Addr) (m : Str) (n mm : Nat) (sp : Sp) (g : List V → List V → List V) (W : WX) (ta : TE) (t tk : TA) : TE := fun σ H Q => ta σ H fun x H1 => ∃ a dx fs, x = .ref a ∧ H1 a = some (.ins C dx fs) ∧ fs.lookup m = none ∧
  t σ H1 fun vs H2 => tk σ H2 fun zs H3 => (x :: vs).length = n ∧ zs.length = mm ∧ sp (g (x :: vs) zs) H3 Q (WE W σ)
theorem vx_methX {pats : List Pat} {pl : Sem Bool} (c : MetX X.prog X.w X.K X.mg X.base k C m sp pats) (pt : Pat) (hpt : pt ∈ pats) (hr : RoomG j X.A) (hk : k ≤ j) (tkW : Takes X W) (he : PE X o ta) (ha : PA X (e :: es) t) (hkw : PK X kws tk)
    (hall : (backToKw pos (keywordEach kws X.env)).all (·.1.isSome) = true := by rfl) (hks : (backToKw pos (keywordEach kws X.env)).filterMap (·.1) = pt.2.1 := by rfl)
    (hst : starEach (e :: es) X.env = (false, eval e X.env) :: starEach es X.env := by rfl) (hpl : ((backTo pos (starEach (e :: es) X.env)).any (·.1) || (backToKw pos (keywordEach kws X.env)).any (·.1.isNone)) = false := by rfl)
    (ht : eval (.Call (.Attribute o m apos) (e :: es) kws pos) X.env = (do
      let ov ← eval o X.env
      standAt apos.atName
      let (f, first) ← holding [ov] (getMethod ov m pl)
      callWith pos f first (backTo pos (starEach (e :: es) X.env)) (backToKw pos (keywordEach kws X.env))) := by rfl) :
    PE X (.Call (.Attribute o m apos) (e :: es) kws pos) (tMethX C m pt.1 pt.2.1.length sp pt.2.2 W ta t tk) := by
  obtain ⟨f, fd, ps, hc, hm, F, b⟩ := c.ex
  refine ⟨fun pins s σ H Q I h => ?_⟩
  refine PySem.W.methodCall_KW (pl := pl) (thn (he.run pins s σ H _ I h) fun u s1 ⟨x, H1, I1, rx, a, dx, fs, ex, ea, l, q⟩ => ?_) ht
  subst ex
  obtain rfl : u = Value.ref a := rx
  refine getmeth_ok I1 ea hc hm l ?_
  refine PySem.W.callWith_KW (first := [.ref a]) (h₀ := X.base) I.ok.mod.kin hm.kp hall (thn (ha.run pos pins s1 σ H1 _ I1 q) fun us s2 ⟨vs, H2, I2, r, q2⟩ => ?_) hpl hst
  refine thn (hkw.run pos pins s2 σ H2 _ I2 q2) fun ws s3 ⟨zs, H3, I3, rz, l1, l2, q3⟩ => ⟨I3.kIn, ?_⟩
  rw [hks]
  exact run_X (us := .ref a :: us) (vs := .ref a :: vs) F (hr.low hk) (b pt hpt) tkW I3 (.cons rfl r) rz l1 l2 q3
theorem vx_methX0 {pats : List Pat} {pl : Sem Bool} (c : MetX X.prog X.w X.K X.mg X.base k C m sp pats) (pt : Pat) (hpt : pt ∈ pats) (hr : RoomG j X.A) (hk : k ≤ j) (tkW : Takes X W) (he : PE X o ta) (hks : pt.2.1 = [] := by rfl)
    (ht : eval (.Call (.Attribute o m apos) [] [] pos) X.env = (do
      let ov ← eval o X.env
      standAt apos.atName
      let (f, first) ← holding [ov] (getMethod ov m pl)
      callWith pos f first (backTo pos (starEach [] X.env)) (backToKw pos (keywordEach [] X.env))) := by rfl) :
    PE X (.Call (.Attribute o m apos) [] [] pos) (tMethX C m pt.1 pt.2.1.length sp pt.2.2 W ta tNil tNil) := by
  obtain ⟨f, fd, ps, hc, hm, F, b⟩ := c.ex
  refine ⟨fun pins s σ H Q I h => ?_⟩
  refine PySem.W.methodCall_KW (pl := pl) (thn (he.run pins s σ H _ I h) fun u s1 ⟨x, H1, I1, rx, a, dx, fs, ex, ea, l, q⟩ => ?_) ht
  subst ex
  obtain rfl : u = Value.ref a := rx
  refine getmeth_ok I1 ea hc hm l ?_
  obtain ⟨l1, l2, q3⟩ := q
  have hz := run_X (us := [.ref a]) (vs := [.ref a]) (ws := []) F (hr.low hk) (b pt hpt) tkW I1 (.cons rfl .nil) .nil l1 l2 q3
  rw [hks] at hz
  exact PySem.W.callWith_K0 (first := [.ref a]) I1.kIn hm.kp hz
theorem vx_propX {pats : List Pat} (c : PropY X.prog X.w X.K X.mg X.base k C m sp pats) (hr : RoomG j X.A) (hk : k + 1 ≤ j) (he : PE X o ta) (hab : attributeBase o m X.env (eval o X.env) = eval o X.env := by rfl) : PE X (.Attribute o m pos) (tProp C sp [] E0 ta) := by
  obtain ⟨q, f, fd, ps, cls, prop, F, bind⟩ := c.ex
  constructor
  intro pins s σ H Q I h
  refine attr_of hab (thn (he.run pins s σ H _ I h) ?_)
  rintro u s1 ⟨x, H1, I1, rx, a, dx, fs, rfl, ea, prom⟩
  cases rx
  obtain ⟨mA, O, _⟩ := ins_get I1.hok ea
  obtain ⟨od, J, _⟩ := O.look
  obtain ⟨rest, rec_⟩ := prop.rec_
  have short : [Value.ref a].length = ps.length := (F.len _ _ _ _ prom).symm ▸ rfl
  have isCls : (PySem.W.clsIn X.K C).isSome = true := by
    obtain ⟨cd, e, _⟩ := PySem.W.any_some cls.hd
    rw [e]
    rfl
  refine PySem.W.get_bind I1.kIn J (PySem.W.plainGet_of (cls.get m)).1 (PySem.W.findObj_data isCls prop.at_ prop.get prop.tak) (PySem.W.plainGet_of (cls.get m)).2 (wpAny_call (PySem.W.prop_get (s := { s1 with toks := s1.toks + 1 }) I1.kIn rec_ ?_))
  have I2 := I1.tok (s1.toks + 1)
  refine codeAny_mono (F.run X.A.in1 X.stack _ H1 ⟨[.ref a], []⟩ [.ref a] [.ref a] Q E0 (hr.low hk).one I2.env0.in1 (by simpa using bind _ [.ref a] I2.kIn (by simpa using short)) (.cons rfl .nil) prom) ?_
  intro r s2 out
  cases r with
  | error er => exact (passL (X := X.nox) pins σ H1 _ er s2 (I2.wish _) out).elim
  | ok flow =>
    cases flow with
    | ret v =>
      obtain ⟨y, H2, I3, ry, qy⟩ := I2.after out
      have given := PySem.W.handedOut_of (handed_of ry)
      show wpAny _ _ (handedOut v) _ _ s2
      rw [given]
      exact wpAny_pure ⟨y, H2, I3, ry, qy⟩
    | next => exact out.elim
    | brk => exact out.elim
    | cont => exact out.elim
end
theorem Sep.news {M : List Addr} {H0 G0 G H H' : Hp} {O : List Addr} (S : Sep M H0 G0 G H O) (e : Same H H') (L : List Addr) (hL : ∀ a ∈ L, H a = none ∧ H' a ≠ none ∧ H0 a = none) : Sep M H0 G0 G H' (L ++ O) := by
  have S2 := S.same e
  refine ⟨S2.base, S2.pm, S2.sG, S2.g0, S2.gn, fun a ha => ?_⟩
  rcases List.mem_append.mp ha with h | h
  · obtain ⟨h1, h2, h3⟩ := hL a h
    exact ⟨S.gfree h1, h2, .inr h3⟩
  · exact S2.ow a h
theorem vv_chain {r r' : R2} {ta tb tc : TE} {σ : L2.St} {H : Hp} {x y z : V} {a b : Bool} (ha : Val ta σ H x) (hb : Val tb σ H y) (hc : Val tc σ H z) (h1 : ∀ Q : VK, Q (.bl a) H → r x y H Q) (h2 : ∀ Q : VK, Q (.bl b) H → r' y z H Q) :
    Val (tChain r r' ta tb tc) σ H (.bl (a && b)) := fun Q q => ha _ (hb _ (h1 _ ⟨a, rfl, by
  cases a with
  | true =>
    rw [if_pos rfl]
    exact hc _ (h2 _ q)
  | false =>
    rw [if_neg Bool.false_ne_true]
    exact q⟩))
/-! ### constants that are tuples, lists backwards, zip -/
theorem inV_ints (x : Int) : ∀ xs : List Int, inV (V.int x) (xs.map V.int) = decide (x ∈ xs)
  | [] => by simp [inV]
  | y :: r => by
    have h := inV_ints x r
    unfold inV at h ⊢
    rw [List.map_cons, List.any_cons, h]
    by_cases c : x = y
    · subst c
      simp [eqV]
    · simp [eqV, c, Ne.symm c]
theorem flat_ints : ∀ xs : List Int, (xs.map V.int).all flatV = true
  | [] => rfl
  | _ :: r => flat_ints r
def rInI (K : PySem.W.Frag) : R2 := fun x y H Q => ∃ (i : Int) (p : Addr) (xs : List Int), x = .int i ∧ y = .ref p ∧ (SqL K H p (xs.map V.int) ∨ SqT K H p (xs.map V.int)) ∧ Q (.bl (decide (i ∈ xs))) H
def rNotInI (K : PySem.W.Frag) : R2 := fun x y H Q => ∃ (i : Int) (p : Addr) (xs : List Int), x = .int i ∧ y = .ref p ∧ (SqL K H p (xs.map V.int) ∨ SqT K H p (xs.map V.int)) ∧ Q (.bl (!decide (i ∈ xs))) H
theorem op_inI {X : Cx} {K : PySem.W.Frag} (hK : X.K = K := by rfl) : OpR X (compareOp .In) (rInI K) := by
  subst hK
  intro pins s σ H x y v u Q I rx ry h
  obtain ⟨i, p, xs, rfl, rfl, hs, q⟩ := h
  refine op_in_seq pins s σ H _ _ v u Q I rx ry ⟨p, _, rfl, hs, rfl, flat_ints xs, ?_⟩
  rw [if_neg Bool.false_ne_true, inV_ints]
  exact q
theorem op_notInI {X : Cx} {K : PySem.W.Frag} (hK : X.K = K := by rfl) : OpR X (compareOp .NotIn) (rNotInI K) := by
  subst hK
  intro pins s σ H x y v u Q I rx ry h
  obtain ⟨i, p, xs, rfl, rfl, hs, q⟩ := h
  refine op_notIn_seq pins s σ H _ _ v u Q I rx ry ⟨p, _, rfl, hs, rfl, flat_ints xs, ?_⟩
  rw [if_pos rfl, inV_ints]
  exact q
theorem pe_revLK {X : Cx} {K : PySem.W.Frag} {e : Expr} {te : TE} {k : Nat} {p1 p2 p3 pos : Pos} (he : PE X e te) (hK : X.K = K := by rfl) : PE X (.Subscript e (.Slice none none (some (.UnaryOp .USub (.Constant (.int 1) k p1) p2)) p3) pos) (tRevL K te) := hK ▸ pe_revL he
theorem rev_map {α : Type} {f : α → V} {xs : List α} {H : Hp} {p : Addr} (h : H p = some (.lst (xs.map f).reverse)) : H p = some (.lst (xs.reverse.map f)) := by
  rw [List.map_reverse]
  exact h
theorem RpAll.rev {G : Hp} : ∀ {vs : List V} {ds : List PyData}, RpAll G vs ds → RpAll G vs.reverse ds.reverse
  | _, _, .nil => .nil
  | _, _, .cons h t => by
    rw [List.reverse_cons, List.reverse_cons]
    exact (RpAll.rev t).append (.one h)
theorem rev_all {α : Type} {f : α → PyData} {xs : List α} {G : Hp} {vs : List V} (a : RpAll G vs (xs.map f)) : RpAll G vs.reverse (xs.reverse.map f) := by
  rw [List.map_reverse]
  exact a.rev
theorem pi_zipK {X : Cx} {K : PySem.W.Frag} {e e2 : Expr} {ta : TA} {p pos tpos : Pos} {elts : List Expr} {kk : Nat} (hg : Gl X "zip") (hm : X.mg "zip" = none) (ha : PA X [e, e2] ta) (hK : X.K = K := by rfl)
    (hs : starEach [e, e2] X.env = (false, eval e X.env) :: starEach [e2] X.env := by rfl) (hpl : (backTo pos (starEach [e2] X.env)).any (·.1) = false := by rfl) :
    PI X (.Tuple elts kk tpos) (.Call (.Name "zip" p) [e, e2] [] pos) (RZ.iZipA K ta) := hK ▸ RZ.pi_zipA hg hm ha hs hpl
/-- a comprehension over zip of two lists of one length -/
theorem lc_zipL {K : PySem.W.Frag} {a b : Addr} {xs ys : List V} {g : TG} {tt : TT} {te : TE} {vs : List Nat} {σ : L2.St} {H1 : Hp} {D : Addr} {Qd : Hp → Prop} (hl : xs.length = ys.length) (Pv : Nat → Hp → Prop) (h0 : Pv 0 (upd H1 D (.lst []))) (hq : ∀ i H, i ≤ xs.length → Pv i H → SqL K H a xs ∧ SqL K H b ys)
    (hs : ∀ (i : Nat) (x y : V) (T : Addr) (H : Hp), xs[i]? = some x → ys[i]? = some y → H T = none → Pv i H → g (.ref T) (wipe σ vs) (upd H T (.tup [x, y])) fun σ2 H2 => wipe σ2 vs = wipe σ vs ∧ tt σ2 H2 fun b H3 =>
      if b = true then te σ2 H3 fun y H4 => ∃ acc, H4 D = some (.lst acc) ∧ acc.length < sizeLine ∧ Pv (i + 1) (upd H4 D (.lst (acc ++ [y]))) else Pv (i + 1) H3) (hd : ∀ H, Pv xs.length H → Qd H) :
    ∃ W : Nat → Nat → Hp → Prop, (∃ m, W 0 m (upd H1 D (.lst []))) ∧ ∀ i m H, W i m H →
      ((Itz K a b).stop i H ∧ Qd H) ∨ ((Itz K a b).go i H ∧ ∃ Nx : Hp → Prop, (∀ H', Nx H' → ∃ m', m' < m ∧ W (i + 1) m' H') ∧ ∀ x H', (Itz K a b).yld i H x H' → g x (wipe σ vs) H' fun σ2 H2 => wipe σ2 vs = wipe σ vs ∧ tt σ2 H2 fun b H3 =>
        if b = true then te σ2 H3 fun y H4 => ∃ acc, H4 D = some (.lst acc) ∧ acc.length < sizeLine ∧ Nx (upd H4 D (.lst (acc ++ [y]))) else Nx H3) := by
  refine ⟨fun i m H => m = xs.length - i ∧ i ≤ xs.length ∧ Pv i H, ⟨xs.length, by simp, Nat.zero_le _, h0⟩, ?_⟩
  rintro i m H ⟨rfl, hi, p⟩
  obtain ⟨qx, qy⟩ := hq i H hi p
  by_cases hlt : i < xs.length
  · have hlt2 : i < ys.length := by omega
    refine .inr ⟨⟨xs, ys, xs[i], ys[i], qx, qy, List.getElem?_eq_getElem hlt, List.getElem?_eq_getElem hlt2⟩, Pv (i + 1), fun H' p' => ⟨xs.length - (i + 1), by omega, rfl, hlt, p'⟩, fun v H' y => ?_⟩
    obtain ⟨T, x', y', rfl, hT, rfl, f1, f2⟩ := y
    exact hs i x' y' T H (f1 xs qx) (f2 ys qy) hT p
  · have e : i = xs.length := by omega
    subst e
    exact .inl ⟨⟨xs, ys, qx, qy, Or.inl (Nat.le_refl _)⟩, hd H p⟩
theorem zip_get {α β : Type} {xs : List α} {ys : List β} {i : Nat} {x : α} {y : β} (h1 : xs[i]? = some x) (h2 : ys[i]? = some y) : (xs.zip ys)[i]? = some (x, y) := by
  rw [List.getElem?_zip_eq_some]
  exact ⟨h1, h2⟩
theorem zip_len {α β : Type} {xs : List α} {ys : List β} {n : Nat} (h : xs.length = ys.length) (e : n = xs.length) : n = (xs.zip ys).length := by
  rw [List.length_zip, ← h, Nat.min_self]
  exact e
theorem zlen {α β : Type} {vs ws : List V} {xs : List α} {ys : List β} (a : vs.length = xs.length) (b : ws.length = ys.length) (h : xs.length = ys.length) : vs.length = ws.length := by rw [a, b, h]
section
variable {t : TT} {ta tb : TE} {σ : L2.St} {H : Hp}
theorem vv_ifP {p : Prop} [Decidable p] {a b : Int} (ht : Ans t σ H (decide p)) (hx : p → Val ta σ H (.int a)) (hy : ¬ p → Val tb σ H (.int b)) : Val (tIf t ta tb) σ H (.int (if p then a else b)) := by
  by_cases h : p
  · have := vv_if (p := p) (a := a) (b := a) ht (hx h) (tb := ta) (hx h)
    intro Q q
    refine ht _ ?_
    rw [decide_eq_true h, if_pos rfl]
    rw [if_pos h] at q
    exact hx h _ q
  · intro Q q
    refine ht _ ?_
    rw [decide_eq_false h, if_neg Bool.false_ne_true]
    rw [if_neg h] at q
    exact hy h _ q
theorem vv_ifQ {c : Bool} {a b : Int} (ht : Ans t σ H c) (hx : c = true → Val ta σ H (.int a)) (hy : c = false → Val tb σ H (.int b)) : Val (tIf t ta tb) σ H (.int (if c = true then a else b)) := by
  intro Q q
  refine ht _ ?_
  cases c with
  | true =>
    rw [if_pos rfl]
    rw [if_pos rfl] at q
    exact hx rfl _ q
  | false =>
    rw [if_neg Bool.false_ne_true]
    rw [if_neg Bool.false_ne_true] at q
    exact hy rfl _ q
end
theorem kit_mk0 {K : PySem.W.Frag} {S C : Addr} (h1 : (Value.ref S == Value.ref C) = false) (h2 : PySem.W.isClsIn K C = true) (h3 : PySem.W.typeIn K (.ref C) = some (.type "type")) (h4 : PySem.W.subIn K (.ref S) (.ref C) = some false) :
    PySem.W.kitOne K (.ref S) (.ref C) = some false := by
  unfold PySem.W.isClsIn at h2
  unfold PySem.W.kitOne
  rw [if_neg (by rw [h1]; exact Bool.false_ne_true)]
  unfold PySem.W.kitCls
  simp only [h2, h3, h4, beq_self_eq_true, Bool.and_self, if_true]
theorem vv_call2 {ta tb : TE} {σ : L2.St} {H : Hp} {x y z : V} {r : List V → Hp → VK → Prop} (ha : Val ta σ H x) (hb : Val tb σ H y) (hr : ∀ Q : VK, Q z H → r [x, y] H Q) : Val (tCB r (tCons ta (tCons tb tNil))) σ H z := fun Q q => ha _ (hb _ (hr Q q))
/-! ### lists of data that the caller owns; values that are a truth value or a number -/
theorem Sep.stepnew {M : List Addr} {H0 G0 G H H' : Hp} {O : List Addr} {p : Addr} {o : HO} (S : Sep M H0 G0 G H O) {G' : Hp} (e : Same H H') (eG : Same G G') (sG : Same G' H') (hn : ∀ b, H b ≠ none → G b = none → G' b = none) (_n : H p = none) (h : H' p = some o) (g : G' p = none) (hm : H0 p = none) : Sep M H0 G0 G' H' (p :: O) := by
  have S2 := S.step e eG sG hn
  refine ⟨S2.base, S2.pm, S2.sG, S2.g0, S2.gn, fun a ha => ?_⟩
  rcases List.mem_cons.mp ha with rfl | ha
  · exact ⟨g, (fun z => by rw [z] at h; cases h), .inr hm⟩
  · exact S2.ow a ha
inductive Bi where
  | b (x : Bool)
  | n (i : Int)
deriving DecidableEq
def biV : Bi → V
  | .b x => .bl x
  | .n i => .int i
def Bi.el {α : Type} (v : Bi) (f : Bool → α) (g : Int → α) : α :=
  match v with
  | .b x => f x
  | .n i => g i
theorem cW_elb {α : Type} {x : Bool} {f : Bool → Rx α} {g : Int → Rx α} {K : α → Prop} {E : Nat → Prop} (h : cW (Bi.el (.b x) f g) K E) : cW (f x) K E := h
theorem cW_eln {α : Type} {x : Int} {f : Bool → Rx α} {g : Int → Rx α} {K : α → Prop} {E : Nat → Prop} (h : cW (Bi.el (.n x) f g) K E) : cW (g x) K E := h
theorem rp_tup4 {α β γ δ : Type} {f : α → PyData} {g : β → PyData} {h : γ → PyData} {i : δ → PyData} {H : Hp} {v : V} {x : α × β × γ × δ} (r : Rp H v (encT4 f g h i x)) : ∃ a v1 v2 v3 v4, v = .ref a ∧ H a = some (.tup [v1, v2, v3, v4]) ∧ Rp H v1 (f x.1) ∧ Rp H v2 (g x.2.1) ∧ Rp H v3 (h x.2.2.1) ∧ Rp H v4 (i x.2.2.2) := by
  unfold encT4 at r
  cases r with
  | tup h1 h2 =>
    cases h2 with
    | cons a b =>
      cases b with
      | cons b c =>
        cases c with
        | cons c d =>
          cases d with
          | cons d e =>
            cases e
            exact ⟨_, _, _, _, _, rfl, h1, a, b, c, d⟩
theorem rp_mk4 {α β γ δ : Type} {f : α → PyData} {g : β → PyData} {h : γ → PyData} {i : δ → PyData} {H : Hp} {a : Addr} {v1 v2 v3 v4 : V} {x : α} {y : β} {z : γ} {w : δ} (h1 : H a = some (.tup [v1, v2, v3, v4])) (r1 : Rp H v1 (f x)) (r2 : Rp H v2 (g y)) (r3 : Rp H v3 (h z)) (r4 : Rp H v4 (i w)) : Rp H (.ref a) (encT4 f g h i (x, y, z, w)) := .tup h1 (.cons r1 (.cons r2 (.cons r3 (.cons r4 .nil))))
theorem Sep.b0M {M : List Addr} {H0 G0 G H : Hp} {O : List Addr} (S : Sep M H0 G0 G H O) (h : ∀ a ∈ M, H a = H0 a) : Same H0 H := fun b o e => by
  by_cases z : b ∈ M
  · rw [h b z]
    exact e
  · exact S.base b o e z
section
variable {X : Cx} {k j n : Nat} {f C : Addr} {fd : FuncData} {ps ks : List Str} {g : List V → List V → List V} {sp : Sp} {x m : Str} {pos p apos : Pos} {e o : Expr} {es : List Expr} {kws : List Keyword} {ta : TE} {t tk : TA} {W : WX}
/-- keywords alone -/
theorem vx_makeXK {pats : List Pat} (c : MakX X.prog X.w X.K X.mg X.base k x C sp pats) (pt : Pat) (hpt : pt ∈ pats) (hr : RoomG j X.A) (hk : k + 1 ≤ j) (tkW : Takes X W) (hg : Gl X x) (hkw : PK X kws tk)
    (hall : (backToKw pos (keywordEach kws X.env)).all (·.1.isSome) = true := by rfl) (hks : (backToKw pos (keywordEach kws X.env)).filterMap (·.1) = pt.2.1 := by rfl) (hdb : (x == ("__debug__" : Str)) = false := by decide)
    (hpl : ((backTo pos (starEach [] X.env)).any (·.1) || (backToKw pos (keywordEach kws X.env)).any (·.1.isNone)) = false := by rfl) :
    PE X (.Call (.Name x p) [] kws pos) (tMakeX C pt.1 pt.2.1.length sp pt.2.2 W tNil tk) := by
  obtain ⟨f, fd, ps, M, F, hm, b⟩ := c.ex
  refine ⟨fun pins s σ H Q I h => ?_⟩
  refine wpAny_Call_Name_kw (ld_glob I hg hm ?_ hdb)
  refine PySem.W.callWith_KW0 (h₀ := X.base) I.ok.mod.kin M.kp hall ?_ hpl
  refine thn (hkw.run pos pins s σ H _ I h) fun ws s2 ⟨zs, H2, I2, rz, l1, l2, q2⟩ => ⟨I2.kIn, ?_⟩
  rw [hks]
  exact run_mkX (us := []) (vs := []) M F (hr.low hk) (b pt hpt) tkW I2 .nil rz l1 l2 q2
theorem vx_callXK {pats : List Pat} (c : CalX X.prog X.w X.K X.mg X.base k x sp pats) (pt : Pat) (hpt : pt ∈ pats) (hr : RoomG j X.A) (hk : k ≤ j) (tkW : Takes X W) (hg : Gl X x) (hkw : PK X kws tk)
    (hall : (backToKw pos (keywordEach kws X.env)).all (·.1.isSome) = true := by rfl) (hks : (backToKw pos (keywordEach kws X.env)).filterMap (·.1) = pt.2.1 := by rfl) (hdb : (x == ("__debug__" : Str)) = false := by decide)
    (hpl : ((backTo pos (starEach [] X.env)).any (·.1) || (backToKw pos (keywordEach kws X.env)).any (·.1.isNone)) = false := by rfl) :
    PE X (.Call (.Name x p) [] kws pos) (tCallX pt.1 pt.2.1.length sp pt.2.2 W tNil tk) := by
  obtain ⟨f, fd, ps, F, hm, kp, b⟩ := c.ex
  refine ⟨fun pins s σ H Q I h => ?_⟩
  refine wpAny_Call_Name_kw (ld_glob I hg hm ?_ hdb)
  refine PySem.W.callWith_KW0 (h₀ := X.base) I.ok.mod.kin kp hall ?_ hpl
  refine thn (hkw.run pos pins s σ H _ I h) fun ws s2 ⟨zs, H2, I2, rz, l1, l2, q2⟩ => ⟨I2.kIn, ?_⟩
  rw [hks]
  exact run_X (us := []) (vs := []) F (hr.low hk) (b pt hpt) tkW I2 .nil rz l1 l2 q2
theorem vx_methXK {pats : List Pat} {pl : Sem Bool} (c : MetX X.prog X.w X.K X.mg X.base k C m sp pats) (pt : Pat) (hpt : pt ∈ pats) (hr : RoomG j X.A) (hk : k ≤ j) (tkW : Takes X W) (he : PE X o ta) (hkw : PK X kws tk)
    (hall : (backToKw pos (keywordEach kws X.env)).all (·.1.isSome) = true := by rfl) (hks : (backToKw pos (keywordEach kws X.env)).filterMap (·.1) = pt.2.1 := by rfl)
    (hpl : ((backTo pos (starEach [] X.env)).any (·.1) || (backToKw pos (keywordEach kws X.env)).any (·.1.isNone)) = false := by rfl)
    (ht : eval (.Call (.Attribute o m apos) [] kws pos) X.env = (do
      let ov ← eval o X.env
      standAt apos.atName
      let (f, first) ← holding [ov] (getMethod ov m pl)
      callWith pos f first (backTo pos (starEach [] X.env)) (backToKw pos (keywordEach kws X.env))) := by rfl) :
    PE X (.Call (.Attribute o m apos) [] kws pos) (tMethX C m pt.1 pt.2.1.length sp pt.2.2 W ta tNil tk) := by
  obtain ⟨f, fd, ps, hc, hm, F, b⟩ := c.ex
  refine ⟨fun pins s σ H Q I h => ?_⟩
  refine PySem.W.methodCall_KW (pl := pl) (thn (he.run pins s σ H _ I h) fun u s1 ⟨x, H1, I1, rx, a, dx, fs, ex, ea, l, q⟩ => ?_) ht
  subst ex
  obtain rfl : u = Value.ref a := rx
  refine getmeth_ok I1 ea hc hm l ?_
  refine PySem.W.callWith_KW0 (first := [.ref a]) (h₀ := X.base) I.ok.mod.kin hm.kp hall ?_ hpl
  refine thn (hkw.run pos pins s1 σ H1 _ I1 q) fun ws s3 ⟨zs, H3, I3, rz, l1, l2, q3⟩ => ⟨I3.kIn, ?_⟩
  rw [hks]
  exact run_X (us := [.ref a]) (vs := [.ref a]) F (hr.low hk) (b pt hpt) tkW I3 (.cons rfl .nil) rz l1 l2 q3
end
end Vx
/-! # lists within lists that are owned as a whole -/
namespace Vx
open PySem PySem.Spec PyProof.Rows L2
inductive Kd where
  | lst
  | tup
  | ins (C dx : Addr) (ns : List Str)
def Kd.ho : Kd → List V → HO
  | .lst, vs => .lst vs
  | .tup, vs => .tup vs
  | .ins C dx ns, vs => .ins C dx (ns.zip vs)
/-- what stands in the heap as a tree: values as they are, data that stay, nodes of its own -/
inductive Dt where
  | val (v : V)
  | frz (d : PyData)
  | nod (k : Kd) (xs : List Dt)
mutual
inductive Ow (G H : Hp) : List Addr → V → Dt → Prop
  | val (v : V) : Ow G H [] v (.val v)
  | frz {v : V} {d : PyData} : Rp G v d → Ow G H [] v (.frz d)
  | nod {a : Addr} {k : Kd} {vs : List V} {ds : List Dt} {L : List Addr} : H a = some (k.ho vs) → OwAll G H L vs ds → a ∉ L → Ow G H (a :: L) (.ref a) (.nod k ds)
inductive OwAll (G H : Hp) : List Addr → List V → List Dt → Prop
  | nil : OwAll G H [] [] []
  | cons {L1 L2 : List Addr} {v : V} {vs : List V} {d : Dt} {ds : List Dt} : Ow G H L1 v d → OwAll G H L2 vs ds → (∀ b ∈ L1, b ∉ L2) → OwAll G H (L1 ++ L2) (v :: vs) (d :: ds)
end
def Keeps (L : List Addr) (H H' : Hp) : Prop := ∀ b ∈ L, ∀ o, H b = some o → H' b = some o
mutual
theorem Ow.mono {G G' H H' : Hp} (e : Same G G') : ∀ {L : List Addr} {v : V} {d : Dt}, Keeps L H H' → Ow G H L v d → Ow G' H' L v d
  | _, _, _, _, .val v => .val v
  | _, _, _, _, .frz r => .frz (r.mono e)
  | _, _, _, k, .nod h r n => .nod (k _ List.mem_cons_self _ h) (OwAll.mono e (fun b hb => k b (List.mem_cons_of_mem _ hb)) r) n
theorem OwAll.mono {G G' H H' : Hp} (e : Same G G') : ∀ {L : List Addr} {vs : List V} {ds : List Dt}, Keeps L H H' → OwAll G H L vs ds → OwAll G' H' L vs ds
  | _, _, _, _, .nil => .nil
  | _, _, _, k, .cons a r d => .cons (Ow.mono e (fun b hb => k b (List.mem_append_left _ hb)) a) (OwAll.mono e (fun b hb => k b (List.mem_append_right _ hb)) r) d
end
mutual
theorem Ow.there {G H : Hp} : ∀ {L : List Addr} {v : V} {d : Dt}, Ow G H L v d → ∀ b ∈ L, H b ≠ none
  | _, _, _, .val _, _, hb => nomatch hb
  | _, _, _, .frz _, _, hb => nomatch hb
  | _, _, _, .nod h r n, b, hb => by
    rcases List.mem_cons.mp hb with rfl | hb
    · exact some_ne h
    · exact OwAll.there r b hb
theorem OwAll.there {G H : Hp} : ∀ {L : List Addr} {vs : List V} {ds : List Dt}, OwAll G H L vs ds → ∀ b ∈ L, H b ≠ none
  | _, _, _, .nil, _, hb => nomatch hb
  | _, _, _, .cons a r d, b, hb => by
    rcases List.mem_append.mp hb with hb | hb
    · exact Ow.there a b hb
    · exact OwAll.there r b hb
end
theorem OwAll.len {G H : Hp} : ∀ {L : List Addr} {vs : List V} {ds : List Dt}, OwAll G H L vs ds → vs.length = ds.length
  | _, _, _, .nil => rfl
  | _, _, _, .cons _ r _ => congrArg Nat.succ r.len
theorem OwAll.snoc {G H : Hp} {L1 : List Addr} {v : V} {d : Dt} (h : Ow G H L1 v d) : ∀ {L : List Addr} {vs : List V} {ds : List Dt}, OwAll G H L vs ds → (∀ b ∈ L, b ∉ L1) → OwAll G H (L ++ L1) (vs ++ [v]) (ds ++ [d])
  | _, _, _, .nil, _ => by
    have z : OwAll G H (L1 ++ []) [v] [d] := .cons h .nil (fun _ _ z => nomatch z)
    rw [List.append_nil] at z
    exact z
  | _, _, _, .cons (L1 := La) (L2 := Lb) a r n, k => by
    have z := OwAll.cons a (OwAll.snoc h r fun b hb => k b (List.mem_append_right _ hb)) (fun b hb q => by
      rcases List.mem_append.mp q with q | q
      · exact n b hb q
      · exact k b (List.mem_append_left _ hb) q)
    rw [← List.append_assoc] at z
    exact z
theorem OwAll.app {G H : Hp} {L2 : List Addr} {ws : List V} {es : List Dt} (h : OwAll G H L2 ws es) : ∀ {L : List Addr} {vs : List V} {ds : List Dt}, OwAll G H L vs ds → (∀ b ∈ L, b ∉ L2) → OwAll G H (L ++ L2) (vs ++ ws) (ds ++ es)
  | _, _, _, .nil, _ => h
  | _, _, _, .cons (L1 := La) (L2 := Lb) a r n, k => by
    have z := OwAll.cons a (OwAll.app h r fun b hb => k b (List.mem_append_right _ hb)) (fun b hb q => by
      rcases List.mem_append.mp q with q | q
      · exact n b hb q
      · exact k b (List.mem_append_left _ hb) q)
    rw [← List.append_assoc] at z
    exact z
/-! ### trees that are data -/
mutual
inductive Dd : Dt → PyData → Prop
  | non : Dd (.val .non) .none
  | bl (b : Bool) : Dd (.val (.bl b)) (.bool b)
  | int (i : Int) : Dd (.val (.int i)) (.int i)
  | str (x : Str) : Dd (.val (.str x)) (.str x)
  | frz (d : PyData) : Dd (.frz d) d
  | lst {xs : List Dt} {ds : List PyData} : DdAll xs ds → Dd (.nod .lst xs) (.list ds)
  | tup {xs : List Dt} {ds : List PyData} : DdAll xs ds → Dd (.nod .tup xs) (.tuple ds)
inductive DdAll : List Dt → List PyData → Prop
  | nil : DdAll [] []
  | cons {x : Dt} {xs : List Dt} {d : PyData} {ds : List PyData} : Dd x d → DdAll xs ds → DdAll (x :: xs) (d :: ds)
end
mutual
/-- read in any heap that holds its nodes -/
theorem Ow.rp {G H I : Hp} (e : Same G I) : ∀ {L : List Addr} {v : V} {d : Dt} {p : PyData}, Keeps L H I → Ow G H L v d → Dd d p → Rp I v p
  | _, _, _, _, _, .val _, .non => .non
  | _, _, _, _, _, .val _, .bl b => .bl b
  | _, _, _, _, _, .val _, .int i => .int i
  | _, _, _, _, _, .val _, .str x => .str x
  | _, _, _, _, _, .frz r, .frz _ => r.mono e
  | _, _, _, _, k, .nod h r _, .lst q => .lst (k _ List.mem_cons_self _ h) (OwAll.rp e (fun b hb => k b (List.mem_cons_of_mem _ hb)) r q)
  | _, _, _, _, k, .nod h r _, .tup q => .tup (k _ List.mem_cons_self _ h) (OwAll.rp e (fun b hb => k b (List.mem_cons_of_mem _ hb)) r q)
theorem OwAll.rp {G H I : Hp} (e : Same G I) : ∀ {L : List Addr} {vs : List V} {ds : List Dt} {ps : List PyData}, Keeps L H I → OwAll G H L vs ds → DdAll ds ps → RpAll I vs ps
  | _, _, _, _, _, .nil, .nil => .nil
  | _, _, _, _, k, .cons a r _, .cons x xs => .cons (Ow.rp e (fun b hb => k b (List.mem_append_left _ hb)) a x) (OwAll.rp e (fun b hb => k b (List.mem_append_right _ hb)) r xs)
end
def oI (i : Int) : Dt := .val (.int i)
def oB (b : Bool) : Dt := .val (.bl b)
def oF {α : Type} (f : α → PyData) (x : α) : Dt := .frz (f x)
def oL {α : Type} (f : α → Dt) (xs : List α) : Dt := .nod .lst (xs.map f)
def EncO {α : Type} (f : α → Dt) (g : α → PyData) : Prop := ∀ x, Dd (f x) (g x)
theorem encO_I : EncO oI PyData.int := fun i => .int i
theorem encO_B : EncO oB PyData.bool := fun i => .bl i
theorem encO_F {α : Type} {f : α → PyData} : EncO (oF f) f := fun _ => .frz _
theorem EncO.all {α : Type} {f : α → Dt} {g : α → PyData} (h : EncO f g) : ∀ xs : List α, DdAll (xs.map f) (xs.map g)
  | [] => .nil
  | x :: xs => .cons (h x) (EncO.all h xs)
theorem encO_L {α : Type} {f : α → Dt} {g : α → PyData} (h : EncO f g) : EncO (oL f) (encL g) := fun xs => .lst (h.all xs)
theorem keeps_same {L : List Addr} {H H' : Hp} (e : Same H H') : Keeps L H H' := fun b _ o q => e b o q
theorem keeps_refl {L : List Addr} {H : Hp} : Keeps L H H := fun _ _ _ q => q
theorem keeps_mut {L : List Addr} {H H' : Hp} {m : Addr} (x : SameX m H H') (n : ∀ b ∈ L, b ≠ m) : Keeps L H H' := fun b hb o q => x b o q (n b hb)
theorem keeps_muts {L M : List Addr} {H H' : Hp} (x : SameXs M H H') (n : ∀ b ∈ L, b ∉ M) : Keeps L H H' := fun b hb o q => x b o q (n b hb)
theorem keeps_hide {L M : List Addr} {H : Hp} (n : ∀ b ∈ L, b ∉ M) : Keeps L H (hideL M H) := fun b hb o q => by
  rw [hideL_out (n b hb)]
  exact q
section
variable {α : Type} {f : α → Dt} {g : α → PyData} {G H I : Hp} {L : List Addr} {vs : List V} {xs : List α}
theorem OwAll.rpA (w : OwAll G H L vs (xs.map f)) (h : EncO f g) (e : Same G H) : RpAll H vs (xs.map g) := OwAll.rp e keeps_refl w (h.all xs)
theorem OwAll.rpH (w : OwAll G H L vs (xs.map f)) (h : EncO f g) (e : Same G I) (k : Keeps L H I) : RpAll I vs (xs.map g) := OwAll.rp e k w (h.all xs)
theorem OwAll.lenM (w : OwAll G H L vs (xs.map f)) : vs.length = xs.length := by rw [w.len, List.length_map]
theorem OwAll.snocM {L1 : List Addr} {v : V} {y : α} (w : OwAll G H L vs (xs.map f)) (h : Ow G H L1 v (f y)) (n : ∀ b ∈ L, b ∉ L1) : OwAll G H (L ++ L1) (vs ++ [v]) ((xs ++ [y]).map f) := by
  rw [List.map_append]
  exact OwAll.snoc h w n
theorem Ow.ints {a : Addr} {ys : List Int} (h : H a = some (.lst (ys.map V.int))) : Ow G H [a] (.ref a) (oL oI ys) := by
  have z : ∀ ys : List Int, OwAll G H [] (ys.map V.int) (ys.map oI) := fun ys => by
    induction ys with
    | nil => exact .nil
    | cons y r ih => exact .cons (L1 := []) (L2 := []) (.val _) ih (fun _ z => nomatch z)
  exact .nod (k := .lst) h (z ys) (fun z => nomatch z)
theorem Ow.list {a : Addr} {xs : List α} {L : List Addr} {vs : List V} (h : H a = some (.lst vs)) (w : OwAll G H L vs (xs.map f)) (n : ∀ b ∈ L, b ≠ a) : Ow G H (a :: L) (.ref a) (oL f xs) := .nod (k := .lst) h w (fun z => n a z rfl)
theorem Ow.toList {v : V} {L : List Addr} {xs : List α} (w : Ow G H L v (oL f xs)) : ∃ a vs L', v = .ref a ∧ L = a :: L' ∧ H a = some (.lst vs) ∧ OwAll G H L' vs (xs.map f) ∧ ∀ b ∈ L', b ≠ a := by
  unfold oL at w
  cases w with
  | nod h r n => exact ⟨_, _, _, rfl, rfl, h, r, fun b hb z => n (z ▸ hb)⟩
theorem OwAll.toInts : ∀ {L : List Addr} {vs : List V} {xs : List Int}, OwAll G H L vs (xs.map oI) → L = [] ∧ vs = xs.map V.int
  | _, _, [], .nil => ⟨rfl, rfl⟩
  | _, _, x :: xs, .cons a r _ => by
    obtain ⟨h1, h2⟩ := OwAll.toInts r
    cases a
    exact ⟨by rw [h1] <;> rfl, by rw [h2] <;> rfl⟩
theorem Ow.toInts {v : V} {L : List Addr} {xs : List Int} (w : Ow G H L v (oL oI xs)) : ∃ a, v = .ref a ∧ L = [a] ∧ H a = some (.lst (xs.map V.int)) := by
  obtain ⟨a, vs, L', rfl, rfl, h, r, _⟩ := w.toList
  obtain ⟨rfl, rfl⟩ := r.toInts
  exact ⟨a, rfl, rfl, h⟩
/-- the part at a place, and how a change of it alone changes the whole -/
theorem OwAll.part : ∀ {L : List Addr} {vs : List V} {ds : List Dt} {i : Nat} {d : Dt}, OwAll G H L vs ds → ds[i]? = some d → ∃ v L1, vs[i]? = some v ∧ Ow G H L1 v d ∧ (∀ b ∈ L1, b ∈ L) ∧
    ∀ H' d', (∀ b ∈ L, b ∉ L1 → ∀ o, H b = some o → H' b = some o) → Ow G H' L1 v d' → OwAll G H' L vs (ds.set i d')
  | _, _, _, _, _, .nil, h => by simp at h
  | _, _, _, 0, _, .cons (L1 := La) (L2 := Lb) a r n, h => by
    simp at h
    subst h
    refine ⟨_, La, rfl, a, fun b hb => List.mem_append_left _ hb, fun H' d' k w => ?_⟩
    exact .cons w (OwAll.mono (Same.refl G) (fun b hb => k b (List.mem_append_right _ hb) fun z => n b z hb) r) n
  | _, _, _, i + 1, _, .cons (L1 := La) (L2 := Lb) a r n, h => by
    obtain ⟨v, L1, h1, h2, h3, h4⟩ := OwAll.part (i := i) r (by simpa using h)
    refine ⟨v, L1, by simpa using h1, h2, fun b hb => List.mem_append_right _ (h3 b hb), fun H' d' k w => ?_⟩
    refine .cons (Ow.mono (Same.refl G) (fun b hb => k b (List.mem_append_left _ hb) fun z => n b hb (h3 b z)) a) (h4 H' d' (fun b hb nb => k b (List.mem_append_right _ hb) nb) w) n
/-- the same, where the part grows: its new footprint is the old one and what is new -/
theorem OwAll.part2 : ∀ {L : List Addr} {vs : List V} {ds : List Dt} {i : Nat} {d : Dt}, OwAll G H L vs ds → ds[i]? = some d → ∃ v L1, vs[i]? = some v ∧ Ow G H L1 v d ∧ (∀ b ∈ L1, b ∈ L) ∧
    (∀ H' d', (∀ b ∈ L, b ∉ L1 → ∀ o, H b = some o → H' b = some o) → Ow G H' L1 v d' → OwAll G H' L vs (ds.set i d')) ∧
    ∀ H' d' Fv L1', (∀ b ∈ L, b ∉ L1 → ∀ o, H b = some o → H' b = some o) → (∀ b ∈ L1', b ∈ L1 ++ Fv) → (∀ b ∈ Fv, b ∉ L) → Ow G H' L1' v d' → ∃ L', (∀ b ∈ L', b ∈ L ++ Fv) ∧ OwAll G H' L' vs (ds.set i d')
  | _, _, _, _, _, .nil, h => by simp at h
  | _, _, _, 0, _, .cons (L1 := La) (L2 := Lb) a r n, h => by
    simp at h
    subst h
    refine ⟨_, La, rfl, a, fun b hb => List.mem_append_left _ hb, fun H' d' k w => ?_, fun H' d' Fv L1' k s nf w => ⟨L1' ++ Lb, fun b hb => ?_, ?_⟩⟩
    · exact .cons w (OwAll.mono (Same.refl G) (fun b hb => k b (List.mem_append_right _ hb) fun z => n b z hb) r) n
    · rcases List.mem_append.mp hb with hb | hb
      · rcases List.mem_append.mp (s b hb) with q | q
        · exact List.mem_append_left _ (List.mem_append_left _ q)
        · exact List.mem_append_right _ q
      · exact List.mem_append_left _ (List.mem_append_right _ hb)
    · refine .cons w (OwAll.mono (Same.refl G) (fun b hb => k b (List.mem_append_right _ hb) fun z => n b z hb) r) fun b hb q => ?_
      rcases List.mem_append.mp (s b hb) with z | z
      · exact n b z q
      · exact nf b z (List.mem_append_right _ q)
  | _, _, _, i + 1, _, .cons (L1 := La) (L2 := Lb) a r n, h => by
    obtain ⟨v, L1, h1, h2, h3, h4, h5⟩ := OwAll.part2 (i := i) r (by simpa using h)
    refine ⟨v, L1, by simpa using h1, h2, fun b hb => List.mem_append_right _ (h3 b hb), fun H' d' k w => ?_, fun H' d' Fv L1' k s nf w => ?_⟩
    · refine .cons (Ow.mono (Same.refl G) (fun b hb => k b (List.mem_append_left _ hb) fun z => n b hb (h3 b z)) a) (h4 H' d' (fun b hb nb => k b (List.mem_append_right _ hb) nb) w) n
    · obtain ⟨L', s2, z⟩ := h5 H' d' Fv L1' (fun b hb nb => k b (List.mem_append_right _ hb) nb) s (fun b hb q => nf b hb (List.mem_append_right _ q)) w
      refine ⟨La ++ L', fun b hb => ?_, .cons (Ow.mono (Same.refl G) (fun b hb => k b (List.mem_append_left _ hb) fun z => n b hb (h3 b z)) a) z fun b hb q => ?_⟩
      · rcases List.mem_append.mp hb with hb | hb
        · exact List.mem_append_left _ (List.mem_append_left _ hb)
        · rcases List.mem_append.mp (s2 b hb) with q | q
          · exact List.mem_append_left _ (List.mem_append_right _ q)
          · exact List.mem_append_right _ q
      · rcases List.mem_append.mp (s2 b q) with y | y
        · exact n b hb y
        · exact nf b y (List.mem_append_left _ hb)
theorem OwAll.partM [Inhabited α] {k : Int} (w : OwAll G H L vs (xs.map f)) (h : -(xs.length : Int) ≤ k ∧ k < xs.length) : ∃ v L1, atI vs k = some v ∧ Ow G H L1 v (f (itD xs k)) ∧ (∀ b ∈ L1, b ∈ L) ∧
    (∀ H' y, (∀ b ∈ L, b ∉ L1 → ∀ o, H b = some o → H' b = some o) → Ow G H' L1 v (f y) → OwAll G H' L vs ((setL xs k y).map f)) ∧
    ∀ H' y Fv L1', (∀ b ∈ L, b ∉ L1 → ∀ o, H b = some o → H' b = some o) → (∀ b ∈ L1', b ∈ L1 ++ Fv) → (∀ b ∈ Fv, b ∉ L) → Ow G H' L1' v (f y) → ∃ L', (∀ b ∈ L', b ∈ L ++ Fv) ∧ OwAll G H' L' vs ((setL xs k y).map f) := by
  obtain ⟨j, e, hj⟩ := ixN_some h
  have hx := List.getElem?_eq_getElem hj
  obtain ⟨v, L1, h1, h2, h3, h4, h5⟩ := OwAll.part2 (i := j) (d := f xs[j]) w (by rw [List.getElem?_map, hx] <;> rfl)
  have ei : itD xs k = xs[j] := by
    unfold itD atI
    rw [e]
    show (xs[j]?).getD default = _
    rw [hx] <;> rfl
  refine ⟨v, L1, ?_, by rw [ei]; exact h2, h3, fun H' y q w2 => ?_, fun H' y Fv L1' q s nf w2 => ?_⟩
  · unfold atI
    rw [w.lenM, e]
    exact h1
  · have z := h4 H' (f y) q w2
    unfold setL
    rw [e, List.map_set]
    exact z
  · obtain ⟨L', s2, z⟩ := h5 H' (f y) Fv L1' q s nf w2
    refine ⟨L', s2, ?_⟩
    unfold setL
    rw [e, List.map_set]
    exact z
theorem grow_keeps {L L1 : List Addr} {m : Addr} {H H1 H2 : Hp} (e : Same H H1) (x : SameX m H1 H2) (hm : m ∈ L1) : ∀ b ∈ L, b ∉ L1 → ∀ o, H b = some o → H2 b = some o := fun b _ n o q => x b o (e b o q) (fun z => n (z ▸ hm))
theorem grow_sub {a : Addr} {L' Lr Fv : List Addr} (h : ∀ b ∈ L', b ∈ Lr ++ Fv) : ∀ b ∈ a :: L', b ∈ (a :: Lr) ++ Fv := fun b hb => by
  rcases List.mem_cons.mp hb with rfl | hb
  · exact List.mem_cons_self
  · exact List.mem_cons_of_mem _ (h b hb)
/-- the item of a turn -/
theorem OwAll.turn {i : Nat} {v : V} (w : OwAll G H L vs (xs.map f)) (h : vs[i]? = some v) : ∃ x L1, xs[i]? = some x ∧ Ow G H L1 v (f x) ∧ ∀ b ∈ L1, b ∈ L := by
  have hl := get_len h
  have e := w.lenM
  have hx := List.getElem?_eq_getElem (show i < xs.length by omega)
  obtain ⟨v2, L1, h1, h2, h3, _⟩ := OwAll.part (i := i) (d := f xs[i]) w (by rw [List.getElem?_map, hx] <;> rfl)
  rw [h] at h1
  cases h1
  exact ⟨_, L1, hx, h2, h3⟩
end
/-! ### what is owned, in pieces -/
theorem all_app {P : Addr → Prop} {L l : List Addr} (h : ∀ x ∈ L, P x) (t : ∀ x ∈ l, P x) : ∀ x ∈ L ++ l, P x := fun x hx => by
  rcases List.mem_append.mp hx with q | q
  · exact h x q
  · exact t x q
theorem nm_nil {a : Addr} : a ∉ ([] : List Addr) := fun z => nomatch z
theorem nm_cons {a m : Addr} {l : List Addr} (h : a ≠ m) (t : a ∉ l) : a ∉ m :: l := fun z => by
  rcases List.mem_cons.mp z with q | q
  · exact h q
  · exact t q
theorem nm_app {a : Addr} {L l : List Addr} (h : a ∉ L) (t : a ∉ l) : a ∉ L ++ l := fun z => by
  rcases List.mem_append.mp z with q | q
  · exact h q
  · exact t q
theorem there_ne {H : Hp} {L : List Addr} {x : Addr} (t : ∀ b ∈ L, H b ≠ none) (n : H x = none) : ∀ b ∈ L, b ≠ x := fun b hb z => t b hb (z ▸ n)
theorem new_ne {H : Hp} {L : List Addr} {x : Addr} {o : HO} (n : ∀ b ∈ L, H b = none) (h : H x = some o) : ∀ b ∈ L, b ≠ x := fun b hb z => by
  have := n b hb
  rw [z, h] at this
  cases this
theorem new_nl {H : Hp} {L L2 : List Addr} (n : ∀ b ∈ L, H b = none) (t : ∀ b ∈ L2, H b ≠ none) : ∀ b ∈ L, b ∉ L2 := fun b hb z => t b z (n b hb)
theorem nl_symm {L L2 : List Addr} (h : ∀ b ∈ L, b ∉ L2) : ∀ b ∈ L2, b ∉ L := fun b hb z => h b z hb
theorem none_of_same {H H' : Hp} {x : Addr} (e : Same H H') (n : H' x = none) : H x = none := by
  cases q : H x with
  | none => rfl
  | some o =>
    rw [e x o q] at n
    cases n
section
variable {M : List Addr} {H0 G0 G H H' : Hp} {O L : List Addr} {p m : Addr} {o : HO}
theorem Sep.h0 (S : Sep M H0 G0 G H O) {b : Addr} (hb : b ∈ O) (hM : b ∉ M) : H0 b = none := (S.ow b hb).2.2.elim (fun z => (hM z).elim) id
theorem g_nl {a : Addr} {o : HO} (h : G a = some o) (S : Sep M H0 G0 G H O) (hL : ∀ b ∈ L, b ∈ O) : ∀ b ∈ L, b ≠ a := fun b hb => (g_ne h S (hL b hb)).symm
theorem b_nl {a : Addr} {o : HO} (h : (hideL M H0) a = some o) (S : Sep M H0 G0 G H O) (hL : ∀ b ∈ L, b ∈ O) : ∀ b ∈ L, b ≠ a := fun b hb => (b_ne h S (hL b hb)).symm
/-- a whole tree that is to stay as it is -/
theorem Sep.freezeL (S : Sep M H0 G0 G H O) {O' : List Addr} (hL : ∀ b ∈ L, b ∈ O) (h0 : ∀ b ∈ L, H0 b = none) (hO : ∀ b ∈ O', b ∈ O ∧ b ∉ L) : ∃ G', Same G G' ∧ Keeps L H G' ∧ Sep M H0 G0 G' H O' := by
  have gn : ∀ b ∈ L, G b = none := fun b hb => (S.ow b (hL b hb)).1
  refine ⟨fun b => if b ∈ L then H b else G b, fun b u q => ?_, fun b hb u q => ?_, S.base, S.pm, fun b u q => ?_, fun b u q => ?_, fun b hb gb => ?_, fun a ha => ?_⟩
  · have n : b ∉ L := fun z => by
      rw [gn b z] at q
      cases q
    show (if b ∈ L then H b else G b) = _
    rw [if_neg n]
    exact q
  · show (if b ∈ L then H b else G b) = _
    rw [if_pos hb]
    exact q
  · by_cases z : b ∈ L
    · exact (if_pos z).symm.trans q
    · exact S.sG b u ((if_neg z).symm.trans q)
  · have z : b ∉ L := fun z => by
      have := S.g0 b u q
      rw [gn b z] at this
      cases this
    show (if b ∈ L then H b else G b) = _
    rw [if_neg z]
    exact S.g0 b u q
  · have z : b ∉ L := fun z => hb (h0 b z)
    show (if b ∈ L then H b else G b) = _
    rw [if_neg z]
    exact S.gn b hb gb
  · obtain ⟨h1, h2⟩ := hO a ha
    refine ⟨?_, (S.ow a h1).2⟩
    show (if a ∈ L then H a else G a) = _
    rw [if_neg h2]
    exact (S.ow a h1).1
/-- a callee hands over a list of lists of its own making -/
theorem Sep.steptree (S : Sep M H0 G0 G H O) {G' : Hp} (e : Same H H') (eG : Same G G') (sG : Same G' H') (hn : ∀ b, H b ≠ none → G b = none → G' b = none) (L : List Addr) (hL : ∀ b ∈ L, H b = none ∧ G' b = none ∧ H' b ≠ none) : Sep M H0 G0 G' H' (L ++ O) := by
  have S2 := S.step e eG sG hn
  refine ⟨S2.base, S2.pm, S2.sG, S2.g0, S2.gn, all_app (fun b hb => ⟨(hL b hb).2.1, (hL b hb).2.2, .inr (S.free (hL b hb).1)⟩) S2.ow⟩
end
theorem Rp.list_of {α : Type} {g : α → PyData} {H : Hp} {a : Addr} {vs : List V} {xs : List α} (h : H a = some (.lst vs)) (r : RpAll H vs (xs.map g)) : Rp H (.ref a) (encL g xs) := .lst h r
/-! ### repr of data -/
mutual
def nodes : PyData → Nat
  | .list xs => 1 + nodesAll xs
  | .tuple xs => 1 + nodesAll xs
  | _ => 1
def nodesAll : List PyData → Nat
  | [] => 0
  | x :: xs => nodes x + nodesAll xs
end
mutual
def smallD : PyData → Bool
  | .none => true
  | .bool _ => true
  | .int i => decide (i.natAbs < 10 ^ 19)
  | .str x => decide ((reprText x).length ≤ 20)
  | .list xs => smallAll xs
  | .tuple xs => smallAll xs
  | _ => false
def smallAll : List PyData → Bool
  | [] => true
  | x :: xs => smallD x && smallAll xs
end
theorem piled_list (ts : List Str) : (listText ts).length ≤ piled ts + 2 := by
  cases ts with
  | nil => exact Nat.le_refl 2
  | cons t r =>
    have e : (listText (t :: r)).length = (textFrom 1 ("[" ++ ("" : String) ++ t) r).length + 1 := by
      show (textFrom 0 "[" (t :: r) ++ "]").length = _
      rw [strLen_append]
      rfl
    rw [e, textFrom_length_pos r 1 _ (by decide), piled_cons, strLen_append, strLen_append]
    have h1 : (("[" : String) : Str).length = 1 := rfl
    have h2 : (("" : String) : Str).length = 0 := rfl
    omega
theorem piled_tup (ts : List Str) : (tupleText ts).length ≤ piled ts + 3 := by
  unfold tupleText
  rw [strLen_append, strLen_append]
  have h1 : (("(" : String) : Str).length = 1 := rfl
  have h2 : (((if ts.length == 1 then ",)" else ")" : String) : Str)).length ≤ 2 := by split <;> decide
  by_cases h : ts = []
  · subst h
    exact Nat.le_of_lt (by decide)
  · have := join_length_add ts h
    omega
mutual
theorem small_shown : ∀ d : PyData, smallD d = true → d.shown.length + 4 ≤ 26 * nodes d ∧ d.showable = true ∧ d.hasDict = false
  | .none, _ => ⟨by simp only [PyData.shown, nodes]; decide, by simp [PyData.showable], by simp [PyData.hasDict]⟩
  | .bool b, _ => ⟨by cases b <;> simp only [PyData.shown, nodes] <;> decide, by simp [PyData.showable], by simp [PyData.hasDict]⟩
  | .int i, h => by
    have h : i.natAbs < 10 ^ 19 := by simpa [smallD] using h
    refine ⟨?_, ?_, by simp [PyData.hasDict]⟩
    · have := int_text_length_le10 (k := 19) (by decide) h
      simp only [PyData.shown, nodes]
      rw [PySem.ofString_length]
      omega
    · simp only [PyData.showable, decide_eq_true_eq]
      have : i.natAbs < 2 ^ 64 := by omega
      rcases Nat.eq_zero_or_pos i.natAbs with z | z
      · rw [z]
        decide
      · have := (Nat.log2_lt (by omega)).mpr this
        omega
  | .str x, h => by
    have h : (reprText x).length ≤ 20 := by simpa [smallD] using h
    refine ⟨by simp only [PyData.shown, nodes]; omega, by simp [PyData.showable], by simp [PyData.hasDict]⟩
  | .list xs, h => by
    obtain ⟨h1, h2, h3⟩ := small_shownAll xs (by simpa [smallD] using h)
    refine ⟨?_, by simpa [PyData.showable] using h2, by simpa [PyData.hasDict] using h3⟩
    have := piled_list (PyData.shownAll xs)
    simp only [PyData.shown, nodes]
    omega
  | .tuple xs, h => by
    obtain ⟨h1, h2, h3⟩ := small_shownAll xs (by simpa [smallD] using h)
    refine ⟨?_, by simpa [PyData.showable] using h2, by simpa [PyData.hasDict] using h3⟩
    have := piled_tup (PyData.shownAll xs)
    simp only [PyData.shown, nodes]
    omega
  | .dict kvs, h => by simp [smallD] at h
theorem small_shownAll : ∀ ds : List PyData, smallAll ds = true → piled (PyData.shownAll ds) ≤ 26 * nodesAll ds ∧ PyData.showableAll ds = true ∧ PyData.hasDictAll ds = false
  | [], _ => ⟨by simp [PyData.shownAll, nodesAll, piled], by simp [PyData.showableAll], by simp [PyData.hasDictAll]⟩
  | d :: ds, h => by
    have h : smallD d = true ∧ smallAll ds = true := by simpa [smallAll] using h
    obtain ⟨a1, a2, a3⟩ := small_shown d h.1
    obtain ⟨b1, b2, b3⟩ := small_shownAll ds h.2
    refine ⟨?_, by simp [PyData.showableAll, a2, b2], by simp [PyData.hasDictAll, a3, b3]⟩
    simp only [PyData.shownAll, nodesAll, piled_cons]
    omega
end
/-- data that repr may show -/
def ShowOk (d : PyData) : Prop := smallD d = true ∧ nodes d ≤ 600000 ∧ d.depth ≤ 60
instance (d : PyData) : Decidable (ShowOk d) := by unfold ShowOk; infer_instance
def rRepr : List V → Hp → VK → Prop := fun xs H Q => ∃ (a : Addr) (d : PyData), xs = [.ref a] ∧ Rp H (.ref a) d ∧ ShowOk d ∧ Q (.str d.shown) H
theorem call_reprD {X : Cx} (hg : X.A.guards = some []) (hu : X.A.units + 64 < cLine) : CallR X (.builtin "repr") rRepr := by
  intro pins s σ H xs us Q I r h
  obtain ⟨a, d, rfl, rp, ⟨ok, nd, dp⟩, q⟩ := h
  obtain ⟨h1, h2, h3⟩ := small_shown d ok
  cases r with
  | cons ra rn =>
    cases rn
    cases ra
    obtain ⟨as, reads⟩ := Dp.reads I d _ _ rp.dp rfl
    refine repr_of_reads' reads h2 (PyData.noDict_hsm h3) hg (by omega) (fun _ _ e => e) (fun h' u tk k => ⟨.str d.shown, H, I.kept k, ⟨u, rfl⟩, q⟩) ?_
    show d.shown.length ≤ 2 ^ 24
    omega
/-- small data: nodes, depth -/
def Sm (n k : Nat) (d : PyData) : Prop := smallD d = true ∧ nodes d ≤ n ∧ d.depth ≤ k
theorem Sm.imp {n k n' k' : Nat} {d : PyData} (h : Sm n k d) (a : n ≤ n') (b : k ≤ k') : Sm n' k' d := ⟨h.1, Nat.le_trans h.2.1 a, Nat.le_trans h.2.2 b⟩
theorem Sm.show {n k : Nat} {d : PyData} (h : Sm n k d) (a : n ≤ 600000 := by decide) (b : k ≤ 60 := by decide) : ShowOk d := h.imp a b
theorem sm_non : Sm 1 0 .none := ⟨by simp [smallD], by simp [nodes], by simp [PyData.depth]⟩
theorem sm_bool (b : Bool) : Sm 1 0 (.bool b) := ⟨by simp [smallD], by simp [nodes], by simp [PyData.depth]⟩
theorem sm_int {i : Int} (h : -10000000000000000000 < i ∧ i < 10000000000000000000) : Sm 1 0 (.int i) := ⟨by simp only [smallD, decide_eq_true_eq]; omega, by simp [nodes], by simp [PyData.depth]⟩
theorem sm_all {α : Type} {f : α → PyData} {n k : Nat} : ∀ {xs : List α}, (∀ x ∈ xs, Sm n k (f x)) → smallAll (xs.map f) = true ∧ nodesAll (xs.map f) ≤ xs.length * n ∧ PyData.depthAll (xs.map f) ≤ k
  | [], _ => ⟨by simp [smallAll], by simp [nodesAll], by simp [PyData.depthAll]⟩
  | x :: xs, h => by
    obtain ⟨a1, a2, a3⟩ := h x List.mem_cons_self
    obtain ⟨b1, b2, b3⟩ := sm_all fun y hy => h y (List.mem_cons_of_mem _ hy)
    refine ⟨by simp [smallAll, a1, b1], ?_, ?_⟩
    · simp only [List.map_cons, nodesAll, List.length_cons, Nat.succ_mul]
      omega
    · simp only [List.map_cons, PyData.depthAll]
      omega
theorem sm_L {α : Type} {f : α → PyData} {n k m : Nat} {xs : List α} (h : ∀ x ∈ xs, Sm n k (f x)) (hm : xs.length ≤ m) : Sm (1 + m * n) (k + 1) (encL f xs) := by
  obtain ⟨a1, a2, a3⟩ := sm_all h
  refine ⟨by simp [encL, smallD, a1], ?_, ?_⟩
  · have := Nat.mul_le_mul_right n hm
    simp only [encL, nodes]
    omega
  · simp only [encL, PyData.depth]
    omega
theorem sm_ints {xs : List Int} {m : Nat} (h : ∀ x ∈ xs, -10000000000000000000 < x ∧ x < 10000000000000000000) (hm : xs.length ≤ m) : Sm (1 + m * 1) 1 (encL PyData.int xs) := sm_L (fun x hx => sm_int (h x hx)) hm
theorem sm_T2 {α β : Type} {f : α → PyData} {g : β → PyData} {n k m j : Nat} {p : α × β} (h1 : Sm n k (f p.1)) (h2 : Sm m j (g p.2)) : Sm (1 + n + m) (max k j + 1) (encT2 f g p) := by
  obtain ⟨a1, a2, a3⟩ := h1
  obtain ⟨b1, b2, b3⟩ := h2
  refine ⟨by simp [encT2, smallD, smallAll, a1, b1], ?_, ?_⟩
  · simp only [encT2, nodes, nodesAll]
    omega
  · simp only [encT2, PyData.depth, PyData.depthAll]
    omega
theorem sm_T3 {α β γ : Type} {f : α → PyData} {g : β → PyData} {h : γ → PyData} {n k m j l i : Nat} {p : α × β × γ} (h1 : Sm n k (f p.1)) (h2 : Sm m j (g p.2.1)) (h3 : Sm l i (h p.2.2)) : Sm (1 + n + m + l) (max k (max j i) + 1) (encT3 f g h p) := by
  obtain ⟨a1, a2, a3⟩ := h1
  obtain ⟨b1, b2, b3⟩ := h2
  obtain ⟨c1, c2, c3⟩ := h3
  refine ⟨by simp [encT3, smallD, smallAll, a1, b1, c1], ?_, ?_⟩
  · simp only [encT3, nodes, nodesAll]
    omega
  · simp only [encT3, PyData.depth, PyData.depthAll]
    omega
end Vx
namespace Vx
open PySem PySem.Spec PyProof.Rows L2
theorem new_ne2 {H : Hp} {L : List Addr} {x : Addr} (n : ∀ b ∈ L, H b = none) (h : H x ≠ none) : ∀ b ∈ L, b ≠ x := fun b hb z => h (z ▸ n b hb)
theorem upd_tree {α : Type} {f : α → Dt} {G H H' : Hp} {L L1 : List Addr} {vs : List V} {xs : List α} {k : Int} {v : V} {m : Addr} {y : α} (up : ∀ H' y, (∀ b ∈ L, b ∉ L1 → ∀ o, H b = some o → H' b = some o) → Ow G H' L1 v (f y) → OwAll G H' L vs ((setL xs k y).map f)) (x : SameX m H H') (hm : m ∈ L1) (w : Ow G H' L1 v (f y)) :
    OwAll G H' L vs ((setL xs k y).map f) := up H' y (fun c _ n o q => x c o q (fun z => n (z ▸ hm))) w
theorem Ow.toFrz {α : Type} {f : α → PyData} {G H : Hp} {L : List Addr} {v : V} {x : α} (w : Ow G H L v (oF f x)) : L = [] ∧ Rp G v (f x) := by
  unfold oF at w
  cases w with
  | frz r => exact ⟨rfl, r⟩
section
variable {α : Type} {f : α → Dt} {G H : Hp} {L : List Addr} {vs : List V} {xs : List α}
theorem OwAll.pin {i : Nat} {v : V} {x : α} (w : OwAll G H L vs (xs.map f)) (h : vs[i]? = some v) (hx : xs[i]? = some x) : ∃ L1, Ow G H L1 v (f x) ∧ ∀ b ∈ L1, b ∈ L := by
  obtain ⟨y, L1, h1, h2, h3⟩ := OwAll.turn w h
  rw [hx] at h1
  cases h1
  exact ⟨L1, h2, h3⟩
theorem OwAll.pinInts {i : Nat} {b : Addr} {xs : List (List Int)} {x : List Int} (w : OwAll G H L vs (xs.map (oL oI))) (h : vs[i]? = some (.ref b)) (hx : xs[i]? = some x) : H b = some (.lst (x.map V.int)) ∧ b ∈ L := by
  obtain ⟨L1, w1, h1⟩ := OwAll.pin w h hx
  obtain ⟨c, e, rfl, h2⟩ := Ow.toInts w1
  cases e
  exact ⟨h2, h1 _ List.mem_cons_self⟩
end
end Vx
namespace Vx
open PySem PySem.Spec PyProof.Rows L2
theorem lookup_relab {c : Str → Bool} {y : Str} : ∀ l : List (Str × NameKind), (l.lookup y = some .cell ∨ l.lookup y = some .free) →
    ((l.map fun (n, k) => if (k == .free && c n) then (n, NameKind.cell) else (n, k)).lookup y = some .cell ∨ (l.map fun (n, k) => if (k == .free && c n) then (n, NameKind.cell) else (n, k)).lookup y = some .free)
  | [], h => by simp at h
  | (n, k) :: r, h => by
    rw [List.map_cons]
    dsimp only
    by_cases e : y == n
    · have hk : k = .cell ∨ k = .free := by
        rw [List.lookup_cons, e] at h
        simpa using h
      by_cases q : (k == .free && c n) = true
      · left
        rw [if_pos q, List.lookup_cons, e]
      · rw [if_neg q, List.lookup_cons, e]
        simpa using hk
    · have e : (y == n) = false := by simpa using e
      rw [List.lookup_cons, e] at h
      have ih := lookup_relab (c := c) r h
      by_cases q : (k == .free && c n) = true
      · rw [if_pos q, List.lookup_cons, e]
        exact ih
      · rw [if_neg q, List.lookup_cons, e]
        exact ih
theorem blk_relabel {N : List Str} {sc scope : Scope} {env : Env} {own : List (Str × Nat)} (h : BlkOk N sc scope own) : BlkOk N (relabel sc env) scope own := by
  refine ⟨h.kind, h.uniq, h.ix, fun y hy e => ?_, h.own⟩
  have z := lookup_relab (c := fun n => env.scope.kind == .function && env.kindOf n == some .cell) (y := y.1) sc.names (h.free y hy e)
  unfold relabel
  simpa only [Bool.and_assoc] using z
end Vx
namespace Vx
open PySem PySem.Spec PyProof.Rows L2
theorem FnG.low {P : Program} {w : World} {K : PySem.W.Frag} {mg : Str → Option Value} {base : Heap} {cx : CXT} {j k : Nat} {f : Addr} {fd : FuncData} {ps : List Str} {sp : Sp} (F : FnG P w K mg base cx j f fd ps sp) (h : j ≤ k) : FnG P w K mg base cx k f fd ps sp := ⟨F.len, fun A o s H a us vs Q E r => F.run A o s H a us vs Q E (r.low h)⟩
/-! ### a local name that holds one of several defs -/
structure HeldX (P : Program) (w : World) (K : PySem.W.Frag) (mg : Str → Option Value) (base : Heap) (k n : Nat) (f : Addr) (sp : Sp) : Prop where
  ex : ∃ (fd : FuncData) (ps : List Str), FnG P w K mg base (L2.CX P w) k f fd ps sp ∧ PySem.W.keepIn K (.ref f) = true ∧ Bnd K fd ps n [] (fun vs _ => vs)
theorem HeldX.of {P : Program} {w : World} {K : PySem.W.Frag} {mg : Str → Option Value} {base : Heap} {j k n : Nat} {x : Str} {sp : Sp} {pats : List Pat} {a : Addr} (c : CalX P w K mg base j x sp pats) (hx : mg x = some (.ref a)) (hp : (n, [], fun vs _ => vs) ∈ pats) (hj : j ≤ k) : HeldX P w K mg base k n a sp := by
  obtain ⟨f, fd, ps, F, hm, kp, b⟩ := c.ex
  rw [hx] at hm
  injection hm with hm
  injection hm with hm
  subst hm
  exact ⟨fd, ps, F.low hj, kp, b _ hp⟩
def tCallF (i n : Nat) (L : List (Addr × Sp)) (W : WX) (t : TA) : TE := fun σ H Q => ∃ f sp, σ[i]? = some (some (.ref f)) ∧ (f, sp) ∈ L ∧ t σ H fun vs H1 => vs.length = n ∧ ([] : List V).length = 0 ∧ sp vs H1 Q (WE W σ)
theorem vx_callF {X : Cx} {k j i n : Nat} {x : Str} {p pos : Pos} {e : Expr} {es : List Expr} {t : TA} {W : WX} (L : List (Addr × Sp)) (A : ∀ q ∈ L, HeldX X.prog X.w X.K X.mg X.base k n q.1 q.2) (hr : RoomG j X.A) (hk : k ≤ j) (tkW : Takes X W) (hN : X.N[i]? = some x) (hv : Vis X.env.scope x) (ha : PA X (e :: es) t)
    (hdb : (x == ("__debug__" : Str)) = false := by decide) (hcd : (x == ("__classdict__" : Str)) = false := by decide) (he : starEach (e :: es) X.env = (false, eval e X.env) :: starEach es X.env := by rfl) (hpl : (backTo pos (starEach es X.env)).any (·.1) = false := by rfl) :
    PE X (.Call (.Name x p) (e :: es) [] pos) (tCallF i n L W t) := by
  constructor
  intro pins s σ H Q I h
  obtain ⟨f, sp, slot, mem, rest⟩ := h
  obtain ⟨fd, ps, F, kp, b⟩ := (A _ mem).ex
  refine wpAny_Call_Name_kw (thn ((pe_var (pos := p) hN hv hdb hcd).run pins s σ H (fun v H1 => v = .ref f ∧ H1 = H) I ⟨.ref f, slot, rfl, rfl⟩) ?_)
  rintro u s1 ⟨v, H1, I1, r1, rfl, rfl⟩
  cases r1
  refine PySem.W.callWith_K (h₀ := X.base) I.ok.mod.kin kp (thn (ha.run pos pins s1 σ _ _ I1 rest) ?_) he hpl
  rintro us s2 ⟨vs, H2, I2, r, l1, l2, q⟩
  exact ⟨I2.kIn, run_X (us := us) (ws := []) (zs := []) F (hr.low hk) b tkW I2 r .nil l1 l2 q⟩
/-! ### the least of a list, the place of an item -/
def minL : List Int → Int
  | [] => 0
  | [x] => x
  | x :: y :: r => if x ≤ minL (y :: r) then x else minL (y :: r)
theorem minL_spec : ∀ (xs : List Int), xs ≠ [] → minL xs ∈ xs ∧ ∀ y ∈ xs, minL xs ≤ y
  | [], h => absurd rfl h
  | [x], _ => ⟨List.mem_cons_self, fun y hy => by rw [List.mem_singleton.mp hy]; exact Int.le_refl x⟩
  | x :: y :: r, _ => by
    obtain ⟨h1, h2⟩ := minL_spec (y :: r) (fun z => nomatch z)
    unfold minL
    split
    · refine ⟨List.mem_cons_self, fun z hz => ?_⟩
      rcases List.mem_cons.mp hz with rfl | hz
      · exact Int.le_refl _
      · have := h2 z hz
        omega
    · refine ⟨List.mem_cons_of_mem _ h1, fun z hz => ?_⟩
      rcases List.mem_cons.mp hz with rfl | hz
      · omega
      · exact h2 z hz
def maxL (xs : List Int) : Int := -(minL (xs.map fun x => -x))
theorem maxL_spec (xs : List Int) (h : xs ≠ []) : maxL xs ∈ xs ∧ ∀ y ∈ xs, y ≤ maxL xs := by
  obtain ⟨h1, h2⟩ := minL_spec (xs.map fun x => -x) (by simpa using h)
  obtain ⟨z, hz, e⟩ := List.mem_map.mp h1
  unfold maxL
  refine ⟨by rw [← e, Int.neg_neg]; exact hz, fun y hy => ?_⟩
  have := h2 _ (List.mem_map_of_mem hy)
  omega
section
variable {X : Cx} {K : PySem.W.Frag}
def rMinL (K : PySem.W.Frag) : List V → Hp → VK → Prop := fun vs H Q => ∃ (a : Addr) (ns : List Int), vs = [V.ref a] ∧ SqL K H a (ns.map V.int) ∧ ns ≠ [] ∧ Q (.int (minL ns)) H
def rMaxL (K : PySem.W.Frag) : List V → Hp → VK → Prop := fun vs H Q => ∃ (a : Addr) (ns : List Int), vs = [V.ref a] ∧ SqL K H a (ns.map V.int) ∧ ns ≠ [] ∧ Q (.int (maxL ns)) H
theorem cr_minL (hc : X.calm = true) (hK : X.K = K := by rfl) : CallR X (.builtin "min") (rMinL K) := by
  subst hK
  intro pins s σ H vs us Q I r h
  obtain ⟨a, ns, rfl, hs, hn, q⟩ := h
  refine cr_min hc pins s σ H _ us Q I r ⟨a, ns, rfl, hs, List.length_pos_iff.mpr hn, fun m hm hle => ?_⟩
  obtain ⟨h1, h2⟩ := minL_spec ns hn
  have e : m = minL ns := Int.le_antisymm (by have := hle _ h1; omega) (h2 m hm)
  rw [e]
  exact q
theorem cr_maxL (hc : X.calm = true) (hK : X.K = K := by rfl) : CallR X (.builtin "max") (rMaxL K) := by
  subst hK
  intro pins s σ H vs us Q I r h
  obtain ⟨a, ns, rfl, hs, hn, q⟩ := h
  refine cr_max hc pins s σ H _ us Q I r ⟨a, ns, rfl, hs, List.length_pos_iff.mpr hn, fun m hm hle => ?_⟩
  obtain ⟨h1, h2⟩ := maxL_spec ns hn
  have e : m = maxL ns := Int.le_antisymm (h2 m hm) (by have := hle _ h1; omega)
  rw [e]
  exact q
end
end Vx
namespace Vx
open PySem PySem.Spec PyProof.Rows L2
def idxL (ns : List Int) (i : Int) : Int := (ns.idxOf i : Nat)
def rIndexI (K : PySem.W.Frag) : V → List V → Hp → VK → Prop := fun x xs H Q => ∃ (a : Addr) (ns : List Int) (i : Int), x = V.ref a ∧ xs = [.int i] ∧ SqL K H a (ns.map V.int) ∧ i ∈ ns ∧ Q (.int (idxL ns i)) H
theorem mt_indexI {X : Cx} {K : PySem.W.Frag} (hK : X.K = K := by rfl) : MtR X "list.index" (rIndexI K) := by
  subst hK
  intro pins s σ H x xs v us Q I rx rxs h
  obtain ⟨a, ns, i, rfl, rfl, hs, hi, q⟩ := h
  have hl := List.idxOf_lt_length_of_mem hi
  refine mt_index pins s σ H _ _ v us Q I rx rxs ⟨a, _, .int i, ns.idxOf i, .int i, rfl, rfl, hs, rfl, flat_ints ns, ?_, by simp [eqV], fun m z hm hz => ?_, q⟩
  · rw [List.getElem?_map, List.getElem?_eq_getElem hl, List.getElem_idxOf hl] <;> rfl
  · rw [List.getElem?_map] at hz
    cases e : ns[m]? with
    | none => rw [e] at hz; cases hz
    | some y =>
      rw [e] at hz
      cases hz
      have hml : m < ns.length := by omega
      have hy : ns[m] = y := by
        rw [List.getElem?_eq_getElem hml] at e
        exact Option.some.inj e
      have := List.not_of_lt_findIdx (p := (· == i)) (xs := ns) (i := m) hm
      simp only [beq_iff_eq, hy] at this
      simp [eqV, this]
theorem cW_aftgo {σ ρ τ : Type} {s : σ} {kr : ρ → Rx τ} {k : σ → Rx τ} {K : τ → Prop} {E : Nat → Prop} (h : cW ((Lp.go s : Lp σ ρ).aft kr k) K E) : cW (k s) K E := h
end Vx
namespace Vx
open PySem PySem.Spec PyProof.Rows L2
/-! ### a truth value or a number beside a number -/
def Bi.num : Bi → Int
  | .b x => if x then 1 else 0
  | .n i => i
def Bi.dat : Bi → PyData
  | .b x => .bool x
  | .n i => .int i
section
variable {X : Cx}
def rEqBI : R2 := fun x y H Q => ∃ (b : Bi) (i : Int), x = biV b ∧ y = .int i ∧ Q (.bl (decide (b.num = i))) H
def rNeBI : R2 := fun x y H Q => ∃ (b : Bi) (i : Int), x = biV b ∧ y = .int i ∧ Q (.bl (!decide (b.num = i))) H
theorem eqv_bi (b : Bi) (i : Int) : PyData.eqv b.dat (.int i) = decide (b.num = i) := by
  cases b with
  | b x => cases x <;> (rw [Bool.eq_iff_iff]; simp [Bi.dat, Bi.num, PyData.eqv])
  | n j =>
    rw [Bool.eq_iff_iff]
    simp only [Bi.dat, Bi.num, PyData.eqv, beq_iff_eq]
    exact decide_eq_true_iff.symm
theorem dp_bi {K : PySem.W.Frag} {H : Hp} : ∀ b : Bi, Dp K H (biV b) b.dat
  | .b x => .bl x
  | .n i => .int i
theorem shaped_bi : ∀ b : Bi, SeqAt.shaped b.dat = true
  | .b x => by unfold SeqAt.shaped; simp [Bi.dat, PyData.canLay0, PyData.depth]
  | .n i => by unfold SeqAt.shaped; simp [Bi.dat, PyData.canLay0, PyData.depth]
theorem op_eqBI (hu : X.A.units + 64 < cLine) : OpR X (compareOp .Eq) rEqBI := by
  intro pins s σ H x y v u Q I rx ry h
  obtain ⟨b, i, rfl, rfl, q⟩ := h
  exact op_eqD hu pins s σ H _ _ v u Q I rx ry ⟨b.dat, .int i, dp_bi b, .int i, shaped_bi b, shaped_bi (.n i), by rw [eqv_bi]; exact q⟩
theorem op_neBI (hu : X.A.units + 64 < cLine) : OpR X (compareOp .NotEq) rNeBI := by
  intro pins s σ H x y v u Q I rx ry h
  obtain ⟨b, i, rfl, rfl, q⟩ := h
  exact op_neD hu pins s σ H _ _ v u Q I rx ry ⟨b.dat, .int i, dp_bi b, .int i, shaped_bi b, shaped_bi (.n i), by rw [eqv_bi]; exact q⟩
end
end Vx
namespace Vx
open PySem PySem.Spec PyProof.Rows L2
/-! ### == of own objects by an own __eq__ that never raises -/
section
variable {X : Cx} {k j : Nat}
def rEqX (C : Addr) (n mm : Nat) (sp : Sp) (g : List V → List V → List V) : R2 := fun x y H Q => ∃ (a b dx dy : Addr) (fs gs : List (Str × V)), x = .ref a ∧ y = .ref b ∧ H a = some (.ins C dx fs) ∧ H b = some (.ins C dy gs) ∧ 2 = n ∧ 0 = mm ∧ sp (g [x, y] []) H (fun v H' => (∃ r, v = .bl r) ∧ Q v H') E0
theorem op_eqX {C : Addr} {sp : Sp} {pats : List Pat} (c : MetX X.prog X.w X.K X.mg X.base k C "__eq__" sp pats) (pt : Pat) (hpt : pt ∈ pats) (hr : RoomG j X.A) (hk : k ≤ j) (hks : pt.2.1 = [] := by rfl) : OpR X (compareOp .Eq) (rEqX C pt.1 pt.2.1.length sp pt.2.2) := by
  intro pins s σ H x y v u Q I rx ry hq
  obtain ⟨a, b, dx, dy, fs, gs, rfl, rfl, ha, hb', l1, l2, q⟩ := hq
  obtain ⟨f, fd, ps, hc, hm, F, bb⟩ := c.ex
  cases rx
  cases ry
  obtain ⟨mA, J, _⟩ := ins_get I.hok ha
  obtain ⟨mB, J', _⟩ := ins_get I.hok hb'
  obtain ⟨od, J, _⟩ := J.look
  obtain ⟨od', J', _⟩ := J'.look
  obtain ⟨m, hF⟩ := I.fr
  have hz := run_X (us := [.ref a, .ref b]) (vs := [.ref a, .ref b]) (ws := []) (zs := []) F (hr.low hk) (bb pt hpt) (takes0 (X := X)) I (.cons rfl (.cons rfl .nil)) .nil l1 l2 q
  rw [hks] at hz
  show wpAny (model X.prog X.w) X.A (richCompare .Eq (.ref a) (.ref b)) (EP X pins σ Q) X.xe s
  refine PySem.W.cmp_K (op := .Eq) (tb := .ref C) (hr.low hk).toRoom.units0 hF I.ok.mod.kin J J'.type (by simp [PySem.W.notFirst]) hm.at_ hm.fn ?_
  refine wpAny_mono hz (fun r s' z => ?_) fun _ _ e => e
  obtain ⟨w, H', I', rw', ⟨⟨q1, rfl⟩, q2⟩⟩ := z
  cases rw'
  exact ⟨V.bl q1, H', I', rfl, q2⟩
end
end Vx
namespace Vx
open PySem PySem.Spec PyProof.Rows L2
/-! ### isinstance of the exception in hand: a built-in class, a tuple of classes -/
theorem kit_blt {K : PySem.W.Frag} {D : Addr} {T : String} {b : Bool} (h : PySem.W.subIn K (.ref D) (.type T) = some b) (h0 : PySem.W.kitMeta T = true := by decide +kernel) : PySem.W.kitOne K (.ref D) (.type T) = some b := by
  unfold PySem.W.kitOne
  rw [if_neg (show ¬ (Value.ref D == Value.type T) = true from fun z => nomatch (show false = true from z))]
  show (if PySem.W.kitMeta T = true then PySem.W.subIn K (.ref D) (.type T) else none) = some b
  rw [if_pos h0, h]
def rIsXB (K : PySem.W.Frag) (a : Addr) (cls : Value) (d : Option Addr) : List V → Hp → VK → Prop := fun xs H Q => ∃ (D : Addr) (T : String) (b : Bool), cls = .ref D ∧ d = none ∧ ExcC K D ∧ xs = [.ref a, .ty T] ∧ PySem.W.kitOne K (.ref D) (.type T) = some b ∧ Q (.bl b) H
theorem call_isXB {X : Cx} {K : PySem.W.Frag} {a : Addr} {cls : Value} {d : Option Addr} {oe : Obj} {pn : List (Addr × Obj)} (hz : Zc cls d oe) (hf : ∃ vs, oe.data = .fields vs) (hK : X.K = K := by rfl) : CallR (X.suite a ((a, oe) :: pn)) (.builtin "isinstance") (rIsXB K a cls d) := by
  subst hK
  intro pins s σ H xs us Q I r h
  obtain ⟨D, T, b, rfl, rfl, c, rfl, e, q⟩ := h
  exact call_isE c hz hf pins s σ H _ us Q I r ⟨_, _, b, rfl, fun u z => z, e, q⟩
def rIsXT (K : PySem.W.Frag) (a : Addr) (cls : Value) (d : Option Addr) : List V → Hp → VK → Prop := fun xs H Q => ∃ (D tp : Addr) (cs : List V) (ws : List Value) (b : Bool), cls = .ref D ∧ d = none ∧ ExcC K D ∧ xs = [.ref a, .ref tp] ∧ H tp = some (.tup cs) ∧ Paired ClsV cs ws ∧ PySem.W.kitAny K (.ref D) ws = some b ∧ Q (.bl b) H
theorem call_isXT {X : Cx} {K : PySem.W.Frag} {a : Addr} {cls : Value} {d : Option Addr} {oe : Obj} {pn : List (Addr × Obj)} (hz : Zc cls d oe) (hf : ∃ vs, oe.data = .fields vs) (hK : X.K = K := by rfl) : CallR (X.suite a ((a, oe) :: pn)) (.builtin "isinstance") (rIsXT K a cls d) := by
  subst hK
  intro pins s σ H xs us Q I r h
  obtain ⟨D, tp, cs, ws, b, rfl, rfl, C, rfl, hT, k, e, q⟩ := h
  cases r with
  | cons rx rr =>
    cases rr with
    | cons rt rr =>
      cases rr
      cases rx
      cases rt
      obtain ⟨hget, _⟩ := I.pin (a, oe) (List.mem_append.mpr (.inl List.mem_cons_self))
      obtain ⟨vs, hv⟩ := hf
      have J : PySem.W.InstAt s.heap a oe D none := by
        obtain ⟨oc, od, oda, osl⟩ := oe
        obtain ⟨h1, h2⟩ := hz
        dsimp only at h1 h2 hv
        subst h1 h2 hv
        exact ⟨hget, rfl, rfl, trivial⟩
      obtain ⟨_, its, rv, o, h1, h2, n, h3⟩ := (show ObjOk X.prog X.w H s.heap tp (.tup cs) from I.hok tp _ hT)
      have e3 := ClsV.all k rv
      subst e3
      obtain ⟨oc, od, dt, sl⟩ := o
      simp only at h2 h3
      subst h2 h3
      exact PySem.W.kia_tup (PySem.W.handS_kitx_exc C.hg C.hk C.hs C.hd C.ha C.hn C.ht C.hm) I.kIn J h1 e (fun z => nomatch z) fun tk => ⟨.bl b, H, I.kept (t' := tk) fun _ _ z => z, rfl, q⟩
theorem kit_self {K : PySem.W.Frag} {t : Value} (h : (t == t) = true := by simp) : PySem.W.kitOne K t t = some true := by
  unfold PySem.W.kitOne
  rw [if_pos h]
/-- what a class must say, so that isinstance asks its objects rightly -/
structure IsiC (K : PySem.W.Frag) (C : Addr) : Prop where
  ha : PySem.W.findIn K (.ref C) "__class__" = some (some (.builtin "object.__class__"))
  hn : PySem.W.specialIn K (.builtin "object.__class__") "__get__" = some (some (.builtin "getset_descriptor.__get__"))
  ht : PySem.W.takesIn K (.builtin "object.__class__") = some true
  hm : PySem.W.mroIn K C (.type "object") = some true
theorem tyX_ins {K : PySem.W.Frag} {H : Hp} {a C dx : Addr} {fs : List (Str × V)} (e : H a = some (.ins C dx fs)) (cl : Cls K C) (c : IsiC K C) : TyX K H (.ref a) (.ref C) := .base (.ins e cl c.ha c.hn c.ht c.hm)
end Vx
namespace Vx
open PySem PySem.Spec PyProof.Rows L2
theorem op_notTrue {X : Cx} : OpR X (compareOp .IsNot) (fun x y H Q => ∃ b : Bool, x = .bl b ∧ y = .bl true ∧ Q (.bl (!b)) H) := by
  intro pins s σ H x y v u Q I rx ry h
  obtain ⟨b, rfl, rfl, q⟩ := h
  cases rx
  cases ry
  show wpAny (model X.prog X.w) X.A (compareOp .IsNot (.bool b) (.bool true)) (EP X pins σ Q) X.xe s
  have e : compareOp .IsNot (.bool b) (.bool true) = pure (.bool (!b)) := by cases b <;> rfl
  rw [e]
  exact wpAny_pure ⟨.bl (!b), H, I, rfl, q⟩
end Vx
/-! # lists stored into trees -/
namespace Vx
open PySem PySem.Spec PyProof.Rows L2
section
variable {G H I : Hp} {α : Type} {f : α → Dt} {L : List Addr} {vs : List V} {xs : List α}
theorem OwAll.set {L1 : List Addr} {v : V} {d : Dt} (h : Ow G H L1 v d) : ∀ {L : List Addr} {vs : List V} {ds : List Dt} (i : Nat), i < ds.length → OwAll G H L vs ds → (∀ b ∈ L1, b ∉ L) → ∃ L', (∀ b ∈ L', b ∈ L ++ L1) ∧ OwAll G H L' (vs.set i v) (ds.set i d)
  | _, _, _, _, hi, .nil, _ => absurd hi (Nat.not_lt_zero _)
  | _, _, _, 0, _, .cons (L1 := La) (L2 := Lb) a r n, nf => by
    refine ⟨L1 ++ Lb, fun b hb => ?_, .cons h r fun b hb q => nf b hb (List.mem_append_right _ q)⟩
    rcases List.mem_append.mp hb with q | q
    · exact List.mem_append_right _ q
    · exact List.mem_append_left _ (List.mem_append_right _ q)
  | _, _, _, i + 1, hi, .cons (L1 := La) (L2 := Lb) a r n, nf => by
    obtain ⟨L', s, w⟩ := OwAll.set h i (Nat.lt_of_succ_lt_succ hi) r fun b hb q => nf b hb (List.mem_append_right _ q)
    refine ⟨La ++ L', fun b hb => ?_, .cons a w fun b hb q => ?_⟩
    · rcases List.mem_append.mp hb with q | q
      · exact List.mem_append_left _ (List.mem_append_left _ q)
      · rcases List.mem_append.mp (s b q) with z | z
        · exact List.mem_append_left _ (List.mem_append_right _ z)
        · exact List.mem_append_right _ z
    · rcases List.mem_append.mp (s b q) with z | z
      · exact n b hb z
      · exact nf b z (List.mem_append_left _ hb)
theorem ixN_len {k : Int} (e : vs.length = xs.length) (h : -(xs.length : Int) ≤ k ∧ k < xs.length) : ixN vs.length k = some ((ixN vs.length k).getD 0) := by
  rw [e]
  obtain ⟨j, hj, _⟩ := ixN_some h
  rw [hj]
  rfl
theorem OwAll.setM {k : Int} {L1 : List Addr} {v : V} {y : α} (w : OwAll G H L vs (xs.map f)) (h : -(xs.length : Int) ≤ k ∧ k < xs.length) (ow : Ow G H L1 v (f y)) (n : ∀ b ∈ L1, b ∉ L) :
    ∃ L', (∀ b ∈ L', b ∈ L ++ L1) ∧ OwAll G H L' (vs.set ((ixN vs.length k).getD 0) v) ((setL xs k y).map f) := by
  obtain ⟨j, e, hj⟩ := ixN_some h
  obtain ⟨L', s, z⟩ := OwAll.set ow j (by simpa using hj) w n
  refine ⟨L', s, ?_⟩
  unfold setL
  rw [w.lenM, e, List.map_set]
  exact z
end
theorem ne_of_len {α : Type} {xs : List α} (h : xs.length = 4 ∨ xs.length = 6 ∨ xs.length = 8) : xs ≠ [] := by
  rintro rfl
  simp at h
end Vx
namespace Vx
open PySem PySem.Spec PyProof.Rows L2
/-! ### written dicts of ints -/
inductive EI : List (Int × Int) → List DictEntry → Prop
  | nil : EI [] []
  | cons {k v : Int} {t u : Tok} {r : List (Int × Int)} {es : List DictEntry} (h : EI r es) : EI ((k, v) :: r) (⟨hashInt k, .int k t, .int v u⟩ :: es)
def lookI : List (Int × Int) → Int → Option Int
  | [], _ => none
  | (k, v) :: r, i => if i = k then some v else lookI r i
def KDI (K : PySem.W.Frag) (a : Addr) (kvs : List (Int × Int)) : Prop :=
  ∃ es n, K.lookup a = some ⟨.type "dict", none, .dict es n, #[]⟩ ∧ (a == sysModules) = false ∧ EI kvs es.toList
theorem lookI_mem {kvs : List (Int × Int)} {i : Int} : (lookI kvs i).isSome = decide (i ∈ kvs.map (·.1)) := by
  induction kvs with
  | nil => rfl
  | cons p r ih =>
    obtain ⟨k, v⟩ := p
    unfold lookI
    by_cases q : i = k
    · rw [if_pos q]; simp [q]
    · rw [if_neg q, ih]; simp [q]
theorem EI.find {i : Int} : ∀ {kvs : List (Int × Int)} {es : List DictEntry}, EI kvs es → match lookI kvs i with
    | some v => ∃ u, (es.find? fun e => keyIs (.inl i) e.key).map (·.val) = some (.int v u)
    | none => (es.find? fun e => keyIs (.inl i) e.key).map (·.val) = none
  | _, _, .nil => rfl
  | _, _, .cons (k := k) (v := v) (t := t) (u := u) (r := r) (es := es) h => by
    have ih := EI.find (i := i) h
    unfold lookI
    by_cases q : i = k
    · subst q
      rw [if_pos rfl]
      refine ⟨u, ?_⟩
      rw [List.find?_cons_of_pos (by exact keyIs_int i t)]
      rfl
    · rw [if_neg q]
      have e : ¬ (keyIs (.inl i) (Value.int k t) = true) := by
        intro z
        obtain ⟨t', e'⟩ := Value.isInt_shape (k := i) (v := Value.int k t) z
        injection e' with e1 _
        exact q e1.symm
      rw [List.find?_cons_of_neg (by exact e)]
      exact ih
theorem EI.keys {P : Program} {w : World} : ∀ {kvs : List (Int × Int)} {es : List DictEntry}, EI kvs es → ∀ e ∈ es, ∃ k, (mixKind P w).is k e.key = true ∧ e.hash = (mixKind P w).hash k
  | _, _, .nil, e, he => nomatch he
  | _, _, .cons (k := k) (t := t) h, e, he => by
    rcases List.mem_cons.mp he with rfl | he
    · exact ⟨.inl k, keyIs_int k t, rfl⟩
    · exact EI.keys h e he
section
variable {X : Cx} {K : PySem.W.Frag}
theorem KDI.map {d : Addr} {kvs : List (Int × Int)} {pins : List (Addr × Obj)} {σ : L2.St} {H : Hp} {s : Shared} (D : KDI X.K d kvs) (I : Inv X pins σ H s) : (d == sysModules) = false ∧ ∃ f, s.heap.MapOf (mixKind X.prog X.w) d f ∧ ∀ i, match lookI kvs i with
    | some v => ∃ u, f (.inl i) = some (.int v u)
    | none => f (.inl i) = none := by
  obtain ⟨es, n, hl, hd, he⟩ := D
  refine ⟨hd, fun k => findBy keyIs es k, ⟨_, es, n, I.kIn _ _ hl, ⟨rfl, rfl, rfl⟩, rfl, fun e q => EI.keys he e (Array.mem_toList_iff.mpr q), fun _ => rfl⟩, fun i => ?_⟩
  have := EI.find (i := i) he
  have e : findBy keyIs es (.inl i) = (es.toList.find? fun e => keyIs (.inl i) e.key).map (·.val) := by
    obtain ⟨l⟩ := es
    unfold findBy
    rw [List.find?_toArray]
  show match lookI kvs i with
    | some v => ∃ u, findBy keyIs es (.inl i) = some (.int v u)
    | none => findBy keyIs es (.inl i) = none
  rw [e]
  exact this
def rInDI (K : PySem.W.Frag) : R2 := fun x y H Q => ∃ (i : Int) (d : Addr) (kvs : List (Int × Int)) (ks : List Int), x = .int i ∧ y = .ref d ∧ KDI K d kvs ∧ ks = kvs.map (·.1) ∧ Q (.bl (decide (i ∈ ks))) H
def rNotInDI (K : PySem.W.Frag) : R2 := fun x y H Q => ∃ (i : Int) (d : Addr) (kvs : List (Int × Int)) (ks : List Int), x = .int i ∧ y = .ref d ∧ KDI K d kvs ∧ ks = kvs.map (·.1) ∧ Q (.bl (!decide (i ∈ ks))) H
def rIxDI (K : PySem.W.Frag) : R2 := fun x y H Q => ∃ (d : Addr) (i v : Int) (kvs : List (Int × Int)), x = .ref d ∧ y = .int i ∧ KDI K d kvs ∧ lookI kvs i = some v ∧ Q (.int v) H
theorem op_inDI (hK : X.K = K := by rfl) : OpR X (compareOp .In) (rInDI K) := by
  subst hK
  intro pins s σ H x y v u Q I rx ry h
  obtain ⟨i, d, kvs, ks, rfl, rfl, D, rfl, q⟩ := h
  rw [← lookI_mem] at q
  obtain ⟨t, rfl⟩ := rx
  cases ry
  obtain ⟨hd, f, hm, hf⟩ := D.map I
  refine wpAny_in_of (knd := mixKind X.prog X.w) (kV_is (k := .inl i) ⟨t, rfl⟩) hd hm ?_
  have e : (f (.inl i)).isSome = (lookI kvs i).isSome := by
    have := hf i
    split at this
    · next v hv => obtain ⟨u, hu⟩ := this; rw [hu, hv]; rfl
    · next hv => rw [this, hv]; rfl
  rw [e]
  exact ⟨.bl (lookI kvs i).isSome, H, I.tok _, rfl, q⟩
theorem op_notInDI (hK : X.K = K := by rfl) : OpR X (compareOp .NotIn) (rNotInDI K) := by
  subst hK
  intro pins s σ H x y v u Q I rx ry h
  obtain ⟨i, d, kvs, ks, rfl, rfl, D, rfl, q⟩ := h
  rw [← lookI_mem] at q
  obtain ⟨t, rfl⟩ := rx
  cases ry
  obtain ⟨hd, f, hm, hf⟩ := D.map I
  refine wpAny_notIn_of (knd := mixKind X.prog X.w) (kV_is (k := .inl i) ⟨t, rfl⟩) hd hm ?_
  have e : (f (.inl i)).isSome = (lookI kvs i).isSome := by
    have := hf i
    split at this
    · next v hv => obtain ⟨u, hu⟩ := this; rw [hu, hv]; rfl
    · next hv => rw [this, hv]; rfl
  rw [e]
  exact ⟨.bl (!(lookI kvs i).isSome), H, I.tok _, rfl, q⟩
theorem ix_DI (hK : X.K = K := by rfl) : IxR X (rIxDI K) := by
  subst hK
  intro value slice pins s σ H x y v u Q I rx ry h hs
  obtain ⟨p, i, r, kvs, rfl, rfl, D, e, q⟩ := h
  obtain rfl : v = Value.ref p := rx
  obtain ⟨t, rfl⟩ := ry
  obtain ⟨hd, f, hm, hf⟩ := D.map I
  have := hf i
  rw [e] at this
  obtain ⟨u, hu⟩ := this
  exact tail_any hm.typeIs slot_dict_getitem.lookup (wpAny_getItem_of (knd := mixKind X.prog X.w) (kV_is (k := .inl i) ⟨t, rfl⟩) hm hu ⟨.int r, H, I.tok _, ⟨_, rfl⟩, q⟩) hs
end
/-- the value at a key that is there -/
def dictI (kvs : List (Int × Int)) (i : Int) : Int := (lookI kvs i).getD 0
theorem lookI_at {kvs : List (Int × Int)} {i : Int} (h : i ∈ kvs.map (·.1)) : lookI kvs i = some (dictI kvs i) := by
  have := lookI_mem (kvs := kvs) (i := i)
  rw [decide_eq_true h] at this
  unfold dictI
  cases e : lookI kvs i with
  | none => rw [e] at this; cases this
  | some v => rfl
/-! ### walks over two lists, over numbered items, backwards -/
theorem pi_enumK {X : Cx} {K : PySem.W.Frag} {e : Expr} {ta : TA} {p pos tpos : Pos} {elts : List Expr} {kk : Nat} (hg : Gl X "enumerate") (hm : X.mg "enumerate" = none) (ha : PA X [e] ta) (hK : X.K = K := by rfl) (hs : starEach [e] X.env = [(false, eval e X.env)] := by rfl) :
    PI X (.Tuple elts kk tpos) (.Call (.Name "enumerate" p) [e] [] pos) (iEnum K ta) := hK ▸ pi_enum hg hm ha hs
section
variable {K : PySem.W.Frag} {a b : Addr} {xs ys : List V} {g : TG} {tb : TS} {tt : TT} {te : TE} {D : Ends} {σ : L2.St} {H H1 : Hp} {vs : List Nat} {DD : Addr} {Qd : Hp → Prop}
theorem for_enum (Pv : Nat → L2.St → Hp → Prop) (h0 : Pv 0 σ H) (hq : ∀ i σ H, Pv i σ H → SqL K H a xs)
    (hs : ∀ (i : Nat) (y : V) (T : Addr) (σ : L2.St) (H : Hp), xs[i]? = some y → H T = none → Pv i σ H → g (.ref T) σ (upd H T (.tup [.int (i : Nat), y])) fun σ2 H2 => tb { D with nx := Pv (i + 1), ct := Pv (i + 1), bk := D.nx } σ2 H2) (hd : ∀ σ H, Pv xs.length σ H → D.nx σ H) :
    ∃ W : Nat → Nat → L2.St → Hp → Prop, (∃ m, W 0 m σ H) ∧ ∀ i m σ H, W i m σ H →
      ((Ite K a).stop i H ∧ D.nx σ H) ∨ ((Ite K a).go i H ∧ ∃ N : L2.St → Hp → Prop, (∀ σ' H', N σ' H' → ∃ m', m' < m ∧ W (i + 1) m' σ' H') ∧ ∀ v H', (Ite K a).yld i H v H' → g v σ H' fun σ2 H2 => tb { D with nx := N, ct := N, bk := D.nx } σ2 H2) := by
  refine for_it walk_enum Pv h0 (fun i σ H _ p => hq i σ H p) (fun i x σ H H' hi p y => ?_) hd
  obtain ⟨T, x1, y1, rfl, hT, rfl, h1, h2⟩ := y
  cases h1
  exact hs i y1 T σ H h2 hT p
theorem lc_enum (Pv : Nat → Hp → Prop) (h0 : Pv 0 (upd H1 DD (.lst []))) (hq : ∀ i H, i ≤ xs.length → Pv i H → SqL K H a xs)
    (hs : ∀ (i : Nat) (y : V) (T : Addr) (H : Hp), xs[i]? = some y → H T = none → Pv i H → g (.ref T) (wipe σ vs) (upd H T (.tup [.int (i : Nat), y])) fun σ2 H2 => wipe σ2 vs = wipe σ vs ∧ tt σ2 H2 fun b H3 =>
      if b = true then te σ2 H3 fun y H4 => ∃ acc, H4 DD = some (.lst acc) ∧ acc.length < sizeLine ∧ Pv (i + 1) (upd H4 DD (.lst (acc ++ [y]))) else Pv (i + 1) H3) (hd : ∀ H, Pv xs.length H → Qd H) :
    ∃ W : Nat → Nat → Hp → Prop, (∃ m, W 0 m (upd H1 DD (.lst []))) ∧ ∀ i m H, W i m H →
      ((Ite K a).stop i H ∧ Qd H) ∨ ((Ite K a).go i H ∧ ∃ Nx : Hp → Prop, (∀ H', Nx H' → ∃ m', m' < m ∧ W (i + 1) m' H') ∧ ∀ x H', (Ite K a).yld i H x H' → g x (wipe σ vs) H' fun σ2 H2 => wipe σ2 vs = wipe σ vs ∧ tt σ2 H2 fun b H3 =>
        if b = true then te σ2 H3 fun y H4 => ∃ acc, H4 DD = some (.lst acc) ∧ acc.length < sizeLine ∧ Nx (upd H4 DD (.lst (acc ++ [y]))) else Nx H3) := by
  refine lc_it walk_enum Pv h0 hq (fun i x H H' hi p y => ?_) hd
  obtain ⟨T, x1, y1, rfl, hT, rfl, h1, h2⟩ := y
  cases h1
  exact hs i y1 T H h2 hT p
/-- zip of two lists of any lengths -/
theorem for_zipM (n : Nat) (hn : n = min xs.length ys.length) (Pv : Nat → L2.St → Hp → Prop) (h0 : Pv 0 σ H) (hq : ∀ i σ H, Pv i σ H → SqL K H a xs ∧ SqL K H b ys)
    (hs : ∀ (i : Nat) (x y : V) (T : Addr) (σ : L2.St) (H : Hp), xs[i]? = some x → ys[i]? = some y → H T = none → Pv i σ H → g (.ref T) σ (upd H T (.tup [x, y])) fun σ2 H2 => tb { D with nx := Pv (i + 1), ct := Pv (i + 1), bk := D.nx } σ2 H2) (hd : ∀ σ H, Pv n σ H → D.nx σ H) :
    ∃ W : Nat → Nat → L2.St → Hp → Prop, (∃ m, W 0 m σ H) ∧ ∀ i m σ H, W i m σ H →
      ((Itz K a b).stop i H ∧ D.nx σ H) ∨ ((Itz K a b).go i H ∧ ∃ N : L2.St → Hp → Prop, (∀ σ' H', N σ' H' → ∃ m', m' < m ∧ W (i + 1) m' σ' H') ∧ ∀ v H', (Itz K a b).yld i H v H' → g v σ H' fun σ2 H2 => tb { D with nx := N, ct := N, bk := D.nx } σ2 H2) := by
  refine for_it (walk_zip hn) Pv h0 (fun i σ H _ p => hq i σ H p) (fun i x σ H H' hi p y => ?_) hd
  obtain ⟨T, x1, y1, rfl, hT, rfl, h1, h2⟩ := y
  exact hs i x1 y1 T σ H h1 h2 hT p
theorem lc_zipM (n : Nat) (hn : n = min xs.length ys.length) (Pv : Nat → Hp → Prop) (h0 : Pv 0 (upd H1 DD (.lst []))) (hq : ∀ i H, i ≤ n → Pv i H → SqL K H a xs ∧ SqL K H b ys)
    (hs : ∀ (i : Nat) (x y : V) (T : Addr) (H : Hp), xs[i]? = some x → ys[i]? = some y → H T = none → Pv i H → g (.ref T) (wipe σ vs) (upd H T (.tup [x, y])) fun σ2 H2 => wipe σ2 vs = wipe σ vs ∧ tt σ2 H2 fun b H3 =>
      if b = true then te σ2 H3 fun y H4 => ∃ acc, H4 DD = some (.lst acc) ∧ acc.length < sizeLine ∧ Pv (i + 1) (upd H4 DD (.lst (acc ++ [y]))) else Pv (i + 1) H3) (hd : ∀ H, Pv n H → Qd H) :
    ∃ W : Nat → Nat → Hp → Prop, (∃ m, W 0 m (upd H1 DD (.lst []))) ∧ ∀ i m H, W i m H →
      ((Itz K a b).stop i H ∧ Qd H) ∨ ((Itz K a b).go i H ∧ ∃ Nx : Hp → Prop, (∀ H', Nx H' → ∃ m', m' < m ∧ W (i + 1) m' H') ∧ ∀ x H', (Itz K a b).yld i H x H' → g x (wipe σ vs) H' fun σ2 H2 => wipe σ2 vs = wipe σ vs ∧ tt σ2 H2 fun b H3 =>
        if b = true then te σ2 H3 fun y H4 => ∃ acc, H4 DD = some (.lst acc) ∧ acc.length < sizeLine ∧ Nx (upd H4 DD (.lst (acc ++ [y]))) else Nx H3) := by
  refine lc_it (walk_zip hn) Pv h0 hq (fun i x H H' hi p y => ?_) hd
  obtain ⟨T, x1, y1, rfl, hT, rfl, h1, h2⟩ := y
  exact hs i x1 y1 T H h1 h2 hT p
end
theorem zipM_len {α β : Type} {xs : List α} {ys : List β} : min xs.length ys.length = (xs.zip ys).length := by rw [List.length_zip]
theorem zipM_n {α β : Type} {vs ws : List V} {xs : List α} {ys : List β} (a : vs.length = xs.length) (b : ws.length = ys.length) : min xs.length ys.length = min vs.length ws.length := by rw [a, b]
def rListTK (K : PySem.W.Frag) : List V → Hp → VK → Prop := fun xs H Q => ∃ (p : Addr) (vs : List V), xs = [.ref p] ∧ SqT K H p vs ∧ ∀ l, H l = none → Q (.ref l) (upd H l (.lst vs))
theorem call_listTK {X : Cx} {K : PySem.W.Frag} (hK : X.K = K := by rfl) : CallR X (.type "list") (rListTK K) := by
  subst hK
  intro pins s σ H xs us Q I r h
  obtain ⟨p, vs, rfl, hs, q⟩ := h
  exact call_list_of pins s σ H _ us Q I r ⟨p, _, rfl, Or.inr hs, q⟩
/-- two lists that keep step -/
inductive F2 {α β : Type} (P : α → β → Prop) : List α → List β → Prop
  | nil : F2 P [] []
  | cons {a : α} {b : β} {l : List α} {m : List β} (h : P a b) (t : F2 P l m) : F2 P (a :: l) (b :: m)
theorem F2.get {α β : Type} {P : α → β → Prop} : ∀ {l : List α} {m : List β}, F2 P l m → ∀ (j : Nat), j < l.length → ∃ a b, l[j]? = some a ∧ m[j]? = some b ∧ P a b
  | _, _, .nil, j, h => absurd h (Nat.not_lt_zero _)
  | _, _, .cons h t, 0, _ => ⟨_, _, rfl, rfl, h⟩
  | _, _, .cons h t, j + 1, hj => t.get j (Nat.lt_of_succ_lt_succ hj)
theorem F2.at {α β : Type} [Inhabited α] [Inhabited β] {P : α → β → Prop} {l : List α} {m : List β} (h : F2 P l m) (k : Int) (h0 : 0 ≤ k) (h1 : k < l.length) : P (itD l k) (itD m k) := by
  obtain ⟨j, rfl⟩ : ∃ j : Nat, k = (j : Int) := ⟨k.toNat, by omega⟩
  obtain ⟨a, b, ha, hb, p⟩ := h.get j (by omega)
  have e1 : itD l (j : Int) = a := by unfold itD; rw [atI_nat ha]; rfl
  have e2 : itD m (j : Int) = b := by unfold itD; rw [atI_nat hb]; rfl
  rw [e1, e2]
  exact p
theorem SqT.cast {K : PySem.W.Frag} {H : Hp} {a : Addr} {xs ys : List V} (h : SqT K H a xs) (e : xs = ys) : SqT K H a ys := e ▸ h
/-- enumerate(xs) -/
def enumL {α : Type} (xs : List α) : List (Int × α) := (rng 0 xs.length).zip xs
theorem enumL_len {α : Type} (xs : List α) : (enumL xs).length = xs.length := by
  unfold enumL
  rw [List.length_zip, rng_len, Nat.min_self]
theorem enumL_get {α : Type} {xs : List α} {i : Nat} {x : α} (h : xs[i]? = some x) : (enumL xs)[i]? = some ((i : Int), x) := by
  have hl : i < xs.length := (List.getElem?_eq_some_iff.mp h).1
  unfold enumL
  rw [List.getElem?_zip_eq_some]
  refine ⟨?_, h⟩
  have := rng_get (lo := 0) hl
  rw [this]
  congr 1
  omega
end Vx
namespace Vx
open PySem PySem.Spec PyProof.Rows L2
theorem wipe_get : ∀ (σ : L2.St) (vs : List Nat) (j : Nat), (wipe σ vs)[j]? = if j ∈ vs ∧ j < σ.length then some none else σ[j]?
  | σ, [], j => by simp [wipe]
  | σ, v :: vs, j => by
    unfold wipe
    by_cases e : v = j
    · subst e
      by_cases h : v < σ.length
      · rw [List.getElem?_set_self (by rw [wipe_length]; exact h), if_pos ⟨List.mem_cons_self, h⟩]
      · rw [if_neg (fun z => h z.2), List.getElem?_eq_none (by rw [List.length_set, wipe_length]; omega), List.getElem?_eq_none (by omega)]
    · rw [List.getElem?_set_ne e, wipe_get σ vs j]
      have : (j ∈ v :: vs ∧ j < σ.length) ↔ (j ∈ vs ∧ j < σ.length) := by
        constructor
        · rintro ⟨h1, h2⟩
          rcases List.mem_cons.mp h1 with rfl | h1
          · exact absurd rfl e
          · exact ⟨h1, h2⟩
        · rintro ⟨h1, h2⟩
          exact ⟨List.mem_cons_of_mem _ h1, h2⟩
      by_cases q : j ∈ vs ∧ j < σ.length
      · rw [if_pos q, if_pos (this.mpr q)]
      · rw [if_neg q, if_neg (fun z => q (this.mp z))]
theorem wipe_wipe {σ : L2.St} {vs : List Nat} : wipe (wipe σ vs) vs = wipe σ vs := by
  apply List.ext_getElem?
  intro j
  rw [wipe_get (wipe σ vs), wipe_length]
  by_cases q : j ∈ vs ∧ j < σ.length
  · rw [if_pos q, wipe_get, if_pos q]
  · rw [if_neg q]
theorem wipe_set {σ : L2.St} {vs : List Nat} {v : Nat} {x : Option V} (h : v ∈ vs) : wipe (σ.set v x) vs = wipe σ vs := by
  apply List.ext_getElem?
  intro j
  rw [wipe_get, wipe_get, List.length_set]
  by_cases q : j ∈ vs ∧ j < σ.length
  · rw [if_pos q, if_pos q]
  · rw [if_neg q, if_neg q]
    by_cases e : v = j
    · subst e
      have hl : ¬ v < σ.length := fun z => q ⟨h, z⟩
      rw [List.getElem?_eq_none (by rw [List.length_set]; omega), List.getElem?_eq_none (by omega)]
    · rw [List.getElem?_set_ne e]
/-- a comprehension over a step range -/
theorem lc_rangeC {lo c : Int} {n : Nat} {g : TG} {tt : TT} {te : TE} {vs : List Nat} {σ : L2.St} {H1 : Hp} {D : Addr} {Qd : Hp → Prop} (Pv : Nat → Hp → Prop) (h0 : Pv 0 (upd H1 D (.lst [])))
    (hs : ∀ i H, i < n → Pv i H → g (.int (lo + (i : Nat) * c)) (wipe σ vs) H fun σ2 H2 => wipe σ2 vs = wipe σ vs ∧ tt σ2 H2 fun b H3 =>
      if b = true then te σ2 H3 fun y H4 => ∃ acc, H4 D = some (.lst acc) ∧ acc.length < sizeLine ∧ Pv (i + 1) (upd H4 D (.lst (acc ++ [y]))) else Pv (i + 1) H3) (hd : ∀ H, Pv n H → Qd H) :
    ∃ W : Nat → Nat → Hp → Prop, (∃ m, W 0 m (upd H1 D (.lst []))) ∧ ∀ i m H, W i m H →
      ((Itc lo c n).stop i H ∧ Qd H) ∨ ((Itc lo c n).go i H ∧ ∃ Nx : Hp → Prop, (∀ H', Nx H' → ∃ m', m' < m ∧ W (i + 1) m' H') ∧ ∀ x H', (Itc lo c n).yld i H x H' → g x (wipe σ vs) H' fun σ2 H2 => wipe σ2 vs = wipe σ vs ∧ tt σ2 H2 fun b H3 =>
        if b = true then te σ2 H3 fun y H4 => ∃ acc, H4 D = some (.lst acc) ∧ acc.length < sizeLine ∧ Nx (upd H4 D (.lst (acc ++ [y]))) else Nx H3) := by
  refine ⟨fun i m H => m = n - i ∧ i ≤ n ∧ Pv i H, ⟨n, by simp, Nat.zero_le _, h0⟩, ?_⟩
  rintro i m H ⟨rfl, hi, p⟩
  rcases Nat.lt_or_ge i n with hlt | hge
  · refine .inr ⟨hlt, Pv (i + 1), fun H' p' => ⟨n - (i + 1), by omega, rfl, hlt, p'⟩, fun x H' y => ?_⟩
    obtain ⟨e, y⟩ := y
    subst e y
    exact hs i _ hlt p
  · cases Nat.le_antisymm hi hge
    exact .inl ⟨Nat.le_refl _, hd H p⟩

/-! ### reversed(list of ints), any(list of ints) -/
theorem pi_revK {X : Cx} {K : PySem.W.Frag} {tg : Expr} {e : Expr} {ta : TA} {p pos : Pos} (hg : Gl X "reversed") (hm : X.mg "reversed" = none) (ha : PA X [e] ta) (hK : X.K = K := by rfl) (hs : starEach [e] X.env = [(false, eval e X.env)] := by rfl) :
    PI X tg (.Call (.Name "reversed" p) [e] [] pos) (iRev K ta) := hK ▸ pi_reversed hg hm ha hs
theorem for_revI {K : PySem.W.Frag} {a : Addr} {xs : List Int} {g : TG} {tb : TS} {D : Ends} {σ : L2.St} {H : Hp} (Pv : Nat → L2.St → Hp → Prop) (h0 : Pv 0 σ H) (hl : ∀ i σ H, i ≤ (xs.reverse.map V.int).length → Pv i σ H → SqL K H a (xs.map V.int))
    (hs : ∀ i x σ H, (xs.reverse.map V.int)[i]? = some x → Pv i σ H → g x σ H fun σ2 H2 => tb { D with nx := Pv (i + 1), ct := Pv (i + 1), bk := D.nx } σ2 H2) (hd : ∀ σ H, Pv (xs.reverse.map V.int).length σ H → D.nx σ H) :
    ∃ W : Nat → Nat → L2.St → Hp → Prop, (∃ m, W 0 m σ H) ∧ ∀ i m σ H, W i m σ H →
      ((Itv K a (xs.map V.int).length).stop i H ∧ D.nx σ H) ∨ ((Itv K a (xs.map V.int).length).go i H ∧ ∃ N : L2.St → Hp → Prop, (∀ σ' H', N σ' H' → ∃ m', m' < m ∧ W (i + 1) m' σ' H') ∧ ∀ x H', (Itv K a (xs.map V.int).length).yld i H x H' → g x σ H' fun σ2 H2 => tb { D with nx := N, ct := N, bk := D.nx } σ2 H2) := by
  have en : (xs.reverse.map V.int).length = (xs.map V.int).length := by rw [List.length_map, List.length_map, List.length_reverse]
  rw [en] at hl hd
  refine for_it walk_rev Pv h0 hl (fun i x σ H H' hi p y => ?_) hd
  obtain ⟨rfl, hx⟩ := y
  refine hs i x σ _ ?_ p
  rw [List.map_reverse, List.getElem?_reverse hi]
  exact hx
theorem ints_get : ∀ {ns : List Int} {us : List Value} {i : Nat} {v : Value}, IntsAre us ns → us[i]? = some v → ∃ t, v = .int (ns.getD i 0) t := by
  intro ns us i v h
  induction h generalizing i with
  | nil => intro z; simp at z
  | cons n t _ ih =>
    intro z
    cases i with
    | zero => simp at z; exact ⟨t, by rw [← z]; rfl⟩
    | succ i => exact ih (by simpa using z)
theorem any_rangeI : ∀ ns : List Int, (List.range ns.length).any (fun i => ns.getD i 0 != 0) = ns.any (fun x => x != 0)
  | [] => rfl
  | b :: bs => by
    rw [List.length_cons, List.range_succ_eq_map, List.any_cons, List.any_map, List.any_cons, ← any_rangeI bs]
    all_goals rfl
theorem ints_len : ∀ {ns : List Int} {us : List Value}, IntsAre us ns → us.length = ns.length := by
  intro ns us h
  induction h with
  | nil => rfl
  | cons _ _ _ ih => simp [ih]
def rAnyI (K : PySem.W.Frag) : List V → Hp → VK → Prop := fun vs H Q => ∃ (a : Addr) (ns : List Int), vs = [V.ref a] ∧ SqL K H a (ns.map V.int) ∧ Q (.bl (ns.any fun x => x != 0)) H
theorem cr_anyI {X : Cx} (hc : X.calm = true) : CallR X (.builtin "any") (rAnyI X.K) := by
  intro pins s σ H vs us Q I r h
  obtain ⟨a, ns, rfl, hs, q⟩ := h
  obtain ⟨its, rv, hl, _⟩ := I.list hs
  rw [Vals.ref1 r]
  have hb := rv.ints
  refine call_any_walk (iter_any hl.isList fun s₂ e2 st hne => ?_)
  subst e2
  have ht : TruthOf X.prog X.w X.A.in1 (fun i v => its.toArray[i]? = some v) (fun i => ns.getD i 0 != 0) := fun i v s Q E hv hq => by
    obtain ⟨t, rfl⟩ := ints_get hb (by simpa using hv)
    exact PyProof.Rows.truthy_int hq
  refine ⟨_, _, _, _, _, _, _, rfl, Walks.list (A := X.A.in1) (I.ok.hd hc) _ a hne its.toArray, st, ht, fun h' tk hk => ?_⟩
  refine ⟨.bl _, H, I.kept fun b o eo => hk b o (fun hmem => ?_) (Heap.get?_push_of_some _ eo), ?_, q⟩
  · rcases List.mem_cons.mp hmem with e1 | hmem
    · exact absurd (e1 ▸ Heap.lt_size eo) (Nat.lt_irrefl _)
    · cases hmem
  · show Value.bool _ = Value.bool _
    rw [← any_rangeI, List.size_toArray, ints_len hb]
theorem cr_anyIK {X : Cx} {K : PySem.W.Frag} (hc : X.calm = true) (hK : X.K = K := by rfl) : CallR X (.builtin "any") (rAnyI K) := hK ▸ cr_anyI hc
end Vx
/-! # fourth part: reckoning with functions that may refuse -/
namespace Vx
open PySem PySem.Spec PyProof.Rows L2
section
variable {α β σ ρ τ : Type}
theorem bind_ok (a : α) (f : α → Rx β) : (Rx.ok a).bind f = f a := rfl
theorem bind_er (e : Nat) (f : α → Rx β) : (Rx.er e : Rx α).bind f = .er e := rfl
theorem grd_pos {p : Prop} {dp : Decidable p} {m : Rx α} (h : p) : grd p m = m := if_pos h
theorem bnd_eq (a : α) (f : α → Rx β) : bnd a f = f a := rfl
theorem noEr_ok (a : α) : noEr (.ok a : Rx α) = .ok a := rfl
theorem tryR_ok {cs : List Nat} (a : α) (f : α → Rx β) (g : Nat → Rx β) : tryR (.ok a) cs f g = f a := rfl
theorem tryR_er {cs : List Nat} {e : Nat} (h : e ∈ cs) (f : α → Rx β) (g : Nat → Rx β) : tryR (.er e) cs f g = g e := if_pos h
theorem aft_go (s : σ) (kr : ρ → Rx τ) (k : σ → Rx τ) : (Lp.go s : Lp σ ρ).aft kr k = k s := rfl
theorem aft_rt (r : ρ) (kr : ρ → Rx τ) (k : σ → Rx τ) : (Lp.rt r : Lp σ ρ).aft kr k = kr r := rfl
/-- gives a value of which P holds -/
def Gv (m : Rx α) (P : α → Prop) : Prop := ∃ v, m = .ok v ∧ P v
theorem Gv.ok {a : α} {P : α → Prop} (h : P a) : Gv (.ok a) P := ⟨a, rfl, h⟩
theorem Gv.of_eq {m : Rx α} {a : α} {P : α → Prop} (e : m = .ok a) (h : P a) : Gv m P := ⟨a, e, h⟩
theorem Gv.bind {m : Rx α} {f : α → Rx β} {P : α → Prop} {Q : β → Prop} (h : Gv m P) (k : ∀ v, P v → Gv (f v) Q) : Gv (m.bind f) Q := by
  obtain ⟨v, rfl, p⟩ := h
  exact k v p
theorem Gv.bind_eq {m : Rx α} {f : α → Rx β} {a : α} {Q : β → Prop} (h : m = .ok a) (k : Gv (f a) Q) : Gv (m.bind f) Q := by
  subst h
  exact k
theorem Gv.grd {p : Prop} {dp : Decidable p} {m : Rx α} {Q : α → Prop} (h : p) (k : Gv m Q) : Gv (Vx.grd p m) Q := by
  rw [grd_pos h]
  exact k
theorem Gv.bnd {a : α} {f : α → Rx β} {Q : β → Prop} (k : ∀ x, x = a → Gv (f x) Q) : Gv (Vx.bnd a f) Q := k a rfl
theorem Gv.ite {p : Prop} {dp : Decidable p} {a b : Rx α} {Q : α → Prop} (h1 : p → Gv a Q) (h2 : ¬ p → Gv b Q) : Gv (if p then a else b) Q := by
  split
  · exact h1 ‹_›
  · exact h2 ‹_›
theorem Gv.pos {p : Prop} {dp : Decidable p} {a b : Rx α} {Q : α → Prop} (h : p) (k : Gv a Q) : Gv (if p then a else b) Q := by rwa [if_pos h]
theorem Gv.neg {p : Prop} {dp : Decidable p} {a b : Rx α} {Q : α → Prop} (h : ¬ p) (k : Gv b Q) : Gv (if p then a else b) Q := by rwa [if_neg h]
theorem Gv.imp {m : Rx α} {P Q : α → Prop} (h : Gv m P) (k : ∀ v, P v → Q v) : Gv m Q := by
  obtain ⟨v, e, p⟩ := h
  exact ⟨v, e, k v p⟩
theorem Gv.noEr {m : Rx α} {P : α → Prop} (h : Gv m P) : Gv (Vx.noEr m) P := by
  obtain ⟨v, rfl, p⟩ := h
  exact ⟨v, rfl, p⟩
theorem Gv.tryOk {m : Rx α} {cs : List Nat} {f : α → Rx β} {g : Nat → Rx β} {P : α → Prop} {Q : β → Prop} (h : Gv m P) (k : ∀ v, P v → Gv (f v) Q) : Gv (tryR m cs f g) Q := by
  obtain ⟨v, rfl, p⟩ := h
  exact k v p
theorem Gv.tryEr {m : Rx α} {cs : List Nat} {e : Nat} {f : α → Rx β} {g : Nat → Rx β} {Q : β → Prop} (h : m = .er e) (hm : e ∈ cs) (k : Gv (g e) Q) : Gv (tryR m cs f g) Q := by
  subst h
  rw [tryR_er hm]
  exact k
theorem Gv.get {m : Rx α} {a : α} (h : Gv m (fun v => v = a)) : m = .ok a := by
  obtain ⟨v, e, rfl⟩ := h
  exact e
theorem Gv.eq {m : Rx α} {P : α → Prop} (h : Gv m P) : ∃ v, m = .ok v ∧ P v := h
/-- a loop that keeps P -/
theorem Gv.forS {P : Nat → σ → Prop} {xs : List α} {s : σ} {f : σ → α → Rx σ} (h0 : P 0 s) (hs : ∀ i x s, xs[i]? = some x → P i s → Gv (f s x) (P (i + 1))) : Gv (Vx.forS xs s f) (P xs.length) := by
  induction xs generalizing s P with
  | nil => exact .ok h0
  | cons x r ih =>
    refine Gv.bind (hs 0 x s rfl h0) fun s' p => ?_
    exact ih (P := fun i => P (i + 1)) p fun i y s hy q => hs (i + 1) y s (by simpa using hy) q
theorem Gv.forR {P : Nat → σ → Prop} {xs : List α} {s : σ} {f : σ → α → Rx (Lp σ ρ)} (h0 : P 0 s) (hs : ∀ i x s, xs[i]? = some x → P i s → Gv (f s x) (fun l => ∃ s', l = .go s' ∧ P (i + 1) s')) : Gv (Vx.forR xs s f) (fun l => ∃ s', l = .go s' ∧ P xs.length s') := by
  induction xs generalizing s P with
  | nil => exact .ok ⟨s, rfl, h0⟩
  | cons x r ih =>
    refine Gv.bind (hs 0 x s rfl h0) ?_
    rintro _ ⟨s', rfl, p⟩
    exact ih (P := fun i => P (i + 1)) p fun i y s hy q => hs (i + 1) y s (by simpa using hy) q
/-- a loop that carries nothing -/
theorem forR_unit {xs : List α} {f : Unit → α → Rx (Lp Unit ρ)} (h : ∀ x ∈ xs, f () x = .ok (.go ())) : Vx.forR xs () f = .ok (.go ()) := by
  induction xs with
  | nil => rfl
  | cons x r ih =>
    show (f () x).bind _ = _
    rw [h x List.mem_cons_self]
    exact ih fun y hy => h y (List.mem_cons_of_mem _ hy)
theorem forS_pure {xs : List α} {s : σ} {f : σ → α → Rx σ} {g : σ → α → σ} (h : ∀ s x, x ∈ xs → f s x = .ok (g s x)) : Vx.forS xs s f = .ok (xs.foldl g s) := by
  induction xs generalizing s with
  | nil => rfl
  | cons x r ih =>
    show (f s x).bind _ = _
    rw [h s x List.mem_cons_self]
    exact ih fun s y hy => h s y (List.mem_cons_of_mem _ hy)
theorem mapA_pure {xs : List α} {acc : List β} {f : α → Rx β} {g : α → β} (h : ∀ x ∈ xs, f x = .ok (g x)) (hl : acc.length + xs.length ≤ 1000000) : mapA xs acc f = .ok (acc ++ xs.map g) := by
  induction xs generalizing acc with
  | nil => simp [mapA]
  | cons x r ih =>
    rw [List.length_cons] at hl
    unfold mapA
    rw [grd_pos (by omega), h x List.mem_cons_self, bind_ok, ih (fun y hy => h y (List.mem_cons_of_mem _ hy)) (by rw [List.length_append, List.length_cons, List.length_nil]; omega)]
    simp
theorem mapA_pure0 {xs : List α} {f : α → Rx β} {g : α → β} (h : ∀ x ∈ xs, f x = .ok (g x)) (hl : xs.length ≤ 1000000) : mapA xs [] f = .ok (xs.map g) := by
  rw [mapA_pure h (by simpa using hl)]
  rfl
theorem mapF_pure {xs : List α} {acc : List β} {f : α → Rx (Option β)} {g : α → Option β} (h : ∀ x ∈ xs, f x = .ok (g x)) (hl : acc.length + xs.length ≤ 1000000) : mapF xs acc f = .ok (acc ++ xs.filterMap g) := by
  induction xs generalizing acc with
  | nil => simp [mapF]
  | cons x r ih =>
    rw [List.length_cons] at hl
    unfold mapF
    rw [grd_pos (by omega), h x List.mem_cons_self, bind_ok]
    cases e : g x with
    | none =>
      show mapF r acc f = _
      rw [ih (fun y hy => h y (List.mem_cons_of_mem _ hy)) (by omega), List.filterMap_cons, e]
    | some z =>
      show mapF r (acc ++ [z]) f = _
      rw [ih (fun y hy => h y (List.mem_cons_of_mem _ hy)) (by rw [List.length_append, List.length_cons, List.length_nil]; omega), List.filterMap_cons, e]
      simp
/-- a while that ends: m falls -/
theorem Gv.whileR {P : σ → Prop} {R : σ → Prop} (m : σ → Nat) {f : σ → Rx (Lp σ ρ)} (hs : ∀ s, P s → Gv (f s) (fun l => (∃ s', l = .go s' ∧ P s' ∧ m s' < m s) ∨ ∃ s', l = .bk s' ∧ R s')) : ∀ {n : Nat} {s : σ}, P s → m s < n → Gv (Vx.whileR n s f) (fun l => ∃ s', l = .go s' ∧ R s') := by
  intro n
  induction n with
  | zero => intro s _ h; exact absurd h (Nat.not_lt_zero _)
  | succ n ih =>
    intro s p h
    refine Gv.bind (hs s p) ?_
    rintro _ (⟨s', rfl, p', l⟩ | ⟨s', rfl, r⟩)
    · exact ih p' (by omega)
    · exact .ok ⟨s', rfl, r⟩
end
/-- a loop that may return -/
theorem Gv.forRR {α σ ρ : Type} {P : Nat → σ → Prop} {Q : ρ → Prop} {xs : List α} {s : σ} {f : σ → α → Rx (Lp σ ρ)} (h0 : P 0 s) (hs : ∀ i x s, xs[i]? = some x → P i s → Gv (f s x) (fun l => (∃ s', l = .go s' ∧ P (i + 1) s') ∨ ∃ r, l = .rt r ∧ Q r)) : Gv (Vx.forR xs s f) (fun l => (∃ s', l = .go s' ∧ P xs.length s') ∨ ∃ r, l = .rt r ∧ Q r) := by
  induction xs generalizing s P with
  | nil => exact .ok (.inl ⟨s, rfl, h0⟩)
  | cons x r ih =>
    refine Gv.bind (hs 0 x s rfl h0) ?_
    rintro _ (⟨s', rfl, p⟩ | ⟨r, rfl, q⟩)
    · exact ih (P := fun i => P (i + 1)) p fun i y s hy q => hs (i + 1) y s (by simpa using hy) q
    · exact .ok (.inr ⟨r, rfl, q⟩)
theorem rng_mem {lo x : Int} {n : Nat} (h : x ∈ rng lo n) : lo ≤ x ∧ x < lo + n := by
  unfold rng at h
  obtain ⟨j, hj, rfl⟩ := List.mem_map.mp h
  have := List.mem_range.mp hj
  omega
theorem rng_at {lo x : Int} {n i : Nat} (h : (rng lo n)[i]? = some x) : x = lo + i ∧ i < n := by
  have hl := get_len h
  rw [rng_len] at hl
  rw [rng_get hl] at h
  exact ⟨(Option.some.inj h).symm, hl⟩
end Vx
namespace Vx
open PySem PySem.Spec PyProof.Rows L2
structure St_Encoder where
  probs : (List Int)
  front : (List Int)
  low : Int
  span : Int
deriving DecidableEq
structure St_SymbolWriter where
  enc : St_Encoder
deriving DecidableEq
structure St_Decoder where
  probs : (List Int)
  octs : (List Int)
  place : Int
  span : Int
  value : Int
deriving DecidableEq
structure St_SymbolReader where
  dec : St_Decoder
deriving DecidableEq
def F_Encoder___init__  : Rx St_Encoder :=
  grd (-(2 ^ 63) ≤ (256 : Int) ∧ (256 : Int) < 2 ^ 63 ∧ ([2048]).length * Int.toNat (256) ≤ 1000000) <| bnd ((4294967296 - 1)) fun _span_49 => .ok (⟨repL ([2048]) (256), ([] : (List Int)), 0, _span_49⟩ : St_Encoder)

def F_SymbolWriter___init__ (encoder' : St_Encoder) : Rx St_SymbolWriter :=
  .ok (⟨encoder'⟩ : St_SymbolWriter)

def F_SymbolReader___init__ (decoder' : St_Decoder) : Rx St_SymbolReader :=
  .ok (⟨decoder'⟩ : St_SymbolReader)

def F__check_levels (levels' : (List Int)) : Rx Unit :=
  (if ((((levels') : (List Int)).length : Int) : Int) ∈ ([16, 64] : List Int) then grd ((levels' : List Int) ≠ []) <| (if (minL (levels')) < (-524288) then .er 2 else grd ((levels' : List Int) ≠ []) <| (if 524287 < (maxL (levels')) then .er 2 else (if (List.any (levels') fun x => x != 0) = true then .ok (()) else .er 2))) else .er 2)

def F__check_contexts (base' : Int) (count' : Int) : Rx Unit :=
  (if 0 < count' then (if 0 ≤ base' then (if base' ≤ (256 - count') then .ok (()) else .er 1) else .er 1) else .ok (()))

def F__check_context (context' : Int) : Rx Unit :=
  (if 0 ≤ context' then (if context' < 256 then .ok (()) else .er 1) else .er 1)

def F__check_decision (decision' : Int) : Rx Unit :=
  (if 0 ≤ decision' then (if decision' ≤ 1 then .ok (()) else .er 1) else .er 1)

def F__adapted (chance' : Int) (decision' : Int) : Rx Int :=
  (if (decision' : Int) = 0 then .ok ((chance' + ((4096 - chance') / 32))) else .ok ((chance' - (chance' / 32))))

def F_Encoder__carry_r1 (self_114 : St_Encoder) (place_115 : Int) : Rx St_Encoder :=
  grd ((0 : Int) ≤ place_115 ∧ place_115 < 2 ^ 62 ∧ place_115 < ((self_114.front).length : Int)) <| grd (-((self_114.front : (List Int)).length : Int) ≤ place_115 ∧ place_115 < ((self_114.front : (List Int)).length : Int)) <| bnd (setL (self_114.front) (place_115) (((itD (self_114.front) (place_115)) + 1))) fun y124 => .ok (⟨self_114.probs, y124, self_114.low, self_114.span⟩ : St_Encoder)

def F_Encoder__carry_b1 (self_97 : St_Encoder) (place_98 : Int) : Rx (Lp (St_Encoder × Int) St_Encoder) :=
  grd (-((self_97.front : (List Int)).length : Int) ≤ place_98 ∧ place_98 < ((self_97.front : (List Int)).length : Int)) <| (if ((itD (self_97.front) (place_98)) : Int) = 255 then grd (-((self_97.front : (List Int)).length : Int) ≤ place_98 ∧ place_98 < ((self_97.front : (List Int)).length : Int)) <| bnd (setL (self_97.front) (place_98) (0)) fun y110 => bnd ((place_98 - 1)) fun place_111 => .ok (.go (((⟨self_97.probs, y110, self_97.low, self_97.span⟩ : St_Encoder)), (place_111))) else .ok (.bk ((self_97), (place_98))))

def F_Encoder__carry (self' : St_Encoder) : Rx St_Encoder :=
  bnd (((((self'.front) : (List Int)).length : Int) - 1)) fun place_84 => Rx.bind ((whileR 1000000 ((self'), (place_84)) (fun s => F_Encoder__carry_b1  (s.1) (s.2)) : Rx (Lp (St_Encoder × Int) St_Encoder))) fun l => l.aft Rx.ok fun s => F_Encoder__carry_r1  (s.1) (s.2)

def F_Encoder__narrow_r2 (self_228 : St_Encoder) : Rx St_Encoder :=
  .ok self_228

def F_Encoder__narrow_b2 (self_197 : St_Encoder) : Rx (Lp (St_Encoder) St_Encoder) :=
  (if self_197.span < 16777216 then grd ((self_197.front).length ≤ 1000000) <| bnd ((self_197.front) ++ [(self_197.low / 16777216)]) fun y208 => grd ((0 : Int) ≤ 8 ∧ (8 : Int) ≤ 4096 ∧ -(2 ^ 4096) < (self_197.low : Int) ∧ (self_197.low : Int) < 2 ^ 4096) <| bnd ((PySem.Builtin.bitAnd ((self_197.low * 2 ^ Int.toNat (8))) ((4294967296 - 1)))) fun _low_211 => grd ((0 : Int) ≤ 8 ∧ (8 : Int) ≤ 4096 ∧ -(2 ^ 4096) < (self_197.span : Int) ∧ (self_197.span : Int) < 2 ^ 4096) <| bnd ((self_197.span * 2 ^ Int.toNat (8))) fun _span_219 => .ok (.go ((⟨self_197.probs, y208, _low_211, _span_219⟩ : St_Encoder))) else .ok (.bk (self_197)))

def F_Encoder__narrow_k1 (self_129 : St_Encoder) : Rx St_Encoder :=
  Rx.bind ((whileR 1000000 (self_129) (fun s => F_Encoder__narrow_b2  s) : Rx (Lp (St_Encoder) St_Encoder))) fun l => l.aft Rx.ok fun s => F_Encoder__narrow_r2  s

def F_Encoder__narrow (self' : St_Encoder) (chance' : Int) (decision' : Int) : Rx St_Encoder :=
  grd ((-(2 ^ 64) < ((self'.span / 4096) : Int) ∧ ((self'.span / 4096) : Int) < 2 ^ 64) ∨ (-(2 ^ 64) < (chance' : Int) ∧ (chance' : Int) < 2 ^ 64)) <| bnd (((self'.span / 4096) * chance')) fun part_128 => Rx.bind (((if (decision' : Int) = 0 then .ok ((⟨self'.probs, self'.front, self'.low, part_128⟩ : St_Encoder)) else bnd ((self'.span - part_128)) fun _span_142 => bnd ((self'.low + part_128)) fun _low_149 => (if 4294967296 ≤ _low_149 then bnd ((_low_149 - 4294967296)) fun _low_157 => Rx.bind (noEr (F_Encoder__carry ((⟨self'.probs, self'.front, _low_157, _span_142⟩ : St_Encoder)))) fun v166 => .ok (v166) else .ok ((⟨self'.probs, self'.front, _low_149, _span_142⟩ : St_Encoder)))) : Rx (St_Encoder))) fun s => F_Encoder__narrow_k1  s

def F_Encoder_code (self' : St_Encoder) (context' : Int) (decision' : Int) : Rx St_Encoder :=
  Rx.bind (F__check_context context') fun v229 => Rx.bind (F__check_decision decision') fun v230 => grd (-((self'.probs : (List Int)).length : Int) ≤ context' ∧ context' < ((self'.probs : (List Int)).length : Int)) <| bnd ((itD (self'.probs) (context'))) fun chance_232 => Rx.bind (F_Encoder__narrow (self') chance_232 decision') fun v233 => Rx.bind (noEr (F__adapted chance_232 decision')) fun v244 => grd (-((v233.probs : (List Int)).length : Int) ≤ context' ∧ context' < ((v233.probs : (List Int)).length : Int)) <| bnd (setL (v233.probs) (context') (v244)) fun y252 => .ok (⟨y252, v233.front, v233.low, v233.span⟩ : St_Encoder)

def F_SymbolWriter_flag (self' : St_SymbolWriter) (base' : Int) (value' : Bool) : Rx St_SymbolWriter :=
  Rx.bind (F__check_contexts base' 1) fun v255 => Rx.bind (F_Encoder_code (self'.enc) base' ((if value' = true then 1 else 0))) fun v259 => .ok (⟨v259⟩ : St_SymbolWriter)

def F_Decoder__shift_k1 (self_271 : St_Decoder) (octet_272 : Int) : Rx St_Decoder :=
  grd ((0 : Int) ≤ 8 ∧ (8 : Int) ≤ 4096 ∧ -(2 ^ 4096) < (self_271.value : Int) ∧ (self_271.value : Int) < 2 ^ 4096) <| bnd ((PySem.Builtin.bitOr ((self_271.value * 2 ^ Int.toNat (8))) (octet_272))) fun _value_297 => .ok (⟨self_271.probs, self_271.octs, self_271.place, self_271.span, _value_297⟩ : St_Decoder)

def F_Decoder__shift (self' : St_Decoder) : Rx St_Decoder :=
  Rx.bind (((if self'.place < (((self'.octs) : (List Int)).length : Int) then grd (-((self'.octs : (List Int)).length : Int) ≤ self'.place ∧ self'.place < ((self'.octs : (List Int)).length : Int)) <| bnd ((itD (self'.octs) (self'.place))) fun octet_279 => bnd ((self'.place + 1)) fun _place_280 => .ok (((⟨self'.probs, self'.octs, _place_280, self'.span, self'.value⟩ : St_Decoder)), (octet_279)) else .ok ((self'), (0))) : Rx (St_Decoder × Int))) fun s => F_Decoder__shift_k1  (s.1) (s.2)

def F_Decoder__decide_r2 (decision_349 : Int) (self_386 : St_Decoder) : Rx (Int × St_Decoder) :=
  .ok (decision_349, self_386)

def F_Decoder__decide_b2 (self_361 : St_Decoder) : Rx (Lp (St_Decoder) (Int × St_Decoder)) :=
  (if self_361.span < 16777216 then Rx.bind (noEr (F_Decoder__shift (self_361))) fun v365 => grd ((0 : Int) ≤ 8 ∧ (8 : Int) ≤ 4096 ∧ -(2 ^ 4096) < (v365.span : Int) ∧ (v365.span : Int) < 2 ^ 4096) <| bnd ((v365.span * 2 ^ Int.toNat (8))) fun _span_377 => .ok (.go ((⟨v365.probs, v365.octs, v365.place, _span_377, v365.value⟩ : St_Decoder))) else .ok (.bk (self_361)))

def F_Decoder__decide_k1 (decision_312 : Int) (self_313 : St_Decoder) : Rx (Int × St_Decoder) :=
  Rx.bind ((whileR 1000000 (self_313) (fun s => F_Decoder__decide_b2  s) : Rx (Lp (St_Decoder) (Int × St_Decoder)))) fun l => l.aft Rx.ok fun s => F_Decoder__decide_r2 (decision_312) s

def F_Decoder__decide (self' : St_Decoder) (chance' : Int) : Rx (Int × St_Decoder) :=
  grd ((-(2 ^ 64) < ((self'.span / 4096) : Int) ∧ ((self'.span / 4096) : Int) < 2 ^ 64) ∨ (-(2 ^ 64) < (chance' : Int) ∧ (chance' : Int) < 2 ^ 64)) <| bnd (((self'.span / 4096) * chance')) fun part_307 => bnd ((if self'.value < part_307 then 0 else 1)) fun decision_311 => Rx.bind (((if (decision_311 : Int) = 0 then .ok ((⟨self'.probs, self'.octs, self'.place, part_307, self'.value⟩ : St_Decoder)) else bnd ((self'.value - part_307)) fun _value_326 => bnd ((self'.span - part_307)) fun _span_333 => .ok ((⟨self'.probs, self'.octs, self'.place, _span_333, _value_326⟩ : St_Decoder))) : Rx (St_Decoder))) fun s => F_Decoder__decide_k1 (decision_311) s

def F_Decoder_read (self' : St_Decoder) (context' : Int) : Rx (Int × St_Decoder) :=
  Rx.bind (F__check_context context') fun v387 => grd (-((self'.probs : (List Int)).length : Int) ≤ context' ∧ context' < ((self'.probs : (List Int)).length : Int)) <| bnd ((itD (self'.probs) (context'))) fun chance_389 => Rx.bind (F_Decoder__decide (self') chance_389) fun v390 => Rx.bind (noEr (F__adapted chance_389 v390.1)) fun v401 => grd (-((v390.2.probs : (List Int)).length : Int) ≤ context' ∧ context' < ((v390.2.probs : (List Int)).length : Int)) <| bnd (setL (v390.2.probs) (context') (v401)) fun y409 => .ok (v390.1, (⟨y409, v390.2.octs, v390.2.place, v390.2.span, v390.2.value⟩ : St_Decoder))

def F_SymbolReader_flag (self' : St_SymbolReader) (base' : Int) : Rx (Bool × St_SymbolReader) :=
  Rx.bind (F__check_contexts base' 1) fun v412 => Rx.bind (F_Decoder_read (self'.dec) base') fun v413 => .ok (decide ((v413.1 : Int) = 1), (⟨v413.2⟩ : St_SymbolReader))

def F__put_places_b1 (levels_428 : (List Int)) (last_429 : Int) (stride_430 : Int) (writer_444 : St_SymbolWriter) (it447 : Int) : Rx (St_SymbolWriter) :=
  grd ((-(2 ^ 64) < (stride_430 : Int) ∧ (stride_430 : Int) < 2 ^ 64) ∨ (-(2 ^ 64) < (it447 : Int) ∧ (it447 : Int) < 2 ^ 64)) <| grd (-((levels_428 : (List Int)).length : Int) ≤ it447 ∧ it447 < ((levels_428 : (List Int)).length : Int)) <| Rx.bind (noEr (F_SymbolWriter_flag (writer_444) ((64 + (stride_430 * it447))) ((!decide (((itD (levels_428) (it447)) : Int) = 0))))) fun v450 => grd (-((levels_428 : (List Int)).length : Int) ≤ it447 ∧ it447 < ((levels_428 : (List Int)).length : Int)) <| (if ((itD (levels_428) (it447)) : Int) = 0 then .ok (v450) else grd ((-(2 ^ 64) < (stride_430 : Int) ∧ (stride_430 : Int) < 2 ^ 64) ∨ (-(2 ^ 64) < (it447 : Int) ∧ (it447 : Int) < 2 ^ 64)) <| Rx.bind (noEr (F_SymbolWriter_flag (v450) ((128 + (stride_430 * it447))) (decide ((it447 : Int) = last_429)))) fun v465 => .ok (v465))

def F__put_places_r1 (writer_485 : St_SymbolWriter) : Rx St_SymbolWriter :=
  .ok writer_485

def F__put_places (writer' : St_SymbolWriter) (levels' : (List Int)) (last' : Int) : Rx St_SymbolWriter :=
  grd (0 < ((((levels') : (List Int)).length : Int) : Int) ∧ ((((levels') : (List Int)).length : Int) : Int) < 2 ^ 128) <| bnd ((64 / (((levels') : (List Int)).length : Int))) fun stride_426 => grd (-(2 ^ 62) ≤ (if ((((levels') : (List Int)).length : Int) - 1) < (last' + 1) then ((((levels') : (List Int)).length : Int) - 1) else (last' + 1)) ∧ (if ((((levels') : (List Int)).length : Int) - 1) < (last' + 1) then ((((levels') : (List Int)).length : Int) - 1) else (last' + 1)) < 2 ^ 62) <| Rx.bind (forS (rng (0) (Int.toNat ((if ((((levels') : (List Int)).length : Int) - 1) < (last' + 1) then ((((levels') : (List Int)).length : Int) - 1) else (last' + 1))))) (writer') (fun s x => F__put_places_b1 (levels') (last') (stride_426) s x)) fun s => F__put_places_r1  s

def F__base_after (base' : Int) (worth' : Int) : Rx Int :=
  .ok ((if 1 < worth' then (192 + 16) else base'))

def F__check_unary (base' : Int) (most' : Int) : Rx Unit :=
  (if 0 ≤ most' then (if most' ≤ 64 then Rx.bind (F__check_contexts base' ((if 8 < most' then 8 else most'))) fun v491 => .ok (()) else .er 1) else .er 1)

def F_SymbolWriter_unary_b1 (base_496 : Int) (self_513 : St_SymbolWriter) (it516 : Int) : Rx (St_SymbolWriter) :=
  Rx.bind (noEr (F_Encoder_code (self_513.enc) ((base_496 + (if (8 - 1) < it516 then (8 - 1) else it516))) 1)) fun v517 => .ok ((⟨v517⟩ : St_SymbolWriter))

def F_SymbolWriter_unary_r1 (base_497 : Int) (value_498 : Int) (most_499 : Int) (self_537 : St_SymbolWriter) : Rx St_SymbolWriter :=
  (if value_498 < most_499 then Rx.bind (noEr (F_Encoder_code (self_537.enc) ((base_497 + (if (8 - 1) < value_498 then (8 - 1) else value_498))) 0)) fun v539 => .ok (⟨v539⟩ : St_SymbolWriter) else .ok self_537)

def F_SymbolWriter_unary (self' : St_SymbolWriter) (base' : Int) (value' : Int) (most' : Int) : Rx St_SymbolWriter :=
  Rx.bind (F__check_unary base' most') fun v492 => (if 0 ≤ value' then (if value' ≤ most' then grd (-(2 ^ 62) ≤ value' ∧ value' < 2 ^ 62) <| Rx.bind (forS (rng (0) (Int.toNat (value'))) (self') (fun s x => F_SymbolWriter_unary_b1 (base') s x)) fun s => F_SymbolWriter_unary_r1 (base') (value') (most') s else .er 1) else .er 1)

def F_SymbolReader_unary_r1 (self_586 : St_SymbolReader) (value_587 : Int) : Rx (Int × St_SymbolReader) :=
  .ok (value_587, self_586)

def F_SymbolReader_unary_b1 (base_552 : Int) (most_553 : Int) (self_567 : St_SymbolReader) (value_568 : Int) : Rx (Lp (St_SymbolReader × Int) (Int × St_SymbolReader)) :=
  (if value_568 < most_553 then Rx.bind (noEr (F_Decoder_read (self_567.dec) ((base_552 + (if (8 - 1) < value_568 then (8 - 1) else value_568))))) fun v572 => (if (v572.1 : Int) = 1 then bnd ((value_568 + 1)) fun value_584 => .ok (.go (((⟨v572.2⟩ : St_SymbolReader)), (value_584))) else .ok (.bk (((⟨v572.2⟩ : St_SymbolReader)), (value_568)))) else .ok (.bk ((self_567), (value_568))))

def F_SymbolReader_unary (self' : St_SymbolReader) (base' : Int) (most' : Int) : Rx (Int × St_SymbolReader) :=
  Rx.bind (F__check_unary base' most') fun v551 => Rx.bind ((whileR 1000000 ((self'), (0)) (fun s => F_SymbolReader_unary_b1 (base') (most') (s.1) (s.2)) : Rx (Lp (St_SymbolReader × Int) (Int × St_SymbolReader)))) fun l => l.aft Rx.ok fun s => F_SymbolReader_unary_r1  (s.1) (s.2)

def F__digit_context (base' : Int) (digits' : Int) : Rx Int :=
  .ok (((base' + 8) + (if (8 - 1) < (digits' - 1) then (8 - 1) else (digits' - 1))))

def F_Encoder_code_even (self' : St_Encoder) (decision' : Int) : Rx St_Encoder :=
  Rx.bind (F__check_decision decision') fun v591 => Rx.bind (F_Encoder__narrow (self') 2048 decision') fun v592 => .ok v592

def F_SymbolWriter_number_b1 (base_620 : Int) (value_621 : Int) (digits_622 : Int) (self_637 : St_SymbolWriter) (it640 : Int) : Rx (St_SymbolWriter) :=
  grd ((0 : Int) ≤ it640) <| bnd ((PySem.Builtin.bitAnd (((value_621 + 1) / 2 ^ Int.toNat (it640))) (1))) fun digit_642 => (if (it640 : Int) = (digits_622 - 1) then Rx.bind (noEr (F__digit_context base_620 digits_622)) fun v644 => Rx.bind (noEr (F_Encoder_code (self_637.enc) v644 digit_642)) fun v645 => .ok ((⟨v645⟩ : St_SymbolWriter)) else Rx.bind (noEr (F_Encoder_code_even (self_637.enc) digit_642)) fun v657 => .ok ((⟨v657⟩ : St_SymbolWriter)))

def F_SymbolWriter_number_r1 (self_677 : St_SymbolWriter) : Rx St_SymbolWriter :=
  .ok self_677

def F_SymbolWriter_number (self' : St_SymbolWriter) (base' : Int) (value' : Int) : Rx St_SymbolWriter :=
  Rx.bind (F__check_contexts base' ((2 * 8))) fun v603 => (if 0 ≤ value' then (if value' ≤ 1048576 then bnd ((((PySem.Builtin.Int.intBits ((value' + 1)) : Nat) : Int) - 1)) fun digits_606 => Rx.bind (F_SymbolWriter_unary (self') base' digits_606 20) fun v607 => grd (-(2 ^ 62) ≤ ((digits_606 - 1) : Int) ∧ ((digits_606 - 1) : Int) < 2 ^ 62 ∧ -(2 ^ 62) ≤ ((-1) : Int) ∧ ((-1) : Int) < 2 ^ 62) <| Rx.bind (forS (rngD ((digits_606 - 1)) (Int.toNat ((digits_606 - 1) - (-1)))) (v607) (fun s x => F_SymbolWriter_number_b1 (base') (value') (digits_606) s x)) fun s => F_SymbolWriter_number_r1  s else .er 1) else .er 1)

def F_Decoder_read_even (self' : St_Decoder) : Rx (Int × St_Decoder) :=
  Rx.bind (F_Decoder__decide (self') 2048) fun v678 => .ok (v678.1, v678.2)

def F_SymbolReader_number_b2 (self_747 : St_SymbolReader) (grown_748 : Int) (it751 : Int) : Rx (St_SymbolReader × Int) :=
  Rx.bind (noEr (F_Decoder_read_even (self_747.dec))) fun v752 => bnd (((2 * grown_748) + v752.1)) fun grown_763 => .ok (((⟨v752.2⟩ : St_SymbolReader)), (grown_763))

def F_SymbolReader_number_r2 (self_773 : St_SymbolReader) (grown_774 : Int) : Rx (Int × St_SymbolReader) :=
  .ok ((if 1048576 < (grown_774 - 1) then 1048576 else (grown_774 - 1)), self_773)

def F_SymbolReader_number_k1 (digits_702 : Int) (self_703 : St_SymbolReader) (grown_704 : Int) : Rx (Int × St_SymbolReader) :=
  grd (-(2 ^ 62) ≤ (digits_702 - 1) ∧ (digits_702 - 1) < 2 ^ 62) <| Rx.bind (forS (rng (0) (Int.toNat ((digits_702 - 1)))) ((self_703), (grown_704)) (fun s x => F_SymbolReader_number_b2  (s.1) (s.2) x)) fun s => F_SymbolReader_number_r2  (s.1) (s.2)

def F_SymbolReader_number (self' : St_SymbolReader) (base' : Int) : Rx (Int × St_SymbolReader) :=
  Rx.bind (F__check_contexts base' ((2 * 8))) fun v689 => Rx.bind (F_SymbolReader_unary (self') base' 20) fun v690 => Rx.bind (((if 0 < v690.1 then Rx.bind (noEr (F__digit_context base' v690.1)) fun v710 => Rx.bind (noEr (F_Decoder_read (v690.2.dec) v710)) fun v711 => bnd ((2 + v711.1)) fun grown_722 => .ok (((⟨v711.2⟩ : St_SymbolReader)), (grown_722)) else .ok ((v690.2), (1))) : Rx (St_SymbolReader × Int))) fun s => F_SymbolReader_number_k1 (v690.1) (s.1) (s.2)

def F_SymbolWriter_even (self' : St_SymbolWriter) (decision' : Int) : Rx St_SymbolWriter :=
  Rx.bind (F_Encoder_code_even (self'.enc) decision') fun v775 => .ok (⟨v775⟩ : St_SymbolWriter)

def F_SymbolReader_even (self' : St_SymbolReader) : Rx (Int × St_SymbolReader) :=
  Rx.bind (F_Decoder_read_even (self'.dec)) fun v787 => .ok (v787.1, (⟨v787.2⟩ : St_SymbolReader))

def F_put_levels_c1 (it865 : (Int × Int)) : Rx (Option Int) :=
  (if (it865.2 : Int) = 0 then .ok none else .ok (some it865.1))

def F_put_levels_b2 (levels_913 : (List Int)) (writer_939 : St_SymbolWriter) (base_940 : Int) (it943 : Int) : Rx (St_SymbolWriter × Int) :=
  grd (-((levels_913 : (List Int)).length : Int) ≤ it943 ∧ it943 < ((levels_913 : (List Int)).length : Int)) <| bnd ((itD (levels_913) (it943))) fun level_945 => Rx.bind (noEr (F_SymbolWriter_number (writer_939) base_940 (((if level_945 < 0 then -level_945 else level_945) - 1)))) fun v946 => Rx.bind (noEr (F_SymbolWriter_even (v946) ((if level_945 < 0 then 1 else 0)))) fun v961 => Rx.bind (noEr (F__base_after base_940 ((if level_945 < 0 then -level_945 else level_945)))) fun v973 => .ok ((v961), (v973))

def F_put_levels_r2 (writer_984 : St_SymbolWriter) (base_985 : Int) : Rx St_SymbolWriter :=
  .ok writer_984

def F_put_levels (writer' : St_SymbolWriter) (levels' : (List Int)) : Rx St_SymbolWriter :=
  Rx.bind (F__check_levels (levels')) fun v799 => Rx.bind (mapF (enumL (levels')) [] (fun x => noEr (F_put_levels_c1  x))) fun v800 => grd (-((v800 : (List Int)).length : Int) ≤ (-1) ∧ (-1) < ((v800 : (List Int)).length : Int)) <| Rx.bind (F__put_places (writer') (levels') ((itD (v800) ((-1))))) fun v900 => Rx.bind (forS ((List.reverse (v800 : List Int))) ((v900), (192)) (fun s x => F_put_levels_b2 (levels') (s.1) (s.2) x)) fun s => F_put_levels_r2  (s.1) (s.2)

def F_Encoder_octets_c1 (self_998 : St_Encoder) (it1039 : Int) : Rx Int :=
  grd ((0 : Int) ≤ it1039) <| .ok ((PySem.Builtin.bitAnd ((self_998.low / 2 ^ Int.toNat (it1039))) (255)))

def F_Encoder_octets_r2 (octets_1092 : (List Int)) : Rx (List Int) :=
  .ok (octets_1092)

def F_Encoder_octets_b2 (octets_1078 : (List Int)) : Rx (Lp ((List Int)) (List Int)) :=
  (if (octets_1078 : (List Int)) = [] then .ok (.bk (octets_1078)) else grd (-((octets_1078 : (List Int)).length : Int) ≤ (-1) ∧ (-1) < ((octets_1078 : (List Int)).length : Int)) <| (if ((itD (octets_1078) ((-1))) : Int) = 0 then grd ((octets_1078) ≠ []) <| bnd ((octets_1078).dropLast) fun y1091 => .ok (.go (y1091)) else .ok (.bk (octets_1078))))

def F_Encoder_octets (self' : St_Encoder) : Rx (List Int) :=
  Rx.bind (mapA ([24, 16, 8, 0]) [] (fun x => noEr (F_Encoder_octets_c1 (self') x))) fun v999 => grd ((self'.front).length + (v999).length ≤ 1000000) <| Rx.bind ((whileR 1000000 ((self'.front) ++ (v999)) (fun s => F_Encoder_octets_b2  s) : Rx (Lp ((List Int)) (List Int)))) fun l => l.aft Rx.ok fun s => F_Encoder_octets_r2  s

def F_Decoder___init___b1 (self_1169 : St_Decoder) (it1172 : Int) : Rx (St_Decoder) :=
  Rx.bind (noEr (F_Decoder__shift (self_1169))) fun v1173 => .ok (v1173)

def F_Decoder___init___r1 (self_1191 : St_Decoder) : Rx St_Decoder :=
  bnd ((if (4294967296 - 2) < self_1191.value then (4294967296 - 2) else self_1191.value)) fun _value_1192 => .ok (⟨self_1191.probs, self_1191.octs, self_1191.place, self_1191.span, _value_1192⟩ : St_Decoder)

def F_Decoder___init__ (octets' : (List Int)) : Rx St_Decoder :=
  grd (-(2 ^ 63) ≤ (256 : Int) ∧ (256 : Int) < 2 ^ 63 ∧ ([2048]).length * Int.toNat (256) ≤ 1000000) <| bnd ((4294967296 - 1)) fun _span_1142 => Rx.bind (forS (rng (0) (Int.toNat (4))) ((⟨repL ([2048]) (256), octets', 0, _span_1142, 0⟩ : St_Decoder)) (fun s x => F_Decoder___init___b1  s x)) fun s => F_Decoder___init___r1  s

def F_check_size (size' : Int) : Rx Unit :=
  (if (size' : Int) ∈ ([4, 8] : List Int) then .ok (()) else .er 1)

def F__get_places_b1 (stride_1214 : Int) (reader_1235 : St_SymbolReader) (places_1236 : (List Int)) (it1239 : Int) : Rx (Lp (St_SymbolReader × (List Int)) ((List Int) × St_SymbolReader)) :=
  grd ((-(2 ^ 64) < (stride_1214 : Int) ∧ (stride_1214 : Int) < 2 ^ 64) ∨ (-(2 ^ 64) < (it1239 : Int) ∧ (it1239 : Int) < 2 ^ 64)) <| Rx.bind (noEr (F_SymbolReader_flag (reader_1235) ((64 + (stride_1214 * it1239))))) fun v1241 => (if v1241.1 = true then grd ((places_1236).length ≤ 1000000) <| bnd ((places_1236) ++ [it1239]) fun y1262 => grd ((-(2 ^ 64) < (stride_1214 : Int) ∧ (stride_1214 : Int) < 2 ^ 64) ∨ (-(2 ^ 64) < (it1239 : Int) ∧ (it1239 : Int) < 2 ^ 64)) <| Rx.bind (noEr (F_SymbolReader_flag (v1241.2) ((128 + (stride_1214 * it1239))))) fun v1268 => (if v1268.1 = true then .ok (.rt (y1262, v1268.2)) else .ok (.go ((v1268.2), (y1262)))) else .ok (.go ((v1241.2), (places_1236))))

def F__get_places_r1 (count_1215 : Int) (reader_1293 : St_SymbolReader) (places_1294 : (List Int)) : Rx ((List Int) × St_SymbolReader) :=
  grd ((places_1294).length + ([(count_1215 - 1)]).length ≤ 1000000) <| .ok ((places_1294) ++ ([(count_1215 - 1)]), reader_1293)

def F__get_places (reader' : St_SymbolReader) (count' : Int) : Rx ((List Int) × St_SymbolReader) :=
  grd (0 < (count' : Int) ∧ (count' : Int) < 2 ^ 128) <| bnd ((64 / count')) fun stride_1212 => grd (-(2 ^ 62) ≤ (count' - 1) ∧ (count' - 1) < 2 ^ 62) <| Rx.bind (forR (rng (0) (Int.toNat ((count' - 1)))) ((reader'), (([] : (List Int)))) (fun s x => F__get_places_b1 (stride_1212) (s.1) (s.2) x)) fun l => l.aft Rx.ok fun s => F__get_places_r1 (count') (s.1) (s.2)

def F_clip (value' : Int) (low' : Int) (high' : Int) : Rx Int :=
  .ok ((if high' < (if low' > value' then low' else value') then high' else (if low' > value' then low' else value')))

def F_get_levels_b1 (reader_1387 : St_SymbolReader) (levels_1388 : (List Int)) (base_1389 : Int) (it1392 : Int) : Rx (St_SymbolReader × (List Int) × Int) :=
  Rx.bind (noEr (F_SymbolReader_number (reader_1387) base_1389)) fun v1393 => bnd ((v1393.1 + 1)) fun worth_1405 => Rx.bind (noEr (F_SymbolReader_even (v1393.2))) fun v1406 => (if (v1406.1 : Int) = 1 then bnd ((-worth_1405)) fun level_1419 => Rx.bind (noEr (F_clip level_1419 ((-524288)) 524287)) fun v1420 => grd (-((levels_1388 : (List Int)).length : Int) ≤ it1392 ∧ it1392 < ((levels_1388 : (List Int)).length : Int)) <| bnd (setL (levels_1388) (it1392) (v1420)) fun y1429 => Rx.bind (noEr (F__base_after base_1389 worth_1405)) fun v1430 => .ok ((v1406.2), (y1429), (v1430)) else Rx.bind (noEr (F_clip worth_1405 ((-524288)) 524287)) fun v1436 => grd (-((levels_1388 : (List Int)).length : Int) ≤ it1392 ∧ it1392 < ((levels_1388 : (List Int)).length : Int)) <| bnd (setL (levels_1388) (it1392) (v1436)) fun y1445 => Rx.bind (noEr (F__base_after base_1389 worth_1405)) fun v1446 => .ok ((v1406.2), (y1445), (v1446)))

def F_get_levels_r1 (reader_1462 : St_SymbolReader) (levels_1463 : (List Int)) (base_1464 : Int) : Rx ((List Int) × St_SymbolReader) :=
  .ok (levels_1463, reader_1462)

def F_get_levels (reader' : St_SymbolReader) (size' : Int) : Rx ((List Int) × St_SymbolReader) :=
  Rx.bind (F_check_size size') fun v1319 => grd ((-(2 ^ 64) < (size' : Int) ∧ (size' : Int) < 2 ^ 64) ∨ (-(2 ^ 64) < (size' : Int) ∧ (size' : Int) < 2 ^ 64)) <| grd (-(2 ^ 63) ≤ ((size' * size') : Int) ∧ ((size' * size') : Int) < 2 ^ 63 ∧ ([0]).length * Int.toNat ((size' * size')) ≤ 1000000) <| grd ((-(2 ^ 64) < (size' : Int) ∧ (size' : Int) < 2 ^ 64) ∨ (-(2 ^ 64) < (size' : Int) ∧ (size' : Int) < 2 ^ 64)) <| Rx.bind (F__get_places (reader') ((size' * size'))) fun v1345 => Rx.bind (forS ((List.reverse (v1345.1 : List Int))) ((v1345.2), (repL ([0]) ((size' * size'))), (192)) (fun s x => F_get_levels_b1  (s.1) (s.2.1) (s.2.2) x)) fun s => F_get_levels_r1  (s.1) (s.2.1) (s.2.2)

def F__law_cell (script' : (List Int)) (k' : Int) : Rx Int :=
  (if k' < (((script') : (List Int)).length : Int) then grd (-((script' : (List Int)).length : Int) ≤ k' ∧ k' < ((script' : (List Int)).length : Int)) <| .ok ((if (itD (script') (k')) < 0 then -(itD (script') (k')) else (itD (script') (k')))) else .ok (0))

def F__law_digits_b1 (base_1478 : Int) (large_1479 : Bool) (cell_1491 : Int) (digits_1492 : (List Int)) (it1495 : Int) : Rx (Int × (List Int)) :=
  (if large_1479 = true then grd (0 < (base_1478 : Int)) <| grd ((digits_1492).length ≤ 1000000) <| bnd ((digits_1492) ++ [(cell_1491 % base_1478)]) fun y1505 => grd (0 < (base_1478 : Int) ∧ (base_1478 : Int) < 2 ^ 128) <| bnd ((cell_1491 / base_1478)) fun cell_1507 => .ok ((cell_1507), (y1505)) else grd ((-(2 ^ 64) < ((it1495 + 1) : Int) ∧ ((it1495 + 1) : Int) < 2 ^ 64) ∨ (-(2 ^ 64) < ((it1495 + 5) : Int) ∧ ((it1495 + 5) : Int) < 2 ^ 64)) <| grd ((-(2 ^ 64) < ((cell_1491 / 97) : Int) ∧ ((cell_1491 / 97) : Int) < 2 ^ 64) ∨ (-(2 ^ 64) < (it1495 : Int) ∧ (it1495 : Int) < 2 ^ 64)) <| grd (0 < (base_1478 : Int)) <| grd ((digits_1492).length ≤ 1000000) <| bnd ((digits_1492) ++ [(((((cell_1491 * 48271) + (((it1495 + 1) * (it1495 + 5)) * 69621)) + ((cell_1491 / 97) * it1495)) % 2147483647) % base_1478)]) fun y1518 => .ok ((cell_1491), (y1518)))

def F__law_digits_r1 (cell_1524 : Int) (digits_1525 : (List Int)) : Rx (List Int) :=
  .ok (digits_1525)

def F__law_digits (cell' : Int) (base' : Int) (most' : Int) : Rx (List Int) :=
  bnd (decide (((10 : Int) ^ Int.toNat 18) ≤ cell')) fun large_1476 => grd (-(2 ^ 62) ≤ most' ∧ most' < 2 ^ 62) <| Rx.bind (forS (rng (0) (Int.toNat (most'))) ((cell'), (([] : (List Int)))) (fun s x => F__law_digits_b1 (base') (large_1476) (s.1) (s.2) x)) fun s => F__law_digits_r1  (s.1) (s.2)

def F__law_block_k3 (levels_1590 : (List Int)) (worth_1591 : Int) : Rx ((List Int)) :=
  grd ((levels_1590).length ≤ 1000000) <| bnd ((levels_1590) ++ [worth_1591]) fun y1610 => .ok (y1610)

def F__law_block_k2 (digits_1569 : (List Int)) (share_1570 : Int) (levels_1571 : (List Int)) (k_1572 : Int) (worth_1573 : Int) : Rx ((List Int)) :=
  Rx.bind ((grd (-((digits_1569 : (List Int)).length : Int) ≤ k_1572 ∧ k_1572 < ((digits_1569 : (List Int)).length : Int)) <| (if (((itD (digits_1569) (k_1572)) / 64) % 10) < share_1570 then .ok (0) else .ok (worth_1573)) : Rx (Int))) fun s => F__law_block_k3 (levels_1571) s

def F__law_block_b1 (digits_1546 : (List Int)) (share_1547 : Int) (levels_1563 : (List Int)) (it1566 : Int) : Rx ((List Int)) :=
  grd (-((digits_1546 : (List Int)).length : Int) ≤ it1566 ∧ it1566 < ((digits_1546 : (List Int)).length : Int)) <| bnd (((itD (digits_1546) (it1566)) / 8)) fun worth_1568 => Rx.bind ((grd (-((digits_1546 : (List Int)).length : Int) ≤ it1566 ∧ it1566 < ((digits_1546 : (List Int)).length : Int)) <| (if (((itD (digits_1546) (it1566)) % 8) : Int) = 0 then bnd ((worth_1568 - 524288)) fun worth_1579 => .ok (worth_1579) else grd (-((digits_1546 : (List Int)).length : Int) ≤ it1566 ∧ it1566 < ((digits_1546 : (List Int)).length : Int)) <| (if ((itD (digits_1546) (it1566)) % 8) < 4 then bnd (((worth_1568 % 3) - 1)) fun worth_1582 => .ok (worth_1582) else bnd (((worth_1568 % 61) - 30)) fun worth_1583 => .ok (worth_1583))) : Rx (Int))) fun s => F__law_block_k2 (digits_1546) (share_1547) (levels_1563) (it1566) s

def F__law_block_c7 (it1736 : Int) : Rx Bool :=
  .ok ((!decide ((it1736 : Int) = 0)))

def F__law_block_k6 (levels_1686 : (List Int)) : Rx (List Int) :=
  .ok (levels_1686)

def F__law_block_k5 (cell_1641 : Int) (count_1642 : Int) (levels_1643 : (List Int)) : Rx (List Int) :=
  Rx.bind ((Rx.bind (mapA (levels_1643) [] (fun x => noEr (F__law_block_c7  x))) fun v1690 => (if (List.any (v1690) id) = true then .ok (levels_1643) else grd (0 < (count_1642 : Int)) <| grd (-((levels_1643 : (List Int)).length : Int) ≤ ((cell_1641 / 37) % count_1642) ∧ ((cell_1641 / 37) % count_1642) < ((levels_1643 : (List Int)).length : Int)) <| bnd (setL (levels_1643) (((cell_1641 / 37) % count_1642)) (1)) fun y1768 => .ok (y1768)) : Rx ((List Int)))) fun s => F__law_block_k6  s

def F__law_block_k4 (cell_1619 : Int) (count_1620 : Int) (levels_1621 : (List Int)) : Rx (List Int) :=
  Rx.bind (((if (((cell_1619 / 29) % 5) : Int) = 0 then grd (-(2 ^ 63) ≤ (count_1620 : Int) ∧ (count_1620 : Int) < 2 ^ 63 ∧ ([0]).length * Int.toNat (count_1620) ≤ 1000000) <| grd (0 < (count_1620 : Int)) <| grd (-((repL ([0]) (count_1620) : (List Int)).length : Int) ≤ ((cell_1619 / 31) % count_1620) ∧ ((cell_1619 / 31) % count_1620) < ((repL ([0]) (count_1620) : (List Int)).length : Int)) <| bnd (setL (repL ([0]) (count_1620)) (((cell_1619 / 31) % count_1620)) ((524287 - ((cell_1619 / 5) % 1048576)))) fun y1676 => .ok (y1676) else .ok (levels_1621)) : Rx ((List Int)))) fun s => F__law_block_k5 (cell_1619) (count_1620) s

def F__law_block_r1 (cell_1548 : Int) (count_1549 : Int) (levels_1618 : (List Int)) : Rx (List Int) :=
  Rx.bind (((if (((cell_1548 / 23) % 5) : Int) = 0 then grd (-((levels_1618 : (List Int)).length : Int) ≤ (count_1549 - 1) ∧ (count_1549 - 1) < ((levels_1618 : (List Int)).length : Int)) <| bnd (setL (levels_1618) ((count_1549 - 1)) (((-524288) + ((cell_1548 / 7) % 1048576)))) fun y1633 => .ok (y1633) else .ok (levels_1618)) : Rx ((List Int)))) fun s => F__law_block_k4 (cell_1548) (count_1549) s

def F__law_block (cell' : Int) (count' : Int) : Rx (List Int) :=
  Rx.bind (F__law_digits cell' 8388608 count') fun v1526 => bnd ((1 + ((cell' / 19) % 9))) fun share_1535 => grd (-(2 ^ 62) ≤ count' ∧ count' < 2 ^ 62) <| Rx.bind (forS (rng (0) (Int.toNat (count'))) (([] : (List Int))) (fun s x => F__law_block_b1 (v1526) (share_1535) s x)) fun s => F__law_block_r1 (cell') (count') s

def F__law_is_integers_b1 (it1791 : Int) : Rx (Lp Unit Bool) :=
  .ok (.go ())

def F__law_is_integers_r1  : Rx Bool :=
  .ok (true)

def F__law_is_integers (actual' : (List Int)) (count' : Int) : Rx Bool :=
  (if ((((actual') : (List Int)).length : Int) : Int) = count' then Rx.bind (forR (actual') () (fun s x => F__law_is_integers_b1   x)) fun l => l.aft Rx.ok fun s => F__law_is_integers_r1   else .ok (false))

def F_law_k2 (writer_1884 : St_SymbolWriter) (blocks_1885 : (List (List Int))) (k_1886 : Int) (cell_1887 : Int) (count_1888 : Int) : Rx (Lp (St_SymbolWriter × (List (List Int))) Bool) :=
  Rx.bind (F__law_block ((cell_1887 / 2)) count_1888) fun v1902 => grd ((blocks_1885).length ≤ 1000000) <| bnd ((blocks_1885) ++ [v1902]) fun y1924 => grd (-((y1924 : (List (List Int))).length : Int) ≤ k_1886 ∧ k_1886 < ((y1924 : (List (List Int))).length : Int)) <| grd (-((y1924 : (List (List Int))).length : Int) ≤ k_1886 ∧ k_1886 < ((y1924 : (List (List Int))).length : Int)) <| Rx.bind (F_put_levels (writer_1884) ((itD (y1924) (k_1886)))) fun v1951 => grd (-((y1924 : (List (List Int))).length : Int) ≤ k_1886 ∧ k_1886 < ((y1924 : (List (List Int))).length : Int)) <| (if ((itD (y1924) (k_1886)) : (List Int)) = (itD (y1924) (k_1886)) then Rx.bind (F_SymbolWriter_flag (v1951) (((cell_1887 / 3) % 256)) (decide ((((cell_1887 / 5) % 2) : Int) = 1))) fun v1972 => .ok (.go ((v1972), (y1924))) else .ok (.rt (false)))

def F_law_b1 (script_1851 : (List Int)) (writer_1877 : St_SymbolWriter) (blocks_1878 : (List (List Int))) (it1881 : Int) : Rx (Lp (St_SymbolWriter × (List (List Int))) Bool) :=
  Rx.bind (F__law_cell (script_1851) it1881) fun v1882 => bnd ((v1882 + it1881)) fun cell_1883 => Rx.bind (((if ((cell_1883 % 2) : Int) = 1 then .ok (64) else .ok (16)) : Rx (Int))) fun s => F_law_k2 (writer_1877) (blocks_1878) (it1881) (cell_1883) s

def F_law_k4 (blocks_2109 : (List (List Int))) (k_2110 : Int) (cell_2111 : Int) (reader_2112 : St_SymbolReader) (found_2113 : (List (List Int))) (size_2114 : Int) : Rx (Lp (St_SymbolReader × (List (List Int))) Bool) :=
  Rx.bind (F_get_levels (reader_2112) size_2114) fun v2134 => grd ((-(2 ^ 64) < (size_2114 : Int) ∧ (size_2114 : Int) < 2 ^ 64) ∨ (-(2 ^ 64) < (size_2114 : Int) ∧ (size_2114 : Int) < 2 ^ 64)) <| Rx.bind (F__law_is_integers (v2134.1) ((size_2114 * size_2114))) fun v2147 => (if v2147 = true then grd (-((blocks_2109 : (List (List Int))).length : Int) ≤ k_2110 ∧ k_2110 < ((blocks_2109 : (List (List Int))).length : Int)) <| (if (v2134.1 : (List Int)) = (itD (blocks_2109) (k_2110)) then grd ((found_2113).length ≤ 1000000) <| bnd ((found_2113) ++ [v2134.1]) fun y2174 => Rx.bind (F_SymbolReader_flag (v2134.2) (((cell_2111 / 3) % 256))) fun v2179 => (if V.bl (v2179.1) = V.bl (decide ((((cell_2111 / 5) % 2) : Int) = 1)) then .ok (.go ((v2179.2), (y2174))) else .ok (.rt (false))) else .ok (.rt (false))) else .ok (.rt (false)))

def F_law_b3 (script_2063 : (List Int)) (blocks_2064 : (List (List Int))) (reader_2102 : St_SymbolReader) (found_2103 : (List (List Int))) (it2106 : Int) : Rx (Lp (St_SymbolReader × (List (List Int))) Bool) :=
  Rx.bind (F__law_cell (script_2063) it2106) fun v2107 => bnd ((v2107 + it2106)) fun cell_2108 => Rx.bind (((if ((cell_2108 % 2) : Int) = 1 then .ok (8) else .ok (4)) : Rx (Int))) fun s => F_law_k4 (blocks_2064) (it2106) (cell_2108) (reader_2102) (found_2103) s

def F_law_r3 (blocks_2065 : (List (List Int))) (reader_2215 : St_SymbolReader) (found_2216 : (List (List Int))) : Rx Bool :=
  .ok (decide ((found_2216 : (List (List Int))) = blocks_2065))

def F_law_r1 (script_1852 : (List Int)) (writer_1995 : St_SymbolWriter) (blocks_1996 : (List (List Int))) : Rx Bool :=
  Rx.bind (F_Encoder_octets (writer_1995.enc)) fun v1997 => Rx.bind (F_Decoder___init__ (v1997)) fun v2018 => Rx.bind (F_SymbolReader___init__ (v2018)) fun v2046 => grd (-(2 ^ 62) ≤ (((blocks_1996) : (List (List Int))).length : Int) ∧ (((blocks_1996) : (List (List Int))).length : Int) < 2 ^ 62) <| Rx.bind (forR (rng (0) (Int.toNat ((((blocks_1996) : (List (List Int))).length : Int)))) (((⟨v2018⟩ : St_SymbolReader)), (([] : (List (List Int))))) (fun s x => F_law_b3 (script_1852) (blocks_1996) (s.1) (s.2) x)) fun l => l.aft Rx.ok fun s => F_law_r3 (blocks_1996) (s.1) (s.2)

def F_law (script' : (List Int)) : Rx Bool :=
  Rx.bind F_Encoder___init__ fun v1807 => Rx.bind (F_SymbolWriter___init__ (v1807)) fun v1835 => grd (-(2 ^ 62) ≤ (if 12 < (1 + (((script') : (List Int)).length : Int)) then 12 else (1 + (((script') : (List Int)).length : Int))) ∧ (if 12 < (1 + (((script') : (List Int)).length : Int)) then 12 else (1 + (((script') : (List Int)).length : Int))) < 2 ^ 62) <| Rx.bind (forR (rng (0) (Int.toNat ((if 12 < (1 + (((script') : (List Int)).length : Int)) then 12 else (1 + (((script') : (List Int)).length : Int)))))) (((⟨v1807⟩ : St_SymbolWriter)), (([] : (List (List Int))))) (fun s x => F_law_b1 (script') (s.1) (s.2) x)) fun l => l.aft Rx.ok fun s => F_law_r1 (script') (s.1) (s.2)
theorem cell_gv (s : List Int) (k : Int) (h : 0 ≤ k) : Gv (F__law_cell s k) (fun v => 0 ≤ v) := by
  unfold F__law_cell
  refine Gv.ite (fun c => Gv.grd ⟨by omega, c⟩ (.ok ?_)) fun _ => .ok (by decide)
  split <;> omega
theorem all_snoc {P : Int → Prop} {xs : List Int} {y : Int} (h : ∀ x ∈ xs, P x) (hy : P y) : ∀ x ∈ xs ++ [y], P x := fun x hx => by
  rcases List.mem_append.mp hx with q | q
  · exact h x q
  · rw [List.mem_singleton.mp q]
    exact hy
theorem digits_gv (cell base most : Int) (h0 : 0 < base) (h1 : base < 2 ^ 64) (hm : 0 ≤ most) (hm2 : most ≤ 1000) : Gv (F__law_digits cell base most) (fun v => (v.length : Int) = most ∧ ∀ x ∈ v, 0 ≤ x ∧ x < base) := by
  unfold F__law_digits
  refine Gv.bnd fun large _ => Gv.grd ⟨by omega, by omega⟩ (Gv.bind (Gv.forS (P := fun i s => s.2.length = i ∧ ∀ x ∈ s.2, 0 ≤ x ∧ x < base) ⟨rfl, fun x hx => by cases hx⟩ fun i x s hx p => ?_) fun s p => .ok ⟨?_, p.2⟩)
  · obtain ⟨rfl, hi⟩ := rng_at hx
    have hl := p.1
    unfold F__law_digits_b1
    refine Gv.ite (fun _ => Gv.grd h0 (Gv.grd (by omega) (Gv.bnd fun y hy => Gv.grd ⟨h0, by omega⟩ (Gv.bnd fun c _ => .ok ?_)))) fun _ => Gv.grd ?_ (Gv.grd ?_ (Gv.grd h0 (Gv.grd (by omega) (Gv.bnd fun y hy => .ok ?_))))
    · subst hy
      exact ⟨by rw [List.length_append, hl]; rfl, all_snoc p.2 ⟨Int.emod_nonneg _ (by omega), Int.emod_lt_of_pos _ h0⟩⟩
    · left
      omega
    · right
      omega
    · subst hy
      exact ⟨by rw [List.length_append, hl]; rfl, all_snoc p.2 ⟨Int.emod_nonneg _ (by omega), Int.emod_lt_of_pos _ h0⟩⟩
  · have := p.1
    rw [rng_len] at this
    omega
theorem sIx_in {n d : Nat} {v : Int} (h0 : 0 ≤ v) (h1 : v ≤ n) : HT.sIx n d (some v) = v.toNat := by
  show (if v < 0 then (v + (n : Int)).toNat else min v.toNat n) = v.toNat
  rw [if_neg (by omega)]
  omega
theorem itD_nat {α : Type} [Inhabited α] {xs : List α} {k : Int} (n : Nat) (e : k = (n : Int)) {a : α} (h : xs[n]? = some a) : itD xs k = a := by
  subst e
  have hl := get_len h
  unfold itD atI ixN
  rw [if_pos (by omega), if_pos (by omega)]
  show (xs[n]?).getD default = a
  rw [h]
  rfl
theorem rng_at' {lo : Int} {n i : Nat} (h : i < n) : (rng lo n)[i]? = some (lo + (i : Int)) := rng_get h
theorem cut_rng {α : Type} [Inhabited α] {xs : List α} {a n : Int} (h0 : 0 ≤ a) (hn : 0 ≤ n) (h1 : a + n ≤ xs.length) : cutL xs (some a) (some (a + n)) = (rng 0 n.toNat).map (fun j => itD xs (a + j)) := by
  unfold cutL
  rw [sIx_in h0 (by omega), sIx_in (by omega) h1]
  apply List.ext_getElem?
  intro i
  by_cases hi : i < n.toNat
  · rw [List.getElem?_take_of_lt (by omega), List.getElem?_drop, List.getElem?_map, rng_get hi]
    have hl : a.toNat + i < xs.length := by omega
    rw [List.getElem?_eq_getElem hl]
    show some _ = some (itD xs (a + (0 + (i : Int))))
    rw [itD_nat (a.toNat + i) (by omega) (List.getElem?_eq_getElem hl)]
  · rw [List.getElem?_eq_none (by rw [List.length_take, List.length_drop]; omega), List.getElem?_eq_none (by rw [List.length_map, rng_len]; omega)]
theorem cut_len {α : Type} {xs : List α} {a b : Int} (h0 : 0 ≤ a) (hn : a ≤ b) (h1 : b ≤ xs.length) : ((cutL xs (some a) (some b)).length : Int) = b - a := by
  unfold cutL
  rw [sIx_in h0 (by omega), sIx_in (by omega) h1, List.length_take, List.length_drop]
  omega
theorem rep1 {α : Type} (a : α) (n : Int) : repL [a] n = List.replicate n.toNat a := by
  unfold repL
  induction n.toNat with
  | zero => rfl
  | succ k ih => rw [List.replicate_succ, List.flatten_cons, ih, List.replicate_succ]; rfl
theorem rep1_len {α : Type} (a : α) {n : Int} (h : 0 ≤ n) : ((repL [a] n).length : Int) = n := by
  rw [rep1, List.length_replicate]
  omega
theorem rep1_at {α : Type} [Inhabited α] (a : α) {n : Int} (h : 0 < n) : itD (repL [a] n) 0 = a := by
  rw [rep1]
  obtain ⟨k, hk⟩ : ∃ k, n.toNat = k + 1 := ⟨n.toNat - 1, by omega⟩
  rw [hk, List.replicate_succ]
  exact itD_nat 0 rfl rfl
theorem rep1_mem {α : Type} {a b : α} {n : Int} (h : b ∈ repL [a] n) : b = a := by
  rw [rep1] at h
  exact List.eq_of_mem_replicate h
theorem itD_mem {α : Type} [Inhabited α] {xs : List α} {k : Int} (h0 : 0 ≤ k) (h1 : k < xs.length) : itD xs k ∈ xs := by
  have hl : k.toNat < xs.length := by omega
  rw [itD_nat k.toNat (by omega) (List.getElem?_eq_getElem hl)]
  exact List.getElem_mem hl
namespace Pu
theorem len_rep1 {α : Type} (a : α) (k : Int) : (repL [a] k).length = k.toNat := by
  unfold repL
  simp
theorem mem_rep1 {α : Type} {a x : α} {k : Int} (h : x ∈ repL [a] k) : x = a := by
  unfold repL at h
  simp at h
  exact h.2
theorem itD_nat {α : Type} [Inhabited α] {e : List α} {k : Nat} {x : α} (h : e[k]? = some x) : itD e (k : Int) = x := by
  unfold itD atI ixN
  have hk := (List.getElem?_eq_some_iff.mp h).1
  rw [if_pos (by omega), if_pos (by omega)]
  simp [h]
theorem itD_mem {α : Type} [Inhabited α] {e : List α} {k : Int} (h : -(e.length : Int) ≤ k ∧ k < e.length) : itD e k ∈ e := by
  obtain ⟨j, hj, hl⟩ := ixN_some h
  unfold itD atI
  rw [hj]
  show (e[j]?).getD default ∈ e
  rw [List.getElem?_eq_getElem hl]
  exact List.getElem_mem hl
abbrev EncS := St_Encoder
def adaptE (p d : Int) : Int := if d = 0 then p + (4096 - p) / 32 else p - p / 32
theorem adaptE_in {p d : Int} (h : 31 ≤ p ∧ p ≤ 4065) : 31 ≤ adaptE p d ∧ adaptE p d ≤ 4065 := by
  unfold adaptE
  split <;> omega
def num (xs : List Int) : Int := xs.foldl (fun a x => a * 256 + x) 0
theorem num_snoc (xs : List Int) (x : Int) : num (xs ++ [x]) = num xs * 256 + x := by
  unfold num
  rw [List.foldl_append] <;> rfl
def incR : List Int → List Int
  | [] => []
  | x :: r => if x = 255 then 0 :: incR r else (x + 1) :: r
def incE (xs : List Int) : List Int := (incR xs.reverse).reverse
theorem incR_rep (x : Int) (r : List Int) (hx : x ≠ 255) : ∀ j : Nat, incR (List.replicate j 255 ++ x :: r) = List.replicate j 0 ++ (x + 1) :: r
  | 0 => by simp [incR, hx]
  | j + 1 => by
    rw [List.replicate_succ, List.cons_append, incR, if_pos rfl, incR_rep x r hx j, List.replicate_succ, List.cons_append]
theorem incE_mid {A : List Int} {x : Int} {j : Nat} (hx : x ≠ 255) : incE (A ++ [x] ++ List.replicate j 255) = A ++ [x + 1] ++ List.replicate j 0 := by
  unfold incE
  rw [show (A ++ [x] ++ List.replicate j (255 : Int)).reverse = List.replicate j 255 ++ x :: A.reverse by simp, incR_rep x _ hx]
  simp
theorem mid_in {F A : List Int} {x pl : Int} {j : Nat} (h : F = A ++ [x] ++ List.replicate j 0) (hp : pl = (A.length : Int)) : -(F.length : Int) ≤ pl ∧ pl < F.length := by
  subst h hp
  simp only [List.length_append, List.length_cons, List.length_nil, List.length_replicate]
  omega
theorem get_mid {α : Type} {A R : List α} {x : α} : (A ++ [x] ++ R)[A.length]? = some x := by simp
theorem mid_at {F A : List Int} {x pl : Int} {j : Nat} (h : F = A ++ [x] ++ List.replicate j 0) (hp : pl = (A.length : Int)) : itD F pl = x := by
  subst h hp
  exact itD_nat get_mid
theorem ixN_nat' {n j : Nat} (hj : j < n) : ixN n (j : Int) = some j := by
  unfold ixN
  rw [if_pos (by omega), if_pos (by omega)]
  simp
theorem setL_mid {A R : List Int} {x y : Int} : setL (A ++ [x] ++ R) (A.length : Int) y = A ++ [y] ++ R := by
  unfold setL
  rw [ixN_nat' (by simp)]
  simp
theorem all255 {F : List Int} {j : Nat} (h : ∃ y ∈ F, y ≠ 255) (e : F = List.replicate j 255) : False := by
  obtain ⟨y, hy, hn⟩ := h
  rw [e] at hy
  exact hn (List.eq_of_mem_replicate hy)
theorem carry_start {F : List Int} (h : ∃ y ∈ F, y ≠ 255) : ∃ (A : List Int) (x : Int) (j : Nat), F = A ++ [x] ++ List.replicate j 255 ∧ F = A ++ [x] ++ List.replicate j 0 ∧ ((F.length : Int) - 1) = (A.length : Int) := by
  have hn : F ≠ [] := by
    obtain ⟨y, hy, _⟩ := h
    intro z
    rw [z] at hy
    cases hy
  refine ⟨F.dropLast, F.getLast hn, 0, ?_, ?_, ?_⟩
  · rw [List.dropLast_concat_getLast]
    simp
  · rw [List.dropLast_concat_getLast]
    simp
  · have := List.length_pos_iff.mpr hn
    rw [List.length_dropLast]
    omega
theorem carry_A {F A : List Int} {x : Int} {j : Nat} (h : ∃ y ∈ F, y ≠ 255) (e : F = A ++ [x] ++ List.replicate j 255) (hx : x = 255) : A ≠ [] := by
  intro z
  subst z hx
  refine all255 (j := j + 1) h ?_
  rw [e, List.replicate_succ] <;> rfl
theorem carry_turn {F F' A : List Int} {x pl : Int} {j : Nat} (h : ∃ y ∈ F, y ≠ 255) (e : F = A ++ [x] ++ List.replicate j 255) (e' : F' = A ++ [x] ++ List.replicate j 0) (hp : pl = (A.length : Int)) (hx : x = 255) :
    ∃ (B : List Int) (y : Int) (k : Nat), F = B ++ [y] ++ List.replicate k 255 ∧ setL F' pl 0 = B ++ [y] ++ List.replicate k 0 ∧ pl - 1 = (B.length : Int) := by
  have hA := carry_A h e hx
  refine ⟨A.dropLast, A.getLast hA, j + 1, ?_, ?_, ?_⟩
  · rw [e, hx, List.dropLast_concat_getLast hA, List.replicate_succ]
    simp
  · rw [e', hp, setL_mid, List.dropLast_concat_getLast hA, List.replicate_succ]
    simp
  · have := List.length_pos_iff.mpr hA
    rw [hp, List.length_dropLast]
    omega
theorem carry_less {F A : List Int} {x pl : Int} {j : Nat} (h : ∃ y ∈ F, y ≠ 255) (e : F = A ++ [x] ++ List.replicate j 255) (hp : pl = (A.length : Int)) (hx : x = 255) : (pl - 1).toNat < pl.toNat := by
  have := List.length_pos_iff.mpr (carry_A h e hx)
  omega
theorem carry_end {F F' A : List Int} {x pl : Int} {j : Nat} (e : F = A ++ [x] ++ List.replicate j 255) (e' : F' = A ++ [x] ++ List.replicate j 0) (hp : pl = (A.length : Int)) (hx : x ≠ 255) : setL F' pl (itD F' pl + 1) = incE F := by
  rw [mid_at e' hp, e', hp, setL_mid, e, incE_mid hx]

def encInit : EncS := ⟨repL [2048] 256, [], 0, 4294967296 - 1⟩
def encPre (e : EncS) (p d : Int) : EncS :=
  if d = 0 then ⟨e.probs, e.front, e.low, e.span / 4096 * p⟩
  else if 4294967296 ≤ e.low + e.span / 4096 * p then ⟨e.probs, incE e.front, e.low + e.span / 4096 * p - 4294967296, e.span - e.span / 4096 * p⟩
  else ⟨e.probs, e.front, e.low + e.span / 4096 * p, e.span - e.span / 4096 * p⟩
def encNorm1 (e : EncS) : EncS := ⟨e.probs, e.front ++ [e.low / 16777216], e.low * 256 % 4294967296, e.span * 256⟩
def encNorm (e : EncS) : EncS := if e.span < 16777216 then encNorm1 e else e
def encNarrow (e : EncS) (p d : Int) : EncS := encNorm (encPre e p d)
def encCode (e : EncS) (c d : Int) : EncS := ⟨setL (encNarrow e (itD e.probs c) d).probs c (adaptE (itD e.probs c) d), (encNarrow e (itD e.probs c) d).front, (encNarrow e (itD e.probs c) d).low, (encNarrow e (itD e.probs c) d).span⟩
structure EncMid (e : EncS) : Prop where
  oct : ∀ x ∈ e.front, 0 ≤ x ∧ x ≤ 255
  low : 0 ≤ e.low ∧ e.low < 4294967296
  span0 : 0 < e.span
  span : 65536 ≤ e.span ∧ e.span < 4294967296
  fit : num e.front * 4294967296 + e.low + e.span ≤ 256 ^ e.front.length * 4294967296
structure EncG (e : EncS) : Prop where
  len : e.probs.length = 256
  prob : ∀ p ∈ e.probs, 31 ≤ p ∧ p ≤ 4065
  mid : EncMid e
  big : 16777216 ≤ e.span
theorem EncG.chance {e : EncS} (h : EncG e) {c : Int} (h0 : 0 ≤ c) (h1 : c < 256) : 31 ≤ itD e.probs c ∧ itD e.probs c ≤ 4065 := h.prob _ (itD_mem (by rw [h.len]; omega))
theorem part_in {s p : Int} (hs : 16777216 ≤ s ∧ s < 4294967296) (hp : 31 ≤ p ∧ p ≤ 4065) : 65536 ≤ s / 4096 * p ∧ 65536 ≤ s - s / 4096 * p := by
  have h1 : 4096 ≤ s / 4096 := by omega
  have h2 : s / 4096 * 4096 ≤ s := by omega
  have a : s / 4096 * 31 ≤ s / 4096 * p := Int.mul_le_mul_of_nonneg_left hp.1 (by omega)
  have b : s / 4096 * p ≤ s / 4096 * 4065 := Int.mul_le_mul_of_nonneg_left hp.2 (by omega)
  omega
theorem snocInd {α : Type} {motive : List α → Prop} (nil : motive []) (snoc : ∀ xs x, motive xs → motive (xs ++ [x])) (xs : List α) : motive xs := by
  have : ∀ l : List α, motive l.reverse := by
    intro l
    induction l with
    | nil => exact nil
    | cons x r ih =>
      rw [List.reverse_cons]
      exact snoc _ _ ih
  have h := this xs.reverse
  rwa [List.reverse_reverse] at h
theorem num_nn : ∀ {xs : List Int}, (∀ x ∈ xs, 0 ≤ x ∧ x ≤ 255) → 0 ≤ num xs := by
  intro xs
  induction xs using snocInd with
  | nil => intro _; decide
  | snoc xs x ih =>
    intro h
    rw [num_snoc]
    have h1 := ih fun y hy => h y (List.mem_append_left _ hy)
    have h2 := h x (List.mem_append_right _ List.mem_cons_self)
    omega
theorem inc_len (xs : List Int) : (incE xs).length = xs.length := by
  have : ∀ l : List Int, (incR l).length = l.length := by
    intro l
    induction l with
    | nil => rfl
    | cons x r ih =>
      unfold incR
      split
      · rw [List.length_cons, List.length_cons, ih]
      · rfl
  unfold incE
  rw [List.length_reverse, this, List.length_reverse]
theorem split255 : ∀ {xs : List Int}, (∃ y ∈ xs, y ≠ 255) → ∃ (A : List Int) (x : Int) (j : Nat), xs = A ++ [x] ++ List.replicate j 255 ∧ x ≠ 255 := by
  intro xs
  induction xs using snocInd with
  | nil => rintro ⟨y, hy, _⟩; cases hy
  | snoc xs x ih =>
    intro h
    by_cases hx : x = 255
    · subst hx
      obtain ⟨y, hy, hn⟩ := h
      have : ∃ y ∈ xs, y ≠ 255 := by
        rcases List.mem_append.mp hy with z | z
        · exact ⟨y, z, hn⟩
        · simp at z
          exact absurd z hn
      obtain ⟨A, x, j, e, hx⟩ := ih this
      refine ⟨A, x, j + 1, ?_, hx⟩
      rw [e, List.replicate_succ', List.append_assoc]
    · exact ⟨xs, x, 0, by simp, hx⟩
theorem num_rep (A : List Int) (x : Int) : ∀ j : Nat, num (A ++ [x + 1] ++ List.replicate j 0) = num (A ++ [x] ++ List.replicate j 255) + 1
  | 0 => by simp [num_snoc]; omega
  | j + 1 => by
    rw [List.replicate_succ', List.replicate_succ', ← List.append_assoc, ← List.append_assoc, num_snoc, num_snoc, num_rep A x j]
    omega
theorem inc_num {xs : List Int} (h : ∃ y ∈ xs, y ≠ 255) : num (incE xs) = num xs + 1 := by
  obtain ⟨A, x, j, e, hx⟩ := split255 h
  rw [e, incE_mid hx, num_rep]
theorem inc_oct {xs : List Int} (h : ∃ y ∈ xs, y ≠ 255) (ho : ∀ x ∈ xs, 0 ≤ x ∧ x ≤ 255) : ∀ x ∈ incE xs, 0 ≤ x ∧ x ≤ 255 := by
  obtain ⟨A, x, j, e, hx⟩ := split255 h
  subst e
  rw [incE_mid hx]
  intro y hy
  have hxo := ho x (by simp)
  simp at hy
  rcases hy with z | z | z
  · exact ho y (by simp [z])
  · omega
  · omega
theorem num_all255 : ∀ {xs : List Int}, (∀ y ∈ xs, y = 255) → num xs = 256 ^ xs.length - 1 := by
  intro xs
  induction xs using snocInd with
  | nil => intro _; decide
  | snoc xs x ih =>
    intro h
    rw [num_snoc, ih fun y hy => h y (List.mem_append_left _ hy), h x (List.mem_append_right _ List.mem_cons_self), List.length_append, List.length_cons, List.length_nil, Int.pow_succ]
    omega
theorem carry_pre {e : EncS} (h : EncG e) {p : Int} (hp : 31 ≤ p ∧ p ≤ 4065) (c : 4294967296 ≤ e.low + e.span / 4096 * p) : ∃ y ∈ e.front, y ≠ 255 := by
  by_cases z : ∃ y ∈ e.front, y ≠ 255
  · exact z
  · have a : ∀ y ∈ e.front, y = 255 := fun y hy => by
      by_cases q : y = 255
      · exact q
      · exact absurd ⟨y, hy, q⟩ z
    have n := num_all255 a
    have f := h.mid.fit
    have q := part_in ⟨h.big, h.mid.span.2⟩ hp
    rw [n] at f
    have : (256 ^ e.front.length - 1 : Int) * 4294967296 = 256 ^ e.front.length * 4294967296 - 4294967296 := by rw [Int.sub_mul]; omega
    omega
theorem encPre_ok {e : EncS} (h : EncG e) {p : Int} (hp : 31 ≤ p ∧ p ≤ 4065) (d : Int) : EncMid (encPre e p d) := by
  have q := part_in ⟨h.big, h.mid.span.2⟩ hp
  have f := h.mid.fit
  have l := h.mid.low
  have s := h.mid.span
  unfold encPre
  split
  · exact ⟨h.mid.oct, l, by show 0 < e.span / 4096 * p; omega, by show 65536 ≤ e.span / 4096 * p ∧ e.span / 4096 * p < 4294967296; omega, by show num e.front * 4294967296 + e.low + e.span / 4096 * p ≤ 256 ^ e.front.length * 4294967296; omega⟩
  · split
    · rename_i c
      have cp := carry_pre h hp c
      refine ⟨inc_oct cp h.mid.oct, ?_, ?_, ?_, ?_⟩
      · show 0 ≤ e.low + e.span / 4096 * p - 4294967296 ∧ e.low + e.span / 4096 * p - 4294967296 < 4294967296
        omega
      · show 0 < e.span - e.span / 4096 * p
        omega
      · show 65536 ≤ e.span - e.span / 4096 * p ∧ e.span - e.span / 4096 * p < 4294967296
        omega
      · show num (incE e.front) * 4294967296 + (e.low + e.span / 4096 * p - 4294967296) + (e.span - e.span / 4096 * p) ≤ 256 ^ (incE e.front).length * 4294967296
        rw [inc_num cp, inc_len]
        omega
    · refine ⟨h.mid.oct, ?_, ?_, ?_, ?_⟩
      · show 0 ≤ e.low + e.span / 4096 * p ∧ e.low + e.span / 4096 * p < 4294967296
        omega
      · show 0 < e.span - e.span / 4096 * p
        omega
      · show 65536 ≤ e.span - e.span / 4096 * p ∧ e.span - e.span / 4096 * p < 4294967296
        omega
      · show num e.front * 4294967296 + (e.low + e.span / 4096 * p) + (e.span - e.span / 4096 * p) ≤ 256 ^ e.front.length * 4294967296
        omega
theorem norm_span {e : EncS} (h : EncMid e) : 16777216 ≤ (encNorm1 e).span := by
  have := h.span
  show 16777216 ≤ e.span * 256
  omega
theorem shl32 {i j : Int} (h : 0 ≤ i ∧ i < 4294967296) (hj : 0 ≤ j ∧ j ≤ 64) : CShl i j := by
  obtain ⟨k, rfl⟩ := Int.eq_ofNat_of_zero_le hj.1
  exact shl_ok (n := 64) (by omega) (by omega)
theorem encNorm_eq (e : EncS) : (⟨e.probs, e.front ++ [e.low / 16777216], PySem.Builtin.bitAnd (e.low * 256) (4294967296 - 1), e.span * 256⟩ : EncS) = encNorm1 e := by
  unfold encNorm1
  rw [show (4294967296 - 1 : Int) = 4294967295 by decide, bitAnd_m32] <;> rfl
theorem norm_ok {e : EncS} (h : EncMid e) : EncMid (encNorm e) ∧ 16777216 ≤ (encNorm e).span := by
  unfold encNorm
  split
  · rename_i c
    have l := h.low
    have s := h.span
    have f := h.fit
    refine ⟨⟨?_, ?_, ?_, ?_, ?_⟩, norm_span h⟩
    · intro x hx
      rcases List.mem_append.mp hx with z | z
      · exact h.oct x z
      · simp at z
        omega
    · show 0 ≤ e.low * 256 % 4294967296 ∧ e.low * 256 % 4294967296 < 4294967296
      omega
    · show 0 < e.span * 256
      omega
    · show 65536 ≤ e.span * 256 ∧ e.span * 256 < 4294967296
      omega
    · show num (e.front ++ [e.low / 16777216]) * 4294967296 + e.low * 256 % 4294967296 + e.span * 256 ≤ 256 ^ (e.front ++ [e.low / 16777216]).length * 4294967296
      rw [num_snoc, List.length_append, List.length_cons, List.length_nil, Int.pow_succ]
      have e1 : (num e.front * 256 + e.low / 16777216) * 4294967296 + e.low * 256 % 4294967296 = (num e.front * 4294967296 + e.low) * 256 := by omega
      have e2 : (256 : Int) ^ e.front.length * 256 * 4294967296 = 256 ^ e.front.length * 4294967296 * 256 := by rw [Int.mul_right_comm]
      rw [e1, e2]
      omega
  · exact ⟨h, by omega⟩
theorem probs_pre (e : EncS) (p d : Int) : (encPre e p d).probs = e.probs := by
  unfold encPre
  split
  · rfl
  · split <;> rfl
theorem len_pre (e : EncS) (p d : Int) : (encPre e p d).front.length = e.front.length := by
  unfold encPre
  split
  · rfl
  · split
    · exact inc_len _
    · rfl
theorem len_narrow (e : EncS) (p d : Int) : (encNarrow e p d).front.length ≤ e.front.length + 1 := by
  have := len_pre e p d
  unfold encNarrow encNorm
  split
  · show ((encPre e p d).front ++ [(encPre e p d).low / 16777216]).length ≤ e.front.length + 1
    rw [List.length_append, List.length_cons, List.length_nil]
    omega
  · omega
theorem probs_narrow (e : EncS) (p d : Int) : (encNarrow e p d).probs = e.probs := by
  unfold encNarrow encNorm
  split
  · exact probs_pre e p d
  · exact probs_pre e p d
theorem narrow_ok {e : EncS} (h : EncG e) {p : Int} (hp : 31 ≤ p ∧ p ≤ 4065) (d : Int) : EncG (encNarrow e p d) := by
  obtain ⟨m, b⟩ := norm_ok (encPre_ok h hp d)
  exact ⟨by rw [probs_narrow]; exact h.len, by rw [probs_narrow]; exact h.prob, m, b⟩
theorem even_ok {e : EncS} (h : EncG e) (d : Int) : EncG (encNarrow e 2048 d) := narrow_ok h (by decide) d
theorem setL_len {α : Type} (xs : List α) (k : Int) (y : α) : (setL xs k y).length = xs.length := by
  unfold setL
  rw [List.length_set]
theorem setL_mem {α : Type} {xs : List α} {k : Int} {x y : α} (h : x ∈ setL xs k y) : x ∈ xs ∨ x = y := by
  unfold setL at h
  exact List.mem_or_eq_of_mem_set h
theorem code_ok {e : EncS} (h : EncG e) {c d : Int} (h0 : 0 ≤ c) (h1 : c < 256) : EncG (encCode e c d) := by
  have hc := h.chance h0 h1
  have n := narrow_ok h hc d
  refine ⟨?_, ?_, ⟨n.mid.oct, n.mid.low, n.mid.span0, n.mid.span, n.mid.fit⟩, n.big⟩
  · show (setL _ _ _).length = 256
    rw [setL_len]
    exact n.len
  · intro p hp
    rcases setL_mem hp with z | z
    · exact n.prob p z
    · rw [z]
      exact adaptE_in hc
theorem init_ok : EncG encInit := by
  refine ⟨by decide, fun p hp => ?_, ⟨fun x hx => (by cases hx), by decide, by decide, by decide, by decide⟩, by decide⟩
  rw [mem_rep1 hp]
  decide
/-! the octets -/
def stripZ (xs : List Int) : List Int := (xs.reverse.dropWhile (fun x => decide (x = 0))).reverse
def digits4 (n : Int) : List Int := ([24, 16, 8, 0] : List Int).map (fun k => PySem.Builtin.bitAnd (n / 2 ^ Int.toNat k) 255)
def encOctets (e : EncS) : List Int := stripZ (e.front ++ digits4 e.low)
theorem shifts_nn {k : Int} (h : k ∈ ([24, 16, 8, 0] : List Int)) : 0 ≤ k := by
  simp at h
  omega
theorem last_in {xs : List Int} (h : xs ≠ []) : -(xs.length : Int) ≤ -1 ∧ -1 < (xs.length : Int) := by
  have := List.length_pos_iff.mpr h
  omega
theorem itD_last {xs : List Int} (h : xs ≠ []) : itD xs (-1) = xs.getLast h := by
  unfold itD atI ixN
  have := List.length_pos_iff.mpr h
  rw [if_neg (by omega), if_pos (by omega)]
  have e : (-1 + (xs.length : Int)).toNat = xs.length - 1 := by omega
  show (xs[(-1 + (xs.length : Int)).toNat]?).getD default = _
  rw [e, ← List.getLast?_eq_getElem?, List.getLast?_eq_some_getLast h] <;> rfl
theorem strip_pop {xs : List Int} (h : xs ≠ []) (hz : itD xs (-1) = 0) : stripZ xs.dropLast = stripZ xs := by
  rw [itD_last h] at hz
  unfold stripZ
  have e : xs.reverse = 0 :: xs.dropLast.reverse := by
    conv => lhs; rw [← List.dropLast_concat_getLast h, List.reverse_append, hz]
    rfl
  rw [e, List.dropWhile_cons, if_pos (by decide)]
theorem drop_less {xs : List Int} (h : xs ≠ []) : xs.dropLast.length < xs.length := by
  have := List.length_pos_iff.mpr h
  rw [List.length_dropLast]
  omega
theorem strip_nil : stripZ [] = [] := rfl
theorem strip_last {xs : List Int} (h : xs ≠ []) (hz : ¬ itD xs (-1) = 0) : stripZ xs = xs := by
  rw [itD_last h] at hz
  unfold stripZ
  have e : xs.reverse = xs.getLast h :: xs.dropLast.reverse := by
    conv => lhs; rw [← List.dropLast_concat_getLast h, List.reverse_append]
    rfl
  rw [e, List.dropWhile_cons, if_neg (by simpa using hz), ← e, List.reverse_reverse]
theorem strip_done {xs : List Int} (h : xs = [] ∨ ¬ itD xs (-1) = 0) : stripZ xs = xs := by
  by_cases n : xs = []
  · rw [n] <;> rfl
  · rcases h with z | z
    · exact absurd z n
    · exact strip_last n z
abbrev DecS := St_Decoder
structure DecO (d : DecS) : Prop where
  place : 0 ≤ d.place
  oct : ∀ x ∈ d.octs, 0 ≤ x ∧ x ≤ 255
def decOct (d : DecS) : Int := if d.place < (d.octs.length : Int) then itD d.octs d.place else 0
def decShift (d : DecS) : DecS := ⟨d.probs, d.octs, if d.place < (d.octs.length : Int) then d.place + 1 else d.place, d.span, d.value * 256 + decOct d⟩
def decPre (d : DecS) (p : Int) : DecS :=
  if d.value < d.span / 4096 * p then ⟨d.probs, d.octs, d.place, d.span / 4096 * p, d.value⟩ else ⟨d.probs, d.octs, d.place, d.span - d.span / 4096 * p, d.value - d.span / 4096 * p⟩
def decBit (d : DecS) (p : Int) : Int := if d.value < d.span / 4096 * p then 0 else 1
def decNorm1 (d : DecS) : DecS := ⟨(decShift d).probs, (decShift d).octs, (decShift d).place, (decShift d).span * 256, (decShift d).value⟩
def decNorm (d : DecS) : DecS := if d.span < 16777216 then decNorm1 d else d
def decDecide (d : DecS) (p : Int) : DecS := decNorm (decPre d p)
def decRead (d : DecS) (c : Int) : DecS := ⟨setL (decDecide d (itD d.probs c)).probs c (adaptE (itD d.probs c) (decBit d (itD d.probs c))), (decDecide d (itD d.probs c)).octs, (decDecide d (itD d.probs c)).place, (decDecide d (itD d.probs c)).span, (decDecide d (itD d.probs c)).value⟩
def decBlank (o : List Int) : DecS := ⟨repL [2048] 256, o, 0, 4294967296 - 1, 0⟩
def decShifts : Nat → DecS → DecS
  | 0, d => d
  | n + 1, d => decShift (decShifts n d)
def decInit (o : List Int) : DecS := ⟨(decShifts 4 (decBlank o)).probs, (decShifts 4 (decBlank o)).octs, (decShifts 4 (decBlank o)).place, (decShifts 4 (decBlank o)).span, if 4294967296 - 2 < (decShifts 4 (decBlank o)).value then 4294967296 - 2 else (decShifts 4 (decBlank o)).value⟩
structure DecG (d : DecS) : Prop where
  o : DecO d
  len : d.probs.length = 256
  prob : ∀ p ∈ d.probs, 31 ≤ p ∧ p ≤ 4065
  span : 16777216 ≤ d.span ∧ d.span < 4294967296
  value : 0 ≤ d.value ∧ d.value < d.span
structure DecMid (d : DecS) : Prop where
  o : DecO d
  len : d.probs.length = 256
  prob : ∀ p ∈ d.probs, 31 ≤ p ∧ p ≤ 4065
  span : 65536 ≤ d.span ∧ d.span < 4294967296
  value : 0 ≤ d.value ∧ d.value < d.span
theorem DecG.chance {d : DecS} (h : DecG d) {c : Int} (h0 : 0 ≤ c) (h1 : c < 256) : 31 ≤ itD d.probs c ∧ itD d.probs c ≤ 4065 := h.prob _ (itD_mem (by rw [h.len]; omega))
theorem ite01 {p : Prop} [Decidable p] (h : (if p then (0 : Int) else 1) = 0) : p := by
  by_cases c : p
  · exact c
  · rw [if_neg c] at h
    exact absurd h (by decide)
theorem ite10 {p : Prop} [Decidable p] (h : ¬ (if p then (0 : Int) else 1) = 0) : ¬ p := by
  intro c
  rw [if_pos c] at h
  exact h rfl
theorem low_or {v o : Int} (h : 0 ≤ v) (h0 : 0 ≤ o) (h1 : o ≤ 255) : PySem.Builtin.bitOr (v * 256) o = v * 256 + o := by
  obtain ⟨a, rfl⟩ := Int.eq_ofNat_of_zero_le h
  obtain ⟨b, rfl⟩ := Int.eq_ofNat_of_zero_le h0
  have z : (a * 256) &&& b = 0 := by
    apply Nat.eq_of_testBit_eq
    intro i
    rw [Nat.testBit_and, Nat.zero_testBit, show a * 256 = a * 2 ^ 8 from rfl, Nat.testBit_mul_two_pow]
    by_cases hi : 8 ≤ i
    · have e : b.testBit i = false := Nat.testBit_lt_two_pow (Nat.lt_of_lt_of_le (by omega : b < 2 ^ 8) (Nat.pow_le_pow_right (by decide) hi))
      rw [e, Bool.and_false]
    · simp [hi]
  rw [PyProof.Rows.bitOr_and, PyProof.Rows.bitAnd_pp (by omega) (by omega)]
  rw [show ((a : Int) * 256).toNat = a * 256 from by omega, show ((b : Int)).toNat = b from rfl, z]
  exact Int.sub_zero _
theorem oct_in {d : DecS} (h : DecO d) : 0 ≤ decOct d ∧ decOct d ≤ 255 := by
  unfold decOct
  split
  · exact h.oct _ (itD_mem (by have := h.place; omega))
  · decide
theorem shift_in {d : DecS} (c : d.place < (d.octs.length : Int)) (h : DecO d) (hv : 0 ≤ d.value) : decShift d = ⟨d.probs, d.octs, d.place + 1, d.span, PySem.Builtin.bitOr (d.value * 256) (itD d.octs d.place)⟩ := by
  have ho := oct_in h
  unfold decShift decOct at *
  rw [if_pos c] at *
  rw [low_or hv ho.1 ho.2]
  simp [c]
theorem shift_out {d : DecS} (c : ¬ d.place < (d.octs.length : Int)) (hv : 0 ≤ d.value) : decShift d = ⟨d.probs, d.octs, d.place, d.span, PySem.Builtin.bitOr (d.value * 256) 0⟩ := by
  unfold decShift decOct
  rw [if_neg c, if_neg c]
  rw [low_or hv (by decide) (by decide)]
theorem decPre_ok {d : DecS} (h : DecG d) {p : Int} (hp : 31 ≤ p ∧ p ≤ 4065) : DecMid (decPre d p) := by
  have hi := part_in h.span hp
  have hv := h.value
  have hs := h.span
  unfold decPre
  split
  · exact ⟨⟨h.o.place, h.o.oct⟩, h.len, h.prob, ⟨hi.1, by show d.span / 4096 * p < 4294967296; omega⟩, ⟨hv.1, by show d.value < d.span / 4096 * p; omega⟩⟩
  · exact ⟨⟨h.o.place, h.o.oct⟩, h.len, h.prob, ⟨hi.2, by show d.span - d.span / 4096 * p < 4294967296; omega⟩, ⟨by show 0 ≤ d.value - d.span / 4096 * p; omega, by show d.value - d.span / 4096 * p < d.span - d.span / 4096 * p; omega⟩⟩
theorem shift_o {d : DecS} (h : DecO d) : DecO (decShift d) := by
  refine ⟨?_, h.oct⟩
  have := h.place
  show 0 ≤ (if d.place < (d.octs.length : Int) then d.place + 1 else d.place)
  split <;> omega
theorem decNorm_ok {d : DecS} (h : DecMid d) : DecG (decNorm d) := by
  have hv := h.value
  have hs := h.span
  have ho := oct_in h.o
  unfold decNorm
  split
  · exact ⟨⟨(shift_o h.o).place, (shift_o h.o).oct⟩, h.len, h.prob, ⟨by show 16777216 ≤ d.span * 256; omega, by show d.span * 256 < 4294967296; omega⟩, ⟨by show 0 ≤ d.value * 256 + decOct d; omega, by show d.value * 256 + decOct d < d.span * 256; omega⟩⟩
  · exact ⟨h.o, h.len, h.prob, ⟨by omega, hs.2⟩, hv⟩
theorem decide_ok {d : DecS} (h : DecG d) {p : Int} (hp : 31 ≤ p ∧ p ≤ 4065) : DecG (decDecide d p) := decNorm_ok (decPre_ok h hp)
theorem probs_decide (d : DecS) (p : Int) : (decDecide d p).probs = d.probs := by
  unfold decDecide decNorm decPre
  split <;> split <;> rfl
theorem bit_in (d : DecS) (p : Int) : 0 ≤ decBit d p ∧ decBit d p ≤ 1 := by
  unfold decBit
  split <;> decide
theorem read_ok {d : DecS} (h : DecG d) {c : Int} (h0 : 0 ≤ c) (h1 : c < 256) : DecG (decRead d c) := by
  have hp := h.chance h0 h1
  have hd := decide_ok h hp
  refine ⟨⟨hd.o.place, hd.o.oct⟩, ?_, fun p hm => ?_, hd.span, hd.value⟩
  · show (setL _ c _).length = 256
    rw [setL_len]
    exact hd.len
  · rcases setL_mem hm with z | z
    · exact hd.prob p z
    · rw [z]
      exact adaptE_in hp
theorem blank_ok {o : List Int} (h : ∀ x ∈ o, 0 ≤ x ∧ x ≤ 255) : DecO (decBlank o) := ⟨Int.le_refl 0, h⟩
theorem shifts_ok {d : DecS} (h : DecO d) (hv : d.value = 0) : ∀ n : Nat, DecO (decShifts n d) ∧ 0 ≤ (decShifts n d).value ∧ (decShifts n d).value < 256 ^ n
  | 0 => ⟨h, by show 0 ≤ d.value; omega, by show d.value < 1; omega⟩
  | n + 1 => by
    have ih := shifts_ok h hv n
    have ho := oct_in ih.1
    refine ⟨shift_o ih.1, ?_, ?_⟩
    · show 0 ≤ (decShifts n d).value * 256 + decOct (decShifts n d)
      omega
    · show (decShifts n d).value * 256 + decOct (decShifts n d) < 256 ^ (n + 1)
      rw [Int.pow_succ]
      omega
theorem shifts_probs (d : DecS) : ∀ n : Nat, (decShifts n d).probs = d.probs
  | 0 => rfl
  | n + 1 => shifts_probs d n
theorem shifts_span (d : DecS) : ∀ n : Nat, (decShifts n d).span = d.span
  | 0 => rfl
  | n + 1 => shifts_span d n
theorem shifts_octs (d : DecS) : ∀ n : Nat, (decShifts n d).octs = d.octs
  | 0 => rfl
  | n + 1 => shifts_octs d n
theorem pow_turn {i : Nat} (hi : i < 4) {v : Int} (h : v < 256 ^ i) : v < 4294967296 := by
  have : (256 : Int) ^ i ≤ 256 ^ 3 := by
    have := Nat.pow_le_pow_right (n := 256) (by decide) (show i ≤ 3 by omega)
    exact_mod_cast this
  omega
theorem decInit_ok {o : List Int} (h : ∀ x ∈ o, 0 ≤ x ∧ x ≤ 255) : DecG (decInit o) := by
  have hs := shifts_ok (blank_ok h) rfl 4
  refine ⟨⟨hs.1.place, hs.1.oct⟩, ?_, ?_, ?_, ?_⟩
  · show (decShifts 4 (decBlank o)).probs.length = 256
    rw [shifts_probs]
    exact init_ok.len
  · show ∀ p ∈ (decShifts 4 (decBlank o)).probs, _
    rw [shifts_probs]
    exact init_ok.prob
  · show 16777216 ≤ (decShifts 4 (decBlank o)).span ∧ (decShifts 4 (decBlank o)).span < 4294967296
    rw [shifts_span]
    show (16777216 : Int) ≤ 4294967296 - 1 ∧ (4294967296 - 1 : Int) < 4294967296
    decide
  · show 0 ≤ (if 4294967296 - 2 < (decShifts 4 (decBlank o)).value then 4294967296 - 2 else (decShifts 4 (decBlank o)).value) ∧ (if 4294967296 - 2 < (decShifts 4 (decBlank o)).value then 4294967296 - 2 else (decShifts 4 (decBlank o)).value) < (decShifts 4 (decBlank o)).span
    rw [shifts_span]
    show _ ∧ _ < (4294967296 - 1 : Int)
    have := hs.2
    split <;> omega
def ItemsOk (items : List (Int × Int)) : Prop := ∀ it ∈ items, (-1 ≤ it.1 ∧ it.1 ≤ 255) ∧ 0 ≤ it.2 ∧ it.2 ≤ 1
def encItem (e : EncS) (it : Int × Int) : EncS := if 0 ≤ it.1 then encCode e it.1 it.2 else encNarrow e 2048 it.2
def encItems (e : EncS) (items : List (Int × Int)) : EncS := items.foldl encItem e
theorem items_turn {e : EncS} {items : List (Int × Int)} {i : Nat} {it : Int × Int} {e' : EncS} (hi : items[i]? = some it) (h : encItem (encItems e (items.take i)) it = e') : e' = encItems e (items.take (i + 1)) := by
  unfold encItems at h ⊢
  rw [take_succ_get hi, List.foldl_append, ← h] <;> rfl
theorem len_code (e : EncS) (c d : Int) : (encCode e c d).front.length ≤ e.front.length + 1 := len_narrow e _ d
theorem item_ok {e : EncS} {it : Int × Int} (h : EncG e) (hi : (-1 ≤ it.1 ∧ it.1 ≤ 255) ∧ 0 ≤ it.2 ∧ it.2 ≤ 1) : EncG (encItem e it) := by
  unfold encItem
  split
  · exact code_ok h (by omega) (by omega)
  · exact even_ok h _
theorem item_len (e : EncS) (it : Int × Int) : (encItem e it).front.length ≤ e.front.length + 1 := by
  unfold encItem
  split
  · exact len_code _ _ _
  · exact len_narrow _ _ _
theorem items_ok : ∀ {items : List (Int × Int)} {e : EncS}, EncG e → ItemsOk items → EncG (encItems e items)
  | [], _, h, _ => h
  | it :: r, e, h, hi => items_ok (items := r) (item_ok h (hi it List.mem_cons_self)) fun x hx => hi x (List.mem_cons_of_mem _ hx)
theorem items_len : ∀ (items : List (Int × Int)) (e : EncS), (encItems e items).front.length ≤ e.front.length + items.length
  | [], e => Nat.le_refl _
  | it :: r, e => by
    have h1 := item_len e it
    have h2 := items_len r (encItem e it)
    have h3 : encItems e (it :: r) = encItems (encItem e it) r := rfl
    rw [h3, List.length_cons]
    omega
theorem items_app (e : EncS) (xs ys : List (Int × Int)) : encItems e (xs ++ ys) = encItems (encItems e xs) ys := by
  unfold encItems
  rw [List.foldl_append]
structure CodeN (e : EncS) (low span count : Int) : Prop where
  low : low = num e.front * 4294967296 + e.low
  span : span = e.span
  count : count = (e.front.length : Int)
structure CodeR (e : EncS) (chances : List Int) (low span count : Int) : Prop where
  toN : CodeN e low span count
  chances : chances = e.probs ++ [2048]
theorem codeR_init : CodeR encInit (repL [2048] 257) 0 (4294967296 - 1) 0 := ⟨⟨rfl, rfl, rfl⟩, by decide⟩
theorem itD_app {e : List Int} {a c : Int} (h0 : 0 ≤ c) (h1 : c < e.length) : itD (e ++ [a]) c = itD e c := by
  obtain ⟨k, rfl⟩ := Int.eq_ofNat_of_zero_le h0
  have hk : k < e.length := by omega
  rw [itD_nat (List.getElem?_eq_getElem hk), itD_nat (x := e[k]) (by rw [List.getElem?_append_left hk, List.getElem?_eq_getElem hk])]
theorem itD_end {e : List Int} {a : Int} : itD (e ++ [a]) (-1) = a := by
  rw [itD_last (by simp), List.getLast_append] <;> simp
theorem setL_app {e : List Int} {a c y : Int} (h0 : 0 ≤ c) (h1 : c < e.length) : setL (e ++ [a]) c y = setL e c y ++ [a] := by
  obtain ⟨k, rfl⟩ := Int.eq_ofNat_of_zero_le h0
  have hk : k < e.length := by omega
  unfold setL
  rw [ixN_nat' hk, ixN_nat' (by rw [List.length_append]; omega)]
  exact List.set_append_left _ _ hk
theorem codeR_chance {e : EncS} {chances : List Int} {low span count c : Int} (hg : EncG e) (hr : CodeR e chances low span count) (hc : -1 ≤ c ∧ c ≤ 255) :
    (-(chances.length : Int) ≤ c ∧ c < chances.length) ∧ 31 ≤ itD chances c ∧ itD chances c ≤ 4065 := by
  have hl := hg.len
  refine ⟨by rw [hr.chances, List.length_append, hl]; simp; omega, ?_⟩
  rw [hr.chances]
  by_cases h : 0 ≤ c
  · rw [itD_app h (by omega)]
    exact hg.chance h (by omega)
  · rw [show c = -1 from by omega, itD_end]
    decide
theorem codeN_pre {e : EncS} {p d low span count low' span' : Int} (hg : EncG e) (hp : 31 ≤ p ∧ p ≤ 4065) (h : CodeN e low span count) (hl : low' = if d = 0 then low else low + span / 4096 * p)
    (hs : span' = if d = 0 then span / 4096 * p else span - span / 4096 * p) : CodeN (encPre e p d) low' span' count := by
  have h1 := h.low
  have h2 := h.span
  have h3 := h.count
  unfold encPre
  split
  · rw [if_pos ‹_›] at hl hs
    exact ⟨by rw [hl, h1], by rw [hs, h2], h3⟩
  · rw [if_neg ‹_›] at hl hs
    split
    · have hy := carry_pre hg hp ‹_›
      have hn := inc_num hy
      rw [h2] at hl hs
      exact ⟨by show low' = num (incE e.front) * 4294967296 + (e.low + e.span / 4096 * p - 4294967296); rw [hl, hn, h1, Int.add_mul]; omega, hs, by show count = ((incE e.front).length : Int); rw [inc_len]; exact h3⟩
    · rw [h2] at hl hs
      exact ⟨by show low' = num e.front * 4294967296 + (e.low + e.span / 4096 * p); rw [hl, h1]; omega, hs, h3⟩
theorem codeN_norm {e : EncS} {low span count : Int} (h : CodeN e low span count) : CodeN (encNorm1 e) (low * 256) (span * 256) (count + 1) := by
  have h1 := h.low
  have h2 := h.span
  have h3 := h.count
  refine ⟨?_, by rw [h2]; rfl, by show count + 1 = (((e.front ++ [e.low / 16777216]).length : Nat) : Int); rw [List.length_append]; simp; omega⟩
  show low * 256 = num (e.front ++ [e.low / 16777216]) * 4294967296 + e.low * 256 % 4294967296
  rw [num_snoc]
  omega
theorem codeN_turn {em : EncS} {low span count cn0 low' span' count' : Int} {i : Nat} (hm : EncMid em) (h : CodeN (if i = 0 then em else encNorm em) low span count) (h0 : cn0 ≤ count) (h1 : count ≤ cn0 + 1) (h2 : i = 0 → count = cn0)
    (hs : (span < 16777216 ∧ low' = low * 256 ∧ span' = span * 256 ∧ count' = count + 1) ∨ (¬ span < 16777216 ∧ low' = low ∧ span' = span ∧ count' = count)) :
    CodeN (if i + 1 = 0 then em else encNorm em) low' span' count' ∧ cn0 ≤ count' ∧ count' ≤ cn0 + 1 ∧ (i + 1 = 0 → count' = cn0) := by
  rw [if_neg (by omega)]
  have hb := (norm_ok hm).2
  by_cases hi : i = 0
  · rw [if_pos hi] at h
    have hc := h2 hi
    have hsp := h.span
    rcases hs with ⟨a, rfl, rfl, rfl⟩ | ⟨a, rfl, rfl, rfl⟩
    · have e1 : encNorm em = encNorm1 em := if_pos (by omega)
      rw [e1]
      exact ⟨codeN_norm h, by omega, by omega, by omega⟩
    · have e1 : encNorm em = em := if_neg (by omega)
      rw [e1]
      exact ⟨h, by omega, by omega, by omega⟩
  · rw [if_neg hi] at h
    have hsp := h.span
    rcases hs with ⟨a, rfl, rfl, rfl⟩ | ⟨a, rfl, rfl, rfl⟩
    · omega
    · exact ⟨h, by omega, by omega, by omega⟩
def codeChances (chances : List Int) (c d : Int) : List Int := if 0 ≤ c then setL chances c (adaptE (itD chances c) d) else chances
theorem codeR_turn {items : List (Int × Int)} {i : Nat} {item : Int × Int} {chances chances' : List Int} {low span count low' span' count' : Int} {em : EncS} (hi : items[i]? = some item) (hg : EncG (encItems encInit (items.take i)))
    (hr : CodeR (encItems encInit (items.take i)) chances low span count) (hit : (-1 ≤ item.1 ∧ item.1 ≤ 255) ∧ 0 ≤ item.2 ∧ item.2 ≤ 1)
    (hme : em = encPre (encItems encInit (items.take i)) (itD chances item.1) item.2) (hc : codeChances chances item.1 item.2 = chances') (hn : CodeN (encNorm em) low' span' count') :
    CodeR (encItems encInit (items.take (i + 1))) chances' low' span' count' := by
  have hl := hg.len
  rw [← items_turn hi rfl]
  generalize encItems encInit (items.take i) = e at *
  rw [hr.chances] at hc hme
  unfold encItem
  unfold codeChances at hc
  by_cases h : 0 ≤ item.1
  · rw [if_pos h] at hc ⊢
    rw [itD_app h (by omega)] at hc hme
    rw [setL_app h (by omega)] at hc
    rw [hme] at hn
    refine ⟨⟨hn.low, hn.span, hn.count⟩, ?_⟩
    rw [← hc]
    show _ = setL (encNarrow e (itD e.probs item.1) item.2).probs item.1 _ ++ [2048]
    rw [probs_narrow]
  · rw [if_neg h] at hc ⊢
    rw [show item.1 = -1 from by omega, itD_end] at hme
    rw [hme] at hn
    refine ⟨hn, ?_⟩
    rw [← hc, probs_narrow]
def digs (n : Int) (k : Nat) : List Int := (List.range k).map fun j => n / 2 ^ (8 * (k - 1 - j)) % 256
theorem digs_snoc (n x : Int) (k : Nat) (hx : 0 ≤ x ∧ x ≤ 255) : digs (n * 256 + x) (k + 1) = digs n k ++ [x] := by
  unfold digs
  rw [List.range_succ, List.map_append]
  congr 1
  · apply List.map_congr_left
    intro j hj
    have hj := List.mem_range.mp hj
    show (n * 256 + x) / 2 ^ (8 * (k + 1 - 1 - j)) % 256 = n / 2 ^ (8 * (k - 1 - j)) % 256
    rw [show 8 * (k + 1 - 1 - j) = 8 + 8 * (k - 1 - j) from by omega, Int.pow_add, ← Int.ediv_ediv_of_nonneg (by decide)]
    rw [show (n * 256 + x) / 2 ^ 8 = n from by omega]
  · show [(n * 256 + x) / 2 ^ (8 * (k + 1 - 1 - k)) % 256] = [x]
    rw [show 8 * (k + 1 - 1 - k) = 0 from by omega]
    congr 1
    simp
    omega
theorem digs_num : ∀ {xs : List Int}, (∀ x ∈ xs, 0 ≤ x ∧ x ≤ 255) → digs (num xs) xs.length = xs := by
  intro xs
  refine snocInd (motive := fun xs => (∀ x ∈ xs, 0 ≤ x ∧ x ≤ 255) → digs (num xs) xs.length = xs) (fun _ => rfl) (fun ys y ih h => ?_) xs
  rw [num_snoc, List.length_append]
  show digs _ (ys.length + 1) = _
  rw [digs_snoc _ _ _ (h y (by simp)), ih fun x hx => h x (by simp [hx])]
theorem digits4_eq {n : Int} : digits4 n = [n / 16777216 % 256, n / 65536 % 256, n / 256 % 256, n % 256] := by
  unfold digits4
  simp only [List.map_cons, List.map_nil, bitAnd_m8]
  simp
theorem digits4_len (n : Int) : (digits4 n).length = 4 := rfl
theorem code_digits {e : EncS} (h : EncMid e) : digs (num e.front * 4294967296 + e.low) (e.front.length + 4) = e.front ++ digits4 e.low := by
  have ho : ∀ x ∈ e.front ++ digits4 e.low, 0 ≤ x ∧ x ≤ 255 := by
    intro x hx
    rcases List.mem_append.mp hx with z | z
    · exact h.oct x z
    · rw [digits4_eq] at z
      simp only [List.mem_cons, List.not_mem_nil, or_false] at z
      omega
  have hl := h.low
  have hd := digs_num ho
  rw [List.length_append, digits4_len] at hd
  rw [← hd]
  congr 1
  rw [digits4_eq, show e.front ++ [e.low / 16777216 % 256, e.low / 65536 % 256, e.low / 256 % 256, e.low % 256] = e.front ++ [e.low / 16777216 % 256] ++ [e.low / 65536 % 256] ++ [e.low / 256 % 256] ++ [e.low % 256] from by simp]
  rw [num_snoc, num_snoc, num_snoc, num_snoc]
  omega
theorem ne_len {xs : List Int} (h : 0 < (xs.length : Int)) : xs ≠ [] := by
  intro z
  rw [z] at h
  simp at h
theorem nil_len {xs : List Int} (h : ¬ 0 < (xs.length : Int)) : xs = [] := by
  cases xs with
  | nil => rfl
  | cons a r => exact absurd (by rw [List.length_cons]; omega) h
theorem code_oct {e : EncS} {low span count : Int} (hm : EncMid e) (hn : CodeN e low span count) :
    (List.range (count + 4).toNat).map (fun (j : Nat) => PySem.Builtin.bitAnd (low / 2 ^ Int.toNat (8 * (count + 3 - (0 + (j : Int))))) 255) = e.front ++ digits4 e.low := by
  rw [← code_digits hm, hn.low, hn.count]
  unfold digs
  rw [show ((e.front.length : Int) + 4).toNat = e.front.length + 4 from by omega]
  apply List.map_congr_left
  intro j hj
  have hj := List.mem_range.mp hj
  rw [bitAnd_m8, show Int.toNat (8 * ((e.front.length : Int) + 3 - (0 + (j : Int)))) = 8 * (e.front.length + 4 - 1 - j) from by omega]
theorem strip_len (xs : List Int) : (stripZ xs).length ≤ xs.length := by
  unfold stripZ
  rw [List.length_reverse]
  have h := (List.dropWhile_sublist (fun x => decide (x = 0)) (l := xs.reverse)).length_le
  rw [List.length_reverse] at h
  exact h
theorem oct_turn {octets o E : List Int} {i : Nat} {count : Int} (hs : stripZ octets = E) (hl : octets = E ∨ (octets.length : Int) + i ≤ count + 4)
    (h : (octets ≠ [] ∧ itD octets (-1) = 0 ∧ o = octets.dropLast) ∨ ((¬ itD octets (-1) = 0 ∨ octets = []) ∧ o = octets)) : stripZ o = E ∧ (o = E ∨ (o.length : Int) + ((i + 1 : Nat) : Int) ≤ count + 4) := by
  rcases h with ⟨h1, h2, rfl⟩ | ⟨h1, rfl⟩
  · have e1 := strip_pop h1 h2
    have e2 := drop_less h1
    have e3 := strip_len octets.dropLast
    refine ⟨e1.trans hs, .inr ?_⟩
    rcases hl with z | z
    · rw [e1, hs, ← z] at e3
      omega
    · omega
  · have e1 := strip_done (xs := o) (by rcases h1 with z | z; exact .inr z; exact .inl z)
    exact ⟨hs, .inl (e1.symm.trans hs)⟩
theorem oct_end {octets E : List Int} {count : Int} (hs : stripZ octets = E) (hl : octets = E ∨ (octets.length : Int) + ((count + 4).toNat : Int) ≤ count + 4) (hc : 0 ≤ count) : octets = E := by
  rcases hl with z | z
  · exact z
  · have e : octets = [] := nil_len (by omega)
    rw [← hs, e]
    rfl
theorem chances_cut {e : EncS} {chances : List Int} {low span count : Int} (hg : EncG e) (hr : CodeR e chances low span count) : cutL chances none (some 256) = e.probs := by
  rw [hr.chances]
  have hl := hg.len
  unfold cutL
  rw [HT.sIx_none, show (256 : Int) = ((256 : Nat) : Int) from rfl, HT.sIx_nat, List.length_append, hl]
  show List.take 256 (List.drop 0 (e.probs ++ [2048])) = e.probs
  rw [List.drop_zero, List.take_append_of_le_length (by omega), List.take_of_length_le (by omega)]
def decItem (d : DecS) (it : Int × Int) : DecS := if 0 ≤ it.1 then decRead d it.1 else decDecide d 2048
def decItemBit (d : DecS) (it : Int × Int) : Int := if 0 ≤ it.1 then decBit d (itD d.probs it.1) else decBit d 2048
def accO (o : List Int) : Nat → Int
  | 0 => 0
  | k + 1 => accO o k * 256 + (o[k]?).getD 0
def bigL (e : EncS) : Int := num e.front * 4294967296 + e.low
def vAt (E e : EncS) : Int := bigL E / 256 ^ (E.front.length - e.front.length)
structure Within (E e : EncS) : Prop where
  n : e.front.length ≤ E.front.length
  lo : bigL e ≤ vAt E e
  hi : vAt E e < bigL e + e.span
theorem codeN_self (e : EncS) : CodeN e (bigL e) e.span (e.front.length : Int) := ⟨rfl, rfl, rfl⟩
theorem within_self {E : EncS} (h : 0 < E.span) : Within E E := by
  have e : vAt E E = bigL E := by
    unfold vAt
    rw [Nat.sub_self]
    exact Int.ediv_one _
  exact ⟨Nat.le_refl _, by rw [e]; exact Int.le_refl _, by rw [e]; omega⟩
theorem within_norm1 {E e : EncS} (h : Within E (encNorm1 e)) : Within E e := by
  have c := codeN_norm (codeN_self e)
  have hn : (encNorm1 e).front.length = e.front.length + 1 := by
    have := c.count
    omega
  have h1 := h.n
  have h2 := h.lo
  have h3 := h.hi
  rw [show bigL (encNorm1 e) = bigL e * 256 from c.low.symm] at h2 h3
  rw [show (encNorm1 e).span = e.span * 256 from rfl] at h3
  have hv : vAt E e = vAt E (encNorm1 e) / 256 := by
    unfold vAt
    rw [hn, show E.front.length - e.front.length = (E.front.length - (e.front.length + 1)) + 1 from by omega, Int.pow_succ, Int.ediv_ediv_of_nonneg]
    have : (0 : Nat) < 256 ^ (E.front.length - (e.front.length + 1)) := Nat.pow_pos (by decide)
    exact_mod_cast Nat.le_of_lt this
  exact ⟨by omega, by rw [hv]; omega, by rw [hv]; omega⟩
theorem within_norm {E e : EncS} (h : Within E (encNorm e)) : Within E e := by
  unfold encNorm at h
  split at h
  · exact within_norm1 h
  · exact h
theorem within_pre {E e : EncS} {p d : Int} (hg : EncG e) (hp : 31 ≤ p ∧ p ≤ 4065) (h : Within E (encPre e p d)) : Within E e ∧ (d = 0 → vAt E e < bigL e + e.span / 4096 * p) ∧ (d ≠ 0 → bigL e + e.span / 4096 * p ≤ vAt E e) := by
  have hsp := hg.mid.span
  have hb := hg.big
  have hi := part_in ⟨hb, hsp.2⟩ hp
  have c := codeN_pre (d := d) hg hp (codeN_self e) rfl rfl
  have hn : (encPre e p d).front.length = e.front.length := len_pre e p d
  have h1 := h.n
  have h2 := h.lo
  have h3 := h.hi
  have hv : vAt E (encPre e p d) = vAt E e := by
    unfold vAt
    rw [hn]
  rw [hv, show bigL (encPre e p d) = _ from c.low.symm] at h2 h3
  rw [← c.span] at h3
  rw [hn] at h1
  by_cases hd : d = 0
  · rw [if_pos hd] at h2 h3
    rw [if_pos hd] at h3
    exact ⟨⟨h1, h2, by omega⟩, fun _ => h3, fun z => absurd hd z⟩
  · rw [if_neg hd] at h2 h3
    rw [if_neg hd] at h3
    exact ⟨⟨h1, by omega, by omega⟩, fun z => absurd z hd, fun _ => h2⟩
theorem within_congr {E e e' : EncS} (hf : e'.front = e.front) (hl : e'.low = e.low) (hs : e'.span = e.span) (h : Within E e') : Within E e := by
  have h1 := h.n
  have h2 := h.lo
  have h3 := h.hi
  unfold bigL vAt at *
  rw [hf] at h1
  rw [hf, hl] at h2
  rw [hf, hl, hs] at h3
  exact ⟨h1, h2, h3⟩
def chanceOf (e : EncS) (it : Int × Int) : Int := if 0 ≤ it.1 then itD e.probs it.1 else 2048
theorem chance_in {e : EncS} {it : Int × Int} (h : EncG e) (hc : it.1 ≤ 255) : 31 ≤ chanceOf e it ∧ chanceOf e it ≤ 4065 := by
  unfold chanceOf
  split
  · exact h.chance ‹_› (by omega)
  · decide
theorem within_item0 {E e : EncS} {it : Int × Int} (h : Within E (encItem e it)) : Within E (encNorm (encPre e (chanceOf e it) it.2)) := by
  unfold encItem at h
  unfold chanceOf
  split at h
  · rw [if_pos ‹_›]
    exact within_congr (e' := encCode e it.1 it.2) rfl rfl rfl h
  · rw [if_neg ‹_›]
    exact h
theorem within_item {E e : EncS} {it : Int × Int} (hg : EncG e) (hc : it.1 ≤ 255) (h : Within E (encItem e it)) :
    Within E e ∧ (it.2 = 0 → vAt E e < bigL e + e.span / 4096 * chanceOf e it) ∧ (it.2 ≠ 0 → bigL e + e.span / 4096 * chanceOf e it ≤ vAt E e) :=
  within_pre hg (chance_in hg hc) (within_norm (within_item0 h))
theorem within_items : ∀ {items : List (Int × Int)} {E e : EncS}, EncG e → ItemsOk items → Within E (encItems e items) → Within E e
  | [], _, _, _, _, h => h
  | it :: r, E, e, hg, hi, h => by
    have h0 := hi it List.mem_cons_self
    exact (within_item hg h0.1.2 (within_items (items := r) (item_ok hg h0) (fun x hx => hi x (List.mem_cons_of_mem _ hx)) h)).1
theorem acc_div {o : List Int} (h : ∀ x ∈ o, 0 ≤ x ∧ x ≤ 255) (k : Nat) : ∀ m : Nat, accO o (k + m) / 256 ^ m = accO o k
  | 0 => Int.ediv_one _
  | m + 1 => by
    have ho : 0 ≤ (o[k + m]?).getD 0 ∧ (o[k + m]?).getD 0 ≤ 255 := by
      cases hx : o[k + m]? with
      | none => decide
      | some x => exact h x (List.mem_of_getElem? hx)
    rw [Int.pow_succ, Int.mul_comm, ← Int.ediv_ediv_of_nonneg (by decide)]
    rw [show accO o (k + (m + 1)) = accO o (k + m) * 256 + (o[k + m]?).getD 0 from rfl, show (accO o (k + m) * 256 + (o[k + m]?).getD 0) / 256 = accO o (k + m) from by omega]
    exact acc_div h k m
theorem acc_app (ys zs : List Int) : ∀ k : Nat, k ≤ ys.length → accO (ys ++ zs) k = accO ys k
  | 0, _ => rfl
  | k + 1, h => by
    show accO (ys ++ zs) k * 256 + ((ys ++ zs)[k]?).getD 0 = accO ys k * 256 + (ys[k]?).getD 0
    rw [acc_app ys zs k (by omega), List.getElem?_append_left (by omega)]
theorem acc_num (xs : List Int) : accO xs xs.length = num xs := by
  refine snocInd (motive := fun xs => accO xs xs.length = num xs) rfl (fun ys y ih => ?_) xs
  rw [List.length_append, num_snoc]
  show accO (ys ++ [y]) ys.length * 256 + ((ys ++ [y])[ys.length]?).getD 0 = _
  rw [acc_app ys [y] _ (Nat.le_refl _), ih, List.getElem?_append_right (Nat.le_refl _), Nat.sub_self]
  rfl
theorem acc_congr {xs ys : List Int} (h : ∀ j : Nat, (xs[j]?).getD 0 = (ys[j]?).getD 0) : ∀ k : Nat, accO xs k = accO ys k
  | 0 => rfl
  | k + 1 => by
    show accO xs k * 256 + _ = accO ys k * 256 + _
    rw [acc_congr h k, h k]
theorem get_zeros (ys : List Int) (m j : Nat) : ((ys ++ List.replicate m 0)[j]?).getD 0 = (ys[j]?).getD 0 := by
  by_cases h : j < ys.length
  · rw [List.getElem?_append_left h]
  · rw [List.getElem?_append_right (by omega), List.getElem?_eq_none (l := ys) (by omega)]
    by_cases hm : j - ys.length < m
    · rw [List.getElem?_eq_getElem (by rw [List.length_replicate]; exact hm), List.getElem_replicate]
      rfl
    · rw [List.getElem?_eq_none (by rw [List.length_replicate]; omega)]
theorem dw_split : ∀ ys : List Int, ∃ m : Nat, ys = List.replicate m 0 ++ ys.dropWhile (fun x => decide (x = 0))
  | [] => ⟨0, rfl⟩
  | y :: r => by
    rw [List.dropWhile_cons]
    split
    · obtain ⟨m, e⟩ := dw_split r
      refine ⟨m + 1, ?_⟩
      have hy : decide (y = 0) = true := ‹_›
      rw [List.replicate_succ, List.cons_append, ← e, of_decide_eq_true hy]
    · exact ⟨0, rfl⟩
theorem strip_split (xs : List Int) : ∃ m : Nat, xs = stripZ xs ++ List.replicate m 0 := by
  obtain ⟨m, e⟩ := dw_split xs.reverse
  refine ⟨m, ?_⟩
  have e2 := congrArg List.reverse e
  rw [List.reverse_reverse, List.reverse_append, List.reverse_replicate] at e2
  exact e2
theorem acc_code {E : EncS} (hm : EncMid E) (m : Nat) : accO (encOctets E ++ List.replicate m 0) (E.front.length + 4) = bigL E := by
  obtain ⟨q, e⟩ := strip_split (E.front ++ digits4 E.low)
  have a1 : accO (encOctets E ++ List.replicate m 0) (E.front.length + 4) = accO (E.front ++ digits4 E.low) (E.front.length + 4) := by
    apply acc_congr
    intro j
    rw [get_zeros, e, get_zeros]
    rfl
  have a2 := acc_num (E.front ++ digits4 E.low)
  rw [List.length_append, digits4_len] at a2
  have hl := hm.low
  rw [a1, a2, digits4_eq, show E.front ++ [E.low / 16777216 % 256, E.low / 65536 % 256, E.low / 256 % 256, E.low % 256] = E.front ++ [E.low / 16777216 % 256] ++ [E.low / 65536 % 256] ++ [E.low / 256 % 256] ++ [E.low % 256] from by simp]
  rw [num_snoc, num_snoc, num_snoc, num_snoc]
  unfold bigL
  omega
theorem strip_mem {xs : List Int} {x : Int} (h : x ∈ stripZ xs) : x ∈ xs := by
  obtain ⟨m, e⟩ := strip_split xs
  rw [e]
  exact List.mem_append_left _ h
theorem code_oct_in {E : EncS} (h : EncMid E) : ∀ x ∈ encOctets E, 0 ≤ x ∧ x ≤ 255 := by
  intro x hx
  rcases List.mem_append.mp (strip_mem hx) with z | z
  · exact h.oct x z
  · rw [digits4_eq] at z
    have hl := h.low
    simp only [List.mem_cons, List.not_mem_nil, or_false] at z
    omega
structure Rel (o : List Int) (e : EncS) (d : DecS) : Prop where
  g : DecG d
  octs : d.octs = o
  probs : d.probs = e.probs
  span : d.span = e.span
  place : d.place = if (o.length : Int) < (e.front.length : Int) + 4 then (o.length : Int) else (e.front.length : Int) + 4
  value : d.value = accO o (e.front.length + 4) - bigL e
theorem dec_oct {o : List Int} {d : DecS} {n : Nat} (ho : d.octs = o) (hp : d.place = if (o.length : Int) < (n : Int) then (o.length : Int) else (n : Int)) : decOct d = (o[n]?).getD 0 := by
  unfold decOct
  rw [ho, hp]
  by_cases h : n < o.length
  · rw [if_neg (show ¬ (o.length : Int) < (n : Int) from by omega), if_pos (by omega), itD_nat (List.getElem?_eq_getElem h), List.getElem?_eq_getElem h]
    rfl
  · rw [if_neg (by split <;> omega), List.getElem?_eq_none (by omega)]
    rfl
theorem place_turn {n : Nat} {l pl : Int} (h : pl = if l < (n : Int) then l else (n : Int)) (h0 : 0 ≤ l) : (if pl < l then pl + 1 else pl) = if l < ((n + 1 : Nat) : Int) then l else ((n + 1 : Nat) : Int) := by
  rw [h]
  split <;> split <;> split <;> omega
theorem shifts_val (o : List Int) : ∀ n : Nat, (decShifts n (decBlank o)).value = accO o n ∧ (decShifts n (decBlank o)).place = if (o.length : Int) < (n : Int) then (o.length : Int) else (n : Int)
  | 0 => ⟨rfl, by rw [if_neg (by omega)]; rfl⟩
  | n + 1 => by
    have ih := shifts_val o n
    have ho := shifts_octs (decBlank o) n
    have hd := dec_oct (o := o) ho ih.2
    refine ⟨?_, ?_⟩
    · show (decShifts n (decBlank o)).value * 256 + decOct (decShifts n (decBlank o)) = accO o n * 256 + _
      rw [ih.1, hd]
    · show (if (decShifts n (decBlank o)).place < ((decShifts n (decBlank o)).octs.length : Int) then (decShifts n (decBlank o)).place + 1 else (decShifts n (decBlank o)).place) = _
      rw [ho]
      exact place_turn ih.2 (by show (0 : Int) ≤ (o.length : Int); omega)
theorem acc_at {E e : EncS} {o : List Int} (ho : ∀ x ∈ o, 0 ≤ x ∧ x ≤ 255) (hc : accO o (E.front.length + 4) = bigL E) (h : e.front.length ≤ E.front.length) : accO o (e.front.length + 4) = vAt E e := by
  have a := acc_div ho (e.front.length + 4) (E.front.length - e.front.length)
  rw [show e.front.length + 4 + (E.front.length - e.front.length) = E.front.length + 4 from by omega, hc] at a
  exact a.symm
theorem rel_init {E : EncS} {o : List Int} (ho : ∀ x ∈ o, 0 ≤ x ∧ x ≤ 255) (hc : accO o (E.front.length + 4) = bigL E) (h : Within E encInit) : Rel o encInit (decInit o) := by
  have s := shifts_val o 4
  have a := acc_at ho hc h.n
  have hv : accO o 4 = vAt E encInit := a
  have hi : vAt E encInit < 0 + (4294967296 - 1) := h.hi
  refine ⟨decInit_ok ho, shifts_octs _ 4, shifts_probs _ 4, shifts_span _ 4, s.2, ?_⟩
  show (if 4294967296 - 2 < (decShifts 4 (decBlank o)).value then 4294967296 - 2 else (decShifts 4 (decBlank o)).value) = accO o 4 - 0
  rw [s.1, if_neg (by omega)]
  omega
theorem rel_norm {o : List Int} {e : EncS} {d : DecS} (hg : DecG (decNorm d)) (octs : d.octs = o) (probs : d.probs = e.probs) (span : d.span = e.span)
    (place : d.place = if (o.length : Int) < (e.front.length : Int) + 4 then (o.length : Int) else (e.front.length : Int) + 4) (value : d.value = accO o (e.front.length + 4) - bigL e) : Rel o (encNorm e) (decNorm d) := by
  unfold decNorm at hg ⊢
  unfold encNorm
  rw [span] at hg ⊢
  by_cases h : e.span < 16777216
  · rw [if_pos h] at hg
    rw [if_pos h, if_pos h]
    have c := codeN_norm (codeN_self e)
    have hn : (encNorm1 e).front.length = e.front.length + 1 := by
      have := c.count
      omega
    have hb : bigL (encNorm1 e) = bigL e * 256 := c.low.symm
    have hd := dec_oct (n := e.front.length + 4) octs (by rw [place] <;> rfl)
    refine ⟨hg, octs, probs, ?_, ?_, ?_⟩
    · show d.span * 256 = e.span * 256
      rw [span]
    · show (if d.place < (d.octs.length : Int) then d.place + 1 else d.place) = _
      rw [hn, octs]
      exact place_turn (n := e.front.length + 4) place (by omega)
    · show d.value * 256 + decOct d = accO o ((encNorm1 e).front.length + 4) - bigL (encNorm1 e)
      rw [hn, hb, hd, value, show e.front.length + 1 + 4 = e.front.length + 4 + 1 from by omega]
      show _ = accO o (e.front.length + 4) * 256 + _ - _
      omega
  · rw [if_neg h] at hg
    rw [if_neg h, if_neg h]
    exact ⟨hg, octs, probs, span, place, value⟩
theorem rel_step {E e : EncS} {o : List Int} {d : DecS} {p b : Int} (ho : ∀ x ∈ o, 0 ≤ x ∧ x ≤ 255) (hc : accO o (E.front.length + 4) = bigL E) (hr : Rel o e d) (hg : EncG e) (hp : 31 ≤ p ∧ p ≤ 4065) (hb : 0 ≤ b ∧ b ≤ 1) (hw : Within E e)
    (h0 : b = 0 → vAt E e < bigL e + e.span / 4096 * p) (h1 : b ≠ 0 → bigL e + e.span / 4096 * p ≤ vAt E e) : decBit d p = b ∧ Rel o (encNarrow e p b) (decDecide d p) := by
  have hv := hr.value
  rw [acc_at ho hc hw.n] at hv
  have hs := hr.span
  have c := codeN_pre (d := b) hg hp (codeN_self e) rfl rfl
  have hn : (encPre e p b).front.length = e.front.length := len_pre e p b
  have hl : bigL (encPre e p b) = _ := c.low.symm
  have hsp := c.span.symm
  have hgd := decNorm_ok (decPre_ok hr.g hp)
  by_cases hb0 : b = 0
  · have hlt : d.value < d.span / 4096 * p := by
      rw [hs, hv]
      have := h0 hb0
      omega
    rw [if_pos hb0] at hl hsp
    refine ⟨by unfold decBit; rw [if_pos hlt, hb0], ?_⟩
    unfold encNarrow decDecide
    have e1 : decPre d p = ⟨d.probs, d.octs, d.place, d.span / 4096 * p, d.value⟩ := by
      unfold decPre
      rw [if_pos hlt]
    rw [e1] at hgd ⊢
    refine rel_norm hgd hr.octs ?_ ?_ ?_ ?_
    · show d.probs = _
      rw [probs_pre]
      exact hr.probs
    · show d.span / 4096 * p = _
      rw [hsp, hs]
    · show d.place = _
      rw [hn]
      exact hr.place
    · show d.value = _
      rw [hn, hl]
      exact hr.value
  · have hlt : ¬ d.value < d.span / 4096 * p := by
      rw [hs, hv]
      have := h1 hb0
      omega
    rw [if_neg hb0] at hl hsp
    refine ⟨by unfold decBit; rw [if_neg hlt]; omega, ?_⟩
    unfold encNarrow decDecide
    have e1 : decPre d p = ⟨d.probs, d.octs, d.place, d.span - d.span / 4096 * p, d.value - d.span / 4096 * p⟩ := by
      unfold decPre
      rw [if_neg hlt]
    rw [e1] at hgd ⊢
    refine rel_norm hgd hr.octs ?_ ?_ ?_ ?_
    · show d.probs = _
      rw [probs_pre]
      exact hr.probs
    · show d.span - d.span / 4096 * p = _
      rw [hsp, hs]
    · show d.place = _
      rw [hn]
      exact hr.place
    · show d.value - d.span / 4096 * p = _
      rw [hn, hl, hr.value, hs]
      omega
theorem rel_item {E e : EncS} {o : List Int} {d : DecS} {it : Int × Int} (ho : ∀ x ∈ o, 0 ≤ x ∧ x ≤ 255) (hc : accO o (E.front.length + 4) = bigL E) (hr : Rel o e d) (hg : EncG e) (hi : (-1 ≤ it.1 ∧ it.1 ≤ 255) ∧ 0 ≤ it.2 ∧ it.2 ≤ 1)
    (h : Within E (encItem e it)) : decItemBit d it = it.2 ∧ Rel o (encItem e it) (decItem d it) := by
  have w := within_item hg hi.1.2 h
  have r := rel_step ho hc hr hg (chance_in hg hi.1.2) hi.2 w.1 w.2.1 w.2.2
  unfold decItemBit decItem encItem
  unfold chanceOf at r
  by_cases z : 0 ≤ it.1
  · rw [if_pos z] at r
    rw [if_pos z, if_pos z, if_pos z, hr.probs]
    refine ⟨r.1, ?_⟩
    have q := r.2
    have hg2 := read_ok hr.g z (by omega : it.1 < 256)
    have hp := hr.probs
    refine ⟨hg2, ?_, ?_, ?_, ?_, ?_⟩
    · show (decDecide d (itD d.probs it.1)).octs = o
      rw [hp]
      exact q.octs
    · show setL (decDecide d (itD d.probs it.1)).probs it.1 (adaptE (itD d.probs it.1) (decBit d (itD d.probs it.1))) = setL (encNarrow e (itD e.probs it.1) it.2).probs it.1 (adaptE (itD e.probs it.1) it.2)
      rw [hp, r.1, q.probs]
    · show (decDecide d (itD d.probs it.1)).span = (encNarrow e (itD e.probs it.1) it.2).span
      rw [hp]
      exact q.span
    · show (decDecide d (itD d.probs it.1)).place = if (o.length : Int) < ((encNarrow e (itD e.probs it.1) it.2).front.length : Int) + 4 then (o.length : Int) else ((encNarrow e (itD e.probs it.1) it.2).front.length : Int) + 4
      rw [hp]
      exact q.place
    · show (decDecide d (itD d.probs it.1)).value = accO o ((encNarrow e (itD e.probs it.1) it.2).front.length + 4) - bigL (encNarrow e (itD e.probs it.1) it.2)
      rw [hp]
      exact q.value
  · rw [if_neg z] at r
    rw [if_neg z, if_neg z, if_neg z]
    exact r
theorem items_split (e : EncS) (items : List (Int × Int)) (i : Nat) : encItems e items = encItems (encItems e (items.take i)) (items.drop i) := by
  rw [← items_app, List.take_append_drop]
theorem rel_turn {o : List Int} {items : List (Int × Int)} {i : Nat} {it : Int × Int} {d : DecS} (hi : items[i]? = some it) (hok : ItemsOk items) (ho : ∀ x ∈ o, 0 ≤ x ∧ x ≤ 255)
    (hc : accO o ((encItems encInit items).front.length + 4) = bigL (encItems encInit items)) (hr : Rel o (encItems encInit (items.take i)) d) :
    decItemBit d it = it.2 ∧ Rel o (encItems encInit (items.take (i + 1))) (decItem d it) := by
  have hg : EncG (encItems encInit (items.take i)) := items_ok init_ok (fun x hx => hok x (List.mem_of_mem_take hx))
  have hE : EncG (encItems encInit items) := items_ok init_ok hok
  have hit := hok _ (List.mem_of_getElem? hi)
  have e1 := items_turn (e := encInit) hi rfl
  have hw : Within (encItems encInit items) (encItem (encItems encInit (items.take i)) it) := by
    have hw := within_self hE.mid.span0
    have hs := items_split encInit items (i + 1)
    rw [← e1] at hs
    exact within_items (item_ok hg hit) (fun x hx => hok x (List.mem_of_mem_drop hx)) (by rw [← hs]; exact hw)
  rw [← e1]
  exact rel_item ho hc hr hg hit hw
theorem rel_start {o : List Int} {items : List (Int × Int)} (hok : ItemsOk items) (ho : ∀ x ∈ o, 0 ≤ x ∧ x ≤ 255) (hc : accO o ((encItems encInit items).front.length + 4) = bigL (encItems encInit items)) : Rel o encInit (decInit o) :=
  rel_init ho hc (within_items init_ok hok (within_self (items_ok init_ok hok).mid.span0))
end Pu
open Pu
theorem gd {α : Type} {xs : List α} {k n : Int} (e : (xs.length : Int) = n) (h0 : 0 ≤ k) (h1 : k < n) : -(xs.length : Int) ≤ k ∧ k < (xs.length : Int) := by omega
theorem big {x : Int} (h0 : 0 ≤ x) (h1 : x < 2 ^ 64) : -(2 ^ 4096) < x ∧ x < 2 ^ 4096 := by
  have h : (0 : Int) < 2 ^ 4032 := Int.pow_pos (by decide)
  have e : (2 : Int) ^ 4096 = 2 ^ 4032 * 2 ^ 64 := Int.pow_add 2 4032 64
  have l : (1 : Int) * 2 ^ 64 ≤ 2 ^ 4032 * 2 ^ 64 := Int.mul_le_mul_of_nonneg_right h (by decide)
  rw [← e] at l
  generalize (2 : Int) ^ 4096 = z at l ⊢
  omega
theorem e8 : (2 : Int) ^ Int.toNat 8 = 256 := by decide
theorem while_bk {σ ρ : Type} {n : Nat} {s s' : σ} {f : σ → Rx (Lp σ ρ)} (h : f s = .ok (.bk s')) : whileR (n + 1) s f = .ok (.go s') := by
  show (f s).bind _ = _
  rw [h]
  rfl
theorem while_go {σ ρ : Type} {n : Nat} {s s' : σ} {f : σ → Rx (Lp σ ρ)} (h : f s = .ok (.go s')) : whileR (n + 1) s f = whileR n s' f := by
  show (f s).bind _ = _
  rw [h]
  rfl
/-! the encoder -/
theorem carry_eq {e : EncS} (h : ∃ y ∈ e.front, y ≠ 255) (hl : e.front.length ≤ 900000) : F_Encoder__carry e = .ok ⟨e.probs, incE e.front, e.low, e.span⟩ := by
  refine Gv.get ?_
  unfold F_Encoder__carry
  refine Gv.bnd fun pl hpl => Gv.bind (Gv.whileR (P := fun s => s.1 = ⟨e.probs, s.1.front, e.low, e.span⟩ ∧ ∃ (A : List Int) (x : Int) (j : Nat), e.front = A ++ [x] ++ List.replicate j 255 ∧ s.1.front = A ++ [x] ++ List.replicate j 0 ∧ s.2 = (A.length : Int))
    (R := fun s => s.1 = ⟨e.probs, s.1.front, e.low, e.span⟩ ∧ ∃ (A : List Int) (x : Int) (j : Nat), e.front = A ++ [x] ++ List.replicate j 255 ∧ s.1.front = A ++ [x] ++ List.replicate j 0 ∧ s.2 = (A.length : Int) ∧ x ≠ 255) (fun s => s.2.toNat) (fun s p => ?_) ?_ ?_) ?_
  · obtain ⟨es, A, x, j, h1, h2, h3⟩ := p
    have hin := mid_in h2 h3
    have hat := mid_at h2 h3
    unfold F_Encoder__carry_b1
    refine Gv.grd hin ?_
    rw [hat]
    refine Gv.ite (fun c => Gv.grd hin (Gv.bnd fun y hy => Gv.bnd fun q hq => .ok (.inl ⟨_, rfl, ⟨by rw [es], ?_⟩, ?_⟩))) fun c => .ok (.inr ⟨_, rfl, es, A, x, j, h1, h2, h3, c⟩)
    · obtain ⟨B, z, k, b1, b2, b3⟩ := carry_turn h h1 h2 h3 c
      exact ⟨B, z, k, b1, by show y = _; rw [hy]; exact b2, by show q = _; rw [hq]; exact b3⟩
    · show q.toNat < s.2.toNat
      rw [hq]
      exact carry_less h h1 h3 c
  · obtain ⟨A, x, j, h1, h2, h3⟩ := carry_start h
    exact ⟨rfl, A, x, j, h1, h2, by show pl = _; rw [hpl]; exact h3⟩
  · show pl.toNat < 1000000
    omega
  · rintro l ⟨s, rfl, es, A, x, j, h1, h2, h3, hx⟩
    show Gv (F_Encoder__carry_r1 s.1 s.2) _
    have hin := mid_in h2 h3
    have hlen : s.1.front.length = e.front.length := by
      rw [h1, h2]
      simp
    unfold F_Encoder__carry_r1
    refine Gv.grd ⟨by omega, by omega, hin.2⟩ (Gv.grd hin (Gv.bnd fun y hy => .ok ?_))
    rw [hy, carry_end h1 h2 h3 hx, es]
theorem norm_eq {e : EncS} (h : EncMid e) (hl : e.front.length ≤ 900000) : F_Encoder__narrow_k1 e = .ok (encNorm e) := by
  have hs := h.span
  have hw := h.low
  unfold F_Encoder__narrow_k1 encNorm
  by_cases c : e.span < 16777216
  · rw [if_pos c, show (1000000 : Nat) = 999999 + 1 from rfl, while_go (s' := encNorm1 e)]
    · rw [show (999999 : Nat) = 999998 + 1 from rfl, while_bk (s' := encNorm1 e)]
      · rfl
      · unfold F_Encoder__narrow_b2
        rw [if_neg (by have := norm_span h; omega)]
    · unfold F_Encoder__narrow_b2
      rw [if_pos c, grd_pos (by omega), bnd_eq, grd_pos ⟨by decide, by decide, big hw.1 (by omega)⟩, bnd_eq, grd_pos ⟨by decide, by decide, big (by omega) (by omega)⟩, bnd_eq, e8, ← encNorm_eq]
  · rw [if_neg c, show (1000000 : Nat) = 999999 + 1 from rfl, while_bk (s' := e)]
    · rfl
    · unfold F_Encoder__narrow_b2
      rw [if_neg c]
theorem narrow_eq {e : EncS} (g : EncG e) {p d : Int} (hp : 31 ≤ p ∧ p ≤ 4065) (hl : e.front.length ≤ 900000) : F_Encoder__narrow e p d = .ok (encNarrow e p d) := by
  have hm := encPre_ok g hp d
  have hlp := len_pre e p d
  have hn := norm_eq hm (by omega)
  unfold F_Encoder__narrow encNarrow
  rw [grd_pos (.inr ⟨by omega, by omega⟩), bnd_eq, ← hn]
  have hc := carry_pre g hp
  unfold encPre
  by_cases c : d = 0
  · rw [if_pos c, if_pos c, bind_ok]
  · rw [if_neg c, if_neg c, bnd_eq, bnd_eq]
    by_cases q : 4294967296 ≤ e.low + e.span / 4096 * p
    · rw [if_pos q, if_pos q, bnd_eq, carry_eq (e := ⟨e.probs, e.front, e.low + e.span / 4096 * p - 4294967296, e.span - e.span / 4096 * p⟩) (hc q) hl, noEr_ok, bind_ok, bind_ok]
    · rw [if_neg q, if_neg q, bind_ok]
theorem adapted_eq (c b : Int) : F__adapted c b = .ok (adaptE c b) := by
  unfold F__adapted adaptE
  split <;> rfl
theorem ctx_ok {c : Int} (h0 : 0 ≤ c) (h1 : c < 256) : F__check_context c = .ok () := by
  unfold F__check_context
  rw [if_pos h0, if_pos h1]
theorem ctx_er {c : Int} (h : c < 0 ∨ 256 ≤ c) : F__check_context c = .er 1 := by
  unfold F__check_context
  split
  · rw [if_neg (by omega)]
  · rfl
theorem dec_ok {d : Int} (h0 : 0 ≤ d) (h1 : d ≤ 1) : F__check_decision d = .ok () := by
  unfold F__check_decision
  rw [if_pos h0, if_pos h1]
theorem dec_er {d : Int} (h : d < 0 ∨ 1 < d) : F__check_decision d = .er 1 := by
  unfold F__check_decision
  split
  · rw [if_neg (by omega)]
  · rfl
theorem code_eq {e : EncS} (g : EncG e) {c d : Int} (h0 : 0 ≤ c) (h1 : c < 256) (d0 : 0 ≤ d) (d1 : d ≤ 1) (hl : e.front.length ≤ 900000) : F_Encoder_code e c d = .ok (encCode e c d) := by
  have l := g.len
  have gi := gd (show (e.probs.length : Int) = 256 by omega) h0 h1
  unfold F_Encoder_code
  rw [ctx_ok h0 h1, bind_ok, dec_ok d0 d1, bind_ok, grd_pos gi, bnd_eq, narrow_eq g (g.chance h0 h1) hl, bind_ok, adapted_eq, noEr_ok, bind_ok, grd_pos (by rw [probs_narrow]; exact gi), bnd_eq]
  rfl
theorem even_eq {e : EncS} (g : EncG e) {d : Int} (d0 : 0 ≤ d) (d1 : d ≤ 1) (hl : e.front.length ≤ 900000) : F_Encoder_code_even e d = .ok (encNarrow e 2048 d) := by
  unfold F_Encoder_code_even
  rw [dec_ok d0 d1, bind_ok, narrow_eq g (by decide) hl, bind_ok]
theorem octets_eq {e : EncS} (hl : e.front.length ≤ 900000) : F_Encoder_octets e = .ok (encOctets e) := by
  refine Gv.get ?_
  unfold F_Encoder_octets
  refine Gv.bind_eq (mapA_pure0 (g := fun k => PySem.Builtin.bitAnd (e.low / 2 ^ Int.toNat k) 255) (fun k hk => ?_) (by decide)) (Gv.grd (by show e.front.length + 4 ≤ 1000000; omega) (Gv.bind (Gv.whileR (P := fun s => stripZ s = encOctets e) (R := fun s => s = encOctets e) (fun s => s.length) (fun s p => ?_) rfl ?_) ?_))
  · unfold F_Encoder_octets_c1
    rw [grd_pos (shifts_nn hk)]
    rfl
  · unfold F_Encoder_octets_b2
    refine Gv.ite (fun c => .ok (.inr ⟨_, rfl, ?_⟩)) fun c => Gv.grd (last_in c) (Gv.ite (fun z => Gv.grd c (Gv.bnd fun y hy => .ok (.inl ⟨_, rfl, ?_, ?_⟩))) fun z => .ok (.inr ⟨_, rfl, ?_⟩))
    · rw [← p, strip_done (.inl c)]
    · rw [hy, strip_pop c z]
      exact p
    · rw [hy]
      exact drop_less c
    · rw [← p, strip_done (.inr z)]
  · show (e.front ++ _).length < 1000000
    rw [List.length_append]
    show e.front.length + 4 < 1000000
    omega
  · rintro l ⟨s, rfl, h⟩
    exact .ok h
/-! the decoder -/
theorem shift_eq {d : DecS} (h : DecO d) (hv : 0 ≤ d.value) (hv2 : d.value < 2 ^ 64) : F_Decoder__shift d = .ok (decShift d) := by
  have ho := oct_in h
  have hp := h.place
  have k : ∀ (q : St_Decoder) (o : Int), q.value = d.value → 0 ≤ o → o ≤ 255 → F_Decoder__shift_k1 q o = .ok ⟨q.probs, q.octs, q.place, q.span, d.value * 256 + o⟩ := fun q o e h0 h1 => by
    unfold F_Decoder__shift_k1
    rw [e, grd_pos ⟨by decide, by decide, big hv hv2⟩, bnd_eq, e8, low_or hv h0 h1]
  unfold F_Decoder__shift decShift
  unfold decOct at ho ⊢
  by_cases c : d.place < (d.octs.length : Int)
  · rw [if_pos c] at ho
    rw [if_pos c, if_pos c, if_pos c, grd_pos ⟨by omega, c⟩, bnd_eq, bnd_eq, bind_ok]
    exact k ⟨d.probs, d.octs, d.place + 1, d.span, d.value⟩ (itD d.octs d.place) rfl ho.1 ho.2
  · rw [if_neg c] at ho
    rw [if_neg c, if_neg c, if_neg c, bind_ok]
    exact k d 0 rfl ho.1 ho.2
theorem dnorm_eq {d : DecS} (h : DecMid d) (b : Int) : F_Decoder__decide_k1 b d = .ok (b, decNorm d) := by
  have hs := h.span
  have hv := h.value
  unfold F_Decoder__decide_k1 decNorm
  by_cases c : d.span < 16777216
  · rw [if_pos c, show (1000000 : Nat) = 999999 + 1 from rfl, while_go (s' := decNorm1 d)]
    · rw [show (999999 : Nat) = 999998 + 1 from rfl, while_bk (s' := decNorm1 d)]
      · rfl
      · unfold F_Decoder__decide_b2
        rw [if_neg (show ¬ (decNorm1 d).span < 16777216 by show ¬ d.span * 256 < 16777216; omega)]
    · unfold F_Decoder__decide_b2
      rw [if_pos c, shift_eq h.o hv.1 (by omega), noEr_ok, bind_ok, grd_pos ⟨by decide, by decide, big (show 0 ≤ d.span by omega) (show d.span < 2 ^ 64 by omega)⟩, bnd_eq, e8]
      rfl
  · rw [if_neg c, show (1000000 : Nat) = 999999 + 1 from rfl, while_bk (s' := d)]
    · rfl
    · unfold F_Decoder__decide_b2
      rw [if_neg c]
theorem decide_eq {d : DecS} (g : DecG d) {p : Int} (hp : 31 ≤ p ∧ p ≤ 4065) : F_Decoder__decide d p = .ok (decBit d p, decDecide d p) := by
  have hn := dnorm_eq (decPre_ok g hp)
  unfold F_Decoder__decide decDecide
  rw [grd_pos (.inr ⟨by omega, by omega⟩), bnd_eq, bnd_eq]
  unfold decBit
  unfold decPre at hn ⊢
  by_cases c : d.value < d.span / 4096 * p
  · rw [if_pos c] at hn ⊢
    rw [if_pos c, if_pos rfl, bind_ok]
    exact hn 0
  · rw [if_neg c] at hn ⊢
    rw [if_neg c, if_neg (by decide), bnd_eq, bnd_eq, bind_ok]
    exact hn 1
theorem read_eq {d : DecS} (g : DecG d) {c : Int} (h0 : 0 ≤ c) (h1 : c < 256) : F_Decoder_read d c = .ok (decBit d (itD d.probs c), decRead d c) := by
  have l := g.len
  have gi := gd (show (d.probs.length : Int) = 256 by omega) h0 h1
  unfold F_Decoder_read
  rw [ctx_ok h0 h1, bind_ok, grd_pos gi, bnd_eq, decide_eq g (g.chance h0 h1), bind_ok, adapted_eq, noEr_ok, bind_ok, grd_pos (by rw [probs_decide]; exact gi), bnd_eq]
  rfl
theorem reven_eq {d : DecS} (g : DecG d) : F_Decoder_read_even d = .ok (decBit d 2048, decDecide d 2048) := by
  unfold F_Decoder_read_even
  rw [decide_eq g (by decide), bind_ok]
theorem dinit_eq {o : List Int} (h : ∀ x ∈ o, 0 ≤ x ∧ x ≤ 255) : F_Decoder___init__ o = .ok (decInit o) := by
  have st : ∀ (i : Nat) (x : Int), i < 4 → F_Decoder___init___b1 (decShifts i (decBlank o)) x = .ok (decShifts (i + 1) (decBlank o)) := fun i x hi => by
    have hs := shifts_ok (blank_ok h) rfl i
    have := pow_turn hi hs.2.2
    unfold F_Decoder___init___b1
    rw [shift_eq hs.1 hs.2.1 (by omega), noEr_ok, bind_ok]
    rfl
  unfold F_Decoder___init__
  rw [grd_pos ⟨by decide, by decide, by decide +kernel⟩, bnd_eq, show rng 0 (Int.toNat 4) = [0, 1, 2, 3] from by decide]
  have e : forS [0, 1, 2, 3] (decBlank o) (fun s x => F_Decoder___init___b1 s x) = .ok (decShifts 4 (decBlank o)) := by
    show (F_Decoder___init___b1 (decShifts 0 (decBlank o)) 0).bind _ = _
    rw [st 0 0 (by decide), bind_ok]
    show (F_Decoder___init___b1 (decShifts 1 (decBlank o)) 1).bind _ = _
    rw [st 1 1 (by decide), bind_ok]
    show (F_Decoder___init___b1 (decShifts 2 (decBlank o)) 2).bind _ = _
    rw [st 2 2 (by decide), bind_ok]
    show (F_Decoder___init___b1 (decShifts 3 (decBlank o)) 3).bind _ = _
    rw [st 3 3 (by decide), bind_ok]
    rfl
  show (forS [0, 1, 2, 3] (decBlank o) (fun s x => F_Decoder___init___b1 s x)).bind _ = _
  rw [e, bind_ok]
  rfl
theorem dbl (v : Int) (a : Nat) : v / 2 ^ a = 2 * (v / 2 ^ (a + 1)) + v / 2 ^ a % 2 := by
  have e : v / 2 ^ (a + 1) = v / 2 ^ a / 2 := by
    rw [Int.pow_succ, ← Int.ediv_ediv_of_nonneg (Int.le_of_lt (Int.pow_pos (by decide)))]
  rw [e]
  omega
theorem bit_and (x : Int) : PySem.Builtin.bitAnd x 1 = x % 2 := by
  have h := Bits.bit_at (x := x) 0
  simpa using h
theorem div_lt {v : Int} {a b : Nat} (h1 : v < 2 ^ (a + b)) : v / 2 ^ a < 2 ^ b := by
  have p : (0 : Int) < 2 ^ a := Int.pow_pos (by decide)
  refine Int.ediv_lt_of_lt_mul p ?_
  rw [← Int.pow_add, Nat.add_comm b a]
  exact h1
theorem div_nn {v : Int} {a : Nat} (h0 : 0 ≤ v) : 0 ≤ v / 2 ^ a := Int.ediv_nonneg h0 (Int.le_of_lt (Int.pow_pos (by decide)))
theorem pow_s (a : Nat) : (2 : Int) ^ (a + 1) = 2 * 2 ^ a := by rw [Int.pow_succ]; omega
theorem pow_p (a : Nat) : (1 : Int) ≤ 2 ^ a := by
  have : (0 : Int) < 2 ^ a := Int.pow_pos (by decide)
  omega
theorem powmono {i w : Nat} (h : i ≤ w) : (2 : Int) ^ i ≤ 2 ^ w := by
  obtain ⟨k, rfl⟩ := Nat.exists_eq_add_of_le h
  rw [Int.pow_add]
  have h1 := pow_p i
  have := Int.mul_le_mul_of_nonneg_left (pow_p k) (show (0 : Int) ≤ 2 ^ i by omega)
  omega
/-- the digits of a number and their length -/
def bl (v : Int) : Nat := PySem.Builtin.Int.intBits v
theorem bl_in {v : Int} (h : 1 ≤ v) : 1 ≤ bl v ∧ (2 : Int) ^ (bl v - 1) ≤ v ∧ v < 2 ^ (bl v) := by
  obtain ⟨n, rfl⟩ := Int.eq_ofNat_of_zero_le (show 0 ≤ v by omega)
  have hn : n ≠ 0 := by omega
  have e : bl (n : Int) = n.log2 + 1 := by
    unfold bl PySem.Builtin.Int.intBits
    rw [if_neg (by simp; omega)]
    rfl
  rw [e]
  have h1 : 2 ^ n.log2 ≤ n := Nat.log2_self_le hn
  have h2 : n < 2 ^ (n.log2 + 1) := Nat.lt_log2_self
  refine ⟨by omega, ?_, ?_⟩
  · rw [Nat.add_sub_cancel]
    exact_mod_cast h1
  · exact_mod_cast h2
theorem bl_small {v : Int} {k : Nat} (h0 : 1 ≤ v) (h : v < 2 ^ k) : bl v ≤ k := by
  have hb := bl_in h0
  rcases Nat.lt_or_ge k (bl v) with c | c
  · have := powmono (i := k) (w := bl v - 1) (by omega)
    omega
  · exact c
def cap (k : Int) : Int := if 7 < k then 7 else k
def unI (base v most : Int) : List (Int × Int) := ((rng 0 v.toNat).map fun k => (base + cap k, 1)) ++ (if v < most then [(base + cap v, 0)] else [])
def nuD (v : Int) : Nat := bl (v + 1) - 1
def nuR (base v : Int) : List (Int × Int) := (List.range (nuD v)).map fun k => (if k = 0 then base + 8 + cap ((nuD v : Int) - 1) else -1, (v + 1) / 2 ^ (nuD v - 1 - k) % 2)
def nuI (base v : Int) : List (Int × Int) := unI base (nuD v : Nat) 20 ++ nuR base v
def absI (v : Int) : Int := if v < 0 then -v else v
def ItOk (it : Int × Int) : Prop := (-1 ≤ it.1 ∧ it.1 ≤ 255) ∧ 0 ≤ it.2 ∧ it.2 ≤ 1
theorem items_app_ok {a b : List (Int × Int)} (ha : ItemsOk a) (hb : ItemsOk b) : ItemsOk (a ++ b) := fun x hx => (List.mem_append.mp hx).elim (ha x) (hb x)
theorem cap_in {k : Int} (h : 0 ≤ k) : 0 ≤ cap k ∧ cap k ≤ 7 ∧ cap k ≤ k := by
  unfold cap
  split <;> omega
/-- what unary values need of their contexts -/
def UnOk (base most : Int) : Prop := 0 ≤ most ∧ most ≤ 64 ∧ (most = 0 ∨ (0 ≤ base ∧ base ≤ 256 - (if 8 < most then 8 else most)))
theorem un_ctx {base most k : Int} (h : UnOk base most) (h0 : 0 ≤ k) (h1 : k < most) : 0 ≤ base + cap k ∧ base + cap k ≤ 255 := by
  obtain ⟨a, b, c⟩ := h
  rcases c with c | c
  · omega
  · unfold cap
    have := c.2
    split at this <;> split <;> omega
theorem unI_ok {base v most : Int} (h : UnOk base most) (h0 : 0 ≤ v) (h1 : v ≤ most) : ItemsOk (unI base v most) := by
  unfold unI
  refine items_app_ok (fun x hx => ?_) ?_
  · obtain ⟨k, hk, rfl⟩ := List.mem_map.mp hx
    have hk := rng_mem hk
    have := un_ctx (k := k) h hk.1 (by omega)
    exact ⟨⟨by show -1 ≤ base + cap k; omega, this.2⟩, by show (0 : Int) ≤ 1; decide, by show (1 : Int) ≤ 1; decide⟩
  · split
    · intro x hx
      rw [List.mem_singleton.mp hx]
      have := un_ctx (k := v) h h0 ‹_›
      exact ⟨⟨by show -1 ≤ base + cap v; omega, this.2⟩, by show (0 : Int) ≤ 0; decide, by show (0 : Int) ≤ 1; decide⟩
    · intro x hx
      nomatch hx
def NuOk (base v : Int) : Prop := 0 ≤ base ∧ base ≤ 240 ∧ 0 ≤ v ∧ v ≤ 1048576
theorem nuD_in {v : Int} (h0 : 0 ≤ v) (h1 : v ≤ 1048576) : nuD v ≤ 20 ∧ (2 : Int) ^ nuD v ≤ v + 1 ∧ v + 1 < 2 * 2 ^ nuD v := by
  have hb := bl_in (v := v + 1) (by omega)
  have hs := bl_small (v := v + 1) (k := 21) (by omega) (by show v + 1 < 2097152; omega)
  unfold nuD
  refine ⟨by omega, hb.2.1, ?_⟩
  rw [← pow_s, show bl (v + 1) - 1 + 1 = bl (v + 1) by omega]
  exact hb.2.2
theorem nuI_un {base v : Int} (h : NuOk base v) : UnOk base 20 := ⟨by decide, by decide, .inr ⟨h.1, by rw [if_pos (by decide)]; have := h.2.1; omega⟩⟩
theorem nuI_ok {base v : Int} (h : NuOk base v) : ItemsOk (nuI base v) := by
  obtain ⟨b0, b1, v0, v1⟩ := h
  have hd := nuD_in v0 v1
  unfold nuI
  refine items_app_ok (unI_ok (nuI_un ⟨b0, b1, v0, v1⟩) (by omega) (by omega)) fun x hx => ?_
  unfold nuR at hx
  obtain ⟨k, hk, rfl⟩ := List.mem_map.mp hx
  have hk := List.mem_range.mp hk
  have c := cap_in (k := (nuD v : Int) - 1) (by omega)
  have m := Int.emod_nonneg ((v + 1) / 2 ^ (nuD v - 1 - k)) (show (2 : Int) ≠ 0 by decide)
  have m2 := Int.emod_lt_of_pos ((v + 1) / 2 ^ (nuD v - 1 - k)) (show (0 : Int) < 2 by decide)
  refine ⟨?_, m, by show (v + 1) / 2 ^ (nuD v - 1 - k) % 2 ≤ 1; omega⟩
  show -1 ≤ (if k = 0 then base + 8 + cap ((nuD v : Int) - 1) else -1) ∧ (if k = 0 then base + 8 + cap ((nuD v : Int) - 1) else -1) ≤ 255
  split <;> omega
theorem unI_len (base v most : Int) (h : v ≤ 64) : (unI base v most).length ≤ 65 := by
  unfold unI
  rw [List.length_append, List.length_map, rng_len]
  split
  · rw [List.length_singleton]
    omega
  · rw [List.length_nil]
    omega
theorem checks_ok {base count : Int} (h : count ≤ 0 ∨ (0 ≤ base ∧ base ≤ 256 - count)) : F__check_contexts base count = .ok () := by
  unfold F__check_contexts
  by_cases c : 0 < count
  · rw [if_pos c, if_pos (by omega), if_pos (by omega)]
  · rw [if_neg c]
theorem un_check {base most : Int} (h : UnOk base most) : F__check_unary base most = .ok () := by
  obtain ⟨m0, m1, hb⟩ := h
  unfold F__check_unary
  rw [if_pos m0, if_pos m1, checks_ok]
  · rfl
  · rcases hb with h | h
    · left
      rw [if_neg (by omega)]
      omega
    · right
      exact h
/-! the writer -/
theorem code_item {e : EncS} (g : EncG e) {c b : Int} (c0 : 0 ≤ c) (h : ItOk (c, b)) (hl : e.front.length ≤ 900000) : F_Encoder_code e c b = .ok (encItem e (c, b)) := by
  rw [code_eq g c0 (by have : c ≤ 255 := h.1.2; omega) h.2.1 h.2.2 hl]
  unfold encItem
  rw [if_pos c0]
theorem even_item {e : EncS} (g : EncG e) {b : Int} (h : ItOk (-1, b)) (hl : e.front.length ≤ 900000) : F_Encoder_code_even e b = .ok (encItem e (-1, b)) := by
  rw [even_eq g h.2.1 h.2.2 hl]
  unfold encItem
  rw [if_neg (by show ¬ (0 : Int) ≤ -1; decide)]
theorem enc_loop {α σ : Type} {f : σ → α → Rx σ} : ∀ {xs : List α} {its : List (Int × Int)} (mk : Nat → EncS → σ) {e : EncS}, xs.length = its.length → ItemsOk its → EncG e → e.front.length + its.length ≤ 900000 →
    (∀ j x t e, xs[j]? = some x → its[j]? = some t → EncG e → e.front.length ≤ 900000 → f (mk j e) x = .ok (mk (j + 1) (encItem e t))) → forS xs (mk 0 e) f = .ok (mk its.length (encItems e its))
  | [], [], mk, e, _, _, _, _, _ => rfl
  | x :: xs, t :: its, mk, e, hl, ok, g, hf, st => by
    have h1 := st 0 x t e rfl rfl g (by omega)
    have g1 := item_ok g (ok t List.mem_cons_self)
    have l1 := item_len e t
    have ih := enc_loop (xs := xs) (its := its) (f := f) (fun j e => mk (j + 1) e) (e := encItem e t) (by simpa using hl) (fun x hx => ok x (List.mem_cons_of_mem _ hx)) g1 (by rw [List.length_cons] at hf; omega) fun j x t e hx ht g l => st (j + 1) x t e (by simpa using hx) (by simpa using ht) g l
    show (f (mk 0 e) x).bind _ = _
    rw [h1]
    exact ih
  | [], _ :: _, _, _, h, _, _, _, _ => nomatch h
  | _ :: _, [], _, _, h, _, _, _, _ => nomatch h
theorem put_unary {e : EncS} (g : EncG e) {base v most : Int} (h : UnOk base most) (h0 : 0 ≤ v) (h1 : v ≤ most) (hl : e.front.length ≤ 899000) : F_SymbolWriter_unary ⟨e⟩ base v most = .ok ⟨encItems e (unI base v most)⟩ := by
  have hm := h.2.1
  have ok := unI_ok h h0 h1
  have okl : ItemsOk ((rng 0 v.toNat).map fun k => (base + cap k, (1 : Int))) := fun x hx => ok x (List.mem_append_left _ hx)
  have ll : ((rng 0 v.toNat).map fun k => (base + cap k, (1 : Int))).length = v.toNat := by rw [List.length_map, rng_len]
  unfold F_SymbolWriter_unary
  rw [un_check h, bind_ok, if_pos h0, if_pos h1, grd_pos ⟨by omega, by omega⟩]
  have hx := enc_loop (f := fun s x => F_SymbolWriter_unary_b1 base s x) (xs := rng 0 v.toNat) (its := (rng 0 v.toNat).map fun k => (base + cap k, (1 : Int))) (fun _ e => (⟨e⟩ : St_SymbolWriter)) (e := e) (by rw [ll, rng_len]) okl g (by rw [ll]; omega) fun j x t e hx ht g l => by
    have hj := rng_at hx
    rw [List.getElem?_map, hx] at ht
    obtain rfl := Option.some.inj ht
    have c := un_ctx (k := x) h (by omega) (by omega)
    show F_SymbolWriter_unary_b1 base ⟨e⟩ x = _
    unfold F_SymbolWriter_unary_b1
    have q := code_item (c := base + cap x) (b := 1) g c.1 ⟨⟨by show -1 ≤ base + cap x; omega, c.2⟩, by show (0 : Int) ≤ 1; decide, by show (1 : Int) ≤ 1; decide⟩ l
    unfold cap at q ⊢
    rw [show (8 : Int) - 1 = 7 from rfl, q]
    rfl
  rw [hx, bind_ok]
  have g1 := items_ok g okl
  have l1 := items_len ((rng 0 v.toNat).map fun k => (base + cap k, (1 : Int))) e
  rw [ll] at l1
  unfold F_SymbolWriter_unary_r1 unI
  rw [items_app]
  by_cases c : v < most
  · have cc := un_ctx (k := v) h h0 c
    have q := code_item (c := base + cap v) (b := 0) g1 cc.1 ⟨⟨by show -1 ≤ base + cap v; omega, cc.2⟩, by show (0 : Int) ≤ 0; decide, by show (0 : Int) ≤ 1; decide⟩ (by omega)
    rw [if_pos c, if_pos c]
    unfold cap at q ⊢
    rw [show (8 : Int) - 1 = 7 from rfl, q]
    rfl
  · rw [if_neg c, if_neg c]
    rfl
theorem rngD_at {lo x : Int} {n i : Nat} (h : (rngD lo n)[i]? = some x) : x = lo - i ∧ i < n := by
  have hl := get_len h
  have hn : i < n := by
    unfold rngD at hl
    rw [List.length_map, List.length_range] at hl
    exact hl
  rw [rngD_get hn] at h
  have := Option.some.inj h
  omega
theorem rngD_length (lo : Int) (n : Nat) : (rngD lo n).length = n := by
  unfold rngD
  rw [List.length_map, List.length_range]
theorem range_at {α : Type} {f : Nat → α} {w i : Nat} {t : α} (h : ((List.range w).map f)[i]? = some t) : i < w ∧ t = f i := by
  have hl := get_len h
  rw [List.length_map, List.length_range] at hl
  rw [List.getElem?_map, List.getElem?_range hl] at h
  exact ⟨hl, (Option.some.inj h).symm⟩
theorem put_number {e : EncS} (g : EncG e) {base v : Int} (h : NuOk base v) (hl : e.front.length ≤ 899000) : F_SymbolWriter_number ⟨e⟩ base v = .ok ⟨encItems e (nuI base v)⟩ := by
  have ok := nuI_ok h
  have hd := nuD_in h.2.2.1 h.2.2.2
  have hu := nuI_un h
  have oku := unI_ok (v := (nuD v : Nat)) hu (by omega) (by omega)
  have okr : ItemsOk (nuR base v) := fun x hx => ok x (List.mem_append_right _ hx)
  have lr : (nuR base v).length = nuD v := by unfold nuR; rw [List.length_map, List.length_range]
  have lu := unI_len base (nuD v : Nat) 20 (by omega)
  unfold F_SymbolWriter_number
  rw [checks_ok (.inr ⟨h.1, by have := h.2.1; omega⟩), bind_ok, if_pos h.2.2.1, if_pos h.2.2.2, bnd_eq]
  have eb : ((PySem.Builtin.Int.intBits (v + 1) : Nat) : Int) - 1 = (nuD v : Nat) := by
    have := (bl_in (v := v + 1) (by have := h.2.2.1; omega)).1
    unfold nuD
    show ((bl (v + 1) : Nat) : Int) - 1 = _
    omega
  rw [eb, put_unary g hu (by omega) (by omega) hl, bind_ok, grd_pos ⟨by omega, by omega, by decide, by decide⟩, show Int.toNat (((nuD v : Nat) : Int) - 1 - -1) = nuD v by omega]
  have g1 := items_ok g oku
  have l1 := items_len (unI base (nuD v : Nat) 20) e
  have hx := enc_loop (f := fun s x => F_SymbolWriter_number_b1 base v (nuD v : Nat) s x) (xs := rngD (((nuD v : Nat) : Int) - 1) (nuD v)) (its := nuR base v) (fun j e => (⟨e⟩ : St_SymbolWriter)) (e := encItems e (unI base (nuD v : Nat) 20)) (by rw [lr, rngD_length]) okr g1 (by rw [lr]; omega) fun j x t e hx ht g l => by
    obtain ⟨hj, hjw⟩ := rngD_at hx
    have ho := okr t (List.mem_of_getElem? ht)
    unfold nuR at ht
    obtain ⟨_, rfl⟩ := range_at ht
    show F_SymbolWriter_number_b1 base v (nuD v : Nat) ⟨e⟩ x = _
    unfold F_SymbolWriter_number_b1
    rw [grd_pos (by omega), bit_and, bnd_eq, show Int.toNat x = nuD v - 1 - j by omega]
    by_cases c : j = 0
    · subst c
      have cc := cap_in (k := ((nuD v : Nat) : Int) - 1) (by omega)
      rw [if_pos rfl] at ho
      rw [if_pos (by omega), if_pos rfl]
      have ed : F__digit_context base ((nuD v : Nat) : Int) = .ok (base + 8 + cap (((nuD v : Nat) : Int) - 1)) := rfl
      rw [ed, noEr_ok, bind_ok, code_item g (by have := h.1; omega) ho l]
      rfl
    · rw [if_neg c] at ho
      rw [if_neg (by omega), if_neg c, even_item g ho l]
      rfl
  rw [hx, bind_ok]
  unfold nuI
  rw [items_app]
  rfl
theorem init_put : F_Encoder___init__ = .ok encInit := by
  unfold F_Encoder___init__
  rw [grd_pos ⟨by decide, by decide, by decide +kernel⟩, bnd_eq]
  rfl
def Seg (items L : List (Int × Int)) (i : Nat) : Prop := ∀ j t, L[j]? = some t → items[i + j]? = some t
theorem Seg.left {items A B : List (Int × Int)} {i : Nat} (h : Seg items (A ++ B) i) : Seg items A i := fun j t ht => h j t (by rw [List.getElem?_append_left (get_len ht)]; exact ht)
theorem Seg.right {items A B : List (Int × Int)} {i : Nat} (h : Seg items (A ++ B) i) : Seg items B (i + A.length) := fun j t ht => by
  have := h (A.length + j) t (by rw [List.getElem?_append_right (by omega), show A.length + j - A.length = j by omega]; exact ht)
  rw [Nat.add_assoc]
  exact this
structure Whole (O : List Int) (items : List (Int × Int)) : Prop where
  ok : ItemsOk items
  o : ∀ x ∈ O, 0 ≤ x ∧ x ≤ 255
  a : accO O ((encItems encInit items).front.length + 4) = bigL (encItems encInit items)
def At (O : List Int) (items : List (Int × Int)) (i : Nat) (d : DecS) : Prop := Pu.Rel O (encItems encInit (items.take i)) d
section
variable {O : List Int} {items : List (Int × Int)} {i : Nat} {d : DecS}
theorem read_item (K : Whole O items) (A : At O items i d) {c b : Int} (c0 : 0 ≤ c) (h : items[i]? = some (c, b)) : F_Decoder_read d c = .ok (b, decItem d (c, b)) ∧ At O items (i + 1) (decItem d (c, b)) := by
  obtain ⟨h1, h2⟩ := rel_turn h K.ok K.o K.a A
  refine ⟨?_, h2⟩
  have b1 : c ≤ 255 := (K.ok _ (List.mem_of_getElem? h)).1.2
  unfold decItemBit at h1
  rw [if_pos c0] at h1
  have h1 : decBit d (itD d.probs c) = b := h1
  unfold decItem
  rw [if_pos c0, read_eq A.g c0 (by omega), h1]
theorem even_read (K : Whole O items) (A : At O items i d) {b : Int} (h : items[i]? = some (-1, b)) : F_Decoder_read_even d = .ok (b, decItem d (-1, b)) ∧ At O items (i + 1) (decItem d (-1, b)) := by
  obtain ⟨h1, h2⟩ := rel_turn h K.ok K.o K.a A
  refine ⟨?_, h2⟩
  have n : ¬ (0 : Int) ≤ -1 := by decide
  unfold decItemBit at h1
  rw [if_neg n] at h1
  have h1 : decBit d 2048 = b := h1
  unfold decItem
  rw [if_neg n, reven_eq A.g, h1]
theorem dec_loop {α σ : Type} {f : σ → α → Rx σ} : ∀ {xs : List α} (mk : Nat → DecS → σ) {i : Nat} {d : DecS}, At O items i d →
    (∀ j x d, xs[j]? = some x → At O items (i + j) d → ∃ d', f (mk j d) x = .ok (mk (j + 1) d') ∧ At O items (i + j + 1) d') → ∃ d', forS xs (mk 0 d) f = .ok (mk xs.length d') ∧ At O items (i + xs.length) d'
  | [], mk, i, d, A, _ => ⟨d, rfl, A⟩
  | x :: xs, mk, i, d, A, st => by
    obtain ⟨d1, e1, A1⟩ := st 0 x d rfl A
    obtain ⟨d2, e2, A2⟩ := dec_loop (xs := xs) (f := f) (fun j d => mk (j + 1) d) (i := i + 1) (d := d1) A1 fun j x d hx A => by
      have := st (j + 1) x d (by simpa using hx) (by rw [show i + (j + 1) = i + 1 + j by omega]; exact A)
      rw [show i + (j + 1) + 1 = i + 1 + j + 1 by omega] at this
      exact this
    refine ⟨d2, ?_, by rw [List.length_cons, show i + (xs.length + 1) = i + 1 + xs.length by omega]; exact A2⟩
    show (f (mk 0 d) x).bind _ = _
    rw [e1]
    exact e2
theorem unI_at {base v most : Int} {j : Nat} (h : (j : Int) < v) : (unI base v most)[j]? = some (base + cap j, 1) := by
  unfold unI
  rw [List.getElem?_append_left (by rw [List.length_map, rng_len]; omega), List.getElem?_map, rng_get (by omega)]
  show some (base + cap (0 + (j : Int)), (1 : Int)) = _
  rw [Int.zero_add]
theorem unI_end {base v most : Int} (h0 : 0 ≤ v) (h : v < most) : (unI base v most)[v.toNat]? = some (base + cap v, 0) := by
  unfold unI
  rw [List.getElem?_append_right (by rw [List.length_map, rng_len]; omega), List.length_map, rng_len, if_pos h, Nat.sub_self]
  rfl
theorem unI_length {base v most : Int} (h0 : 0 ≤ v) : (unI base v most).length = v.toNat + (if v < most then 1 else 0) := by
  unfold unI
  rw [List.length_append, List.length_map, rng_len]
  split <;> rfl
theorem unary_rd (K : Whole O items) {base v most : Int} (h : UnOk base most) (v0 : 0 ≤ v) (v1 : v ≤ most) (S : Seg items (unI base v most) i) : ∀ (n k m : Nat) {d : DecS}, (k : Int) + n = v → n < m → At O items (i + k) d →
    ∃ d', whileR m ((⟨d⟩ : St_SymbolReader), (k : Int)) (fun s => F_SymbolReader_unary_b1 base most s.1 s.2) = .ok (.go (⟨d'⟩, v)) ∧ At O items (i + (unI base v most).length) d'
  | 0, k, m, d, hk, hm, A => by
    obtain ⟨m, rfl⟩ : ∃ j, m = j + 1 := ⟨m - 1, by omega⟩
    have hk : (k : Int) = v := by omega
    rw [unI_length v0]
    by_cases c : v < most
    · have cc := un_ctx h v0 c
      obtain ⟨e, A1⟩ := read_item K A cc.1 (S k _ (by rw [show k = v.toNat by omega]; exact unI_end v0 c))
      rw [if_pos c, show i + (v.toNat + 1) = i + k + 1 by omega]
      refine ⟨_, while_bk ?_, A1⟩
      show F_SymbolReader_unary_b1 base most ⟨d⟩ (k : Int) = _
      unfold F_SymbolReader_unary_b1
      unfold cap at e
      rw [hk, if_pos c, show (8 : Int) - 1 = 7 from rfl, e]
      rfl
    · rw [if_neg c, show i + (v.toNat + 0) = i + k by omega]
      refine ⟨d, while_bk ?_, A⟩
      show F_SymbolReader_unary_b1 base most ⟨d⟩ (k : Int) = _
      unfold F_SymbolReader_unary_b1
      rw [hk, if_neg c]
  | n + 1, k, m, d, hk, hm, A => by
    obtain ⟨m, rfl⟩ : ∃ j, m = j + 1 := ⟨m - 1, by omega⟩
    have hkv : (k : Int) < v := by omega
    have cc := un_ctx (k := k) h (by omega) (by omega)
    obtain ⟨e, A1⟩ := read_item K A cc.1 (S k _ (unI_at hkv))
    obtain ⟨d', w, A2⟩ := unary_rd K h v0 v1 S n (k + 1) m (d := decItem d (base + cap k, 1)) (by omega) (by omega) A1
    refine ⟨d', ?_, A2⟩
    rw [while_go (s' := ((⟨decItem d (base + cap k, 1)⟩ : St_SymbolReader), ((k + 1 : Nat) : Int)))]
    · exact w
    · show F_SymbolReader_unary_b1 base most ⟨d⟩ (k : Int) = _
      unfold F_SymbolReader_unary_b1
      unfold cap at e ⊢
      rw [if_pos (by omega), show (8 : Int) - 1 = 7 from rfl, e]
      rfl
theorem get_unary (K : Whole O items) (A : At O items i d) {base v most : Int} (h : UnOk base most) (v0 : 0 ≤ v) (v1 : v ≤ most) (S : Seg items (unI base v most) i) :
    ∃ d', F_SymbolReader_unary ⟨d⟩ base most = .ok (v, ⟨d'⟩) ∧ At O items (i + (unI base v most).length) d' := by
  have hm := h.2.1
  obtain ⟨d', w, A'⟩ := unary_rd K h v0 v1 S v.toNat 0 1000000 (by omega) (by omega) A
  refine ⟨d', ?_, A'⟩
  unfold F_SymbolReader_unary
  rw [un_check h, bind_ok]
  show ((whileR 1000000 ((⟨d⟩ : St_SymbolReader), ((0 : Nat) : Int)) (fun s => F_SymbolReader_unary_b1 base most s.1 s.2)).bind _) = _
  rw [w]
  rfl
theorem nu_step {V : Int} {D k : Nat} (hk : k < D) : V / 2 ^ (D - (k + 1)) = 2 * (V / 2 ^ (D - k)) + V / 2 ^ (D - 1 - k) % 2 := by
  have d := dbl V (D - 1 - k)
  rw [show D - 1 - k + 1 = D - k by omega] at d
  rw [show D - (k + 1) = D - 1 - k by omega]
  exact d
theorem get_number (K : Whole O items) (A : At O items i d) {base v : Int} (h : NuOk base v) (S : Seg items (nuI base v) i) :
    ∃ d', F_SymbolReader_number ⟨d⟩ base = .ok (v, ⟨d'⟩) ∧ At O items (i + (nuI base v).length) d' := by
  have hd := nuD_in h.2.2.1 h.2.2.2
  have hu := nuI_un h
  have lr : (nuR base v).length = nuD v := by unfold nuR; rw [List.length_map, List.length_range]
  unfold nuI at S
  have S1 := S.left
  have S2 := S.right
  obtain ⟨d1, u1, A1⟩ := get_unary K A hu (v := (nuD v : Nat)) (by omega) (by omega) S1
  have at_r : ∀ k, k < nuD v → items[i + (unI base (nuD v : Nat) 20).length + k]? = some (if k = 0 then base + 8 + cap ((nuD v : Int) - 1) else -1, (v + 1) / 2 ^ (nuD v - 1 - k) % 2) := fun k hk =>
    S2 k _ (by unfold nuR; rw [List.getElem?_map, List.getElem?_range hk]; rfl)
  have el : (nuI base v).length = (unI base (nuD v : Nat) 20).length + nuD v := by
    unfold nuI
    rw [List.length_append, lr]
  rw [el, ← Nat.add_assoc]
  generalize i + (unI base (nuD v : Nat) 20).length = i1 at A1 at_r ⊢
  have e0 : (v + 1) / 2 ^ (nuD v - 0) = 1 := by
    rw [Nat.sub_zero]
    have p := pow_p (nuD v)
    have a : (v + 1) / 2 ^ nuD v < 2 := Int.ediv_lt_of_lt_mul (by omega) (by omega)
    have b : 1 ≤ (v + 1) / 2 ^ nuD v := by
      refine Int.le_ediv_of_mul_le (by omega) ?_
      omega
    omega
  have hm : ∀ z : Int, z = v + 1 → (if 1048576 < z - 1 then (1048576 : Int) else z - 1) = v := fun z hz => by
    have := h.2.2.2
    rw [hz, if_neg (by omega)]
    omega
  unfold F_SymbolReader_number
  rw [checks_ok (.inr ⟨h.1, by have := h.2.1; omega⟩), bind_ok, u1, bind_ok]
  generalize hD : nuD v = D at hd at_r e0 ⊢
  cases D with
  | zero =>
    refine ⟨d1, ?_, A1⟩
    rw [if_neg (show ¬ (0 : Int) < ((0 : Nat) : Int) by decide), bind_ok]
    unfold F_SymbolReader_number_k1
    rw [grd_pos ⟨by show -(2 ^ 62) ≤ ((0 : Nat) : Int) - 1; decide, by show ((0 : Nat) : Int) - 1 < 2 ^ 62; decide⟩]
    have : (1 : Int) = v + 1 := by
      rw [Nat.sub_zero] at e0
      have h2 : (v + 1) / 1 = 1 := e0
      rw [Int.ediv_one] at h2
      omega
    show Rx.ok ((if 1048576 < (1 : Int) - 1 then (1048576 : Int) else 1 - 1), (⟨d1⟩ : St_SymbolReader)) = _
    rw [hm 1 this]
  | succ D =>
    have cc := cap_in (k := ((D + 1 : Nat) : Int) - 1) (by omega)
    have h0 := at_r 0 (by omega)
    rw [if_pos rfl] at h0
    obtain ⟨r1, A2⟩ := read_item K A1 (by have := h.1; omega) h0
    have ed : F__digit_context base ((D + 1 : Nat) : Int) = .ok (base + 8 + cap (((D + 1 : Nat) : Int) - 1)) := rfl
    rw [if_pos (show (0 : Int) < ((D + 1 : Nat) : Int) by omega)]
    show ∃ d', ((((noEr (F__digit_context base ((D + 1 : Nat) : Int))).bind _).bind _) : Rx (Int × St_SymbolReader)) = _ ∧ _
    rw [ed, noEr_ok, bind_ok]
    show ∃ d', ((((noEr (F_Decoder_read d1 (base + 8 + cap (((D + 1 : Nat) : Int) - 1)))).bind _).bind _) : Rx (Int × St_SymbolReader)) = _ ∧ _
    rw [r1, noEr_ok, bind_ok, bnd_eq, bind_ok]
    have g1 := nu_step (V := v + 1) (show 0 < D + 1 by omega)
    rw [e0] at g1
    unfold F_SymbolReader_number_k1
    rw [grd_pos ⟨by show -(2 ^ 62) ≤ ((D + 1 : Nat) : Int) - 1; omega, by show ((D + 1 : Nat) : Int) - 1 < 2 ^ 62; omega⟩]
    obtain ⟨d', e, A'⟩ := dec_loop (O := O) (items := items) (f := fun s x => F_SymbolReader_number_b2 s.1 s.2 x) (xs := rng 0 D) (fun j d => ((⟨d⟩ : St_SymbolReader), (v + 1) / 2 ^ (D + 1 - (j + 1)))) A2 fun j x d hx A => by
      obtain ⟨_, hjw⟩ := rng_at hx
      have hi := at_r (j + 1) (by omega)
      rw [if_neg (by omega)] at hi
      obtain ⟨e1, A1⟩ := even_read K (i := i1 + 1 + j) A (by rw [show i1 + 1 + j = i1 + (j + 1) by omega]; exact hi)
      refine ⟨_, ?_, A1⟩
      show F_SymbolReader_number_b2 ⟨d⟩ ((v + 1) / 2 ^ (D + 1 - (j + 1))) x = _
      unfold F_SymbolReader_number_b2
      rw [e1, noEr_ok, bind_ok, bnd_eq, ← nu_step (V := v + 1) (show j + 1 < D + 1 by omega)]
    rw [rng_len] at e A'
    refine ⟨d', ?_, by rw [show i1 + (D + 1) = i1 + 1 + D by omega]; exact A'⟩
    show ((forS (rng 0 (Int.toNat (((D + 1 : Nat) : Int) - 1))) ((⟨decItem d1 _⟩ : St_SymbolReader), 2 + (v + 1) / 2 ^ (D + 1 - 1 - 0) % 2) (fun s x => F_SymbolReader_number_b2 s.1 s.2 x)).bind _) = _
    rw [show Int.toNat (((D + 1 : Nat) : Int) - 1) = D by omega, show (2 : Int) + (v + 1) / 2 ^ (D + 1 - 1 - 0) % 2 = (v + 1) / 2 ^ (D + 1 - (0 + 1)) by rw [g1]; omega, e, bind_ok]
    unfold F_SymbolReader_number_r2
    have ee : (v + 1) / 2 ^ (D + 1 - (D + 1)) = v + 1 := by
      rw [Nat.sub_self]
      show (v + 1) / 1 = _
      rw [Int.ediv_one]
    show Rx.ok ((if 1048576 < (v + 1) / 2 ^ (D + 1 - (D + 1)) - 1 then (1048576 : Int) else (v + 1) / 2 ^ (D + 1 - (D + 1)) - 1), (⟨d'⟩ : St_SymbolReader)) = _
    rw [hm _ ee]
end
theorem acc_code0 {E : EncS} (hm : EncMid E) : accO (encOctets E) (E.front.length + 4) = bigL E := by
  have h := acc_code hm 0
  rw [List.replicate_zero, List.append_nil] at h
  exact h
/-! ### levels of a transform block: as items -/
theorem rng_succ (n : Nat) : rng 0 (n + 1) = rng 0 n ++ [(n : Int)] := by
  unfold rng
  rw [List.range_succ, List.map_append]
  simp
theorem enum_snoc {α : Type} (v : List α) (x : α) : enumL (v ++ [x]) = enumL v ++ [((v.length : Int), x)] := by
  unfold enumL
  rw [List.length_append, List.length_singleton, rng_succ, List.zip_append (by rw [rng_len])]
  rfl
def nzs (v : List Int) : List Int := (enumL v).filterMap fun p => if p.2 = 0 then none else some p.1
theorem nzs_snoc (v : List Int) (x : Int) : nzs (v ++ [x]) = nzs v ++ (if x = 0 then [] else [(v.length : Int)]) := by
  unfold nzs
  rw [enum_snoc, List.filterMap_append]
  by_cases c : x = 0
  · simp [c]
  · simp [c]
theorem nzs_step {v : List Int} {k : Nat} {x : Int} (h : v[k]? = some x) : nzs (v.take (k + 1)) = nzs (v.take k) ++ (if x = 0 then [] else [(k : Int)]) := by
  have hk := get_len h
  rw [List.take_add_one, h]
  show nzs (v.take k ++ [x]) = _
  rw [nzs_snoc, List.length_take, Nat.min_eq_left (by omega)]
theorem nzs_mem {v : List Int} {k : Int} (h : k ∈ nzs v) : ∃ (j : Nat) (x : Int), k = (j : Int) ∧ v[j]? = some x ∧ x ≠ 0 := by
  unfold nzs at h
  obtain ⟨p, hp, e⟩ := List.mem_filterMap.mp h
  obtain ⟨i, hi⟩ := List.mem_iff_getElem?.mp hp
  have hl := get_len hi
  rw [enumL_len] at hl
  have hv : v[i]? = some v[i] := List.getElem?_eq_getElem hl
  rw [enumL_get hv] at hi
  have hi := Option.some.inj hi
  subst hi
  by_cases c : v[i] = 0
  · rw [if_pos c] at e
    cases e
  · rw [if_neg c] at e
    exact ⟨i, v[i], (Option.some.inj e).symm, hv, c⟩
theorem nzs_has {v : List Int} {j : Nat} {x : Int} (h : v[j]? = some x) (c : x ≠ 0) : (j : Int) ∈ nzs v := by
  unfold nzs
  refine List.mem_filterMap.mpr ⟨((j : Int), x), List.mem_of_getElem? (enumL_get h), ?_⟩
  rw [if_neg c]
theorem nzs_len (v : List Int) : (nzs v).length ≤ v.length := by
  unfold nzs
  have := List.length_filterMap_le (fun p : Int × Int => if p.2 = 0 then none else some p.1) (enumL v)
  rw [enumL_len] at this
  exact this
/-- the last level that is not 0 stands at l -/
def Last (v : List Int) (l : Nat) : Prop := (∃ x, v[l]? = some x ∧ x ≠ 0) ∧ ∀ (j : Nat) (y : Int), l < j → v[j]? = some y → y = 0
theorem last_ex : ∀ {v : List Int}, (∃ x ∈ v, x ≠ 0) → ∃ l, Last v l
  | [], h => by
    obtain ⟨x, hx, _⟩ := h
    cases hx
  | a :: r, h => by
    by_cases c : ∃ x ∈ r, x ≠ 0
    · obtain ⟨l, ⟨x, hx, hn⟩, hz⟩ := last_ex c
      refine ⟨l + 1, ⟨x, by simpa using hx, hn⟩, fun j y hj hy => ?_⟩
      obtain ⟨j, rfl⟩ : ∃ i, j = i + 1 := ⟨j - 1, by omega⟩
      exact hz j y (by omega) (by simpa using hy)
    · obtain ⟨x, hx, hn⟩ := h
      rcases List.mem_cons.mp hx with rfl | hx
      · refine ⟨0, ⟨x, rfl, hn⟩, fun j y hj hy => ?_⟩
        obtain ⟨j, rfl⟩ : ∃ i, j = i + 1 := ⟨j - 1, by omega⟩
        rcases Decidable.em (y = 0) with z | z
        · exact z
        · exact absurd ⟨y, List.mem_of_getElem? (by simpa using hy), z⟩ c
      · exact absurd ⟨x, hx, hn⟩ c
theorem Last.lt {v : List Int} {l : Nat} (h : Last v l) : l < v.length := by
  obtain ⟨⟨x, hx, _⟩, _⟩ := h
  exact get_len hx
theorem nzs_last {v : List Int} {l : Nat} (h : Last v l) : ∀ k, l < k → k ≤ v.length → nzs (v.take k) = nzs (v.take l) ++ [(l : Int)] := by
  intro k h1 h2
  induction k with
  | zero => omega
  | succ k ih =>
    have hk : v[k]? = some v[k] := List.getElem?_eq_getElem (by omega)
    rw [nzs_step hk]
    rcases Nat.lt_or_ge l k with c | c
    · rw [ih c (by omega), if_pos (h.2 k _ c hk), List.append_nil]
    · have e : l = k := by omega
      subst e
      obtain ⟨⟨x, hx, hn⟩, _⟩ := h
      rw [hk] at hx
      rw [if_neg (by rw [Option.some.inj hx]; exact hn)]
theorem nzs_whole {v : List Int} {l : Nat} (h : Last v l) : nzs v = nzs (v.take l) ++ [(l : Int)] := by
  have := nzs_last h v.length h.lt (Nat.le_refl _)
  rwa [List.take_length] at this
def flI (st : Int) (l k : Nat) (x : Int) : List (Int × Int) := (64 + st * k, if x = 0 then 0 else 1) :: (if x = 0 then [] else [(128 + st * k, if k = l then 1 else 0)])
def plI (st : Int) (v : List Int) (l m : Nat) : List (Int × Int) := (List.range m).flatMap fun k => flI st l k (itD v k)
def bsA (base x : Int) : Int := if 1 < absI x then 208 else base
def bs (base : Int) (xs : List Int) : Int := xs.foldl bsA base
def oneI (base x : Int) : List (Int × Int) := nuI base (absI x - 1) ++ [(-1, if x < 0 then 1 else 0)]
def lvI : Int → List Int → List (Int × Int)
  | _, [] => []
  | base, x :: r => oneI base x ++ lvI (bsA base x) r
theorem lvI_snoc (x : Int) : ∀ (xs : List Int) (base : Int), lvI base (xs ++ [x]) = lvI base xs ++ oneI (bs base xs) x
  | [], base => by simp [lvI, bs]
  | y :: r, base => by
    rw [List.cons_append, lvI, lvI, lvI_snoc x r, List.append_assoc]
    rfl
theorem bs_snoc (base x : Int) (xs : List Int) : bs base (xs ++ [x]) = bsA (bs base xs) x := by
  unfold bs
  rw [List.foldl_append]
  rfl
theorem bsA_in {base x : Int} (h : base = 192 ∨ base = 208) : bsA base x = 192 ∨ bsA base x = 208 := by
  unfold bsA
  split
  · exact .inr rfl
  · exact h
theorem bs_in : ∀ {xs : List Int} {base : Int}, base = 192 ∨ base = 208 → bs base xs = 192 ∨ bs base xs = 208
  | [], _, h => h
  | x :: r, base, h => by
    show bs (bsA base x) r = 192 ∨ bs (bsA base x) r = 208
    refine bs_in ?_
    unfold bsA
    split
    · exact .inr rfl
    · exact h
def rv (v : List Int) : List Int := (nzs v).reverse.map fun k => itD v k
def stp (v : List Int) : Int := 64 / (v.length : Int)
def blkI (v : List Int) (l : Nat) : List (Int × Int) := plI (stp v) v l (min (l + 1) (v.length - 1)) ++ lvI 192 (rv v)
structure Lv (v : List Int) : Prop where
  len : v.length = 16 ∨ v.length = 64
  rge : ∀ x ∈ v, -524288 ≤ x ∧ x ≤ 524287
  nz : ∃ x ∈ v, x ≠ 0
theorem stp_in {v : List Int} (h : Lv v) {k : Nat} (hk : k < v.length) : (stp v = 4 ∧ v.length = 16 ∨ stp v = 1 ∧ v.length = 64) ∧ 0 ≤ stp v * (k : Int) ∧ stp v * (k : Int) ≤ 63 := by
  unfold stp
  rcases h.len with e | e <;> rw [e]
  · rw [show (64 : Int) / ((16 : Nat) : Int) = 4 by decide]
    exact ⟨.inl ⟨rfl, rfl⟩, by omega, by omega⟩
  · rw [show (64 : Int) / ((64 : Nat) : Int) = 1 by decide]
    exact ⟨.inr ⟨rfl, rfl⟩, by omega, by omega⟩
theorem flI_ok {v : List Int} (h : Lv v) {l k : Nat} {x : Int} (hk : k < v.length) : ItemsOk (flI (stp v) l k x) := fun t ht => by
  have hs := (stp_in h hk).2
  unfold flI at ht
  rcases List.mem_cons.mp ht with rfl | ht
  · refine ⟨⟨by show -1 ≤ 64 + stp v * (k : Int); omega, by show 64 + stp v * (k : Int) ≤ 255; omega⟩, ?_, ?_⟩
    · show 0 ≤ (if x = 0 then (0 : Int) else 1); split <;> decide
    · show (if x = 0 then (0 : Int) else 1) ≤ 1; split <;> decide
  · by_cases c : x = 0
    · rw [if_pos c] at ht
      cases ht
    · rw [if_neg c] at ht
      obtain rfl := List.mem_singleton.mp ht
      refine ⟨⟨by show -1 ≤ 128 + stp v * (k : Int); omega, by show 128 + stp v * (k : Int) ≤ 255; omega⟩, ?_, ?_⟩
      · show 0 ≤ (if k = l then (1 : Int) else 0); split <;> decide
      · show (if k = l then (1 : Int) else 0) ≤ 1; split <;> decide
theorem plI_succ (st : Int) (v : List Int) (l m : Nat) : plI st v l (m + 1) = plI st v l m ++ flI st l m (itD v m) := by
  unfold plI
  rw [List.range_succ, List.flatMap_append]
  simp
theorem plI_ok {v : List Int} (h : Lv v) {l m : Nat} (hm : m ≤ v.length) : ItemsOk (plI (stp v) v l m) := fun t ht => by
  unfold plI at ht
  obtain ⟨k, hk, ht⟩ := List.mem_flatMap.mp ht
  exact flI_ok h (Nat.lt_of_lt_of_le (List.mem_range.mp hk) hm) t ht
theorem flI_len (st : Int) (l k : Nat) (x : Int) : (flI st l k x).length ≤ 2 := by
  unfold flI
  split <;> simp
theorem plI_len (st : Int) (v : List Int) (l m : Nat) : (plI st v l m).length ≤ 2 * m := by
  induction m with
  | zero => simp [plI]
  | succ m ih =>
    have := flI_len st l m (itD v m)
    rw [plI_succ, List.length_append]
    omega
theorem abs_in {x : Int} (h : -524288 ≤ x ∧ x ≤ 524287) (c : x ≠ 0) : 0 ≤ absI x - 1 ∧ absI x - 1 ≤ 1048576 := by
  unfold absI
  split <;> omega
theorem one_nu {base x : Int} (hb : base = 192 ∨ base = 208) (h : -524288 ≤ x ∧ x ≤ 524287) (c : x ≠ 0) : NuOk base (absI x - 1) := by
  have := abs_in h c
  exact ⟨by omega, by omega, this.1, this.2⟩
theorem oneI_ok {base x : Int} (hb : base = 192 ∨ base = 208) (h : -524288 ≤ x ∧ x ≤ 524287) (c : x ≠ 0) : ItemsOk (oneI base x) := by
  unfold oneI
  refine items_app_ok (nuI_ok (one_nu hb h c)) fun t ht => ?_
  obtain rfl := List.mem_singleton.mp ht
  refine ⟨⟨by show (-1 : Int) ≤ -1; decide, by show (-1 : Int) ≤ 255; decide⟩, ?_, ?_⟩
  · show 0 ≤ (if x < 0 then (1 : Int) else 0); split <;> decide
  · show (if x < 0 then (1 : Int) else 0) ≤ 1; split <;> decide
theorem oneI_len {base x : Int} (hb : base = 192 ∨ base = 208) (h : -524288 ≤ x ∧ x ≤ 524287) (c : x ≠ 0) : (oneI base x).length ≤ 86 := by
  have hn := one_nu hb h c
  have hd := nuD_in hn.2.2.1 hn.2.2.2
  have := unI_len base (nuD (absI x - 1) : Nat) 20 (by omega)
  unfold oneI nuI nuR
  rw [List.length_append, List.length_append, List.length_map, List.length_range, List.length_singleton]
  omega
theorem lvI_ok : ∀ {xs : List Int} {base : Int}, base = 192 ∨ base = 208 → (∀ x ∈ xs, (-524288 ≤ x ∧ x ≤ 524287) ∧ x ≠ 0) → ItemsOk (lvI base xs) ∧ (lvI base xs).length ≤ 86 * xs.length
  | [], _, _, _ => ⟨(fun t ht => nomatch ht), Nat.le_refl 0⟩
  | x :: r, base, hb, h => by
    have hx := h x List.mem_cons_self
    obtain ⟨a, b⟩ := lvI_ok (xs := r) (base := bsA base x) (bsA_in hb) fun y hy => h y (List.mem_cons_of_mem _ hy)
    have l := oneI_len hb hx.1 hx.2
    rw [lvI, List.length_append, List.length_cons]
    exact ⟨items_app_ok (oneI_ok hb hx.1 hx.2) a, by omega⟩
theorem itD_of {xs : List Int} {j : Nat} {x : Int} (h : xs[j]? = some x) : itD xs (j : Int) = x := itD_nat j rfl h
theorem rv_in {v : List Int} (h : Lv v) : ∀ x ∈ rv v, (-524288 ≤ x ∧ x ≤ 524287) ∧ x ≠ 0 := fun x hx => by
  unfold rv at hx
  obtain ⟨k, hk, rfl⟩ := List.mem_map.mp hx
  obtain ⟨j, y, rfl, hy, hn⟩ := nzs_mem (List.mem_reverse.mp hk)
  show (-524288 ≤ itD v (j : Int) ∧ itD v (j : Int) ≤ 524287) ∧ itD v (j : Int) ≠ 0
  rw [itD_of hy]
  exact ⟨h.rge y (List.mem_of_getElem? hy), hn⟩
theorem rv_len {v : List Int} (h : Lv v) : (rv v).length ≤ 64 := by
  have := nzs_len v
  unfold rv
  rw [List.length_map, List.length_reverse]
  have := h.len
  omega
theorem blkI_ok {v : List Int} (h : Lv v) (l : Nat) : ItemsOk (blkI v l) ∧ (blkI v l).length ≤ 5700 := by
  have hl := h.len
  obtain ⟨a, b⟩ := lvI_ok (.inl rfl) (rv_in h)
  have c := rv_len h
  have d := plI_len (stp v) v l (min (l + 1) (v.length - 1))
  unfold blkI
  rw [List.length_append]
  exact ⟨items_app_ok (plI_ok h (by omega)) a, by omega⟩
/-! ### written -/
theorem put_flag {e : EncS} (g : EncG e) {c : Int} {b : Bool} (h0 : 0 ≤ c) (h1 : c ≤ 255) (hl : e.front.length ≤ 900000) : F_SymbolWriter_flag ⟨e⟩ c b = .ok ⟨encItem e (c, if b = true then 1 else 0)⟩ := by
  unfold F_SymbolWriter_flag
  have o : ItOk (c, if b = true then (1 : Int) else 0) := ⟨⟨by show -1 ≤ c; omega, h1⟩, by show (0 : Int) ≤ if b = true then 1 else 0; split <;> decide, by show (if b = true then (1 : Int) else 0) ≤ 1; split <;> decide⟩
  rw [checks_ok (.inr ⟨h0, by omega⟩), bind_ok, code_item g h0 o hl]
  rfl
theorem put_even {e : EncS} (g : EncG e) {b : Int} (h0 : 0 ≤ b) (h1 : b ≤ 1) (hl : e.front.length ≤ 900000) : F_SymbolWriter_even ⟨e⟩ b = .ok ⟨encItem e (-1, b)⟩ := by
  unfold F_SymbolWriter_even
  rw [even_item g ⟨⟨by show (-1 : Int) ≤ -1; decide, by show (-1 : Int) ≤ 255; decide⟩, h0, h1⟩ hl]
  rfl
theorem bne0 (x : Int) : (if (!decide (x = 0)) = true then (1 : Int) else 0) = if x = 0 then 0 else 1 := by
  by_cases c : x = 0 <;> simp [c]
theorem put_places {e : EncS} (g : EncG e) {v : List Int} (h : Lv v) {l : Nat} (hl : l < v.length) (hf : e.front.length ≤ 800000) : F__put_places ⟨e⟩ v l = .ok ⟨encItems e (plI (stp v) v l (min (l + 1) (v.length - 1)))⟩ := by
  have hn := h.len
  unfold F__put_places
  refine Gv.get (Gv.grd ⟨by omega, by omega⟩ (Gv.bnd fun st hst => Gv.grd (by split <;> omega) ?_))
  have est : st = stp v := hst
  subst est
  have em : Int.toNat (if ((v : List Int).length : Int) - 1 < ((l : Nat) : Int) + 1 then ((v.length : Int) - 1) else (((l : Nat) : Int) + 1)) = min (l + 1) (v.length - 1) := by split <;> omega
  rw [em]
  refine Gv.bind (Gv.forS (P := fun i s => s = (⟨encItems e (plI (stp v) v l i)⟩ : St_SymbolWriter)) rfl fun i x s hx p => ?_) fun s p => ?_
  · obtain ⟨rfl, hi⟩ := rng_at hx
    subst p
    have hiv : i < v.length := by omega
    obtain ⟨hs, s0, s1⟩ := stp_in h hiv
    have ge := items_ok g (plI_ok (l := l) h (m := i) (by omega))
    have gl := items_len (plI (stp v) v l i) e
    have ll := plI_len (stp v) v l i
    have hin : -(v.length : Int) ≤ (0 : Int) + i ∧ (0 : Int) + i < v.length := by omega
    have hw : (-(2 ^ 64) < (stp v : Int) ∧ (stp v : Int) < 2 ^ 64) ∨ (-(2 ^ 64) < ((0 : Int) + i) ∧ ((0 : Int) + i) < 2 ^ 64) := .inr ⟨by omega, by omega⟩
    unfold F__put_places_b1
    rw [Int.zero_add] at hin hw ⊢
    refine Gv.grd hw (Gv.grd hin (Gv.bind_eq (by rw [put_flag ge (by omega) (by omega) (by omega), noEr_ok]) (Gv.grd hin ?_)))
    rw [bne0]
    have ex : plI (stp v) v l (i + 1) = plI (stp v) v l i ++ flI (stp v) l i (itD v i) := plI_succ _ _ _ _
    have g2 : EncG (encItem (encItems e (plI (stp v) v l i)) (64 + stp v * (i : Int), if itD v (i : Int) = 0 then 0 else 1)) := item_ok ge (flI_ok h (l := l) (x := itD v i) hiv _ (by unfold flI; exact List.mem_cons_self))
    have l2 := item_len (encItems e (plI (stp v) v l i)) (64 + stp v * (i : Int), if itD v (i : Int) = 0 then 0 else 1)
    refine Gv.ite (fun c => .ok ?_) fun c => Gv.grd hw (Gv.bind_eq (by rw [put_flag g2 (by omega) (by omega) (by omega), noEr_ok]) (.ok ?_))
    · rw [ex, items_app]
      unfold flI
      rw [if_pos c, if_pos c]
      rfl
    · rw [ex, items_app]
      unfold flI
      rw [if_neg c, if_neg c]
      have ed : (if decide ((i : Int) = (l : Int)) = true then (1 : Int) else 0) = if i = l then 1 else 0 := by
        by_cases z : i = l
        · rw [if_pos z, if_pos (by rw [z]; simp)]
        · rw [if_neg z, if_neg (by simp; omega)]
      rw [ed]
      rfl
  · unfold F__put_places_r1
    rw [rng_len] at p
    exact .ok p
theorem check_levels {v : List Int} (h : Lv v) : F__check_levels v = .ok () := by
  have hn := h.len
  have hne : v ≠ [] := by intro z; rw [z] at hn; simp at hn
  have ha : (List.any v fun x => x != 0) = true := by
    obtain ⟨x, hx, c⟩ := h.nz
    exact List.any_eq_true.mpr ⟨x, hx, by simpa using c⟩
  unfold F__check_levels
  rw [if_pos (by simp; omega), grd_pos hne, if_neg (by have := h.rge _ (minL_spec v hne).1; omega), grd_pos hne, if_neg (by have := h.rge _ (maxL_spec v hne).1; omega), if_pos ha]
theorem put_levels_ok {e : EncS} (g : EncG e) {v : List Int} (h : Lv v) {l : Nat} (hL : Last v l) (hf : e.front.length ≤ 700000) : F_put_levels ⟨e⟩ v = .ok ⟨encItems e (blkI v l)⟩ := by
  have hn := h.len
  have hl := hL.lt
  unfold F_put_levels
  refine Gv.get (Gv.bind_eq (check_levels h) (Gv.bind_eq (a := nzs v) ?_ ?_))
  · rw [mapF_pure (g := fun p : Int × Int => if p.2 = 0 then none else some p.1) (fun x _ => ?_) (by rw [enumL_len]; show 0 + _ ≤ _; omega)]
    · rfl
    · unfold F_put_levels_c1
      split <;> rfl
  · have hw := nzs_whole hL
    have hlast : itD (nzs v) (-1) = (l : Int) := by
      rw [hw]
      rw [itD_last (by simp), List.getLast_append] <;> simp
    have hpos : 0 < (nzs v).length := by rw [hw, List.length_append]; simp
    refine Gv.grd (by omega) ?_
    rw [hlast]
    have okp := plI_ok (l := l) h (m := min (l + 1) (v.length - 1)) (by omega)
    have lp := plI_len (stp v) v l (min (l + 1) (v.length - 1))
    have gp := items_ok g okp
    have fp := items_len (plI (stp v) v l (min (l + 1) (v.length - 1))) e
    refine Gv.bind_eq (put_places g h hl (by omega)) ?_
    unfold blkI
    rw [items_app]
    generalize encItems e (plI (stp v) v l (min (l + 1) (v.length - 1))) = e1 at gp fp ⊢
    have hlen := nzs_len v
    have tk : ∀ i, ∀ x ∈ ((nzs v).reverse.take i).map (fun k => itD v k), (-524288 ≤ x ∧ x ≤ 524287) ∧ x ≠ 0 := fun i x hx => by
      obtain ⟨k, hk, rfl⟩ := List.mem_map.mp hx
      exact rv_in h _ (List.mem_map.mpr ⟨k, List.mem_of_mem_take hk, rfl⟩)
    refine Gv.bind (Gv.forS (P := fun i s => s = ((⟨encItems e1 (lvI 192 (((nzs v).reverse.take i).map fun k => itD v k))⟩ : St_SymbolWriter), bs 192 (((nzs v).reverse.take i).map fun k => itD v k))) rfl fun i k s hk p => ?_) fun s p => ?_
    · subst p
      have hi := get_len hk
      rw [List.length_reverse] at hi
      obtain ⟨j, x, rfl, hx, hnx⟩ := nzs_mem (List.mem_reverse.mp (List.mem_of_getElem? hk))
      have hj := get_len hx
      have hxr := h.rge x (List.mem_of_getElem? hx)
      have hb : bs 192 (((nzs v).reverse.take i).map fun k => itD v k) = 192 ∨ bs 192 (((nzs v).reverse.take i).map fun k => itD v k) = 208 := bs_in (.inl rfl)
      obtain ⟨ok1, ln1⟩ := lvI_ok (.inl rfl) (tk i)
      have g1 := items_ok gp ok1
      have f1 := items_len (lvI 192 (((nzs v).reverse.take i).map fun k => itD v k)) e1
      rw [List.length_map, List.length_take, List.length_reverse] at ln1
      have et : ((nzs v).reverse.take (i + 1)).map (fun k => itD v k) = ((nzs v).reverse.take i).map (fun k => itD v k) ++ [x] := by
        rw [List.take_add_one, hk, List.map_append]
        show _ ++ [itD v (j : Int)] = _
        rw [itD_of hx]
      rw [et, lvI_snoc, bs_snoc, items_app]
      generalize bs 192 (((nzs v).reverse.take i).map fun k => itD v k) = base at hb ⊢
      generalize encItems e1 (lvI 192 (((nzs v).reverse.take i).map fun k => itD v k)) = e2 at g1 f1 ⊢
      have nu := one_nu hb hxr hnx
      have on := oneI_ok hb hxr hnx
      have l1 := oneI_len hb hxr hnx
      have on1 : ItemsOk (nuI base (absI x - 1)) := nuI_ok nu
      have g3 := items_ok g1 on1
      have f3 := items_len (nuI base (absI x - 1)) e2
      unfold oneI at l1
      rw [List.length_append, List.length_singleton] at l1
      unfold F_put_levels_b2
      refine Gv.grd (by omega) (Gv.bnd fun lv hlv => ?_)
      rw [itD_of hx] at hlv
      subst hlv
      show Gv (Rx.bind (noEr (F_SymbolWriter_number ⟨e2⟩ base (absI lv - 1))) _) _
      refine Gv.bind_eq (by rw [put_number g1 nu (by omega), noEr_ok]) (Gv.bind_eq (by rw [put_even g3 (by split <;> decide) (by split <;> decide) (by omega), noEr_ok]) (Gv.bind_eq (a := bsA base lv) rfl (.ok ?_)))
      unfold oneI
      rw [items_app]
      rfl
    · subst p
      rw [List.length_reverse, show (nzs v).reverse.take (nzs v).length = (nzs v).reverse from List.take_of_length_le (by rw [List.length_reverse]; exact Nat.le_refl _)]
      exact .ok rfl
/-! ### read -/
section
variable {O : List Int} {items : List (Int × Int)} {i : Nat} {d : DecS}
theorem get_flag (K : Whole O items) (A : At O items i d) {c b : Int} (h : items[i]? = some (c, b)) (c0 : 0 ≤ c) (c1 : c ≤ 255) : F_SymbolReader_flag ⟨d⟩ c = .ok (decide (b = 1), ⟨decItem d (c, b)⟩) ∧ At O items (i + 1) (decItem d (c, b)) := by
  obtain ⟨e, A'⟩ := read_item K A c0 h
  refine ⟨?_, A'⟩
  unfold F_SymbolReader_flag
  rw [checks_ok (.inr ⟨c0, by omega⟩), bind_ok, e]
  rfl
theorem get_even (K : Whole O items) (A : At O items i d) {b : Int} (h : items[i]? = some (-1, b)) : F_SymbolReader_even ⟨d⟩ = .ok (b, ⟨decItem d (-1, b)⟩) ∧ At O items (i + 1) (decItem d (-1, b)) := by
  obtain ⟨e, A'⟩ := even_read K A h
  refine ⟨?_, A'⟩
  unfold F_SymbolReader_even
  show ((F_Decoder_read_even d).bind _) = _
  rw [e]
  rfl
theorem get_one (K : Whole O items) (A : At O items i d) {base x : Int} (hb : base = 192 ∨ base = 208) (h : -524288 ≤ x ∧ x ≤ 524287) (c : x ≠ 0) (S : Seg items (oneI base x) i) :
    ∃ d1 d2, F_SymbolReader_number ⟨d⟩ base = .ok (absI x - 1, ⟨d1⟩) ∧ F_SymbolReader_even ⟨d1⟩ = .ok (if x < 0 then 1 else 0, ⟨d2⟩) ∧ At O items (i + (oneI base x).length) d2 := by
  unfold oneI at S ⊢
  obtain ⟨d1, e1, A1⟩ := get_number K A (one_nu hb h c) S.left
  obtain ⟨e2, A2⟩ := get_even K A1 (S.right 0 _ rfl)
  refine ⟨d1, _, e1, e2, ?_⟩
  rw [List.length_append, List.length_singleton, ← Nat.add_assoc]
  exact A2
theorem plI_split (st : Int) (v : List Int) (l : Nat) {k m : Nat} (h : k < m) : ∃ R, plI st v l m = plI st v l k ++ (flI st l k (itD v k) ++ R) := by
  induction m with
  | zero => omega
  | succ m ih =>
    rw [plI_succ]
    rcases Nat.lt_or_ge k m with c | c
    · obtain ⟨R, e⟩ := ih c
      exact ⟨R ++ flI st l m (itD v m), by rw [e, List.append_assoc, List.append_assoc]⟩
    · obtain rfl : k = m := by omega
      exact ⟨[], by rw [List.append_nil]⟩
theorem flI_seg {v : List Int} {l k m : Nat} {x : Int} (S : Seg items (plI (stp v) v l m) i) (h : k < m) (hx : v[k]? = some x) : Seg items (flI (stp v) l k x) (i + (plI (stp v) v l k).length) := by
  obtain ⟨R, e⟩ := plI_split (stp v) v l h
  rw [e, itD_of hx] at S
  exact S.right.left
end
theorem setL_at {α : Type} {xs : List α} {j : Nat} {y : α} (h : j < xs.length) : setL xs (j : Int) y = xs.set j y := by
  unfold setL ixN
  rw [if_pos (by omega), if_pos (by omega)]
  rfl
def fill (v : List Int) (z ks : List Int) : List Int := ks.foldl (fun s k => setL s k (itD v k)) z
theorem fill_get {v : List Int} : ∀ {ks z : List Int}, (∀ k ∈ ks, ∃ j : Nat, k = (j : Int) ∧ j < v.length) → z.length = v.length → (fill v z ks).length = v.length ∧ ∀ j : Nat, (fill v z ks)[j]? = if (j : Int) ∈ ks then v[j]? else z[j]?
  | [], z, _, hz => ⟨hz, fun j => by simp [fill]⟩
  | k :: r, z, h, hz => by
    obtain ⟨p, rfl, hp⟩ := h k List.mem_cons_self
    have e : setL z (p : Int) (itD v p) = z.set p (itD v p) := setL_at (by omega)
    obtain ⟨a, b⟩ := fill_get (ks := r) (z := setL z (p : Int) (itD v p)) (fun q hq => h q (List.mem_cons_of_mem _ hq)) (by rw [e, List.length_set]; exact hz)
    refine ⟨a, fun j => ?_⟩
    show (fill v (setL z (p : Int) (itD v p)) r)[j]? = _
    rw [b j]
    by_cases c : (j : Int) ∈ r
    · rw [if_pos c, if_pos (List.mem_cons_of_mem _ c)]
    · rw [if_neg c, e]
      by_cases q : j = p
      · subst q
        rw [if_pos List.mem_cons_self, List.getElem?_set_self (by omega), List.getElem?_eq_getElem hp, itD_of (List.getElem?_eq_getElem hp)]
      · rw [if_neg (fun z => (List.mem_cons.mp z).elim (fun z => q (by omega)) c), List.getElem?_set_ne (by omega)]
theorem fill_whole (v : List Int) : fill v (List.replicate v.length 0) (nzs v).reverse = v := by
  obtain ⟨a, b⟩ := fill_get (v := v) (ks := (nzs v).reverse) (z := List.replicate v.length 0) (fun k hk => by
    obtain ⟨j, x, rfl, hx, _⟩ := nzs_mem (List.mem_reverse.mp hk)
    exact ⟨j, rfl, get_len hx⟩) (by rw [List.length_replicate])
  apply List.ext_getElem?
  intro j
  rw [b j]
  by_cases c : (j : Int) ∈ (nzs v).reverse
  · rw [if_pos c]
  · rw [if_neg c]
    by_cases hj : j < v.length
    · have hv : v[j]? = some v[j] := List.getElem?_eq_getElem hj
      have z : v[j] = 0 := Decidable.byContradiction fun n => c (List.mem_reverse.mpr (nzs_has hv n))
      rw [List.getElem?_replicate, if_pos hj, hv, z]
    · rw [List.getElem?_replicate, if_neg hj, List.getElem?_eq_none (by omega)]
theorem fill_snoc (v z ks : List Int) (k : Int) : fill v z (ks ++ [k]) = setL (fill v z ks) k (itD v k) := by
  unfold fill
  rw [List.foldl_append]
  rfl
/-! ### the law's blocks -/
theorem set_rge {v : List Int} {k y : Int} (h : ∀ x ∈ v, -524288 ≤ x ∧ x ≤ 524287) (hy : -524288 ≤ y ∧ y ≤ 524287) : ∀ x ∈ setL v k y, -524288 ≤ x ∧ x ≤ 524287 := fun x hx => by
  unfold setL at hx
  rcases List.mem_or_eq_of_mem_set hx with z | z
  · exact h x z
  · rw [z]; exact hy
theorem setL_len' {v : List Int} {k y : Int} : (setL v k y).length = v.length := by unfold setL; rw [List.length_set]
theorem block_gv {cell : Int} {n : Nat} (hc : 0 ≤ cell) (hn : n = 16 ∨ n = 64) : Gv (F__law_block cell n) (fun v => v.length = n ∧ Lv v) := by
  unfold F__law_block
  refine Gv.bind (digits_gv _ _ _ (by decide) (by decide) (by omega) (by omega)) fun dg hd => Gv.bnd fun share _ => Gv.grd ⟨by omega, by omega⟩ ?_
  rw [Int.toNat_natCast]
  have hdl : dg.length = n := by have := hd.1; omega
  refine Gv.bind (Gv.forS (P := fun i (s : List Int) => s.length = i ∧ ∀ x ∈ s, -524288 ≤ x ∧ x ≤ 524287) ⟨rfl, fun x hx => absurd hx List.not_mem_nil⟩ fun i x s hx p => ?_) fun s p => ?_
  · obtain ⟨rfl, hi⟩ := rng_at hx
    rw [Int.zero_add]
    have hin : -(dg.length : Int) ≤ (i : Int) ∧ (i : Int) < dg.length := by omega
    have dm : itD dg (i : Int) ∈ dg := by rw [itD_of (List.getElem?_eq_getElem (by omega : i < dg.length))]; exact List.getElem_mem _
    have db := hd.2 _ dm
    unfold F__law_block_b1
    refine Gv.grd hin (Gv.bnd fun w hw => Gv.bind (P := fun z => -524288 ≤ z ∧ z ≤ 524287) (Gv.grd hin (.ite (fun _ => .bnd fun z hz => .ok (by omega)) fun _ => .grd hin (.ite (fun _ => .bnd fun z hz => .ok (by omega)) fun _ => .bnd fun z hz => .ok (by omega)))) fun z hz => ?_)
    unfold F__law_block_k2
    refine Gv.bind (P := fun z => -524288 ≤ z ∧ z ≤ 524287) (Gv.grd hin (.ite (fun _ => .ok (by decide)) fun _ => .ok hz)) fun z2 hz2 => ?_
    unfold F__law_block_k3
    refine Gv.grd (by have := p.1; omega) (Gv.bnd fun y hy => .ok ⟨by rw [hy, List.length_append, p.1]; rfl, fun q hq => ?_⟩)
    rw [hy] at hq
    rcases List.mem_append.mp hq with k | k
    · exact p.2 q k
    · rw [List.mem_singleton.mp k]; exact hz2
  · rw [rng_len] at p
    have m1 := Int.emod_nonneg (cell / 7) (b := 1048576) (by decide)
    have m2 := Int.emod_lt_of_pos (cell / 7) (b := 1048576) (by decide)
    have m3 := Int.emod_nonneg (cell / 5) (b := 1048576) (by decide)
    have m4 := Int.emod_lt_of_pos (cell / 5) (b := 1048576) (by decide)
    have q1 := Int.emod_nonneg (cell / 31) (b := (n : Int)) (by omega)
    have q2 := Int.emod_lt_of_pos (cell / 31) (b := (n : Int)) (by omega)
    have q3 := Int.emod_nonneg (cell / 37) (b := (n : Int)) (by omega)
    have q4 := Int.emod_lt_of_pos (cell / 37) (b := (n : Int)) (by omega)
    unfold F__law_block_r1
    refine Gv.bind (P := fun s : List Int => s.length = n ∧ ∀ x ∈ s, -524288 ≤ x ∧ x ≤ 524287) (.ite (fun _ => .grd (by have := p.1; omega) (.bnd fun y hy => .ok ⟨by rw [hy, setL_len', p.1], by rw [hy]; exact set_rge p.2 ⟨by omega, by omega⟩⟩)) fun _ => .ok p) fun s p => ?_
    unfold F__law_block_k4
    have rl : (repL [(0 : Int)] (n : Int)).length = n := by have := rep1_len (0 : Int) (n := (n : Int)) (by omega); omega
    refine Gv.bind (P := fun s : List Int => s.length = n ∧ ∀ x ∈ s, -524288 ≤ x ∧ x ≤ 524287) (.ite (fun _ => .grd ⟨by omega, by omega, by rw [Int.toNat_natCast, List.length_singleton]; omega⟩ (.grd (by omega) (.grd (by rw [rl]; omega) (.bnd fun y hy => .ok ⟨by rw [hy, setL_len', rl], by rw [hy]; exact set_rge (fun x hx => by rw [rep1_mem hx]; decide) ⟨by omega, by omega⟩⟩)))) fun _ => .ok p) fun s p => ?_
    unfold F__law_block_k5
    refine Gv.bind (P := fun s : List Int => s.length = n ∧ Lv s) (Gv.bind_eq (mapA_pure0 (f := fun x => noEr (F__law_block_c7 x)) (g := fun x => !decide (x = 0)) (fun x _ => rfl) (by have := p.1; omega)) (.ite (fun c => .ok ⟨p.1, by have := p.1; omega, p.2, ?_⟩) fun c => .grd (by omega) (.grd (by have := p.1; omega) (.bnd fun y hy => .ok ⟨by rw [hy, setL_len', p.1], ⟨by rw [hy, setL_len']; have := p.1; omega, by rw [hy]; exact set_rge p.2 (by decide), ⟨1, ?_, by decide⟩⟩⟩)))) fun s p => .ok p
    · obtain ⟨b, hb, e⟩ := List.any_eq_true.mp c
      obtain ⟨x, hx, rfl⟩ := List.mem_map.mp hb
      exact ⟨x, hx, by simpa using e⟩
    · obtain ⟨j, ej, lj⟩ : ∃ j : Nat, cell / 37 % (n : Int) = (j : Int) ∧ j < n := ⟨(cell / 37 % (n : Int)).toNat, by omega, by omega⟩
      rw [hy, ej, setL_at (by have := p.1; omega)]
      exact List.mem_iff_getElem?.mpr ⟨j, List.getElem?_set_self (by have := p.1; omega)⟩
section
variable {O : List Int} {items : List (Int × Int)} {i : Nat} {d : DecS}
theorem get_places_ok (K : Whole O items) {v : List Int} (h : Lv v) {l : Nat} (hL : Last v l) (A : At O items i d) (S : Seg items (plI (stp v) v l (min (l + 1) (v.length - 1))) i) :
    ∃ d', F__get_places ⟨d⟩ v.length = .ok (nzs v, ⟨d'⟩) ∧ At O items (i + (plI (stp v) v l (min (l + 1) (v.length - 1))).length) d' := by
  have hn := h.len
  have hl := hL.lt
  have key : Gv (F__get_places ⟨d⟩ v.length) (fun r => ∃ d', r = (nzs v, (⟨d'⟩ : St_SymbolReader)) ∧ At O items (i + (plI (stp v) v l (min (l + 1) (v.length - 1))).length) d') := by
    unfold F__get_places
    refine Gv.grd ⟨by omega, by omega⟩ (Gv.bnd fun st hst => Gv.grd ⟨by omega, by omega⟩ ?_)
    have est : st = stp v := hst
    subst est
    rw [show Int.toNat ((v.length : Int) - 1) = v.length - 1 by omega]
    refine Gv.bind (Gv.forRR (P := fun j (s : St_SymbolReader × List Int) => s.2 = nzs (v.take j) ∧ j ≤ l ∧ At O items (i + (plI (stp v) v l j).length) s.1.dec) (Q := fun r : List Int × St_SymbolReader => ∃ d', r = (nzs v, (⟨d'⟩ : St_SymbolReader)) ∧ At O items (i + (plI (stp v) v l (min (l + 1) (v.length - 1))).length) d') ⟨rfl, Nat.zero_le l, A⟩ fun j x s hx p => ?_) ?_
    · obtain ⟨rfl, hj⟩ := rng_at hx
      obtain ⟨⟨dj⟩, pl⟩ := s
      obtain ⟨p1, p2, p3⟩ := p
      have p1 : pl = nzs (v.take j) := p1
      subst p1
      have p3 : At O items (i + (plI (stp v) v l j).length) dj := p3
      rw [Int.zero_add]
      have hjv : j < v.length := by omega
      have hv : v[j]? = some v[j] := List.getElem?_eq_getElem hjv
      generalize v[j] = x at hv
      have Sf := flI_seg S (k := j) (by omega) hv
      obtain ⟨hs, s0, s1⟩ := stp_in h hjv
      have nl := nzs_len (v.take j)
      rw [List.length_take] at nl
      have es : plI (stp v) v l (j + 1) = plI (stp v) v l j ++ flI (stp v) l j x := by rw [plI_succ, itD_of hv]
      have hw : (-(2 ^ 64) < (stp v : Int) ∧ (stp v : Int) < 2 ^ 64) ∨ (-(2 ^ 64) < (j : Int) ∧ (j : Int) < 2 ^ 64) := .inr ⟨by omega, by omega⟩
      have e0 : items[i + (plI (stp v) v l j).length]? = some (64 + stp v * (j : Int), if x = 0 then 0 else 1) := Sf 0 _ rfl
      obtain ⟨f1, A1⟩ := get_flag K p3 e0 (by omega) (by omega)
      unfold F__get_places_b1
      refine Gv.grd hw (Gv.bind_eq (by rw [f1, noEr_ok]) ?_)
      by_cases c : x = 0
      · refine Gv.neg (by rw [if_pos c]; show ¬ decide ((0 : Int) = 1) = true; decide) (.ok (.inl ⟨_, rfl, ?_, ?_, ?_⟩))
        · show nzs (v.take j) = _
          rw [nzs_step hv, if_pos c, List.append_nil]
        · rcases Nat.lt_or_ge j l with z | z
          · exact z
          · obtain rfl : j = l := by omega
            obtain ⟨⟨y, hy, hny⟩, _⟩ := hL
            rw [hv] at hy
            exact absurd (Option.some.inj hy ▸ c) hny
        · rw [es, List.length_append, ← Nat.add_assoc]
          have : (flI (stp v) l j x).length = 1 := by simp [flI, c]
          rw [this]
          exact A1
      · have e1 : items[i + (plI (stp v) v l j).length + 1]? = some (128 + stp v * (j : Int), if j = l then 1 else 0) := Sf 1 _ (by simp [flI, c])
        obtain ⟨f2, A2⟩ := get_flag K A1 e1 (by omega) (by omega)
        have l2 : (flI (stp v) l j x).length = 2 := by simp [flI, c]
        have en : nzs (v.take j) ++ [(j : Int)] = nzs (v.take (j + 1)) := by rw [nzs_step hv, if_neg c]
        have el : i + (plI (stp v) v l (j + 1)).length = i + (plI (stp v) v l j).length + 1 + 1 := by rw [es, List.length_append, l2]; omega
        refine Gv.pos (by rw [if_neg c]; show decide ((1 : Int) = 1) = true; decide) (Gv.grd (by show (nzs (v.take j)).length ≤ _; omega) (Gv.bnd fun y hy => Gv.grd hw (Gv.bind_eq (by show noEr (F_SymbolReader_flag (⟨decItem dj _⟩ : St_SymbolReader) _) = _; rw [f2, noEr_ok]) ?_)))
        have hy : y = nzs (v.take j) ++ [(j : Int)] := hy
        rw [en] at hy
        subst hy
        by_cases q : j = l
        · subst q
          refine Gv.pos (by rw [if_pos rfl]; show decide ((1 : Int) = 1) = true; decide) (.ok (.inr ⟨_, rfl, decItem (decItem dj (64 + stp v * (j : Int), if x = 0 then 0 else 1)) (128 + stp v * (j : Int), if j = j then 1 else 0), ?_, ?_⟩))
          · show (nzs (v.take (j + 1)), (⟨decItem (decItem dj (64 + stp v * (j : Int), if x = 0 then 0 else 1)) (128 + stp v * (j : Int), if j = j then 1 else 0)⟩ : St_SymbolReader)) = _
            rw [nzs_last hL (j + 1) (by omega) (by omega), ← nzs_whole hL]
          · rw [show min (j + 1) (v.length - 1) = j + 1 by omega, el]
            exact A2
        · refine Gv.neg (by rw [if_neg q]; show ¬ decide ((0 : Int) = 1) = true; decide) (.ok (.inl ⟨_, rfl, rfl, by omega, ?_⟩))
          rw [el]
          exact A2
    · rintro _ (⟨s, rfl, p1, p2, p3⟩ | ⟨r, rfl, q⟩)
      · rw [rng_len] at p1 p2 p3
        have hle : l = v.length - 1 := by omega
        show Gv (F__get_places_r1 _ _ _) _
        unfold F__get_places_r1
        have nl := nzs_len (v.take (v.length - 1))
        rw [List.length_take] at nl
        refine Gv.grd (by rw [p1]; show _ + 1 ≤ _; omega) (.ok ⟨s.1.dec, ?_, ?_⟩)
        · rw [p1, ← hle, show (v.length : Int) - 1 = (l : Int) by omega, ← nzs_whole hL]
        · rw [show min (l + 1) (v.length - 1) = v.length - 1 by omega]
          exact p3
      · exact .ok q
  obtain ⟨r, e, d', rfl, A'⟩ := key
  exact ⟨d', e, A'⟩
theorem get_levels_ok (K : Whole O items) {v : List Int} (h : Lv v) {l : Nat} (hL : Last v l) {sz : Int} (hz : sz = 4 ∧ v.length = 16 ∨ sz = 8 ∧ v.length = 64) (A : At O items i d) (S : Seg items (blkI v l) i) :
    ∃ d', F_get_levels ⟨d⟩ sz = .ok (v, ⟨d'⟩) ∧ At O items (i + (blkI v l).length) d' := by
  have hn := h.len
  have hsz : sz * sz = (v.length : Int) := by rcases hz with ⟨rfl, e⟩ | ⟨rfl, e⟩ <;> rw [e] <;> decide
  have hcs : F_check_size sz = .ok () := by rcases hz with ⟨rfl, e⟩ | ⟨rfl, e⟩ <;> rfl
  have hw : (-(2 ^ 64) < sz ∧ sz < 2 ^ 64) ∨ (-(2 ^ 64) < sz ∧ sz < 2 ^ 64) := .inl ⟨by omega, by omega⟩
  unfold blkI at S ⊢
  obtain ⟨d1, e1, A1⟩ := get_places_ok K h hL A S.left
  have S2 := S.right
  rw [List.length_append, ← Nat.add_assoc]
  generalize i + (plI (stp v) v l (min (l + 1) (v.length - 1))).length = i1 at A1 S2 ⊢
  have nl := nzs_len v
  have key : Gv (F_get_levels ⟨d⟩ sz) (fun r => ∃ d', r = (v, (⟨d'⟩ : St_SymbolReader)) ∧ At O items (i1 + (lvI 192 (rv v)).length) d') := by
    unfold F_get_levels
    rw [hsz]
    refine Gv.bind_eq hcs (Gv.grd hw (Gv.grd ⟨by omega, by omega, by rw [Int.toNat_natCast, List.length_singleton]; omega⟩ (Gv.grd hw (Gv.bind_eq e1 ?_))))
    show Gv (Rx.bind (forS (nzs v).reverse ((⟨d1⟩ : St_SymbolReader), repL [0] (v.length : Int), (192 : Int)) _) _) _
    rw [rep1, Int.toNat_natCast]
    refine Gv.bind (Gv.forS (P := fun j (s : St_SymbolReader × List Int × Int) => s.2.1 = fill v (List.replicate v.length 0) ((nzs v).reverse.take j) ∧ s.2.2 = bs 192 ((rv v).take j) ∧ At O items (i1 + (lvI 192 ((rv v).take j)).length) s.1.dec) ⟨rfl, rfl, A1⟩ fun j k s hk p => ?_) fun s p => ?_
    · have hj := get_len hk
      rw [List.length_reverse] at hj
      obtain ⟨⟨dj⟩, lev, sm⟩ := s
      obtain ⟨p1, p2, p3⟩ := p
      have r1 : lev = fill v (List.replicate v.length 0) ((nzs v).reverse.take j) := p1
      have p2 : sm = bs 192 ((rv v).take j) := p2
      have p3 : At O items (i1 + (lvI 192 ((rv v).take j)).length) dj := p3
      have hmem := List.mem_reverse.mp (List.mem_of_getElem? hk)
      obtain ⟨q, y, rfl, hy, hny⟩ := nzs_mem hmem
      have hq := get_len hy
      have hyr := h.rge y (List.mem_of_getElem? hy)
      have hrv : (rv v)[j]? = some y := by
        unfold rv
        rw [List.getElem?_map, hk]
        show some (itD v (q : Int)) = _
        rw [itD_of hy]
      have et : (rv v).take (j + 1) = (rv v).take j ++ [y] := by rw [List.take_add_one, hrv]; rfl
      have ek : (nzs v).reverse.take (j + 1) = (nzs v).reverse.take j ++ [(q : Int)] := by rw [List.take_add_one, hk]; rfl
      have hb : bs 192 ((rv v).take j) = 192 ∨ bs 192 ((rv v).take j) = 208 := bs_in (.inl rfl)
      have So : Seg items (oneI (bs 192 ((rv v).take j)) y) (i1 + (lvI 192 ((rv v).take j)).length) := by
        have e : rv v = ((rv v).take j ++ [y]) ++ (rv v).drop (j + 1) := by rw [← et, List.take_append_drop]
        have e2 : ∃ R, lvI 192 (rv v) = lvI 192 ((rv v).take j) ++ (oneI (bs 192 ((rv v).take j)) y ++ R) := by
          rw [e]
          generalize (rv v).drop (j + 1) = T
          have z : ∀ (a b : List Int) (base : Int), lvI base (a ++ b) = lvI base a ++ lvI (bs base a) b := by
            intro a
            induction a with
            | nil => intro b base; rfl
            | cons x r ih =>
              intro b base
              rw [List.cons_append, lvI, lvI, ih, List.append_assoc]
              rfl
          refine ⟨lvI (bs 192 ((rv v).take j ++ [y])) T, ?_⟩
          have z1 := z ((rv v).take j ++ [y]) T 192
          rw [z1, lvI_snoc, List.append_assoc, List.take_append_of_le_length (by rw [List.length_append, List.length_take]; have := get_len hrv; simp; omega), List.take_append_of_le_length (by rw [List.length_take]; have := get_len hrv; omega), List.take_take, Nat.min_self]
        obtain ⟨R, e2⟩ := e2
        rw [e2] at S2
        exact S2.right.left
      obtain ⟨d2, d3, n1, n2, A3⟩ := get_one K p3 hb hyr hny So
      have habs := abs_in hyr hny
      subst p2
      have fl : lev.length = v.length := by
        rw [r1]
        exact (fill_get (v := v) (fun k hk => by
          obtain ⟨a, b, rfl, hb, _⟩ := nzs_mem (List.mem_reverse.mp (List.mem_of_mem_take hk))
          exact ⟨a, rfl, get_len hb⟩) (by rw [List.length_replicate])).1
      have fin : At O items (i1 + (lvI 192 ((rv v).take (j + 1))).length) d3 := by
        rw [et, lvI_snoc, List.length_append, ← Nat.add_assoc]
        exact A3
      have efill : fill v (List.replicate v.length 0) ((nzs v).reverse.take (j + 1)) = setL lev (q : Int) y := by rw [ek, fill_snoc, ← r1, itD_of hy]
      have eclip : F_clip y (-524288) 524287 = .ok y := by
        unfold F_clip
        by_cases c : (-524288 : Int) > y
        · omega
        · rw [if_neg c, if_neg (by omega)]
      have eb : F__base_after (bs 192 ((rv v).take j)) (absI y) = .ok (bsA (bs 192 ((rv v).take j)) y) := rfl
      have hgr : -(lev.length : Int) ≤ (q : Int) ∧ (q : Int) < (lev.length : Int) := by omega
      unfold F_get_levels_b1
      refine Gv.bind_eq (by rw [n1, noEr_ok]) (Gv.bnd fun w hw => Gv.bind_eq (by show noEr (F_SymbolReader_even ⟨d2⟩) = _; rw [n2, noEr_ok]) ?_)
      have hw : w = absI y := by
        have hw : w = absI y - 1 + 1 := hw
        omega
      subst hw
      refine Gv.ite (fun c => Gv.bnd fun u hu => ?_) fun c => ?_
      · have c : (if y < 0 then (1 : Int) else 0) = 1 := c
        have hneg : y < 0 := by
          refine Decidable.byContradiction fun z => ?_
          rw [if_neg z] at c
          cases c
        have z : absI y = -y := if_pos hneg
        have hu : u = y := by rw [hu, z, Int.neg_neg]
        subst hu
        refine Gv.bind_eq (by rw [eclip, noEr_ok]) (Gv.grd hgr (Gv.bnd fun t ht => Gv.bind_eq (by show noEr (F__base_after (bs 192 ((rv v).take j)) (absI u)) = _; rw [eb, noEr_ok]) (.ok ⟨?_, ?_, fin⟩)))
        · rw [efill]; exact ht
        · rw [et, bs_snoc]
      · have c : ¬ (if y < 0 then (1 : Int) else 0) = 1 := c
        have hnn : ¬ y < 0 := fun z => c (if_pos z)
        have z : absI y = y := if_neg hnn
        refine Gv.bind_eq (by rw [z, eclip, noEr_ok]) (Gv.grd hgr (Gv.bnd fun t ht => Gv.bind_eq (by show noEr (F__base_after (bs 192 ((rv v).take j)) (absI y)) = _; rw [eb, noEr_ok]) (.ok ⟨?_, ?_, fin⟩)))
        · rw [efill]; exact ht
        · rw [et, bs_snoc]
    · obtain ⟨p1, p2, p3⟩ := p
      rw [List.length_reverse] at p1 p3
      unfold F_get_levels_r1
      refine .ok ⟨s.1.dec, ?_, ?_⟩
      · rw [p1, List.take_of_length_le (by rw [List.length_reverse]; omega), fill_whole]
      · rw [List.take_of_length_le (by unfold rv; rw [List.length_map, List.length_reverse]; omega)] at p3
        exact p3
  obtain ⟨r, e, d', rfl, A'⟩ := key
  exact ⟨d', e, A'⟩
end
/-! ### all blocks -/
def lastOf (v : List Int) : Nat := ((nzs v).getLast?.getD 0).toNat
theorem lastOf_ok {v : List Int} (h : Lv v) : Last v (lastOf v) := by
  obtain ⟨l, e⟩ := last_ex h.nz
  have : lastOf v = l := by
    unfold lastOf
    rw [nzs_whole e]
    simp
  rw [this]
  exact e
def bI (v : List Int) : List (Int × Int) := blkI v (lastOf v)

def cv (xs : List Int) (k : Int) : Int := if k < (xs.length : Int) then (if itD xs k < 0 then -(itD xs k) else itD xs k) else 0
theorem cell_ok (xs : List Int) {k : Int} (h : 0 ≤ k) : F__law_cell xs k = .ok (cv xs k) ∧ 0 ≤ cv xs k := by
  unfold F__law_cell cv
  by_cases c : k < (xs.length : Int)
  · rw [if_pos c, if_pos c, grd_pos ⟨by omega, c⟩]
    refine ⟨rfl, ?_⟩
    split <;> omega
  · rw [if_neg c, if_neg c]
    exact ⟨rfl, by decide⟩
def ce (xs : List Int) (k : Nat) : Int := cv xs k + k
def flg (xs : List Int) (k : Nat) : Int × Int := (ce xs k / 3 % 256, ce xs k / 5 % 2)
def partI (xs : List Int) (k : Nat) (v : List Int) : List (Int × Int) := bI v ++ [flg xs k]
def allC (xs : List Int) : Nat → List (List Int) → List (Int × Int)
  | _, [] => []
  | k, v :: r => partI xs k v ++ allC xs (k + 1) r
theorem allC_app (xs : List Int) : ∀ (a b : List (List Int)) (k : Nat), allC xs k (a ++ b) = allC xs k a ++ allC xs (k + a.length) b
  | [], b, k => by simp [allC]
  | v :: r, b, k => by
    rw [List.cons_append, allC, allC, allC_app xs r b (k + 1), List.append_assoc, List.length_cons, show k + 1 + r.length = k + (r.length + 1) by omega]
theorem flg_ok (xs : List Int) (k : Nat) : ItemsOk [flg xs k] := fun t ht => by
  obtain rfl := List.mem_singleton.mp ht
  unfold flg
  exact ⟨⟨by show -1 ≤ ce xs k / 3 % 256; omega, by show ce xs k / 3 % 256 ≤ 255; omega⟩, by show 0 ≤ ce xs k / 5 % 2; omega, by show ce xs k / 5 % 2 ≤ 1; omega⟩
theorem allC_ok (xs : List Int) : ∀ {vs : List (List Int)} {k : Nat}, (∀ v ∈ vs, Lv v) → ItemsOk (allC xs k vs) ∧ (allC xs k vs).length ≤ 5701 * vs.length
  | [], _, _ => ⟨(fun t ht => nomatch ht), Nat.le_refl 0⟩
  | v :: r, k, h => by
    obtain ⟨a, b⟩ := blkI_ok (h v List.mem_cons_self) (lastOf v)
    obtain ⟨c, e⟩ := allC_ok xs (vs := r) (k := k + 1) fun w hw => h w (List.mem_cons_of_mem _ hw)
    rw [allC, List.length_append, List.length_cons]
    refine ⟨items_app_ok (items_app_ok a (flg_ok xs k)) c, ?_⟩
    show (blkI v (lastOf v) ++ [flg xs k]).length + _ ≤ _
    rw [List.length_append, List.length_singleton]
    omega
theorem allC_seg (xs : List Int) {vs : List (List Int)} {i : Nat} {v : List Int} (h : vs[i]? = some v) : Seg (allC xs 0 vs) (partI xs i v) (allC xs 0 (vs.take i)).length ∧ (allC xs 0 (vs.take i)).length + (partI xs i v).length = (allC xs 0 (vs.take (i + 1))).length := by
  have hi := get_len h
  have e : allC xs 0 (vs.take (i + 1)) = allC xs 0 (vs.take i) ++ partI xs i v := by
    rw [List.take_add_one, h]
    show allC xs 0 (vs.take i ++ [v]) = _
    rw [allC_app, List.length_take, Nat.min_eq_left (by omega), Nat.zero_add]
    simp [allC]
  refine ⟨?_, by rw [e, List.length_append]⟩
  have e2 : ∃ R, allC xs 0 vs = allC xs 0 (vs.take (i + 1)) ++ R := ⟨_, by
    have := allC_app xs (vs.take (i + 1)) (vs.drop (i + 1)) 0
    rwa [List.take_append_drop] at this⟩
  obtain ⟨R, e2⟩ := e2
  rw [e2, e, List.append_assoc]
  intro j t ht
  have hj := get_len ht
  rw [List.getElem?_append_right (by omega), show (allC xs 0 (vs.take i)).length + j - (allC xs 0 (vs.take i)).length = j by omega, List.getElem?_append_left hj]
  exact ht
def Fits (xs : List Int) (bl : List (List Int)) : Prop := ∀ (j : Nat) (v : List Int), bl[j]? = some v → Lv v ∧ v.length = if ce xs j % 2 = 1 then 64 else 16
theorem Fits.all {xs : List Int} {bl : List (List Int)} (h : Fits xs bl) : ∀ v ∈ bl, Lv v := fun v hv => by
  obtain ⟨j, hj⟩ := List.mem_iff_getElem?.mp hv
  exact (h j v hj).1
theorem ints_ok {v : List Int} {n : Int} (h : (v.length : Int) = n) : F__law_is_integers v n = .ok true := by
  unfold F__law_is_integers
  rw [if_pos h, forR_unit (fun x _ => rfl)]
  rfl
theorem law_true (xs : List Int) (h : xs.length ≤ 63) : F_law xs = .ok true := by
  refine Gv.get ?_
  unfold F_law
  refine Gv.bind_eq init_put (Gv.bind_eq (a := (⟨encInit⟩ : St_SymbolWriter)) rfl (Gv.grd (by split <;> omega) ?_))
  obtain ⟨n, hn, hn4⟩ : ∃ n : Nat, Int.toNat (if 12 < 1 + ((xs.length : Nat) : Int) then 12 else 1 + ((xs.length : Nat) : Int)) = n ∧ n ≤ 12 := ⟨_, rfl, by split <;> omega⟩
  rw [hn]
  have e0 : encInit.front.length = 0 := rfl
  refine Gv.bind (Gv.forR (P := fun i (s : St_SymbolWriter × List (List Int)) => s.2.length = i ∧ Fits xs s.2 ∧ s.1 = ⟨encItems encInit (allC xs 0 s.2)⟩) ⟨rfl, (fun j v hv => by simp at hv), rfl⟩ fun i x s hx p => ?_) ?_
  · obtain ⟨rfl, hi⟩ := rng_at hx
    obtain ⟨w, bl⟩ := s
    obtain ⟨p1, p2, p3⟩ := p
    have p1 : bl.length = i := p1
    have p2 : Fits xs bl := p2
    have p3 : w = ⟨encItems encInit (allC xs 0 bl)⟩ := p3
    subst p3
    obtain ⟨ok, ln⟩ : ItemsOk (allC xs 0 bl) ∧ (allC xs 0 bl).length ≤ 5701 * bl.length := allC_ok xs p2.all
    have g := items_ok init_ok ok
    have f := items_len (allC xs 0 bl) encInit
    obtain ⟨ec, hc⟩ := cell_ok xs (k := (i : Int)) (by omega)
    rw [Int.zero_add]
    unfold F_law_b1
    refine Gv.bind_eq ec (Gv.bnd fun cell hcell => ?_)
    have hcell : cell = ce xs i := hcell
    subst hcell
    have hce : 0 ≤ ce xs i := by unfold ce; omega
    refine Gv.bind (P := fun z : Int => z = ((if ce xs i % 2 = 1 then 64 else 16 : Nat) : Int)) (.ite (fun c => .ok (by rw [if_pos c]; rfl)) fun c => .ok (by rw [if_neg c]; rfl)) fun z hz => ?_
    subst hz
    unfold F_law_k2
    refine Gv.bind (block_gv (by omega) (by split <;> simp)) fun v hv => Gv.grd (by show bl.length ≤ _; omega) (Gv.bnd fun y hy => ?_)
    have hy : y = bl ++ [v] := hy
    subst hy
    have it : itD (bl ++ [v]) (i : Int) = v := itD_nat i rfl (by rw [← p1, List.getElem?_append_right (Nat.le_refl _), Nat.sub_self]; rfl)
    have hin : -((bl ++ [v]).length : Int) ≤ (i : Int) ∧ (i : Int) < ((bl ++ [v]).length : Int) := by rw [List.length_append, p1, List.length_singleton]; omega
    have lv := hv.2
    have okb := blkI_ok lv (lastOf v)
    have g2 := items_ok g okb.1
    have f2 := items_len (blkI v (lastOf v)) (encItems encInit (allC xs 0 bl))
    refine Gv.grd hin (Gv.grd hin ?_)
    rw [it]
    refine Gv.bind_eq (put_levels_ok g lv (lastOf_ok lv) (by omega)) (Gv.grd hin (Gv.pos rfl (Gv.bind_eq (put_flag g2 (by omega) (by omega) (by omega)) (.ok ⟨_, rfl, ?_, ?_, ?_⟩))))
    · show (bl ++ [v]).length = _
      rw [List.length_append, p1]; rfl
    · intro j u hu
      rcases Nat.lt_or_ge j bl.length with z | z
      · exact p2 j u (by rw [List.getElem?_append_left z] at hu; exact hu)
      · have : j = bl.length := by
          have := get_len hu
          rw [List.length_append, List.length_singleton] at this
          omega
        subst this
        rw [List.getElem?_append_right (Nat.le_refl _), Nat.sub_self] at hu
        have hu : v = u := Option.some.inj hu
        rw [← hu, p1]
        exact ⟨lv, hv.1⟩
    · have eb : (if decide (ce xs i / 5 % 2 = 1) = true then (1 : Int) else 0) = ce xs i / 5 % 2 := by
        by_cases c : ce xs i / 5 % 2 = 1
        · rw [if_pos (decide_eq_true c), c]
        · rw [if_neg (by rw [decide_eq_false c]; exact Bool.false_ne_true)]
          omega
      show (⟨encItem (encItems (encItems encInit (allC xs 0 bl)) (blkI v (lastOf v))) (ce xs i / 3 % 256, if decide (ce xs i / 5 % 2 = 1) = true then (1 : Int) else 0)⟩ : St_SymbolWriter) = ⟨encItems encInit (allC xs 0 (bl ++ [v]))⟩
      rw [eb, allC_app, items_app, p1, Nat.zero_add]
      have : allC xs i [v] = blkI v (lastOf v) ++ [flg xs i] := by simp [allC, partI, bI]
      rw [this, items_app]
      rfl
  · rintro _ ⟨s, rfl, p⟩
    rw [rng_len] at p
    obtain ⟨w, bl⟩ := s
    obtain ⟨p1, p2, p3⟩ := p
    have p1 : bl.length = n := p1
    have p2 : Fits xs bl := p2
    have p3 : w = ⟨encItems encInit (allC xs 0 bl)⟩ := p3
    subst p3
    obtain ⟨ok, ln⟩ : ItemsOk (allC xs 0 bl) ∧ (allC xs 0 bl).length ≤ 5701 * bl.length := allC_ok xs p2.all
    have g := items_ok init_ok ok
    have f := items_len (allC xs 0 bl) encInit
    have K : Whole (encOctets (encItems encInit (allC xs 0 bl))) (allC xs 0 bl) := ⟨ok, code_oct_in g.mid, acc_code0 g.mid⟩
    show Gv (F_law_r1 xs ⟨encItems encInit (allC xs 0 bl)⟩ bl) _
    unfold F_law_r1
    refine Gv.bind_eq (octets_eq (by show (encItems encInit (allC xs 0 bl)).front.length ≤ 900000; omega)) (Gv.bind_eq (dinit_eq K.o) (Gv.bind_eq (a := (⟨decInit (encOctets (encItems encInit (allC xs 0 bl)))⟩ : St_SymbolReader)) rfl (Gv.grd (by show _ ≤ ((bl.length : Nat) : Int) ∧ ((bl.length : Nat) : Int) < _; omega) ?_)))
    refine Gv.bind (Gv.forR (P := fun i (s : St_SymbolReader × List (List Int)) => s.2 = bl.take i ∧ At (encOctets (encItems encInit (allC xs 0 bl))) (allC xs 0 bl) (allC xs 0 (bl.take i)).length s.1.dec) ⟨rfl, show At _ (allC xs 0 bl) 0 (decInit (encOctets (encItems encInit (allC xs 0 bl)))) from rel_start K.ok K.o K.a⟩ fun i x s hx p => ?_) ?_
    · obtain ⟨rfl, hi⟩ := rng_at hx
      have hi2 : i < bl.length := by
        have hi : i < Int.toNat ((bl.length : Nat) : Int) := hi
        omega
      obtain ⟨⟨dj⟩, fd⟩ := s
      obtain ⟨q1, q2⟩ := p
      have q1 : fd = bl.take i := q1
      subst q1
      rw [Int.zero_add]
      have hv : bl[i]? = some bl[i] := List.getElem?_eq_getElem hi2
      generalize bl[i] = v at hv
      obtain ⟨lv, le⟩ := p2 i v hv
      obtain ⟨S, e⟩ := allC_seg xs hv
      obtain ⟨ec, hc⟩ := cell_ok xs (k := (i : Int)) (by omega)
      have it : itD bl (i : Int) = v := itD_nat i rfl hv
      have hin : -(bl.length : Int) ≤ (i : Int) ∧ (i : Int) < (bl.length : Int) := by omega
      unfold F_law_b3
      refine Gv.bind_eq ec (Gv.bnd fun cell hcell => ?_)
      have hcell : cell = ce xs i := hcell
      subst hcell
      have hce : 0 ≤ ce xs i := by unfold ce; omega
      refine Gv.bind (P := fun z : Int => z = 4 ∧ v.length = 16 ∨ z = 8 ∧ v.length = 64) (.ite (fun c => .ok (.inr ⟨rfl, by rw [le, if_pos c]⟩)) fun c => .ok (.inl ⟨rfl, by rw [le, if_neg c]⟩)) fun z hz => ?_
      have hsz : z * z = (v.length : Int) := by rcases hz with ⟨rfl, e⟩ | ⟨rfl, e⟩ <;> rw [e] <;> decide
      unfold partI bI at S
      obtain ⟨d', e1, A'⟩ := get_levels_ok K lv (lastOf_ok lv) hz q2 S.left
      obtain ⟨f1, A2⟩ := get_flag K A' (S.right 0 _ rfl) (by show 0 ≤ ce xs i / 3 % 256; omega) (by show ce xs i / 3 % 256 ≤ 255; omega)
      unfold F_law_k4
      refine Gv.bind_eq e1 (Gv.grd (.inl ⟨by omega, by omega⟩) (Gv.bind_eq (ints_ok hsz.symm) (Gv.pos rfl (Gv.grd hin ?_))))
      rw [it]
      refine Gv.pos rfl (Gv.grd (by show (bl.take i).length ≤ _; rw [List.length_take]; omega) (Gv.bnd fun y hy => Gv.bind_eq f1 (Gv.pos rfl (.ok ⟨_, rfl, ?_, ?_⟩))))
      · show y = _
        rw [hy, List.take_add_one, hv]
        rfl
      · rw [← e]
        show At _ _ ((allC xs 0 (bl.take i)).length + (blkI v (lastOf v) ++ [flg xs i]).length) _
        rw [List.length_append, List.length_singleton, ← Nat.add_assoc]
        exact A2
    · rintro l ⟨s, rfl, q1, _⟩
      rw [rng_len] at q1
      show Gv (F_law_r3 bl s.1 s.2) _
      unfold F_law_r3
      refine .ok (decide_eq_true ?_)
      rw [q1]
      exact List.take_of_length_le (by show bl.length ≤ Int.toNat ((bl.length : Nat) : Int); omega)

end Vx
namespace Vx
open PySem PySem.Spec PyProof.Rows L2
def topS (i : Nat) : Stmt := PySem.Challenge.pw_thaumatrope_k47_whole_transform_blocks_r.main.body.getD i (.Pass ⟨0, 0, 0, 0⟩)
abbrev s_Encoder___init__ : Stmt := inClass (topS 33) 0
abbrev s_SymbolWriter___init__ : Stmt := inClass (topS 44) 0
abbrev s_SymbolReader___init__ : Stmt := inClass (topS 45) 0
abbrev s__check_levels : Stmt := topS 21
abbrev s__check_contexts : Stmt := topS 46
abbrev s__check_context : Stmt := topS 35
abbrev s__check_decision : Stmt := topS 36
abbrev s__adapted : Stmt := topS 37
abbrev s_Encoder__carry : Stmt := inClass (topS 33) 6
abbrev s_Encoder__narrow : Stmt := inClass (topS 33) 5
abbrev s_Encoder_code : Stmt := inClass (topS 33) 1
abbrev s_SymbolWriter_flag : Stmt := inClass (topS 44) 1
abbrev s_Decoder__shift : Stmt := inClass (topS 34) 5
abbrev s_Decoder__decide : Stmt := inClass (topS 34) 4
abbrev s_Decoder_read : Stmt := inClass (topS 34) 1
abbrev s_SymbolReader_flag : Stmt := inClass (topS 45) 1
abbrev s__put_places : Stmt := topS 22
abbrev s__base_after : Stmt := topS 24
abbrev s__check_unary : Stmt := topS 47
abbrev s_SymbolWriter_unary : Stmt := inClass (topS 44) 3
abbrev s_SymbolReader_unary : Stmt := inClass (topS 45) 3
abbrev s__digit_context : Stmt := topS 48
abbrev s_Encoder_code_even : Stmt := inClass (topS 33) 2
abbrev s_SymbolWriter_number : Stmt := inClass (topS 44) 4
abbrev s_Decoder_read_even : Stmt := inClass (topS 34) 2
abbrev s_SymbolReader_number : Stmt := inClass (topS 45) 4
abbrev s_SymbolWriter_even : Stmt := inClass (topS 44) 6
abbrev s_SymbolReader_even : Stmt := inClass (topS 45) 6
abbrev s_put_levels : Stmt := topS 19
abbrev s_Encoder_octets : Stmt := inClass (topS 33) 3
abbrev s_Decoder___init__ : Stmt := inClass (topS 34) 0
abbrev s_check_size : Stmt := topS 14
abbrev s__get_places : Stmt := topS 23
abbrev s_clip : Stmt := topS 2
abbrev s_get_levels : Stmt := topS 20
abbrev s__law_cell : Stmt := topS 50
abbrev s__law_digits : Stmt := topS 51
abbrev s__law_block : Stmt := topS 53
abbrev s__law_is_integers : Stmt := topS 52
abbrev s_law : Stmt := topS 54
structure Ads where
  c_Encoder : Addr
  c_SymbolWriter : Addr
  c_Decoder : Addr
  c_SymbolReader : Addr
  x_CodecError : Addr
  x_OutOfRange : Addr
  x_BadData : Addr
  t_SIZES_BY_COUNT : Addr
  t_SIZES : Addr
  z0 : Addr
def excA (AD : Ads) : Nat → Addr
  | 0 => AD.x_CodecError
  | 1 => AD.x_OutOfRange
  | 2 => AD.x_BadData
  | _ => AD.z0
structure Txt (K : PySem.W.Frag) (mg : Str → Option Value) (AD : Ads) : Prop where
  g_EVEN : ∃ u, mg "EVEN" = some u ∧ RelV (V.int 2048) u
  g_CONTEXTS_coder : ∃ u, mg "CONTEXTS_coder" = some u ∧ RelV (V.int 256) u
  g_WORD : ∃ u, mg "WORD" = some u ∧ RelV (V.int 4294967296) u
  b_len : mg "len" = none
  g_SIZES_BY_COUNT : ∃ u, mg "SIZES_BY_COUNT" = some u ∧ RelV (V.ref AD.t_SIZES_BY_COUNT) u
  kd_SIZES_BY_COUNT : KDI K AD.t_SIZES_BY_COUNT [(16, 4), (64, 8)]
  b_max : mg "max" = none
  g_GREATEST_LEVEL : ∃ u, mg "GREATEST_LEVEL" = some u ∧ RelV (V.int 524287) u
  b_min : mg "min" = none
  g_LEAST_LEVEL : ∃ u, mg "LEAST_LEVEL" = some u ∧ RelV (V.int (-524288)) u
  b_any : mg "any" = none
  g_CONTEXTS_symbols : ∃ u, mg "CONTEXTS_symbols" = some u ∧ RelV (V.int 256) u
  g_SCALE : ∃ u, mg "SCALE" = some u ∧ RelV (V.int 4096) u
  g_RATE : ∃ u, mg "RATE" = some u ∧ RelV (V.int 5) u
  g_SCALE_BITS : ∃ u, mg "SCALE_BITS" = some u ∧ RelV (V.int 12) u
  g_LEAST_SPAN : ∃ u, mg "LEAST_SPAN" = some u ∧ RelV (V.int 16777216) u
  g_CLASSES : ∃ u, mg "CLASSES" = some u ∧ RelV (V.int 64) u
  g_SIGNIFICANT : ∃ u, mg "SIGNIFICANT" = some u ∧ RelV (V.int 64) u
  g_LAST : ∃ u, mg "LAST" = some u ∧ RelV (V.int 128) u
  b_range : mg "range" = none
  g_LEVEL : ∃ u, mg "LEVEL" = some u ∧ RelV (V.int 192) u
  g_VALUE_CONTEXTS : ∃ u, mg "VALUE_CONTEXTS" = some u ∧ RelV (V.int 16) u
  g_GREATEST_UNARY : ∃ u, mg "GREATEST_UNARY" = some u ∧ RelV (V.int 64) u
  g_SHARED : ∃ u, mg "SHARED" = some u ∧ RelV (V.int 8) u
  g_GREATEST_NUMBER : ∃ u, mg "GREATEST_NUMBER" = some u ∧ RelV (V.int 1048576) u
  g_MOST_DIGITS : ∃ u, mg "MOST_DIGITS" = some u ∧ RelV (V.int 20) u
  b_enumerate : mg "enumerate" = none
  b_abs : mg "abs" = none
  b_reversed : mg "reversed" = none
  b_list : mg "list" = none
  g_SIZES : ∃ u, mg "SIZES" = some u ∧ RelV (V.ref AD.t_SIZES) u
  ts_SIZES : ∀ H, SqT K H AD.t_SIZES (([4, 8] : List Int).map V.int)
  b_int : mg "int" = none
  b_isinstance : mg "isinstance" = none
  b_bool : mg "bool" = none
  cl_Encoder : Cls K AD.c_Encoder
  n_Encoder__probabilities : NoAttr K AD.c_Encoder "_probabilities"
  n_Encoder__front : NoAttr K AD.c_Encoder "_front"
  n_Encoder__low : NoAttr K AD.c_Encoder "_low"
  n_Encoder__span : NoAttr K AD.c_Encoder "_span"
  cl_SymbolWriter : Cls K AD.c_SymbolWriter
  n_SymbolWriter__encoder : NoAttr K AD.c_SymbolWriter "_encoder"
  cl_SymbolReader : Cls K AD.c_SymbolReader
  n_SymbolReader__decoder : NoAttr K AD.c_SymbolReader "_decoder"
  cl_Decoder : Cls K AD.c_Decoder
  n_Decoder__probabilities : NoAttr K AD.c_Decoder "_probabilities"
  n_Decoder__octets : NoAttr K AD.c_Decoder "_octets"
  n_Decoder__place : NoAttr K AD.c_Decoder "_place"
  n_Decoder__span : NoAttr K AD.c_Decoder "_span"
  n_Decoder__value : NoAttr K AD.c_Decoder "_value"
  xg_BadData : mg "BadData" = some (.ref AD.x_BadData)
  xx_BadData : PySem.W.excIn K AD.x_BadData [.type "ValueError", .type "Exception", .type "BaseException", .type "object"] "ValueError.__new__" = true
  xk_BadData : PySem.W.keepIn K (.ref AD.x_BadData) = true
  xb_BadData : PySem.W.subIn K (.ref AD.x_BadData) (.type "BaseException") = some true
  xt_BadData : PySem.W.typeIn K (.ref AD.x_BadData) = some (.type "type")
  xg_OutOfRange : mg "OutOfRange" = some (.ref AD.x_OutOfRange)
  xx_OutOfRange : PySem.W.excIn K AD.x_OutOfRange [.type "ValueError", .type "Exception", .type "BaseException", .type "object"] "ValueError.__new__" = true
  xk_OutOfRange : PySem.W.keepIn K (.ref AD.x_OutOfRange) = true
  xb_OutOfRange : PySem.W.subIn K (.ref AD.x_OutOfRange) (.type "BaseException") = some true
  xt_OutOfRange : PySem.W.typeIn K (.ref AD.x_OutOfRange) = some (.type "type")
abbrev pat_Encoder___init___0 : Pat := (1, [], fun vs _ => vs)
abbrev pats_Encoder___init__ : List Pat := [pat_Encoder___init___0]
abbrev pat_SymbolWriter___init___0 : Pat := (2, [], fun vs _ => vs)
abbrev pats_SymbolWriter___init__ : List Pat := [pat_SymbolWriter___init___0]
abbrev pat_SymbolReader___init___0 : Pat := (2, [], fun vs _ => vs)
abbrev pats_SymbolReader___init__ : List Pat := [pat_SymbolReader___init___0]
abbrev pat__check_levels_0 : Pat := (1, [], fun vs _ => vs)
abbrev pats__check_levels : List Pat := [pat__check_levels_0]
abbrev pat__check_contexts_0 : Pat := (2, [], fun vs _ => vs)
abbrev pats__check_contexts : List Pat := [pat__check_contexts_0]
abbrev pat__check_context_0 : Pat := (1, [], fun vs _ => vs)
abbrev pats__check_context : List Pat := [pat__check_context_0]
abbrev pat__check_decision_0 : Pat := (1, [], fun vs _ => vs)
abbrev pats__check_decision : List Pat := [pat__check_decision_0]
abbrev pat__adapted_0 : Pat := (2, [], fun vs _ => vs)
abbrev pats__adapted : List Pat := [pat__adapted_0]
abbrev pat_Encoder__carry_0 : Pat := (1, [], fun vs _ => vs)
abbrev pats_Encoder__carry : List Pat := [pat_Encoder__carry_0]
abbrev pat_Encoder__narrow_0 : Pat := (3, [], fun vs _ => vs)
abbrev pats_Encoder__narrow : List Pat := [pat_Encoder__narrow_0]
abbrev pat_Encoder_code_0 : Pat := (3, [], fun vs _ => vs)
abbrev pats_Encoder_code : List Pat := [pat_Encoder_code_0]
abbrev pat_SymbolWriter_flag_0 : Pat := (3, [], fun vs _ => vs)
abbrev pats_SymbolWriter_flag : List Pat := [pat_SymbolWriter_flag_0]
abbrev pat_Decoder__shift_0 : Pat := (1, [], fun vs _ => vs)
abbrev pats_Decoder__shift : List Pat := [pat_Decoder__shift_0]
abbrev pat_Decoder__decide_0 : Pat := (2, [], fun vs _ => vs)
abbrev pats_Decoder__decide : List Pat := [pat_Decoder__decide_0]
abbrev pat_Decoder_read_0 : Pat := (2, [], fun vs _ => vs)
abbrev pats_Decoder_read : List Pat := [pat_Decoder_read_0]
abbrev pat_SymbolReader_flag_0 : Pat := (2, [], fun vs _ => vs)
abbrev pats_SymbolReader_flag : List Pat := [pat_SymbolReader_flag_0]
abbrev pat__put_places_0 : Pat := (3, [], fun vs _ => vs)
abbrev pats__put_places : List Pat := [pat__put_places_0]
abbrev pat__base_after_0 : Pat := (2, [], fun vs _ => vs)
abbrev pats__base_after : List Pat := [pat__base_after_0]
abbrev pat__check_unary_0 : Pat := (2, [], fun vs _ => vs)
abbrev pats__check_unary : List Pat := [pat__check_unary_0]
abbrev pat_SymbolWriter_unary_0 : Pat := (3, ["most"], fun vs zs => match vs, zs with | [a0, a1, a2], [b0] => [a0, a1, a2, b0] | _, _ => [])
abbrev pats_SymbolWriter_unary : List Pat := [pat_SymbolWriter_unary_0]
abbrev pat_SymbolReader_unary_0 : Pat := (2, ["most"], fun vs zs => match vs, zs with | [a0, a1], [b0] => [a0, a1, b0] | _, _ => [])
abbrev pats_SymbolReader_unary : List Pat := [pat_SymbolReader_unary_0]
abbrev pat__digit_context_0 : Pat := (2, [], fun vs _ => vs)
abbrev pats__digit_context : List Pat := [pat__digit_context_0]
abbrev pat_Encoder_code_even_0 : Pat := (2, [], fun vs _ => vs)
abbrev pats_Encoder_code_even : List Pat := [pat_Encoder_code_even_0]
abbrev pat_SymbolWriter_number_0 : Pat := (3, [], fun vs _ => vs)
abbrev pats_SymbolWriter_number : List Pat := [pat_SymbolWriter_number_0]
abbrev pat_Decoder_read_even_0 : Pat := (1, [], fun vs _ => vs)
abbrev pats_Decoder_read_even : List Pat := [pat_Decoder_read_even_0]
abbrev pat_SymbolReader_number_0 : Pat := (2, [], fun vs _ => vs)
abbrev pats_SymbolReader_number : List Pat := [pat_SymbolReader_number_0]
abbrev pat_SymbolWriter_even_0 : Pat := (2, [], fun vs _ => vs)
abbrev pats_SymbolWriter_even : List Pat := [pat_SymbolWriter_even_0]
abbrev pat_SymbolReader_even_0 : Pat := (1, [], fun vs _ => vs)
abbrev pats_SymbolReader_even : List Pat := [pat_SymbolReader_even_0]
abbrev pat_put_levels_0 : Pat := (2, [], fun vs _ => vs)
abbrev pats_put_levels : List Pat := [pat_put_levels_0]
abbrev pat_Encoder_octets_0 : Pat := (1, [], fun vs _ => vs)
abbrev pats_Encoder_octets : List Pat := [pat_Encoder_octets_0]
abbrev pat_Decoder___init___0 : Pat := (2, [], fun vs _ => vs)
abbrev pats_Decoder___init__ : List Pat := [pat_Decoder___init___0]
abbrev pat_check_size_0 : Pat := (1, [], fun vs _ => vs)
abbrev pats_check_size : List Pat := [pat_check_size_0]
abbrev pat__get_places_0 : Pat := (2, [], fun vs _ => vs)
abbrev pats__get_places : List Pat := [pat__get_places_0]
abbrev pat_clip_0 : Pat := (3, [], fun vs _ => vs)
abbrev pats_clip : List Pat := [pat_clip_0]
abbrev pat_get_levels_0 : Pat := (2, [], fun vs _ => vs)
abbrev pats_get_levels : List Pat := [pat_get_levels_0]
abbrev pat__law_cell_0 : Pat := (2, [], fun vs _ => vs)
abbrev pats__law_cell : List Pat := [pat__law_cell_0]
abbrev pat__law_digits_0 : Pat := (3, [], fun vs _ => vs)
abbrev pats__law_digits : List Pat := [pat__law_digits_0]
abbrev pat__law_block_0 : Pat := (2, [], fun vs _ => vs)
abbrev pats__law_block : List Pat := [pat__law_block_0]
abbrev pat__law_is_integers_0 : Pat := (2, [], fun vs _ => vs)
abbrev pats__law_is_integers : List Pat := [pat__law_is_integers_0]
abbrev pats_law : List Pat := []
def sp_Encoder___init__ (K : PySem.W.Frag) (AD : Ads) : Sp := fun vs H Q E => ∃ (G : Hp) (p_self dx_self : Addr), vs = [.ref p_self] ∧ Same G H ∧ (∀ a ∈ [p_self], G a = none) ∧ H p_self = some (.ins AD.c_Encoder dx_self []) ∧ cW (F_Encoder___init__ ) (fun v => ∀ (H' : Hp) (l_probs l_front : Addr), SameX p_self H H' → H l_probs = none → H l_front = none → l_probs ≠ l_front → H' p_self = some (.ins AD.c_Encoder dx_self [("_probabilities", V.ref l_probs), ("_front", V.ref l_front), ("_low", V.int v.low), ("_span", V.int v.span)]) → H' l_probs = some (.lst (v.probs.map V.int)) → H' l_front = some (.lst (v.front.map V.int)) → Q .non H') (fun e => ∀ H', Same H H' → E (.ref (excA AD e)) none H')
def sp_SymbolWriter___init__ (K : PySem.W.Frag) (AD : Ads) : Sp := fun vs H Q E => ∃ (G : Hp) (p_self dx_self : Addr) (p_encoder l_encoder_probs l_encoder_front dx_encoder : Addr) (encoder' : St_Encoder), vs = [.ref p_self, .ref p_encoder] ∧ Same G H ∧ (∀ a ∈ [p_self], G a = none) ∧ H p_self = some (.ins AD.c_SymbolWriter dx_self []) ∧ (hideL [p_self] H) p_encoder = some (.ins AD.c_Encoder dx_encoder [("_probabilities", V.ref l_encoder_probs), ("_front", V.ref l_encoder_front), ("_low", V.int encoder'.low), ("_span", V.int encoder'.span)]) ∧ (hideL [p_self] H) l_encoder_probs = some (.lst ((encoder'.probs : (List Int)).map V.int)) ∧ (hideL [p_self] H) l_encoder_front = some (.lst ((encoder'.front : (List Int)).map V.int)) ∧ cW (F_SymbolWriter___init__ encoder') (fun v => ∀ (H' : Hp), SameX p_self H H' → H' p_self = some (.ins AD.c_SymbolWriter dx_self [("_encoder", V.ref p_encoder)]) → Q .non H') (fun e => ∀ H', Same H H' → E (.ref (excA AD e)) none H')
def sp_SymbolReader___init__ (K : PySem.W.Frag) (AD : Ads) : Sp := fun vs H Q E => ∃ (G : Hp) (p_self dx_self : Addr) (p_decoder l_decoder_probs l_decoder_octs dx_decoder : Addr) (decoder' : St_Decoder), vs = [.ref p_self, .ref p_decoder] ∧ Same G H ∧ (∀ a ∈ [p_self], G a = none) ∧ H p_self = some (.ins AD.c_SymbolReader dx_self []) ∧ (hideL [p_self] H) p_decoder = some (.ins AD.c_Decoder dx_decoder [("_probabilities", V.ref l_decoder_probs), ("_octets", V.ref l_decoder_octs), ("_place", V.int decoder'.place), ("_span", V.int decoder'.span), ("_value", V.int decoder'.value)]) ∧ (hideL [p_self] H) l_decoder_probs = some (.lst ((decoder'.probs : (List Int)).map V.int)) ∧ (hideL [p_self] H) l_decoder_octs = some (.lst ((decoder'.octs : (List Int)).map V.int)) ∧ cW (F_SymbolReader___init__ decoder') (fun v => ∀ (H' : Hp), SameX p_self H H' → H' p_self = some (.ins AD.c_SymbolReader dx_self [("_decoder", V.ref p_decoder)]) → Q .non H') (fun e => ∀ H', Same H H' → E (.ref (excA AD e)) none H')
def sp__check_levels (K : PySem.W.Frag) (AD : Ads) : Sp := fun vs H Q E => ∃ (G : Hp) (a_levels : Addr) (levels' : List Int), vs = [.ref a_levels] ∧ Same G H ∧ (hideL [] H) a_levels = some (.lst ((levels' : List Int).map V.int)) ∧ cW (F__check_levels levels') (fun v => Q .non H) (fun e => E (.ref (excA AD e)) none H)
def sp__check_contexts (K : PySem.W.Frag) (AD : Ads) : Sp := fun vs H Q E => ∃ (G : Hp) (base' : Int) (count' : Int), vs = [.int base', .int count'] ∧ Same G H ∧ cW (F__check_contexts base' count') (fun v => Q .non H) (fun e => E (.ref (excA AD e)) none H)
def sp__check_context (K : PySem.W.Frag) (AD : Ads) : Sp := fun vs H Q E => ∃ (G : Hp) (context' : Int), vs = [.int context'] ∧ Same G H ∧ cW (F__check_context context') (fun v => Q .non H) (fun e => E (.ref (excA AD e)) none H)
def sp__check_decision (K : PySem.W.Frag) (AD : Ads) : Sp := fun vs H Q E => ∃ (G : Hp) (decision' : Int), vs = [.int decision'] ∧ Same G H ∧ cW (F__check_decision decision') (fun v => Q .non H) (fun e => E (.ref (excA AD e)) none H)
def sp__adapted (K : PySem.W.Frag) (AD : Ads) : Sp := fun vs H Q E => ∃ (G : Hp) (chance' : Int) (decision' : Int), vs = [.int chance', .int decision'] ∧ Same G H ∧ cW (F__adapted chance' decision') (fun v => Q (.int v) H) (fun e => E (.ref (excA AD e)) none H)
def sp_Encoder__carry (K : PySem.W.Frag) (AD : Ads) : Sp := fun vs H Q E => ∃ (G : Hp) (p_self l_self_probs l_self_front dx_self : Addr) (self' : St_Encoder), vs = [.ref p_self] ∧ Same G H ∧ (∀ a ∈ [p_self, l_self_probs, l_self_front], G a = none) ∧ H p_self = some (.ins AD.c_Encoder dx_self [("_probabilities", V.ref l_self_probs), ("_front", V.ref l_self_front), ("_low", V.int self'.low), ("_span", V.int self'.span)]) ∧ H l_self_probs = some (.lst ((self'.probs : (List Int)).map V.int)) ∧ H l_self_front = some (.lst ((self'.front : (List Int)).map V.int)) ∧ l_self_probs ≠ l_self_front ∧ cW (F_Encoder__carry self') (fun v => ∀ (H' : Hp), SameXs [p_self, l_self_probs, l_self_front] H H' → H' p_self = some (.ins AD.c_Encoder dx_self [("_probabilities", V.ref l_self_probs), ("_front", V.ref l_self_front), ("_low", V.int v.low), ("_span", V.int v.span)]) → H' l_self_probs = some (.lst ((v.probs : (List Int)).map V.int)) → H' l_self_front = some (.lst ((v.front : (List Int)).map V.int)) → Q .non H') (fun e => ∀ H', Same H H' → E (.ref (excA AD e)) none H')
def sp_Encoder__narrow (K : PySem.W.Frag) (AD : Ads) : Sp := fun vs H Q E => ∃ (G : Hp) (p_self l_self_probs l_self_front dx_self : Addr) (self' : St_Encoder) (chance' : Int) (decision' : Int), vs = [.ref p_self, .int chance', .int decision'] ∧ Same G H ∧ (∀ a ∈ [p_self, l_self_probs, l_self_front], G a = none) ∧ H p_self = some (.ins AD.c_Encoder dx_self [("_probabilities", V.ref l_self_probs), ("_front", V.ref l_self_front), ("_low", V.int self'.low), ("_span", V.int self'.span)]) ∧ H l_self_probs = some (.lst ((self'.probs : (List Int)).map V.int)) ∧ H l_self_front = some (.lst ((self'.front : (List Int)).map V.int)) ∧ l_self_probs ≠ l_self_front ∧ cW (F_Encoder__narrow self' chance' decision') (fun v => ∀ (H' : Hp), SameXs [p_self, l_self_probs, l_self_front] H H' → H' p_self = some (.ins AD.c_Encoder dx_self [("_probabilities", V.ref l_self_probs), ("_front", V.ref l_self_front), ("_low", V.int v.low), ("_span", V.int v.span)]) → H' l_self_probs = some (.lst ((v.probs : (List Int)).map V.int)) → H' l_self_front = some (.lst ((v.front : (List Int)).map V.int)) → Q .non H') (fun e => ∀ H', Same H H' → E (.ref (excA AD e)) none H')
def sp_Encoder_code (K : PySem.W.Frag) (AD : Ads) : Sp := fun vs H Q E => ∃ (G : Hp) (p_self l_self_probs l_self_front dx_self : Addr) (self' : St_Encoder) (context' : Int) (decision' : Int), vs = [.ref p_self, .int context', .int decision'] ∧ Same G H ∧ (∀ a ∈ [p_self, l_self_probs, l_self_front], G a = none) ∧ H p_self = some (.ins AD.c_Encoder dx_self [("_probabilities", V.ref l_self_probs), ("_front", V.ref l_self_front), ("_low", V.int self'.low), ("_span", V.int self'.span)]) ∧ H l_self_probs = some (.lst ((self'.probs : (List Int)).map V.int)) ∧ H l_self_front = some (.lst ((self'.front : (List Int)).map V.int)) ∧ l_self_probs ≠ l_self_front ∧ cW (F_Encoder_code self' context' decision') (fun v => ∀ (H' : Hp), SameXs [p_self, l_self_probs, l_self_front] H H' → H' p_self = some (.ins AD.c_Encoder dx_self [("_probabilities", V.ref l_self_probs), ("_front", V.ref l_self_front), ("_low", V.int v.low), ("_span", V.int v.span)]) → H' l_self_probs = some (.lst ((v.probs : (List Int)).map V.int)) → H' l_self_front = some (.lst ((v.front : (List Int)).map V.int)) → Q .non H') (fun e => ∀ H', Same H H' → E (.ref (excA AD e)) none H')
def sp_SymbolWriter_flag (K : PySem.W.Frag) (AD : Ads) : Sp := fun vs H Q E => ∃ (G : Hp) (p_self p_self_enc l_self_enc_probs l_self_enc_front dx_self dx_self_enc : Addr) (self' : St_SymbolWriter) (base' : Int) (value' : Bool), vs = [.ref p_self, .int base', .bl value'] ∧ Same G H ∧ (∀ a ∈ [p_self, p_self_enc, l_self_enc_probs, l_self_enc_front], G a = none) ∧ H p_self = some (.ins AD.c_SymbolWriter dx_self [("_encoder", V.ref p_self_enc)]) ∧ H p_self_enc = some (.ins AD.c_Encoder dx_self_enc [("_probabilities", V.ref l_self_enc_probs), ("_front", V.ref l_self_enc_front), ("_low", V.int self'.enc.low), ("_span", V.int self'.enc.span)]) ∧ H l_self_enc_probs = some (.lst ((self'.enc.probs : (List Int)).map V.int)) ∧ H l_self_enc_front = some (.lst ((self'.enc.front : (List Int)).map V.int)) ∧ l_self_enc_probs ≠ l_self_enc_front ∧ p_self ≠ p_self_enc ∧ cW (F_SymbolWriter_flag self' base' value') (fun v => ∀ (H' : Hp), SameXs [p_self, p_self_enc, l_self_enc_probs, l_self_enc_front] H H' → H' p_self = some (.ins AD.c_SymbolWriter dx_self [("_encoder", V.ref p_self_enc)]) → H' p_self_enc = some (.ins AD.c_Encoder dx_self_enc [("_probabilities", V.ref l_self_enc_probs), ("_front", V.ref l_self_enc_front), ("_low", V.int v.enc.low), ("_span", V.int v.enc.span)]) → H' l_self_enc_probs = some (.lst ((v.enc.probs : (List Int)).map V.int)) → H' l_self_enc_front = some (.lst ((v.enc.front : (List Int)).map V.int)) → Q .non H') (fun e => ∀ H', Same H H' → E (.ref (excA AD e)) none H')
def sp_Decoder__shift (K : PySem.W.Frag) (AD : Ads) : Sp := fun vs H Q E => ∃ (G : Hp) (p_self l_self_probs l_self_octs dx_self : Addr) (self' : St_Decoder), vs = [.ref p_self] ∧ Same G H ∧ (∀ a ∈ [p_self, l_self_probs, l_self_octs], G a = none) ∧ H p_self = some (.ins AD.c_Decoder dx_self [("_probabilities", V.ref l_self_probs), ("_octets", V.ref l_self_octs), ("_place", V.int self'.place), ("_span", V.int self'.span), ("_value", V.int self'.value)]) ∧ H l_self_probs = some (.lst ((self'.probs : (List Int)).map V.int)) ∧ H l_self_octs = some (.lst ((self'.octs : (List Int)).map V.int)) ∧ l_self_probs ≠ l_self_octs ∧ cW (F_Decoder__shift self') (fun v => ∀ (H' : Hp), SameXs [p_self, l_self_probs, l_self_octs] H H' → H' p_self = some (.ins AD.c_Decoder dx_self [("_probabilities", V.ref l_self_probs), ("_octets", V.ref l_self_octs), ("_place", V.int v.place), ("_span", V.int v.span), ("_value", V.int v.value)]) → H' l_self_probs = some (.lst ((v.probs : (List Int)).map V.int)) → H' l_self_octs = some (.lst ((v.octs : (List Int)).map V.int)) → Q .non H') (fun e => ∀ H', Same H H' → E (.ref (excA AD e)) none H')
def sp_Decoder__decide (K : PySem.W.Frag) (AD : Ads) : Sp := fun vs H Q E => ∃ (G : Hp) (p_self l_self_probs l_self_octs dx_self : Addr) (self' : St_Decoder) (chance' : Int), vs = [.ref p_self, .int chance'] ∧ Same G H ∧ (∀ a ∈ [p_self, l_self_probs, l_self_octs], G a = none) ∧ H p_self = some (.ins AD.c_Decoder dx_self [("_probabilities", V.ref l_self_probs), ("_octets", V.ref l_self_octs), ("_place", V.int self'.place), ("_span", V.int self'.span), ("_value", V.int self'.value)]) ∧ H l_self_probs = some (.lst ((self'.probs : (List Int)).map V.int)) ∧ H l_self_octs = some (.lst ((self'.octs : (List Int)).map V.int)) ∧ l_self_probs ≠ l_self_octs ∧ cW (F_Decoder__decide self' chance') (fun v => ∀ (H' : Hp), SameXs [p_self, l_self_probs, l_self_octs] H H' → H' p_self = some (.ins AD.c_Decoder dx_self [("_probabilities", V.ref l_self_probs), ("_octets", V.ref l_self_octs), ("_place", V.int v.2.place), ("_span", V.int v.2.span), ("_value", V.int v.2.value)]) → H' l_self_probs = some (.lst ((v.2.probs : (List Int)).map V.int)) → H' l_self_octs = some (.lst ((v.2.octs : (List Int)).map V.int)) → Q (.int v.1) H') (fun e => ∀ H', Same H H' → E (.ref (excA AD e)) none H')
def sp_Decoder_read (K : PySem.W.Frag) (AD : Ads) : Sp := fun vs H Q E => ∃ (G : Hp) (p_self l_self_probs l_self_octs dx_self : Addr) (self' : St_Decoder) (context' : Int), vs = [.ref p_self, .int context'] ∧ Same G H ∧ (∀ a ∈ [p_self, l_self_probs, l_self_octs], G a = none) ∧ H p_self = some (.ins AD.c_Decoder dx_self [("_probabilities", V.ref l_self_probs), ("_octets", V.ref l_self_octs), ("_place", V.int self'.place), ("_span", V.int self'.span), ("_value", V.int self'.value)]) ∧ H l_self_probs = some (.lst ((self'.probs : (List Int)).map V.int)) ∧ H l_self_octs = some (.lst ((self'.octs : (List Int)).map V.int)) ∧ l_self_probs ≠ l_self_octs ∧ cW (F_Decoder_read self' context') (fun v => ∀ (H' : Hp), SameXs [p_self, l_self_probs, l_self_octs] H H' → H' p_self = some (.ins AD.c_Decoder dx_self [("_probabilities", V.ref l_self_probs), ("_octets", V.ref l_self_octs), ("_place", V.int v.2.place), ("_span", V.int v.2.span), ("_value", V.int v.2.value)]) → H' l_self_probs = some (.lst ((v.2.probs : (List Int)).map V.int)) → H' l_self_octs = some (.lst ((v.2.octs : (List Int)).map V.int)) → Q (.int v.1) H') (fun e => ∀ H', Same H H' → E (.ref (excA AD e)) none H')
def sp_SymbolReader_flag (K : PySem.W.Frag) (AD : Ads) : Sp := fun vs H Q E => ∃ (G : Hp) (p_self p_self_dec l_self_dec_probs l_self_dec_octs dx_self dx_self_dec : Addr) (self' : St_SymbolReader) (base' : Int), vs = [.ref p_self, .int base'] ∧ Same G H ∧ (∀ a ∈ [p_self, p_self_dec, l_self_dec_probs, l_self_dec_octs], G a = none) ∧ H p_self = some (.ins AD.c_SymbolReader dx_self [("_decoder", V.ref p_self_dec)]) ∧ H p_self_dec = some (.ins AD.c_Decoder dx_self_dec [("_probabilities", V.ref l_self_dec_probs), ("_octets", V.ref l_self_dec_octs), ("_place", V.int self'.dec.place), ("_span", V.int self'.dec.span), ("_value", V.int self'.dec.value)]) ∧ H l_self_dec_probs = some (.lst ((self'.dec.probs : (List Int)).map V.int)) ∧ H l_self_dec_octs = some (.lst ((self'.dec.octs : (List Int)).map V.int)) ∧ l_self_dec_probs ≠ l_self_dec_octs ∧ p_self ≠ p_self_dec ∧ cW (F_SymbolReader_flag self' base') (fun v => ∀ (H' : Hp), SameXs [p_self, p_self_dec, l_self_dec_probs, l_self_dec_octs] H H' → H' p_self = some (.ins AD.c_SymbolReader dx_self [("_decoder", V.ref p_self_dec)]) → H' p_self_dec = some (.ins AD.c_Decoder dx_self_dec [("_probabilities", V.ref l_self_dec_probs), ("_octets", V.ref l_self_dec_octs), ("_place", V.int v.2.dec.place), ("_span", V.int v.2.dec.span), ("_value", V.int v.2.dec.value)]) → H' l_self_dec_probs = some (.lst ((v.2.dec.probs : (List Int)).map V.int)) → H' l_self_dec_octs = some (.lst ((v.2.dec.octs : (List Int)).map V.int)) → Q (.bl v.1) H') (fun e => ∀ H', Same H H' → E (.ref (excA AD e)) none H')
def sp__put_places (K : PySem.W.Frag) (AD : Ads) : Sp := fun vs H Q E => ∃ (G : Hp) (p_writer p_writer_enc l_writer_enc_probs l_writer_enc_front dx_writer dx_writer_enc : Addr) (writer' : St_SymbolWriter) (a_levels : Addr) (levels' : List Int) (last' : Int), vs = [.ref p_writer, .ref a_levels, .int last'] ∧ Same G H ∧ (∀ a ∈ [p_writer, p_writer_enc, l_writer_enc_probs, l_writer_enc_front], G a = none) ∧ H p_writer = some (.ins AD.c_SymbolWriter dx_writer [("_encoder", V.ref p_writer_enc)]) ∧ H p_writer_enc = some (.ins AD.c_Encoder dx_writer_enc [("_probabilities", V.ref l_writer_enc_probs), ("_front", V.ref l_writer_enc_front), ("_low", V.int writer'.enc.low), ("_span", V.int writer'.enc.span)]) ∧ H l_writer_enc_probs = some (.lst ((writer'.enc.probs : (List Int)).map V.int)) ∧ H l_writer_enc_front = some (.lst ((writer'.enc.front : (List Int)).map V.int)) ∧ l_writer_enc_probs ≠ l_writer_enc_front ∧ p_writer ≠ p_writer_enc ∧ (hideL [p_writer, p_writer_enc, l_writer_enc_probs, l_writer_enc_front] H) a_levels = some (.lst ((levels' : List Int).map V.int)) ∧ cW (F__put_places writer' levels' last') (fun v => ∀ (H' : Hp), SameXs [p_writer, p_writer_enc, l_writer_enc_probs, l_writer_enc_front] H H' → H' p_writer = some (.ins AD.c_SymbolWriter dx_writer [("_encoder", V.ref p_writer_enc)]) → H' p_writer_enc = some (.ins AD.c_Encoder dx_writer_enc [("_probabilities", V.ref l_writer_enc_probs), ("_front", V.ref l_writer_enc_front), ("_low", V.int v.enc.low), ("_span", V.int v.enc.span)]) → H' l_writer_enc_probs = some (.lst ((v.enc.probs : (List Int)).map V.int)) → H' l_writer_enc_front = some (.lst ((v.enc.front : (List Int)).map V.int)) → Q .non H') (fun e => ∀ H', Same H H' → E (.ref (excA AD e)) none H')
def sp__base_after (K : PySem.W.Frag) (AD : Ads) : Sp := fun vs H Q E => ∃ (G : Hp) (base' : Int) (worth' : Int), vs = [.int base', .int worth'] ∧ Same G H ∧ cW (F__base_after base' worth') (fun v => Q (.int v) H) (fun e => E (.ref (excA AD e)) none H)
def sp__check_unary (K : PySem.W.Frag) (AD : Ads) : Sp := fun vs H Q E => ∃ (G : Hp) (base' : Int) (most' : Int), vs = [.int base', .int most'] ∧ Same G H ∧ cW (F__check_unary base' most') (fun v => Q .non H) (fun e => E (.ref (excA AD e)) none H)
def sp_SymbolWriter_unary (K : PySem.W.Frag) (AD : Ads) : Sp := fun vs H Q E => ∃ (G : Hp) (p_self p_self_enc l_self_enc_probs l_self_enc_front dx_self dx_self_enc : Addr) (self' : St_SymbolWriter) (base' : Int) (value' : Int) (most' : Int), vs = [.ref p_self, .int base', .int value', .int most'] ∧ Same G H ∧ (∀ a ∈ [p_self, p_self_enc, l_self_enc_probs, l_self_enc_front], G a = none) ∧ H p_self = some (.ins AD.c_SymbolWriter dx_self [("_encoder", V.ref p_self_enc)]) ∧ H p_self_enc = some (.ins AD.c_Encoder dx_self_enc [("_probabilities", V.ref l_self_enc_probs), ("_front", V.ref l_self_enc_front), ("_low", V.int self'.enc.low), ("_span", V.int self'.enc.span)]) ∧ H l_self_enc_probs = some (.lst ((self'.enc.probs : (List Int)).map V.int)) ∧ H l_self_enc_front = some (.lst ((self'.enc.front : (List Int)).map V.int)) ∧ l_self_enc_probs ≠ l_self_enc_front ∧ p_self ≠ p_self_enc ∧ cW (F_SymbolWriter_unary self' base' value' most') (fun v => ∀ (H' : Hp), SameXs [p_self, p_self_enc, l_self_enc_probs, l_self_enc_front] H H' → H' p_self = some (.ins AD.c_SymbolWriter dx_self [("_encoder", V.ref p_self_enc)]) → H' p_self_enc = some (.ins AD.c_Encoder dx_self_enc [("_probabilities", V.ref l_self_enc_probs), ("_front", V.ref l_self_enc_front), ("_low", V.int v.enc.low), ("_span", V.int v.enc.span)]) → H' l_self_enc_probs = some (.lst ((v.enc.probs : (List Int)).map V.int)) → H' l_self_enc_front = some (.lst ((v.enc.front : (List Int)).map V.int)) → Q .non H') (fun e => ∀ H', Same H H' → E (.ref (excA AD e)) none H')
def sp_SymbolReader_unary (K : PySem.W.Frag) (AD : Ads) : Sp := fun vs H Q E => ∃ (G : Hp) (p_self p_self_dec l_self_dec_probs l_self_dec_octs dx_self dx_self_dec : Addr) (self' : St_SymbolReader) (base' : Int) (most' : Int), vs = [.ref p_self, .int base', .int most'] ∧ Same G H ∧ (∀ a ∈ [p_self, p_self_dec, l_self_dec_probs, l_self_dec_octs], G a = none) ∧ H p_self = some (.ins AD.c_SymbolReader dx_self [("_decoder", V.ref p_self_dec)]) ∧ H p_self_dec = some (.ins AD.c_Decoder dx_self_dec [("_probabilities", V.ref l_self_dec_probs), ("_octets", V.ref l_self_dec_octs), ("_place", V.int self'.dec.place), ("_span", V.int self'.dec.span), ("_value", V.int self'.dec.value)]) ∧ H l_self_dec_probs = some (.lst ((self'.dec.probs : (List Int)).map V.int)) ∧ H l_self_dec_octs = some (.lst ((self'.dec.octs : (List Int)).map V.int)) ∧ l_self_dec_probs ≠ l_self_dec_octs ∧ p_self ≠ p_self_dec ∧ cW (F_SymbolReader_unary self' base' most') (fun v => ∀ (H' : Hp), SameXs [p_self, p_self_dec, l_self_dec_probs, l_self_dec_octs] H H' → H' p_self = some (.ins AD.c_SymbolReader dx_self [("_decoder", V.ref p_self_dec)]) → H' p_self_dec = some (.ins AD.c_Decoder dx_self_dec [("_probabilities", V.ref l_self_dec_probs), ("_octets", V.ref l_self_dec_octs), ("_place", V.int v.2.dec.place), ("_span", V.int v.2.dec.span), ("_value", V.int v.2.dec.value)]) → H' l_self_dec_probs = some (.lst ((v.2.dec.probs : (List Int)).map V.int)) → H' l_self_dec_octs = some (.lst ((v.2.dec.octs : (List Int)).map V.int)) → Q (.int v.1) H') (fun e => ∀ H', Same H H' → E (.ref (excA AD e)) none H')
def sp__digit_context (K : PySem.W.Frag) (AD : Ads) : Sp := fun vs H Q E => ∃ (G : Hp) (base' : Int) (digits' : Int), vs = [.int base', .int digits'] ∧ Same G H ∧ cW (F__digit_context base' digits') (fun v => Q (.int v) H) (fun e => E (.ref (excA AD e)) none H)
def sp_Encoder_code_even (K : PySem.W.Frag) (AD : Ads) : Sp := fun vs H Q E => ∃ (G : Hp) (p_self l_self_probs l_self_front dx_self : Addr) (self' : St_Encoder) (decision' : Int), vs = [.ref p_self, .int decision'] ∧ Same G H ∧ (∀ a ∈ [p_self, l_self_probs, l_self_front], G a = none) ∧ H p_self = some (.ins AD.c_Encoder dx_self [("_probabilities", V.ref l_self_probs), ("_front", V.ref l_self_front), ("_low", V.int self'.low), ("_span", V.int self'.span)]) ∧ H l_self_probs = some (.lst ((self'.probs : (List Int)).map V.int)) ∧ H l_self_front = some (.lst ((self'.front : (List Int)).map V.int)) ∧ l_self_probs ≠ l_self_front ∧ cW (F_Encoder_code_even self' decision') (fun v => ∀ (H' : Hp), SameXs [p_self, l_self_probs, l_self_front] H H' → H' p_self = some (.ins AD.c_Encoder dx_self [("_probabilities", V.ref l_self_probs), ("_front", V.ref l_self_front), ("_low", V.int v.low), ("_span", V.int v.span)]) → H' l_self_probs = some (.lst ((v.probs : (List Int)).map V.int)) → H' l_self_front = some (.lst ((v.front : (List Int)).map V.int)) → Q .non H') (fun e => ∀ H', Same H H' → E (.ref (excA AD e)) none H')
def sp_SymbolWriter_number (K : PySem.W.Frag) (AD : Ads) : Sp := fun vs H Q E => ∃ (G : Hp) (p_self p_self_enc l_self_enc_probs l_self_enc_front dx_self dx_self_enc : Addr) (self' : St_SymbolWriter) (base' : Int) (value' : Int), vs = [.ref p_self, .int base', .int value'] ∧ Same G H ∧ (∀ a ∈ [p_self, p_self_enc, l_self_enc_probs, l_self_enc_front], G a = none) ∧ H p_self = some (.ins AD.c_SymbolWriter dx_self [("_encoder", V.ref p_self_enc)]) ∧ H p_self_enc = some (.ins AD.c_Encoder dx_self_enc [("_probabilities", V.ref l_self_enc_probs), ("_front", V.ref l_self_enc_front), ("_low", V.int self'.enc.low), ("_span", V.int self'.enc.span)]) ∧ H l_self_enc_probs = some (.lst ((self'.enc.probs : (List Int)).map V.int)) ∧ H l_self_enc_front = some (.lst ((self'.enc.front : (List Int)).map V.int)) ∧ l_self_enc_probs ≠ l_self_enc_front ∧ p_self ≠ p_self_enc ∧ cW (F_SymbolWriter_number self' base' value') (fun v => ∀ (H' : Hp), SameXs [p_self, p_self_enc, l_self_enc_probs, l_self_enc_front] H H' → H' p_self = some (.ins AD.c_SymbolWriter dx_self [("_encoder", V.ref p_self_enc)]) → H' p_self_enc = some (.ins AD.c_Encoder dx_self_enc [("_probabilities", V.ref l_self_enc_probs), ("_front", V.ref l_self_enc_front), ("_low", V.int v.enc.low), ("_span", V.int v.enc.span)]) → H' l_self_enc_probs = some (.lst ((v.enc.probs : (List Int)).map V.int)) → H' l_self_enc_front = some (.lst ((v.enc.front : (List Int)).map V.int)) → Q .non H') (fun e => ∀ H', Same H H' → E (.ref (excA AD e)) none H')
def sp_Decoder_read_even (K : PySem.W.Frag) (AD : Ads) : Sp := fun vs H Q E => ∃ (G : Hp) (p_self l_self_probs l_self_octs dx_self : Addr) (self' : St_Decoder), vs = [.ref p_self] ∧ Same G H ∧ (∀ a ∈ [p_self, l_self_probs, l_self_octs], G a = none) ∧ H p_self = some (.ins AD.c_Decoder dx_self [("_probabilities", V.ref l_self_probs), ("_octets", V.ref l_self_octs), ("_place", V.int self'.place), ("_span", V.int self'.span), ("_value", V.int self'.value)]) ∧ H l_self_probs = some (.lst ((self'.probs : (List Int)).map V.int)) ∧ H l_self_octs = some (.lst ((self'.octs : (List Int)).map V.int)) ∧ l_self_probs ≠ l_self_octs ∧ cW (F_Decoder_read_even self') (fun v => ∀ (H' : Hp), SameXs [p_self, l_self_probs, l_self_octs] H H' → H' p_self = some (.ins AD.c_Decoder dx_self [("_probabilities", V.ref l_self_probs), ("_octets", V.ref l_self_octs), ("_place", V.int v.2.place), ("_span", V.int v.2.span), ("_value", V.int v.2.value)]) → H' l_self_probs = some (.lst ((v.2.probs : (List Int)).map V.int)) → H' l_self_octs = some (.lst ((v.2.octs : (List Int)).map V.int)) → Q (.int v.1) H') (fun e => ∀ H', Same H H' → E (.ref (excA AD e)) none H')
def sp_SymbolReader_number (K : PySem.W.Frag) (AD : Ads) : Sp := fun vs H Q E => ∃ (G : Hp) (p_self p_self_dec l_self_dec_probs l_self_dec_octs dx_self dx_self_dec : Addr) (self' : St_SymbolReader) (base' : Int), vs = [.ref p_self, .int base'] ∧ Same G H ∧ (∀ a ∈ [p_self, p_self_dec, l_self_dec_probs, l_self_dec_octs], G a = none) ∧ H p_self = some (.ins AD.c_SymbolReader dx_self [("_decoder", V.ref p_self_dec)]) ∧ H p_self_dec = some (.ins AD.c_Decoder dx_self_dec [("_probabilities", V.ref l_self_dec_probs), ("_octets", V.ref l_self_dec_octs), ("_place", V.int self'.dec.place), ("_span", V.int self'.dec.span), ("_value", V.int self'.dec.value)]) ∧ H l_self_dec_probs = some (.lst ((self'.dec.probs : (List Int)).map V.int)) ∧ H l_self_dec_octs = some (.lst ((self'.dec.octs : (List Int)).map V.int)) ∧ l_self_dec_probs ≠ l_self_dec_octs ∧ p_self ≠ p_self_dec ∧ cW (F_SymbolReader_number self' base') (fun v => ∀ (H' : Hp), SameXs [p_self, p_self_dec, l_self_dec_probs, l_self_dec_octs] H H' → H' p_self = some (.ins AD.c_SymbolReader dx_self [("_decoder", V.ref p_self_dec)]) → H' p_self_dec = some (.ins AD.c_Decoder dx_self_dec [("_probabilities", V.ref l_self_dec_probs), ("_octets", V.ref l_self_dec_octs), ("_place", V.int v.2.dec.place), ("_span", V.int v.2.dec.span), ("_value", V.int v.2.dec.value)]) → H' l_self_dec_probs = some (.lst ((v.2.dec.probs : (List Int)).map V.int)) → H' l_self_dec_octs = some (.lst ((v.2.dec.octs : (List Int)).map V.int)) → Q (.int v.1) H') (fun e => ∀ H', Same H H' → E (.ref (excA AD e)) none H')
def sp_SymbolWriter_even (K : PySem.W.Frag) (AD : Ads) : Sp := fun vs H Q E => ∃ (G : Hp) (p_self p_self_enc l_self_enc_probs l_self_enc_front dx_self dx_self_enc : Addr) (self' : St_SymbolWriter) (decision' : Int), vs = [.ref p_self, .int decision'] ∧ Same G H ∧ (∀ a ∈ [p_self, p_self_enc, l_self_enc_probs, l_self_enc_front], G a = none) ∧ H p_self = some (.ins AD.c_SymbolWriter dx_self [("_encoder", V.ref p_self_enc)]) ∧ H p_self_enc = some (.ins AD.c_Encoder dx_self_enc [("_probabilities", V.ref l_self_enc_probs), ("_front", V.ref l_self_enc_front), ("_low", V.int self'.enc.low), ("_span", V.int self'.enc.span)]) ∧ H l_self_enc_probs = some (.lst ((self'.enc.probs : (List Int)).map V.int)) ∧ H l_self_enc_front = some (.lst ((self'.enc.front : (List Int)).map V.int)) ∧ l_self_enc_probs ≠ l_self_enc_front ∧ p_self ≠ p_self_enc ∧ cW (F_SymbolWriter_even self' decision') (fun v => ∀ (H' : Hp), SameXs [p_self, p_self_enc, l_self_enc_probs, l_self_enc_front] H H' → H' p_self = some (.ins AD.c_SymbolWriter dx_self [("_encoder", V.ref p_self_enc)]) → H' p_self_enc = some (.ins AD.c_Encoder dx_self_enc [("_probabilities", V.ref l_self_enc_probs), ("_front", V.ref l_self_enc_front), ("_low", V.int v.enc.low), ("_span", V.int v.enc.span)]) → H' l_self_enc_probs = some (.lst ((v.enc.probs : (List Int)).map V.int)) → H' l_self_enc_front = some (.lst ((v.enc.front : (List Int)).map V.int)) → Q .non H') (fun e => ∀ H', Same H H' → E (.ref (excA AD e)) none H')
def sp_SymbolReader_even (K : PySem.W.Frag) (AD : Ads) : Sp := fun vs H Q E => ∃ (G : Hp) (p_self p_self_dec l_self_dec_probs l_self_dec_octs dx_self dx_self_dec : Addr) (self' : St_SymbolReader), vs = [.ref p_self] ∧ Same G H ∧ (∀ a ∈ [p_self, p_self_dec, l_self_dec_probs, l_self_dec_octs], G a = none) ∧ H p_self = some (.ins AD.c_SymbolReader dx_self [("_decoder", V.ref p_self_dec)]) ∧ H p_self_dec = some (.ins AD.c_Decoder dx_self_dec [("_probabilities", V.ref l_self_dec_probs), ("_octets", V.ref l_self_dec_octs), ("_place", V.int self'.dec.place), ("_span", V.int self'.dec.span), ("_value", V.int self'.dec.value)]) ∧ H l_self_dec_probs = some (.lst ((self'.dec.probs : (List Int)).map V.int)) ∧ H l_self_dec_octs = some (.lst ((self'.dec.octs : (List Int)).map V.int)) ∧ l_self_dec_probs ≠ l_self_dec_octs ∧ p_self ≠ p_self_dec ∧ cW (F_SymbolReader_even self') (fun v => ∀ (H' : Hp), SameXs [p_self, p_self_dec, l_self_dec_probs, l_self_dec_octs] H H' → H' p_self = some (.ins AD.c_SymbolReader dx_self [("_decoder", V.ref p_self_dec)]) → H' p_self_dec = some (.ins AD.c_Decoder dx_self_dec [("_probabilities", V.ref l_self_dec_probs), ("_octets", V.ref l_self_dec_octs), ("_place", V.int v.2.dec.place), ("_span", V.int v.2.dec.span), ("_value", V.int v.2.dec.value)]) → H' l_self_dec_probs = some (.lst ((v.2.dec.probs : (List Int)).map V.int)) → H' l_self_dec_octs = some (.lst ((v.2.dec.octs : (List Int)).map V.int)) → Q (.int v.1) H') (fun e => ∀ H', Same H H' → E (.ref (excA AD e)) none H')
def sp_put_levels (K : PySem.W.Frag) (AD : Ads) : Sp := fun vs H Q E => ∃ (G : Hp) (p_writer p_writer_enc l_writer_enc_probs l_writer_enc_front dx_writer dx_writer_enc : Addr) (writer' : St_SymbolWriter) (a_levels : Addr) (levels' : List Int), vs = [.ref p_writer, .ref a_levels] ∧ Same G H ∧ (∀ a ∈ [p_writer, p_writer_enc, l_writer_enc_probs, l_writer_enc_front], G a = none) ∧ H p_writer = some (.ins AD.c_SymbolWriter dx_writer [("_encoder", V.ref p_writer_enc)]) ∧ H p_writer_enc = some (.ins AD.c_Encoder dx_writer_enc [("_probabilities", V.ref l_writer_enc_probs), ("_front", V.ref l_writer_enc_front), ("_low", V.int writer'.enc.low), ("_span", V.int writer'.enc.span)]) ∧ H l_writer_enc_probs = some (.lst ((writer'.enc.probs : (List Int)).map V.int)) ∧ H l_writer_enc_front = some (.lst ((writer'.enc.front : (List Int)).map V.int)) ∧ l_writer_enc_probs ≠ l_writer_enc_front ∧ p_writer ≠ p_writer_enc ∧ (hideL [p_writer, p_writer_enc, l_writer_enc_probs, l_writer_enc_front] H) a_levels = some (.lst ((levels' : List Int).map V.int)) ∧ cW (F_put_levels writer' levels') (fun v => ∀ (H' : Hp), SameXs [p_writer, p_writer_enc, l_writer_enc_probs, l_writer_enc_front] H H' → H' p_writer = some (.ins AD.c_SymbolWriter dx_writer [("_encoder", V.ref p_writer_enc)]) → H' p_writer_enc = some (.ins AD.c_Encoder dx_writer_enc [("_probabilities", V.ref l_writer_enc_probs), ("_front", V.ref l_writer_enc_front), ("_low", V.int v.enc.low), ("_span", V.int v.enc.span)]) → H' l_writer_enc_probs = some (.lst ((v.enc.probs : (List Int)).map V.int)) → H' l_writer_enc_front = some (.lst ((v.enc.front : (List Int)).map V.int)) → Q .non H') (fun e => ∀ H', Same H H' → E (.ref (excA AD e)) none H')
def sp_Encoder_octets (K : PySem.W.Frag) (AD : Ads) : Sp := fun vs H Q E => ∃ (G : Hp) (p_self l_self_probs l_self_front dx_self : Addr) (self' : St_Encoder), vs = [.ref p_self] ∧ Same G H ∧ (hideL [] H) p_self = some (.ins AD.c_Encoder dx_self [("_probabilities", V.ref l_self_probs), ("_front", V.ref l_self_front), ("_low", V.int self'.low), ("_span", V.int self'.span)]) ∧ (hideL [] H) l_self_probs = some (.lst ((self'.probs : (List Int)).map V.int)) ∧ (hideL [] H) l_self_front = some (.lst ((self'.front : (List Int)).map V.int)) ∧ cW (F_Encoder_octets self') (fun v => ∀ p H', H p = none → Same H H' → H' p = some (.lst (v.map V.int)) → Q (.ref p) H') (fun e => ∀ H', Same H H' → E (.ref (excA AD e)) none H')
def sp_Decoder___init__ (K : PySem.W.Frag) (AD : Ads) : Sp := fun vs H Q E => ∃ (G : Hp) (p_self dx_self : Addr) (a_octets : Addr) (octets' : List Int), vs = [.ref p_self, .ref a_octets] ∧ Same G H ∧ (∀ a ∈ [p_self], G a = none) ∧ H p_self = some (.ins AD.c_Decoder dx_self []) ∧ (hideL [p_self] H) a_octets = some (.lst ((octets' : List Int).map V.int)) ∧ cW (F_Decoder___init__ octets') (fun v => ∀ (H' : Hp) (l_probs l_octs : Addr), SameX p_self H H' → H l_probs = none → H l_octs = none → l_probs ≠ l_octs → H' p_self = some (.ins AD.c_Decoder dx_self [("_probabilities", V.ref l_probs), ("_octets", V.ref l_octs), ("_place", V.int v.place), ("_span", V.int v.span), ("_value", V.int v.value)]) → H' l_probs = some (.lst (v.probs.map V.int)) → H' l_octs = some (.lst (v.octs.map V.int)) → Q .non H') (fun e => ∀ H', Same H H' → E (.ref (excA AD e)) none H')
def sp_check_size (K : PySem.W.Frag) (AD : Ads) : Sp := fun vs H Q E => ∃ (G : Hp) (size' : Int), vs = [.int size'] ∧ Same G H ∧ cW (F_check_size size') (fun v => Q .non H) (fun e => E (.ref (excA AD e)) none H)
def sp__get_places (K : PySem.W.Frag) (AD : Ads) : Sp := fun vs H Q E => ∃ (G : Hp) (p_reader p_reader_dec l_reader_dec_probs l_reader_dec_octs dx_reader dx_reader_dec : Addr) (reader' : St_SymbolReader) (count' : Int), vs = [.ref p_reader, .int count'] ∧ Same G H ∧ (∀ a ∈ [p_reader, p_reader_dec, l_reader_dec_probs, l_reader_dec_octs], G a = none) ∧ H p_reader = some (.ins AD.c_SymbolReader dx_reader [("_decoder", V.ref p_reader_dec)]) ∧ H p_reader_dec = some (.ins AD.c_Decoder dx_reader_dec [("_probabilities", V.ref l_reader_dec_probs), ("_octets", V.ref l_reader_dec_octs), ("_place", V.int reader'.dec.place), ("_span", V.int reader'.dec.span), ("_value", V.int reader'.dec.value)]) ∧ H l_reader_dec_probs = some (.lst ((reader'.dec.probs : (List Int)).map V.int)) ∧ H l_reader_dec_octs = some (.lst ((reader'.dec.octs : (List Int)).map V.int)) ∧ l_reader_dec_probs ≠ l_reader_dec_octs ∧ p_reader ≠ p_reader_dec ∧ cW (F__get_places reader' count') (fun v => ∀ (H' : Hp), SameXs [p_reader, p_reader_dec, l_reader_dec_probs, l_reader_dec_octs] H H' → H' p_reader = some (.ins AD.c_SymbolReader dx_reader [("_decoder", V.ref p_reader_dec)]) → H' p_reader_dec = some (.ins AD.c_Decoder dx_reader_dec [("_probabilities", V.ref l_reader_dec_probs), ("_octets", V.ref l_reader_dec_octs), ("_place", V.int v.2.dec.place), ("_span", V.int v.2.dec.span), ("_value", V.int v.2.dec.value)]) → H' l_reader_dec_probs = some (.lst ((v.2.dec.probs : (List Int)).map V.int)) → H' l_reader_dec_octs = some (.lst ((v.2.dec.octs : (List Int)).map V.int)) → ∀ p, H p = none → H' p = some (.lst (v.1.map V.int)) → Q (.ref p) H') (fun e => ∀ H', Same H H' → E (.ref (excA AD e)) none H')
def sp_clip (K : PySem.W.Frag) (AD : Ads) : Sp := fun vs H Q E => ∃ (G : Hp) (value' : Int) (low' : Int) (high' : Int), vs = [.int value', .int low', .int high'] ∧ Same G H ∧ cW (F_clip value' low' high') (fun v => Q (.int v) H) (fun e => E (.ref (excA AD e)) none H)
def sp_get_levels (K : PySem.W.Frag) (AD : Ads) : Sp := fun vs H Q E => ∃ (G : Hp) (p_reader p_reader_dec l_reader_dec_probs l_reader_dec_octs dx_reader dx_reader_dec : Addr) (reader' : St_SymbolReader) (size' : Int), vs = [.ref p_reader, .int size'] ∧ Same G H ∧ (∀ a ∈ [p_reader, p_reader_dec, l_reader_dec_probs, l_reader_dec_octs], G a = none) ∧ H p_reader = some (.ins AD.c_SymbolReader dx_reader [("_decoder", V.ref p_reader_dec)]) ∧ H p_reader_dec = some (.ins AD.c_Decoder dx_reader_dec [("_probabilities", V.ref l_reader_dec_probs), ("_octets", V.ref l_reader_dec_octs), ("_place", V.int reader'.dec.place), ("_span", V.int reader'.dec.span), ("_value", V.int reader'.dec.value)]) ∧ H l_reader_dec_probs = some (.lst ((reader'.dec.probs : (List Int)).map V.int)) ∧ H l_reader_dec_octs = some (.lst ((reader'.dec.octs : (List Int)).map V.int)) ∧ l_reader_dec_probs ≠ l_reader_dec_octs ∧ p_reader ≠ p_reader_dec ∧ cW (F_get_levels reader' size') (fun v => ∀ (H' : Hp), SameXs [p_reader, p_reader_dec, l_reader_dec_probs, l_reader_dec_octs] H H' → H' p_reader = some (.ins AD.c_SymbolReader dx_reader [("_decoder", V.ref p_reader_dec)]) → H' p_reader_dec = some (.ins AD.c_Decoder dx_reader_dec [("_probabilities", V.ref l_reader_dec_probs), ("_octets", V.ref l_reader_dec_octs), ("_place", V.int v.2.dec.place), ("_span", V.int v.2.dec.span), ("_value", V.int v.2.dec.value)]) → H' l_reader_dec_probs = some (.lst ((v.2.dec.probs : (List Int)).map V.int)) → H' l_reader_dec_octs = some (.lst ((v.2.dec.octs : (List Int)).map V.int)) → ∀ p, H p = none → H' p = some (.lst (v.1.map V.int)) → Q (.ref p) H') (fun e => ∀ H', Same H H' → E (.ref (excA AD e)) none H')
def sp__law_cell (K : PySem.W.Frag) (AD : Ads) : Sp := fun vs H Q E => ∃ (G : Hp) (a_script : Addr) (script' : List Int) (k' : Int), vs = [.ref a_script, .int k'] ∧ Same G H ∧ SqL K H a_script ((script' : List Int).map V.int) ∧ cW (F__law_cell script' k') (fun v => Q (.int v) H) (fun e => E (.ref (excA AD e)) none H)
def sp__law_digits (K : PySem.W.Frag) (AD : Ads) : Sp := fun vs H Q E => ∃ (G : Hp) (cell' : Int) (base' : Int) (most' : Int), vs = [.int cell', .int base', .int most'] ∧ Same G H ∧ cW (F__law_digits cell' base' most') (fun v => ∀ p H', H p = none → Same H H' → H' p = some (.lst (v.map V.int)) → Q (.ref p) H') (fun e => ∀ H', Same H H' → E (.ref (excA AD e)) none H')
def sp__law_block (K : PySem.W.Frag) (AD : Ads) : Sp := fun vs H Q E => ∃ (G : Hp) (cell' : Int) (count' : Int), vs = [.int cell', .int count'] ∧ Same G H ∧ cW (F__law_block cell' count') (fun v => ∀ p H', H p = none → Same H H' → H' p = some (.lst (v.map V.int)) → Q (.ref p) H') (fun e => ∀ H', Same H H' → E (.ref (excA AD e)) none H')
def sp__law_is_integers (K : PySem.W.Frag) (AD : Ads) : Sp := fun vs H Q E => ∃ (G : Hp) (a_actual : Addr) (actual' : List Int) (count' : Int), vs = [.ref a_actual, .int count'] ∧ Same G H ∧ (hideL [] H) a_actual = some (.lst ((actual' : List Int).map V.int)) ∧ cW (F__law_is_integers actual' count') (fun v => ∀ H', Same H H' → Q (.bl v) H') (fun e => ∀ H', Same H H' → E (.ref (excA AD e)) none H')
def sp_law (K : PySem.W.Frag) (AD : Ads) : Sp := fun vs H Q E => ∃ (a_script : Addr) (script : List Int), vs = [.ref a_script] ∧ SqL K H a_script (script.map V.int) ∧ cW (F_law script) (fun v => v = true) (fun _ => False) ∧ ∀ H', Q (.bl true) H'
section
variable {P : Program} {w : World} {K : PySem.W.Frag} {mg : Str → Option Value} {base : Heap} {AD : Ads}
abbrev N_Encoder___init__ : List Str := ["self"]
theorem sc_Encoder___init__ : FnScope N_Encoder___init__ ["self"] (defScope s_Encoder___init__) := ⟨rfl, rfl, rfl, by decide +kernel, rfl, by decide +kernel, by decide +kernel⟩
theorem ok_Encoder___init__ (D : InitX K mg AD.c_Encoder "Encoder" "Encoder.__init__" s_Encoder___init__ ["self"] pats_Encoder___init__) (T : Txt K mg AD)  : MakX P w K mg base 1 "Encoder" AD.c_Encoder (sp_Encoder___init__ K AD) pats_Encoder___init__ := by
  refine D.ok sc_Encoder___init__ (fun vs H Q E h => ?_) (fun f cdv A_ outer s H vs Q E hr h => ?_)
  · obtain ⟨G, p_self, dx_self, rfl, _⟩ := h
    rfl
  · obtain ⟨G, p_self, dx_self, rfl, sG, gM, h_self, hw⟩ := h
    refine ⟨_, (pss_cons (ps_fld (pv 0) (pe_op op_rep (pe_lst (pa_cons (C8.pe_gc rfl T.g_EVEN) pa_nil)) (C8.pe_gc rfl T.g_CONTEXTS_coder)) rfl)
      (pss_cons (ps_fld (pv 0) (pe_lst pa_nil) rfl)
      (pss_cons (ps_fld (pv 0) pe_int rfl)
      (pss_one (ps_fld (pv 0) (pe_op op_sub (C8.pe_gc rfl T.g_WORD) pe_int) rfl))))), ?_⟩
    obtain ⟨KK, EE, hK0, hE, hw⟩ := cW_gen hw
    have S0 := Sep.startM (M := [p_self]) sG (all_cons (some_ne h_self) all_nil) gM
    unfold F_Encoder___init__ at hw
    refine ⟨(by show 1 ≤ sizeLine; decide), fun p1 n2 => ?_⟩
    generalize g3 : upd H p1 _ = H4
    obtain ⟨e5, h6⟩ := gen_new n2 g3
    have h7 : H4 p1 = some (.lst (([2048] : (List Int)).map V.int)) := h6
    have fr8 := S0.free n2
    have S9 := S0.new n2 e5 h7 fr8
    obtain ⟨g10, hw⟩ := cW_grd hw
    refine ⟨_, _, _, rfl, rfl, h7, g10.1, g10.2.1, (rep_lenM g10.2.2), fun p11 n12 => ?_⟩
    generalize g13 : upd H4 p11 _ = H14
    obtain ⟨e15, h16⟩ := gen_new n12 g13
    have h17 : H14 p11 = some (.lst ((repL ([2048]) (256) : (List Int)).map V.int)) := rep_map h16
    have fr18 := S9.free n12
    have S19 := S9.new n12 e15 h17 fr18
    have h20 := (e15 _ _ (e5 _ _ h_self))
    refine ⟨_, rfl, _, _, _, _, rfl, h20, T.cl_Encoder, T.n_Encoder__probabilities, (by show 0 < 1000; decide), ?_⟩
    generalize g21 : upd H14 p_self _ = H22
    obtain ⟨x23, h24⟩ := gen_mut g21
    have h25 : H22 p_self = some (.ins AD.c_Encoder dx_self [("_probabilities", V.ref p11)]) := h24
    have S26 := S19.mut1 x23 (.tail _ (.tail _ (.head _))) h25
    refine ⟨(by show 0 ≤ sizeLine; decide), fun p27 n28 => ?_⟩
    generalize g29 : upd H22 p27 _ = H30
    obtain ⟨e31, h32⟩ := gen_new n28 g29
    have h33 : H30 p27 = some (.lst ((([] : (List Int)) : (List Int)).map V.int)) := h32
    have fr34 := S26.free n28
    have S35 := S26.new n28 e31 h33 fr34
    have h36 := (e31 _ _ h25)
    refine ⟨_, rfl, _, _, _, _, rfl, h36, T.cl_Encoder, T.n_Encoder__front, (by show 1 < 1000; decide), ?_⟩
    generalize g37 : upd H30 p_self _ = H38
    obtain ⟨x39, h40⟩ := gen_mut g37
    have h41 : H38 p_self = some (.ins AD.c_Encoder dx_self [("_probabilities", V.ref p11), ("_front", V.ref p27)]) := h40
    have S42 := S35.mut1 x39 (.tail _ (.tail _ (.tail _ (.head _)))) h41
    refine ⟨_, rfl, _, _, _, _, rfl, h41, T.cl_Encoder, T.n_Encoder__low, (by show 2 < 1000; decide), ?_⟩
    generalize g43 : upd H38 p_self _ = H44
    obtain ⟨x45, h46⟩ := gen_mut g43
    have h47 : H44 p_self = some (.ins AD.c_Encoder dx_self [("_probabilities", V.ref p11), ("_front", V.ref p27), ("_low", V.int (0))]) := h46
    have S48 := S42.mut1 x45 (.tail _ (.tail _ (.tail _ (.head _)))) h47
    have hw := cW_bnd hw
    refine ⟨_, _, rfl, rfl, _, rfl, _, _, _, _, rfl, h47, T.cl_Encoder, T.n_Encoder__span, (by show 3 < 1000; decide), ?_⟩
    generalize g50 : upd H44 p_self _ = H51
    obtain ⟨x52, h53⟩ := gen_mut g50
    have h54 : H51 p_self = some (.ins AD.c_Encoder dx_self [("_probabilities", V.ref p11), ("_front", V.ref p27), ("_low", V.int (0)), ("_span", V.int ((4294967296 - 1)))]) := h53
    have S55 := S48.mut1 x52 (.tail _ (.tail _ (.tail _ (.head _)))) h54
    have h56 := (x52 _ _ (x45 _ _ (x39 _ _ (e31 _ _ (x23 _ _ h17 (ne_of_none (e5 _ _ h_self) n12).symm)) (ne_of_none (e5 _ _ h_self) n12).symm) (ne_of_none (e5 _ _ h_self) n12).symm) (ne_of_none (e5 _ _ h_self) n12).symm)
    have h57 := (x52 _ _ (x45 _ _ (x39 _ _ h33 (ne_of_none h25 n28).symm) (ne_of_none h25 n28).symm) (ne_of_none h25 n28).symm)
    have hw := cW_ok hw
    exact hK0 _ hw _ _ _ (sameX_of S55.base) fr18 fr34 (ne_of_none (x23 _ _ h17 (ne_of_none (e5 _ _ h_self) n12).symm) n28) h54 h56 h57

abbrev N_SymbolWriter___init__ : List Str := ["self", "encoder"]
theorem sc_SymbolWriter___init__ : FnScope N_SymbolWriter___init__ ["self", "encoder"] (defScope s_SymbolWriter___init__) := ⟨rfl, rfl, rfl, by decide +kernel, rfl, by decide +kernel, by decide +kernel⟩
theorem ok_SymbolWriter___init__ (D : InitX K mg AD.c_SymbolWriter "SymbolWriter" "SymbolWriter.__init__" s_SymbolWriter___init__ ["self", "encoder"] pats_SymbolWriter___init__) (T : Txt K mg AD)  : MakX P w K mg base 1 "SymbolWriter" AD.c_SymbolWriter (sp_SymbolWriter___init__ K AD) pats_SymbolWriter___init__ := by
  refine D.ok sc_SymbolWriter___init__ (fun vs H Q E h => ?_) (fun f cdv A_ outer s H vs Q E hr h => ?_)
  · obtain ⟨G, p_self, dx_self, p_encoder, l_encoder_probs, l_encoder_front, dx_encoder, encoder', rfl, _⟩ := h
    rfl
  · obtain ⟨G, p_self, dx_self, p_encoder, l_encoder_probs, l_encoder_front, dx_encoder, encoder', rfl, sG, gM, h_self, h_p_encoder, h_l_encoder_probs, h_l_encoder_front, hw⟩ := h
    refine ⟨_, (pss_one (ps_fld (pv 0) (pv 1) rfl)), ?_⟩
    obtain ⟨KK, EE, hK0, hE, hw⟩ := cW_gen hw
    have S0 := Sep.startM (M := [p_self]) sG (all_cons (some_ne h_self) all_nil) gM
    unfold F_SymbolWriter___init__ at hw
    refine ⟨_, rfl, _, rfl, _, _, _, _, rfl, h_self, T.cl_SymbolWriter, T.n_SymbolWriter__encoder, (by show 0 < 1000; decide), ?_⟩
    generalize g58 : upd H p_self _ = H59
    obtain ⟨x60, h61⟩ := gen_mut g58
    have h62 : H59 p_self = some (.ins AD.c_SymbolWriter dx_self [("_encoder", V.ref p_encoder)]) := h61
    have S63 := S0.mut1 x60 (.head _) h62
    have hw := cW_ok hw
    exact hK0 _ hw _ (sameX_of S63.base) h62

abbrev N_SymbolReader___init__ : List Str := ["self", "decoder"]
theorem sc_SymbolReader___init__ : FnScope N_SymbolReader___init__ ["self", "decoder"] (defScope s_SymbolReader___init__) := ⟨rfl, rfl, rfl, by decide +kernel, rfl, by decide +kernel, by decide +kernel⟩
theorem ok_SymbolReader___init__ (D : InitX K mg AD.c_SymbolReader "SymbolReader" "SymbolReader.__init__" s_SymbolReader___init__ ["self", "decoder"] pats_SymbolReader___init__) (T : Txt K mg AD)  : MakX P w K mg base 1 "SymbolReader" AD.c_SymbolReader (sp_SymbolReader___init__ K AD) pats_SymbolReader___init__ := by
  refine D.ok sc_SymbolReader___init__ (fun vs H Q E h => ?_) (fun f cdv A_ outer s H vs Q E hr h => ?_)
  · obtain ⟨G, p_self, dx_self, p_decoder, l_decoder_probs, l_decoder_octs, dx_decoder, decoder', rfl, _⟩ := h
    rfl
  · obtain ⟨G, p_self, dx_self, p_decoder, l_decoder_probs, l_decoder_octs, dx_decoder, decoder', rfl, sG, gM, h_self, h_p_decoder, h_l_decoder_probs, h_l_decoder_octs, hw⟩ := h
    refine ⟨_, (pss_one (ps_fld (pv 0) (pv 1) rfl)), ?_⟩
    obtain ⟨KK, EE, hK0, hE, hw⟩ := cW_gen hw
    have S0 := Sep.startM (M := [p_self]) sG (all_cons (some_ne h_self) all_nil) gM
    unfold F_SymbolReader___init__ at hw
    refine ⟨_, rfl, _, rfl, _, _, _, _, rfl, h_self, T.cl_SymbolReader, T.n_SymbolReader__decoder, (by show 0 < 1000; decide), ?_⟩
    generalize g64 : upd H p_self _ = H65
    obtain ⟨x66, h67⟩ := gen_mut g64
    have h68 : H65 p_self = some (.ins AD.c_SymbolReader dx_self [("_decoder", V.ref p_decoder)]) := h67
    have S69 := S0.mut1 x66 (.head _) h68
    have hw := cW_ok hw
    exact hK0 _ hw _ (sameX_of S69.base) h68

abbrev N__check_levels : List Str := ["levels"]
theorem sc__check_levels : FnScope N__check_levels ["levels"] (defScope s__check_levels) := ⟨rfl, rfl, rfl, by decide +kernel, rfl, by decide +kernel, by decide +kernel⟩
theorem ok__check_levels (D : DefX K mg "_check_levels" s__check_levels ["levels"] pats__check_levels) (T : Txt K mg AD)  : CalX P w K mg base 1 "_check_levels" (sp__check_levels K AD) pats__check_levels := by
  refine D.ok sc__check_levels (fun vs H Q E h => ?_) (fun f cdv A_ outer s H vs Q E hr h => ?_)
  · obtain ⟨G, a_levels, levels', rfl, _⟩ := h
    rfl
  · obtain ⟨G, a_levels, levels', rfl, sG, q_levels, hw⟩ := h
    refine ⟨_, (pss_cons (ps_if (pt_cmpR (op_notInDI (K := K)) (pe_callB (call_lenLiK (K := K)) (by rfl) T.b_len (by decide +kernel) (pa_cons (pv 0) pa_nil)) (C8.pe_gc (v := V.ref AD.t_SIZES_BY_COUNT) rfl T.g_SIZES_BY_COUNT) (by with_unfolding_all rfl)) (pss_one (ps_raise rfl (takes_of rfl rfl rfl rfl) (pmk_own PySem.F.excBase_ValueError T.xx_BadData T.xg_BadData T.xk_BadData (raises_own T.xb_BadData T.xt_BadData) rfl))) pss_nil)
      (pss_cons (ps_if (PW.pt (pw_or (pt_cmp (pc_lt (pe_callB (cr_minL (K := K) rfl) (by rfl) T.b_min (by decide +kernel) (pa_cons (pv 0) pa_nil)) (C8.pe_gc rfl T.g_LEAST_LEVEL))) (pw_or1 (pt_cmp (pc_gt (pe_callB (cr_maxL (K := K) rfl) (by rfl) T.b_max (by decide +kernel) (pa_cons (pv 0) pa_nil)) (C8.pe_gc rfl T.g_GREATEST_LEVEL)))))) (pss_one (ps_raise rfl (takes_of rfl rfl rfl rfl) (pmk_own PySem.F.excBase_ValueError T.xx_BadData T.xg_BadData T.xk_BadData (raises_own T.xb_BadData T.xt_BadData) rfl))) pss_nil)
      (pss_one (ps_if (pt_not (pt_val (pe_callB (cr_anyIK (K := K) rfl) (by rfl) T.b_any (by decide +kernel) (pa_cons (pv 0) pa_nil)))) (pss_one (ps_raise rfl (takes_of rfl rfl rfl rfl) (pmk_own PySem.F.excBase_ValueError T.xx_BadData T.xg_BadData T.xk_BadData (raises_own T.xb_BadData T.xt_BadData) rfl))) pss_nil)))), ?_⟩
    obtain ⟨KK, EE, hK0, hE, hw⟩ := cW_gen hw
    have S0 := Sep.startG sG
    unfold F__check_levels at hw
    refine ⟨_, rfl, _, _, rfl, (SqL.of (S0.bM _ _ q_levels)), _, _, [(16, 4), (64, 8)], [16, 64], rfl, rfl, T.kd_SIZES_BY_COUNT, rfl, _, rfl, ?_⟩
    refine iteN (fun c70 => ?_) (fun c70 => ?_)
    · have hw := cW_neg c70 hw
      exact hE 2 (cW_er hw)
    · have hw := cW_pos c70 hw
      obtain ⟨g71, hw⟩ := cW_grd hw
      refine ⟨_, rfl, _, _, rfl, (SqL.of (S0.bM _ _ q_levels)), g71, _, _, rfl, rfl, _, rfl, ?_⟩
      refine iteD (fun c72 => ?_) (fun c72 => ?_)
      · have hw := cW_pos c72 hw
        refine iteT ?_
        exact hE 2 (cW_er hw)
      · have hw := cW_neg c72 hw
        obtain ⟨g73, hw⟩ := cW_grd hw
        refine ⟨_, rfl, _, _, rfl, (SqL.of (S0.bM _ _ q_levels)), g73, _, _, rfl, rfl, _, rfl, ?_⟩
        refine iteD (fun c74 => ?_) (fun c74 => ?_)
        · have hw := cW_pos c74 hw
          exact hE 2 (cW_er hw)
        · have hw := cW_neg c74 hw
          refine ⟨_, rfl, _, _, rfl, (SqL.of (S0.bM _ _ q_levels)), _, rfl, ?_⟩
          refine iteBN (fun c75 => ?_) (fun c75 => ?_)
          · have hw := cW_negB c75 hw
            exact hE 2 (cW_er hw)
          · have hw := cW_pos c75 hw
            have hw := cW_ok hw
            exact hK0 _ hw

abbrev N__check_contexts : List Str := ["base", "count"]
theorem sc__check_contexts : FnScope N__check_contexts ["base", "count"] (defScope s__check_contexts) := ⟨rfl, rfl, rfl, by decide +kernel, rfl, by decide +kernel, by decide +kernel⟩
theorem ok__check_contexts (D : DefX K mg "_check_contexts" s__check_contexts ["base", "count"] pats__check_contexts) (T : Txt K mg AD)  : CalX P w K mg base 1 "_check_contexts" (sp__check_contexts K AD) pats__check_contexts := by
  refine D.ok sc__check_contexts (fun vs H Q E h => ?_) (fun f cdv A_ outer s H vs Q E hr h => ?_)
  · obtain ⟨G, base', count', rfl, _⟩ := h
    rfl
  · obtain ⟨G, base', count', rfl, sG, hw⟩ := h
    refine ⟨_, (pss_one (ps_if (PW.pt (pw_and (pt_cmp (pc_gt (pv 1) pe_int)) (pw_and1 (pt_not (pt_chain op_le op_le pe_int (pv 0) (pe_op op_sub (C8.pe_gc rfl T.g_CONTEXTS_symbols) (pv 1))))))) (pss_one (ps_raise rfl (takes_of rfl rfl rfl rfl) (pmk_own PySem.F.excBase_ValueError T.xx_OutOfRange T.xg_OutOfRange T.xk_OutOfRange (raises_own T.xb_OutOfRange T.xt_OutOfRange) rfl))) pss_nil)), ?_⟩
    obtain ⟨KK, EE, hK0, hE, hw⟩ := cW_gen hw
    have S0 := Sep.startG sG
    unfold F__check_contexts at hw
    refine ⟨_, rfl, _, _, rfl, rfl, _, rfl, ?_⟩
    refine iteD (fun c76 => ?_) (fun c76 => ?_)
    · have hw := cW_pos c76 hw
      refine ⟨_, rfl, _, _, rfl, rfl, _, rfl, ?_⟩
      refine iteD (fun c77 => ?_) (fun c77 => ?_)
      · have hw := cW_pos c77 hw
        refine ⟨_, rfl, _, _, rfl, rfl, _, _, rfl, rfl, _, rfl, ?_⟩
        refine iteN (fun c78 => ?_) (fun c78 => ?_)
        · have hw := cW_neg c78 hw
          exact hE 1 (cW_er hw)
        · have hw := cW_pos c78 hw
          have hw := cW_ok hw
          exact hK0 _ hw
      · have hw := cW_neg c77 hw
        refine ⟨_, rfl, ?_⟩
        refine iteT ?_
        exact hE 1 (cW_er hw)
    · have hw := cW_neg c76 hw
      refine iteF ?_
      have hw := cW_ok hw
      exact hK0 _ hw

abbrev N__check_context : List Str := ["context"]
theorem sc__check_context : FnScope N__check_context ["context"] (defScope s__check_context) := ⟨rfl, rfl, rfl, by decide +kernel, rfl, by decide +kernel, by decide +kernel⟩
theorem ok__check_context (D : DefX K mg "_check_context" s__check_context ["context"] pats__check_context) (T : Txt K mg AD)  : CalX P w K mg base 1 "_check_context" (sp__check_context K AD) pats__check_context := by
  refine D.ok sc__check_context (fun vs H Q E h => ?_) (fun f cdv A_ outer s H vs Q E hr h => ?_)
  · obtain ⟨G, context', rfl, _⟩ := h
    rfl
  · obtain ⟨G, context', rfl, sG, hw⟩ := h
    refine ⟨_, (pss_one (ps_if (pt_not (pt_chain op_le op_lt pe_int (pv 0) (C8.pe_gc rfl T.g_CONTEXTS_coder))) (pss_one (ps_raise rfl (takes_of rfl rfl rfl rfl) (pmk_own PySem.F.excBase_ValueError T.xx_OutOfRange T.xg_OutOfRange T.xk_OutOfRange (raises_own T.xb_OutOfRange T.xt_OutOfRange) rfl))) pss_nil)), ?_⟩
    obtain ⟨KK, EE, hK0, hE, hw⟩ := cW_gen hw
    have S0 := Sep.startG sG
    unfold F__check_context at hw
    refine ⟨_, rfl, _, _, rfl, rfl, _, rfl, ?_⟩
    refine iteD (fun c79 => ?_) (fun c79 => ?_)
    · have hw := cW_pos c79 hw
      refine ⟨_, _, rfl, rfl, _, rfl, ?_⟩
      refine iteN (fun c80 => ?_) (fun c80 => ?_)
      · have hw := cW_neg c80 hw
        exact hE 1 (cW_er hw)
      · have hw := cW_pos c80 hw
        have hw := cW_ok hw
        exact hK0 _ hw
    · have hw := cW_neg c79 hw
      refine ⟨_, rfl, ?_⟩
      refine iteT ?_
      exact hE 1 (cW_er hw)

abbrev N__check_decision : List Str := ["decision"]
theorem sc__check_decision : FnScope N__check_decision ["decision"] (defScope s__check_decision) := ⟨rfl, rfl, rfl, by decide +kernel, rfl, by decide +kernel, by decide +kernel⟩
theorem ok__check_decision (D : DefX K mg "_check_decision" s__check_decision ["decision"] pats__check_decision) (T : Txt K mg AD)  : CalX P w K mg base 1 "_check_decision" (sp__check_decision K AD) pats__check_decision := by
  refine D.ok sc__check_decision (fun vs H Q E h => ?_) (fun f cdv A_ outer s H vs Q E hr h => ?_)
  · obtain ⟨G, decision', rfl, _⟩ := h
    rfl
  · obtain ⟨G, decision', rfl, sG, hw⟩ := h
    refine ⟨_, (pss_one (ps_if (pt_not (pt_chain op_le op_le pe_int (pv 0) pe_int)) (pss_one (ps_raise rfl (takes_of rfl rfl rfl rfl) (pmk_own PySem.F.excBase_ValueError T.xx_OutOfRange T.xg_OutOfRange T.xk_OutOfRange (raises_own T.xb_OutOfRange T.xt_OutOfRange) rfl))) pss_nil)), ?_⟩
    obtain ⟨KK, EE, hK0, hE, hw⟩ := cW_gen hw
    have S0 := Sep.startG sG
    unfold F__check_decision at hw
    refine ⟨_, rfl, _, _, rfl, rfl, _, rfl, ?_⟩
    refine iteD (fun c81 => ?_) (fun c81 => ?_)
    · have hw := cW_pos c81 hw
      refine ⟨_, _, rfl, rfl, _, rfl, ?_⟩
      refine iteN (fun c82 => ?_) (fun c82 => ?_)
      · have hw := cW_neg c82 hw
        exact hE 1 (cW_er hw)
      · have hw := cW_pos c82 hw
        have hw := cW_ok hw
        exact hK0 _ hw
    · have hw := cW_neg c81 hw
      refine ⟨_, rfl, ?_⟩
      refine iteT ?_
      exact hE 1 (cW_er hw)

abbrev N__adapted : List Str := ["chance", "decision"]
theorem sc__adapted : FnScope N__adapted ["chance", "decision"] (defScope s__adapted) := ⟨rfl, rfl, rfl, by decide +kernel, rfl, by decide +kernel, by decide +kernel⟩
theorem ok__adapted (D : DefX K mg "_adapted" s__adapted ["chance", "decision"] pats__adapted) (T : Txt K mg AD)  : CalX P w K mg base 1 "_adapted" (sp__adapted K AD) pats__adapted := by
  refine D.ok sc__adapted (fun vs H Q E h => ?_) (fun f cdv A_ outer s H vs Q E hr h => ?_)
  · obtain ⟨G, chance', decision', rfl, _⟩ := h
    rfl
  · obtain ⟨G, chance', decision', rfl, sG, hw⟩ := h
    refine ⟨_, (pss_cons (ps_if (pt_cmp (pc_eqI (pv 1) pe_int)) (pss_one (ps_ret (pe_op op_add (pv 0) (pe_op op_shr (pe_op op_sub (C8.pe_gc rfl T.g_SCALE) (pv 0)) (C8.pe_gc rfl T.g_RATE))))) pss_nil)
      (pss_one (ps_ret (pe_op op_sub (pv 0) (pe_op op_shr (pv 0) (C8.pe_gc rfl T.g_RATE)))))), ?_⟩
    obtain ⟨KK, EE, hK0, hE, hw⟩ := cW_gen hw
    have S0 := Sep.startG sG
    unfold F__adapted at hw
    refine ⟨_, rfl, _, _, rfl, rfl, _, rfl, ?_⟩
    refine iteD (fun c83 => ?_) (fun c83 => ?_)
    · have hw := cW_pos c83 hw
      refine ⟨_, rfl, _, rfl, _, _, rfl, rfl, _, _, rfl, rfl, (show (0 : Int) ≤ 5 by decide), _, _, rfl, rfl, ?_⟩
      have hw := cW_ok hw
      exact hK0 _ hw
    · have hw := cW_neg c83 hw
      refine ⟨_, rfl, _, rfl, _, _, rfl, rfl, (show (0 : Int) ≤ 5 by decide), _, _, rfl, rfl, ?_⟩
      have hw := cW_ok hw
      exact hK0 _ hw

abbrev N_Encoder__carry : List Str := ["self", "place"]
theorem sc_Encoder__carry : FnScope N_Encoder__carry ["self"] (defScope s_Encoder__carry) := ⟨rfl, rfl, rfl, by decide +kernel, rfl, by decide +kernel, by decide +kernel⟩
theorem ok_Encoder__carry (D : MethX K AD.c_Encoder "Encoder._carry" "_carry" s_Encoder__carry ["self"] pats_Encoder__carry) (T : Txt K mg AD)  : MetX P w K mg base 1 AD.c_Encoder "_carry" (sp_Encoder__carry K AD) pats_Encoder__carry := by
  refine D.ok T.cl_Encoder sc_Encoder__carry (fun vs H Q E h => ?_) (fun f cdv A_ outer s H vs Q E hr h => ?_)
  · obtain ⟨G, p_self, l_self_probs, l_self_front, dx_self, self', rfl, _⟩ := h
    rfl
  · obtain ⟨G, p_self, l_self_probs, l_self_front, dx_self, self', rfl, sG, gM, h_p_self, h_l_self_probs, h_l_self_front, ne_self_0, hw⟩ := h
    refine ⟨_, (pss_cons (ps_set (i := 1) sc_Encoder__carry.nd rfl (Or.inl rfl) (pe_op op_sub (pe_callB (call_lenLiK (K := K)) (by rfl) T.b_len (by decide +kernel) (pa_cons (fldK (K := K) (pv 0)) pa_nil)) pe_int))
      (pss_cons (ps_while (passes_of rfl) (pt_cmp (pc_eqI (pe_ix (ix_listK (K := K)) (fldK (K := K) (pv 0)) (pv 1) (fun _ _ => rfl)) pe_int)) (pss_cons (ps_asg pe_int (pg_sub (fldK (K := K) (pv 0)) (pv 1) set_list))
      (pss_one (ps_aug (i := 1) sc_Encoder__carry.nd rfl (Or.inl rfl) pe_int (pip iop_sub)))))
      (pss_one (ps_augS (fldK (K := K) (pv 0)) (pv 1) (pget_list (K := K)) pe_int (pip iop_add) set_list)))), ?_⟩
    obtain ⟨KK, EE, hK0, hE, hw⟩ := cW_gen hw
    have S0 := Sep.startM (M := [p_self, l_self_probs, l_self_front]) sG (all_cons (some_ne h_p_self) (all_cons (some_ne h_l_self_probs) (all_cons (some_ne h_l_self_front) all_nil))) gM
    unfold F_Encoder__carry at hw
    refine ⟨_, rfl, _, _, _, _, _, rfl, h_p_self, T.cl_Encoder, T.n_Encoder__front, rfl, _, _, rfl, (SqL.of h_l_self_front), _, _, rfl, rfl, ?_⟩
    have hw := cW_bnd hw
    obtain ⟨K85, hK86, hw⟩ := cW_push hw
    refine ⟨fun m σ H' => ∃ (self_87 : St_Encoder) (place_88 : Int) (G' : Hp), σ = [some (V.ref p_self), some (V.int place_88)] ∧ Same G G' ∧ Sep [p_self, l_self_probs, l_self_front] H G G' H' [p_self, l_self_probs, l_self_front] ∧ H' p_self = some (.ins AD.c_Encoder dx_self [("_probabilities", V.ref l_self_probs), ("_front", V.ref l_self_front), ("_low", V.int (self_87.low)), ("_span", V.int (self_87.span))]) ∧ H' l_self_probs = some (.lst ((self_87.probs : (List Int)).map V.int)) ∧ H' l_self_front = some (.lst ((self_87.front : (List Int)).map V.int)) ∧ cW (whileR m (self_87, place_88) (fun s => F_Encoder__carry_b1  (s.1) (s.2))) K85 EE, ?_, ?_⟩
    · exact ⟨_, ⟨(self'), (((((self'.front) : (List Int)).length : Int) - 1)), _, rfl, (Same.refl _), S0, h_p_self, h_l_self_probs, h_l_self_front, hw⟩⟩
    · intro m σ H89 hw
      obtain ⟨self_87, place_88, G94, rfl, eG95, S90, h91, h92, h93, hw⟩ := hw
      obtain ⟨m96, rfl, hw2⟩ := cW_whileR hw
      have hw := hw2
      have hw : cW (F_Encoder__carry_b1  (self_87) (place_88)) _ EE := hw
      unfold F_Encoder__carry_b1 at hw
      obtain ⟨K99, hK100, hw⟩ := cW_name hw
      obtain ⟨g101, hw⟩ := cW_grd hw
      refine ⟨_, rfl, _, _, _, _, _, rfl, h91, T.cl_Encoder, T.n_Encoder__front, rfl, _, rfl, _, _, _, _, rfl, rfl, (SqL.of h93), (atI_map g101), _, _, rfl, rfl, _, rfl, ?_⟩
      refine iteD (fun c102 => ?_) (fun c102 => ?_)
      · have hw := cW_pos c102 hw
        refine ⟨(fun σ H' => ∃ m, (∃ (self_87 : St_Encoder) (place_88 : Int) (G' : Hp), σ = [some (V.ref p_self), some (V.int place_88)] ∧ Same G G' ∧ Sep [p_self, l_self_probs, l_self_front] H G G' H' [p_self, l_self_probs, l_self_front] ∧ H' p_self = some (.ins AD.c_Encoder dx_self [("_probabilities", V.ref l_self_probs), ("_front", V.ref l_self_front), ("_low", V.int (self_87.low)), ("_span", V.int (self_87.span))]) ∧ H' l_self_probs = some (.lst ((self_87.probs : (List Int)).map V.int)) ∧ H' l_self_front = some (.lst ((self_87.front : (List Int)).map V.int)) ∧ cW (whileR m (self_87, place_88) (fun s => F_Encoder__carry_b1  (s.1) (s.2))) K85 EE) ∧ m < m96 + 1), (fun _ _ ⟨m', a, b⟩ => ⟨m', b, a⟩), ?_⟩
        obtain ⟨g103, hw⟩ := cW_grd hw
        refine ⟨_, rfl, _, _, _, _, _, rfl, h91, T.cl_Encoder, T.n_Encoder__front, rfl, _, rfl, _, _, _, _, rfl, rfl, h93, (ixN_map g103), ?_⟩
        generalize g104 : upd H89 l_self_front _ = H105
        obtain ⟨x106, h107⟩ := gen_mut g104
        have h108 : H105 l_self_front = some (.lst ((setL (self_87.front) (place_88) (0) : (List Int)).map V.int)) := set_map h107
        have S109 := S90.mut1 x106 (.tail _ (.tail _ (.head _))) h108
        have hw := cW_bnd hw
        refine ⟨_, rfl, _, _, rfl, rfl, ?_⟩
        have hw := cW_bnd hw
        have hw := cW_ok hw
        have hw := hK100 _ hw
        have h112 := (x106 _ _ h91 (ne_of h91 h93 (fun z => nomatch z)))
        have h113 := (x106 _ _ h92 ne_self_0)
        exact ⟨m96, ⟨((⟨self_87.probs, setL (self_87.front) (place_88) (0), self_87.low, self_87.span⟩ : St_Encoder)), ((place_88 - 1)), _, rfl, eG95, S109, h112, h113, h108, hw⟩, Nat.lt_succ_self _⟩
      · have hw := cW_neg c102 hw
        have hw := cW_ok hw
        have hw := hK100 _ hw
        have hw := cW_aftgo (hK86 (.go _) hw)
        have hw : cW (F_Encoder__carry_r1  (self_87) (place_88)) _ EE := hw
        unfold F_Encoder__carry_r1 at hw
        obtain ⟨g116, hw⟩ := cW_grd hw
        obtain ⟨g117, hw⟩ := cW_grd hw
        refine ⟨_, rfl, _, _, _, _, _, rfl, h91, T.cl_Encoder, T.n_Encoder__front, rfl, _, rfl, _, _, _, _, rfl, rfl, (SqL.of h93), g116.1, g116.2.1, (atI_map (ix_nn g116.1 g116.2.2)), _, _, rfl, rfl, _, _, _, _, rfl, rfl, h93, (ixN_map g117), ?_⟩
        generalize g118 : upd H89 l_self_front _ = H119
        obtain ⟨x120, h121⟩ := gen_mut g118
        have h122 : H119 l_self_front = some (.lst ((setL (self_87.front) (place_88) (((itD (self_87.front) (place_88)) + 1)) : (List Int)).map V.int)) := set_map h121
        have S123 := S90.mut1 x120 (.tail _ (.tail _ (.head _))) h122
        have hw := cW_bnd hw
        have h125 := (x120 _ _ h91 (ne_of h91 h93 (fun z => nomatch z)))
        have h126 := (x120 _ _ h92 ne_self_0)
        have hw := cW_ok hw
        exact hK0 _ hw _ S123.base h125 h126 h122

abbrev N_Encoder__narrow : List Str := ["self", "chance", "decision", "part"]
theorem sc_Encoder__narrow : FnScope N_Encoder__narrow ["self", "chance", "decision"] (defScope s_Encoder__narrow) := ⟨rfl, rfl, rfl, by decide +kernel, rfl, by decide +kernel, by decide +kernel⟩
theorem ok_Encoder__narrow (D : MethX K AD.c_Encoder "Encoder._narrow" "_narrow" s_Encoder__narrow ["self", "chance", "decision"] pats_Encoder__narrow) (T : Txt K mg AD) (c_Encoder__carry : MetX P w K mg base 1 AD.c_Encoder "_carry" (sp_Encoder__carry K AD) pats_Encoder__carry) : MetX P w K mg base 2 AD.c_Encoder "_narrow" (sp_Encoder__narrow K AD) pats_Encoder__narrow := by
  refine D.ok T.cl_Encoder sc_Encoder__narrow (fun vs H Q E h => ?_) (fun f cdv A_ outer s H vs Q E hr h => ?_)
  · obtain ⟨G, p_self, l_self_probs, l_self_front, dx_self, self', chance', decision', rfl, _⟩ := h
    rfl
  · obtain ⟨G, p_self, l_self_probs, l_self_front, dx_self, self', chance', decision', rfl, sG, gM, h_p_self, h_l_self_probs, h_l_self_front, ne_self_0, hw⟩ := h
    refine ⟨_, (pss_cons (ps_set (i := 3) sc_Encoder__narrow.nd rfl (Or.inl rfl) (pe_op op_mul (pe_op op_shr (fldK (K := K) (pv 0)) (C8.pe_gc rfl T.g_SCALE_BITS)) (pv 1)))
      (C8.pss_cut (ps_if (pt_cmp (pc_eqI (pv 2) pe_int)) (pss_one (ps_fld (pv 0) (pv 3) rfl)) (pss_cons (ps_fldaug (pv 0) (pv 3) (pip iop_sub))
      (pss_cons (ps_fldaug (pv 0) (pv 3) (pip iop_add))
      (pss_one (ps_if (pt_cmp (pc_ge (fldK (K := K) (pv 0)) (C8.pe_gc rfl T.g_WORD))) (pss_cons (ps_fldaug (pv 0) (C8.pe_gc rfl T.g_WORD) (pip iop_sub))
      (pss_one (ps_expr (vx_methX0 c_Encoder__carry pat_Encoder__carry_0 (.head _) hr (by decide) (takes_of rfl rfl rfl rfl) (pv 0))))) pss_nil)))))
      (pss_one (ps_while (passes_of rfl) (pt_cmp (pc_lt (fldK (K := K) (pv 0)) (C8.pe_gc rfl T.g_LEAST_SPAN))) (pss_cons (ps_expr (pe_bm PySem.F.plainAttrs_list PySem.F.slot_list_append PySem.F.type_list_append mt_append (fldK (K := K) (pv 0)) (pa_cons (pe_op op_shr (fldK (K := K) (pv 0)) pe_int) pa_nil)))
      (pss_cons (ps_fld (pv 0) (pe_op op_and (pe_op op_shlW (fldK (K := K) (pv 0)) pe_int) (pe_op op_sub (C8.pe_gc rfl T.g_WORD) pe_int)) rfl)
      (pss_one (ps_fldaug (pv 0) pe_int (pip iop_shlW))))))))), ?_⟩
    obtain ⟨KK, EE, hK0, hE, hw⟩ := cW_gen hw
    have S0 := Sep.startM (M := [p_self, l_self_probs, l_self_front]) sG (all_cons (some_ne h_p_self) (all_cons (some_ne h_l_self_probs) (all_cons (some_ne h_l_self_front) all_nil))) gM
    unfold F_Encoder__narrow at hw
    obtain ⟨g127, hw⟩ := cW_grd hw
    refine ⟨_, rfl, _, _, _, _, _, rfl, h_p_self, T.cl_Encoder, T.n_Encoder__span, rfl, _, _, rfl, rfl, (show (0 : Int) ≤ 12 by decide), _, rfl, _, _, rfl, rfl, g127, ?_⟩
    have hw := cW_bnd hw
    refine ⟨fun σ H' => ∃ (self_130 : St_Encoder) (G' : Hp), σ = [some (V.ref p_self), some (V.int (chance')), some (V.int (decision')), some (V.int (((self'.span / 4096) * chance')))] ∧ Same G G' ∧ Sep [p_self, l_self_probs, l_self_front] H G G' H' [p_self, l_self_probs, l_self_front] ∧ H' p_self = some (.ins AD.c_Encoder dx_self [("_probabilities", V.ref l_self_probs), ("_front", V.ref l_self_front), ("_low", V.int (self_130.low)), ("_span", V.int (self_130.span))]) ∧ H' l_self_probs = some (.lst ((self_130.probs : (List Int)).map V.int)) ∧ H' l_self_front = some (.lst ((self_130.front : (List Int)).map V.int)) ∧ cW (F_Encoder__narrow_k1  self_130) KK EE, ?_, ?_⟩
    · obtain ⟨K131, hK132, hw⟩ := cW_push hw
      refine ⟨_, rfl, _, _, rfl, rfl, _, rfl, ?_⟩
      refine iteD (fun c133 => ?_) (fun c133 => ?_)
      · have hw := cW_pos c133 hw
        refine ⟨_, rfl, _, rfl, _, _, _, _, rfl, h_p_self, T.cl_Encoder, T.n_Encoder__span, (by show 4 < 1000; decide), ?_⟩
        generalize g134 : upd H p_self _ = H135
        obtain ⟨x136, h137⟩ := gen_mut g134
        have h138 : H135 p_self = some (.ins AD.c_Encoder dx_self [("_probabilities", V.ref l_self_probs), ("_front", V.ref l_self_front), ("_low", V.int (self'.low)), ("_span", V.int (((self'.span / 4096) * chance')))]) := h137
        have S139 := S0.mut1 x136 (.head _) h138
        have hw := cW_ok hw
        have hw := hK132 _ hw
        have h140 := (x136 _ _ h_l_self_probs (ne_of h_l_self_probs h_p_self (fun z => nomatch z)))
        have h141 := (x136 _ _ h_l_self_front (ne_of h_l_self_front h_p_self (fun z => nomatch z)))
        exact ⟨((⟨self'.probs, self'.front, self'.low, ((self'.span / 4096) * chance')⟩ : St_Encoder)), _, rfl, (Same.refl _), S139, h138, h140, h141, hw⟩
      · have hw := cW_neg c133 hw
        have hw := cW_bnd hw
        refine ⟨_, rfl, _, _, _, _, _, rfl, h_p_self, T.cl_Encoder, T.n_Encoder__span, rfl, _, rfl, _, _, rfl, rfl, _, _, h_p_self, (by show 4 < 1000; decide), ?_⟩
        generalize g143 : upd H p_self _ = H144
        obtain ⟨x145, h146⟩ := gen_mut g143
        have h147 : H144 p_self = some (.ins AD.c_Encoder dx_self [("_probabilities", V.ref l_self_probs), ("_front", V.ref l_self_front), ("_low", V.int (self'.low)), ("_span", V.int ((self'.span - ((self'.span / 4096) * chance'))))]) := h146
        have S148 := S0.mut1 x145 (.head _) h147
        have hw := cW_bnd hw
        refine ⟨_, rfl, _, _, _, _, _, rfl, h147, T.cl_Encoder, T.n_Encoder__low, rfl, _, rfl, _, _, rfl, rfl, _, _, h147, (by show 4 < 1000; decide), ?_⟩
        generalize g150 : upd H144 p_self _ = H151
        obtain ⟨x152, h153⟩ := gen_mut g150
        have h154 : H151 p_self = some (.ins AD.c_Encoder dx_self [("_probabilities", V.ref l_self_probs), ("_front", V.ref l_self_front), ("_low", V.int ((self'.low + ((self'.span / 4096) * chance')))), ("_span", V.int ((self'.span - ((self'.span / 4096) * chance'))))]) := h153
        have S155 := S148.mut1 x152 (.head _) h154
        refine ⟨_, rfl, _, _, _, _, _, rfl, h154, T.cl_Encoder, T.n_Encoder__low, rfl, _, _, rfl, rfl, _, rfl, ?_⟩
        refine iteD (fun c156 => ?_) (fun c156 => ?_)
        · have hw := cW_pos c156 hw
          have hw := cW_bnd hw
          refine ⟨_, rfl, _, _, _, _, _, rfl, h154, T.cl_Encoder, T.n_Encoder__low, rfl, _, _, rfl, rfl, _, _, h154, (by show 4 < 1000; decide), ?_⟩
          generalize g158 : upd H151 p_self _ = H159
          obtain ⟨x160, h161⟩ := gen_mut g158
          have h162 : H159 p_self = some (.ins AD.c_Encoder dx_self [("_probabilities", V.ref l_self_probs), ("_front", V.ref l_self_front), ("_low", V.int (((self'.low + ((self'.span / 4096) * chance')) - 4294967296))), ("_span", V.int ((self'.span - ((self'.span / 4096) * chance'))))]) := h161
          have S163 := S155.mut1 x160 (.head _) h162
          have h164 := (x160 _ _ (x152 _ _ (x145 _ _ h_l_self_probs (ne_of h_l_self_probs h_p_self (fun z => nomatch z))) (ne_of h_l_self_probs h_p_self (fun z => nomatch z))) (ne_of h_l_self_probs h_p_self (fun z => nomatch z)))
          have h165 := (x160 _ _ (x152 _ _ (x145 _ _ h_l_self_front (ne_of h_l_self_front h_p_self (fun z => nomatch z))) (ne_of h_l_self_front h_p_self (fun z => nomatch z))) (ne_of h_l_self_front h_p_self (fun z => nomatch z)))
          refine ⟨_, rfl, _, _, _, rfl, h162, rfl, rfl, rfl, G, _, _, _, _, (⟨self'.probs, self'.front, ((self'.low + ((self'.span / 4096) * chance')) - 4294967296), (self'.span - ((self'.span / 4096) * chance'))⟩ : St_Encoder), rfl, S163.sG, (S163.gno (all_cons (.head _) (all_cons (.tail _ (.head _)) (all_cons (.tail _ (.tail _ (.head _))) all_nil)))), h162, h164, h165, ne_self_0, cW_callN hw (fun v166 hw H167 x168 h170 h171 h172  => ?_) trivial⟩
          have S169 := S163.mut x168 (all_cons (.head _) (all_cons (.tail _ (.head _)) (all_cons (.tail _ (.tail _ (.head _))) all_nil))) (all_cons (some_ne h170) (all_cons (some_ne h171) (all_cons (some_ne h172) all_nil)))
          have hw := cW_ok hw
          have hw := hK132 _ hw
          exact ⟨(v166), _, rfl, (Same.refl _), S169, h170, h171, h172, hw⟩
        · have hw := cW_neg c156 hw
          have hw := cW_ok hw
          have hw := hK132 _ hw
          have h177 := (x152 _ _ (x145 _ _ h_l_self_probs (ne_of h_l_self_probs h_p_self (fun z => nomatch z))) (ne_of h_l_self_probs h_p_self (fun z => nomatch z)))
          have h178 := (x152 _ _ (x145 _ _ h_l_self_front (ne_of h_l_self_front h_p_self (fun z => nomatch z))) (ne_of h_l_self_front h_p_self (fun z => nomatch z)))
          exact ⟨((⟨self'.probs, self'.front, (self'.low + ((self'.span / 4096) * chance')), (self'.span - ((self'.span / 4096) * chance'))⟩ : St_Encoder)), _, rfl, (Same.refl _), S155, h154, h177, h178, hw⟩
    · intro σ H179 hw
      obtain ⟨self_130, G184, rfl, eG185, S180, h181, h182, h183, hw⟩ := hw
      unfold F_Encoder__narrow_k1 at hw
      obtain ⟨K186, hK187, hw⟩ := cW_push hw
      refine ⟨fun m σ H' => ∃ (self_188 : St_Encoder) (G' : Hp), σ = [some (V.ref p_self), some (V.int (chance')), some (V.int (decision')), some (V.int (((self'.span / 4096) * chance')))] ∧ Same G184 G' ∧ Sep [p_self, l_self_probs, l_self_front] H G G' H' [p_self, l_self_probs, l_self_front] ∧ H' p_self = some (.ins AD.c_Encoder dx_self [("_probabilities", V.ref l_self_probs), ("_front", V.ref l_self_front), ("_low", V.int (self_188.low)), ("_span", V.int (self_188.span))]) ∧ H' l_self_probs = some (.lst ((self_188.probs : (List Int)).map V.int)) ∧ H' l_self_front = some (.lst ((self_188.front : (List Int)).map V.int)) ∧ cW (whileR m self_188 (fun s => F_Encoder__narrow_b2  s)) K186 EE, ?_, ?_⟩
      · exact ⟨_, ⟨(self_130), _, rfl, (Same.refl _), S180, h181, h182, h183, hw⟩⟩
      · intro m σ H189 hw
        obtain ⟨self_188, G194, rfl, eG195, S190, h191, h192, h193, hw⟩ := hw
        obtain ⟨m196, rfl, hw2⟩ := cW_whileR hw
        have hw := hw2
        have hw : cW (F_Encoder__narrow_b2  (self_188)) _ EE := hw
        unfold F_Encoder__narrow_b2 at hw
        obtain ⟨K198, hK199, hw⟩ := cW_name hw
        refine ⟨_, rfl, _, _, _, _, _, rfl, h191, T.cl_Encoder, T.n_Encoder__span, rfl, _, _, rfl, rfl, _, rfl, ?_⟩
        refine iteD (fun c200 => ?_) (fun c200 => ?_)
        · have hw := cW_pos c200 hw
          refine ⟨(fun σ H' => ∃ m, (∃ (self_188 : St_Encoder) (G' : Hp), σ = [some (V.ref p_self), some (V.int (chance')), some (V.int (decision')), some (V.int (((self'.span / 4096) * chance')))] ∧ Same G184 G' ∧ Sep [p_self, l_self_probs, l_self_front] H G G' H' [p_self, l_self_probs, l_self_front] ∧ H' p_self = some (.ins AD.c_Encoder dx_self [("_probabilities", V.ref l_self_probs), ("_front", V.ref l_self_front), ("_low", V.int (self_188.low)), ("_span", V.int (self_188.span))]) ∧ H' l_self_probs = some (.lst ((self_188.probs : (List Int)).map V.int)) ∧ H' l_self_front = some (.lst ((self_188.front : (List Int)).map V.int)) ∧ cW (whileR m self_188 (fun s => F_Encoder__narrow_b2  s)) K186 EE) ∧ m < m196 + 1), (fun _ _ ⟨m', a, b⟩ => ⟨m', b, a⟩), ?_⟩
          obtain ⟨g201, hw⟩ := cW_grd hw
          refine ⟨_, rfl, _, _, _, _, _, rfl, h191, T.cl_Encoder, T.n_Encoder__front, rfl, (.inl ⟨rfl, _, SqL.of h193⟩), _, rfl, _, _, _, _, _, rfl, h191, T.cl_Encoder, T.n_Encoder__low, rfl, _, _, rfl, rfl, (show (0 : Int) ≤ 24 by decide), _, _, _, rfl, rfl, h193, (app_lenM g201), ?_⟩
          generalize g202 : upd H189 l_self_front _ = H203
          obtain ⟨x204, h205⟩ := gen_mut g202
          have h206 : H203 l_self_front = some (.lst (((self_188.front) ++ [(self_188.low / 16777216)] : (List Int)).map V.int)) := snoc_map h205
          have S207 := S190.mut1 x204 (.tail _ (.tail _ (.head _))) h206
          have hw := cW_bnd hw
          have h209 := (x204 _ _ h191 (ne_of h191 h193 (fun z => nomatch z)))
          obtain ⟨g210, hw⟩ := cW_grd hw
          have hw := cW_bnd hw
          refine ⟨_, rfl, _, _, _, _, _, rfl, h209, T.cl_Encoder, T.n_Encoder__low, rfl, _, _, rfl, rfl, (shl_side g210.1 g210.2.1 g210.2.2.1 g210.2.2.2), _, _, rfl, rfl, _, _, rfl, rfl, _, rfl, _, _, _, _, rfl, h209, T.cl_Encoder, T.n_Encoder__low, (by show 4 < 1000; decide), ?_⟩
          generalize g212 : upd H203 p_self _ = H213
          obtain ⟨x214, h215⟩ := gen_mut g212
          have h216 : H213 p_self = some (.ins AD.c_Encoder dx_self [("_probabilities", V.ref l_self_probs), ("_front", V.ref l_self_front), ("_low", V.int ((PySem.Builtin.bitAnd ((self_188.low * 2 ^ Int.toNat (8))) ((4294967296 - 1))))), ("_span", V.int (self_188.span))]) := h215
          have S217 := S207.mut1 x214 (.head _) h216
          obtain ⟨g218, hw⟩ := cW_grd hw
          have hw := cW_bnd hw
          refine ⟨_, rfl, _, _, _, _, _, rfl, h216, T.cl_Encoder, T.n_Encoder__span, rfl, _, _, rfl, rfl, (shl_side g218.1 g218.2.1 g218.2.2.1 g218.2.2.2), _, _, h216, (by show 4 < 1000; decide), ?_⟩
          generalize g220 : upd H213 p_self _ = H221
          obtain ⟨x222, h223⟩ := gen_mut g220
          have h224 : H221 p_self = some (.ins AD.c_Encoder dx_self [("_probabilities", V.ref l_self_probs), ("_front", V.ref l_self_front), ("_low", V.int ((PySem.Builtin.bitAnd ((self_188.low * 2 ^ Int.toNat (8))) ((4294967296 - 1))))), ("_span", V.int ((self_188.span * 2 ^ Int.toNat (8))))]) := h223
          have S225 := S217.mut1 x222 (.head _) h224
          have hw := cW_ok hw
          have hw := hK199 _ hw
          have h226 := (x222 _ _ (x214 _ _ (x204 _ _ h192 ne_self_0) (ne_of h192 h191 (fun z => nomatch z))) (ne_of h192 h191 (fun z => nomatch z)))
          have h227 := (x222 _ _ (x214 _ _ h206 (ne_of h206 h209 (fun z => nomatch z))) (ne_of h206 h209 (fun z => nomatch z)))
          exact ⟨m196, ⟨((⟨self_188.probs, (self_188.front) ++ [(self_188.low / 16777216)], (PySem.Builtin.bitAnd ((self_188.low * 2 ^ Int.toNat (8))) ((4294967296 - 1))), (self_188.span * 2 ^ Int.toNat (8))⟩ : St_Encoder)), _, rfl, eG195, S225, h224, h226, h227, hw⟩, Nat.lt_succ_self _⟩
        · have hw := cW_neg c200 hw
          have hw := cW_ok hw
          have hw := hK199 _ hw
          have hw := cW_aftgo (hK187 (.go _) hw)
          have hw : cW (F_Encoder__narrow_r2  (self_188)) _ EE := hw
          unfold F_Encoder__narrow_r2 at hw
          have hw := cW_ok hw
          exact hK0 _ hw _ S190.base h191 h192 h193

abbrev N_Encoder_code : List Str := ["self", "context", "decision", "chance"]
theorem sc_Encoder_code : FnScope N_Encoder_code ["self", "context", "decision"] (defScope s_Encoder_code) := ⟨rfl, rfl, rfl, by decide +kernel, rfl, by decide +kernel, by decide +kernel⟩
theorem ok_Encoder_code (D : MethX K AD.c_Encoder "Encoder.code" "code" s_Encoder_code ["self", "context", "decision"] pats_Encoder_code) (T : Txt K mg AD) (c__check_context : CalX P w K mg base 1 "_check_context" (sp__check_context K AD) pats__check_context) (c__check_decision : CalX P w K mg base 1 "_check_decision" (sp__check_decision K AD) pats__check_decision) (c_Encoder__narrow : MetX P w K mg base 2 AD.c_Encoder "_narrow" (sp_Encoder__narrow K AD) pats_Encoder__narrow) (c__adapted : CalX P w K mg base 1 "_adapted" (sp__adapted K AD) pats__adapted) : MetX P w K mg base 3 AD.c_Encoder "code" (sp_Encoder_code K AD) pats_Encoder_code := by
  refine D.ok T.cl_Encoder sc_Encoder_code (fun vs H Q E h => ?_) (fun f cdv A_ outer s H vs Q E hr h => ?_)
  · obtain ⟨G, p_self, l_self_probs, l_self_front, dx_self, self', context', decision', rfl, _⟩ := h
    rfl
  · obtain ⟨G, p_self, l_self_probs, l_self_front, dx_self, self', context', decision', rfl, sG, gM, h_p_self, h_l_self_probs, h_l_self_front, ne_self_0, hw⟩ := h
    refine ⟨_, (pss_cons (ps_expr (vx_callX c__check_context pat__check_context_0 (.head _) hr (by decide) (takes_of rfl rfl rfl rfl) rfl (pa_cons (pv 1) pa_nil) pk_nil))
      (pss_cons (ps_expr (vx_callX c__check_decision pat__check_decision_0 (.head _) hr (by decide) (takes_of rfl rfl rfl rfl) rfl (pa_cons (pv 2) pa_nil) pk_nil))
      (pss_cons (ps_set (i := 3) sc_Encoder_code.nd rfl (Or.inl rfl) (pe_ix (ix_listK (K := K)) (fldK (K := K) (pv 0)) (pv 1) (fun _ _ => rfl)))
      (pss_cons (ps_expr (vx_methX c_Encoder__narrow pat_Encoder__narrow_0 (.head _) hr (by decide) (takes_of rfl rfl rfl rfl) (pv 0) (pa_cons (pv 3) (pa_cons (pv 2) pa_nil)) pk_nil))
      (pss_one (ps_asg (vx_callX c__adapted pat__adapted_0 (.head _) hr (by decide) (takes_of rfl rfl rfl rfl) rfl (pa_cons (pv 3) (pa_cons (pv 2) pa_nil)) pk_nil) (pg_sub (fldK (K := K) (pv 0)) (pv 1) set_list))))))), ?_⟩
    obtain ⟨KK, EE, hK0, hE, hw⟩ := cW_gen hw
    have S0 := Sep.startM (M := [p_self, l_self_probs, l_self_front]) sG (all_cons (some_ne h_p_self) (all_cons (some_ne h_l_self_probs) (all_cons (some_ne h_l_self_front) all_nil))) gM
    unfold F_Encoder_code at hw
    refine ⟨_, rfl, rfl, rfl, G, _, rfl, S0.sG, cW_call hw (fun v229 hw => ?_) (fun e he => hE e he _ (Same.refl _))⟩
    refine ⟨_, rfl, rfl, rfl, G, _, rfl, S0.sG, cW_call hw (fun v230 hw => ?_) (fun e he => hE e he _ (Same.refl _))⟩
    obtain ⟨g231, hw⟩ := cW_grd hw
    refine ⟨_, rfl, _, _, _, _, _, rfl, h_p_self, T.cl_Encoder, T.n_Encoder__probabilities, rfl, _, rfl, _, _, _, _, rfl, rfl, (SqL.of h_l_self_probs), (atI_map g231), ?_⟩
    have hw := cW_bnd hw
    refine ⟨_, rfl, _, _, _, rfl, h_p_self, rfl, _, rfl, _, rfl, rfl, rfl, G, _, _, _, _, self', _, _, rfl, S0.sG, (S0.gno (all_cons (.head _) (all_cons (.tail _ (.head _)) (all_cons (.tail _ (.tail _ (.head _))) all_nil)))), h_p_self, h_l_self_probs, h_l_self_front, ne_self_0, cW_call hw (fun v233 hw H234 x235 h237 h238 h239  => ?_) (fun e he H2 e2 => hE e he H2 (Same.trans (Same.refl _) e2))⟩
    have S236 := S0.mut x235 (all_cons (.head _) (all_cons (.tail _ (.head _)) (all_cons (.tail _ (.tail _ (.head _))) all_nil))) (all_cons (some_ne h237) (all_cons (some_ne h238) (all_cons (some_ne h239) all_nil)))
    refine ⟨_, rfl, _, rfl, rfl, rfl, G, _, _, rfl, S236.sG, cW_callN hw (fun v244 hw => ?_) trivial⟩
    obtain ⟨g245, hw⟩ := cW_grd hw
    refine ⟨_, rfl, _, _, _, _, _, rfl, h237, T.cl_Encoder, T.n_Encoder__probabilities, rfl, _, rfl, _, _, _, _, rfl, rfl, h238, (ixN_map g245), ?_⟩
    generalize g246 : upd H234 l_self_probs _ = H247
    obtain ⟨x248, h249⟩ := gen_mut g246
    have h250 : H247 l_self_probs = some (.lst ((setL (v233.probs) (context') (v244) : (List Int)).map V.int)) := set_map h249
    have S251 := S236.mut1 x248 (.tail _ (.head _)) h250
    have hw := cW_bnd hw
    have h253 := (x248 _ _ h237 (ne_of h237 h238 (fun z => nomatch z)))
    have h254 := (x248 _ _ h239 (ne_self_0).symm)
    have hw := cW_ok hw
    exact hK0 _ hw _ S251.base h253 h250 h254

abbrev N_SymbolWriter_flag : List Str := ["self", "base", "value"]
theorem sc_SymbolWriter_flag : FnScope N_SymbolWriter_flag ["self", "base", "value"] (defScope s_SymbolWriter_flag) := ⟨rfl, rfl, rfl, by decide +kernel, rfl, by decide +kernel, by decide +kernel⟩
theorem ok_SymbolWriter_flag (D : MethX K AD.c_SymbolWriter "SymbolWriter.flag" "flag" s_SymbolWriter_flag ["self", "base", "value"] pats_SymbolWriter_flag) (T : Txt K mg AD) (c__check_contexts : CalX P w K mg base 1 "_check_contexts" (sp__check_contexts K AD) pats__check_contexts) (c_Encoder_code : MetX P w K mg base 3 AD.c_Encoder "code" (sp_Encoder_code K AD) pats_Encoder_code) : MetX P w K mg base 4 AD.c_SymbolWriter "flag" (sp_SymbolWriter_flag K AD) pats_SymbolWriter_flag := by
  refine D.ok T.cl_SymbolWriter sc_SymbolWriter_flag (fun vs H Q E h => ?_) (fun f cdv A_ outer s H vs Q E hr h => ?_)
  · obtain ⟨G, p_self, p_self_enc, l_self_enc_probs, l_self_enc_front, dx_self, dx_self_enc, self', base', value', rfl, _⟩ := h
    rfl
  · obtain ⟨G, p_self, p_self_enc, l_self_enc_probs, l_self_enc_front, dx_self, dx_self_enc, self', base', value', rfl, sG, gM, h_p_self, h_p_self_enc, h_l_self_enc_probs, h_l_self_enc_front, ne_self_0, ne_self_1, hw⟩ := h
    refine ⟨_, (pss_cons (ps_expr (vx_callX c__check_contexts pat__check_contexts_0 (.head _) hr (by decide) (takes_of rfl rfl rfl rfl) rfl (pa_cons (pv 1) (pa_cons pe_int pa_nil)) pk_nil))
      (pss_one (ps_expr (vx_methX c_Encoder_code pat_Encoder_code_0 (.head _) hr (by decide) (takes_of rfl rfl rfl rfl) (fldK (K := K) (pv 0)) (pa_cons (pv 1) (pa_cons (pe_ifExp (pt_val (pv 2)) pe_int pe_int) pa_nil)) pk_nil)))), ?_⟩
    obtain ⟨KK, EE, hK0, hE, hw⟩ := cW_gen hw
    have S0 := Sep.startM (M := [p_self, p_self_enc, l_self_enc_probs, l_self_enc_front]) sG (all_cons (some_ne h_p_self) (all_cons (some_ne h_p_self_enc) (all_cons (some_ne h_l_self_enc_probs) (all_cons (some_ne h_l_self_enc_front) all_nil)))) gM
    unfold F_SymbolWriter_flag at hw
    refine ⟨_, rfl, rfl, rfl, G, _, _, rfl, S0.sG, cW_call hw (fun v255 hw => ?_) (fun e he => hE e he _ (Same.refl _))⟩
    refine ⟨_, rfl, _, _, _, _, _, rfl, h_p_self, T.cl_SymbolWriter, T.n_SymbolWriter__encoder, rfl, _, _, _, rfl, h_p_self_enc, rfl, _, rfl, ?_⟩
    refine vv_ifb (vt_val (val_var rfl)) val_c val_c _ ?_
    refine ⟨rfl, rfl, G, _, _, _, _, self'.enc, _, _, rfl, S0.sG, (S0.gno (all_cons (.tail _ (.head _)) (all_cons (.tail _ (.tail _ (.head _))) (all_cons (.tail _ (.tail _ (.tail _ (.head _)))) all_nil)))), h_p_self_enc, h_l_self_enc_probs, h_l_self_enc_front, ne_self_0, cW_call hw (fun v259 hw H260 x261 h263 h264 h265  => ?_) (fun e he H2 e2 => hE e he H2 (Same.trans (Same.refl _) e2))⟩
    have S262 := S0.mut x261 (all_cons (.tail _ (.head _)) (all_cons (.tail _ (.tail _ (.head _))) (all_cons (.tail _ (.tail _ (.tail _ (.head _)))) all_nil))) (all_cons (some_ne h263) (all_cons (some_ne h264) (all_cons (some_ne h265) all_nil)))
    have h270 := (x261 _ _ h_p_self (ni3 ne_self_1 (ne_of h_p_self h_l_self_enc_probs (fun z => nomatch z)) (ne_of h_p_self h_l_self_enc_front (fun z => nomatch z))))
    have hw := cW_ok hw
    exact hK0 _ hw _ S262.base h270 h263 h264 h265

abbrev N_Decoder__shift : List Str := ["self", "octet"]
theorem sc_Decoder__shift : FnScope N_Decoder__shift ["self"] (defScope s_Decoder__shift) := ⟨rfl, rfl, rfl, by decide +kernel, rfl, by decide +kernel, by decide +kernel⟩
theorem ok_Decoder__shift (D : MethX K AD.c_Decoder "Decoder._shift" "_shift" s_Decoder__shift ["self"] pats_Decoder__shift) (T : Txt K mg AD)  : MetX P w K mg base 1 AD.c_Decoder "_shift" (sp_Decoder__shift K AD) pats_Decoder__shift := by
  refine D.ok T.cl_Decoder sc_Decoder__shift (fun vs H Q E h => ?_) (fun f cdv A_ outer s H vs Q E hr h => ?_)
  · obtain ⟨G, p_self, l_self_probs, l_self_octs, dx_self, self', rfl, _⟩ := h
    rfl
  · obtain ⟨G, p_self, l_self_probs, l_self_octs, dx_self, self', rfl, sG, gM, h_p_self, h_l_self_probs, h_l_self_octs, ne_self_0, hw⟩ := h
    refine ⟨_, (pss_cons (ps_set (i := 1) sc_Decoder__shift.nd rfl (Or.inl rfl) pe_int)
      (C8.pss_cut (ps_if (pt_cmp (pc_lt (fldK (K := K) (pv 0)) (pe_callB (call_lenLiK (K := K)) (by rfl) T.b_len (by decide +kernel) (pa_cons (fldK (K := K) (pv 0)) pa_nil)))) (pss_cons (ps_set (i := 1) sc_Decoder__shift.nd rfl (Or.inl rfl) (pe_ix (ix_listK (K := K)) (fldK (K := K) (pv 0)) (fldK (K := K) (pv 0)) (fun _ _ => rfl)))
      (pss_one (ps_fldaug (pv 0) pe_int (pip iop_add)))) pss_nil)
      (pss_one (ps_fld (pv 0) (pe_op op_or (pe_op op_shlW (fldK (K := K) (pv 0)) pe_int) (pv 1)) rfl)))), ?_⟩
    obtain ⟨KK, EE, hK0, hE, hw⟩ := cW_gen hw
    have S0 := Sep.startM (M := [p_self, l_self_probs, l_self_octs]) sG (all_cons (some_ne h_p_self) (all_cons (some_ne h_l_self_probs) (all_cons (some_ne h_l_self_octs) all_nil))) gM
    unfold F_Decoder__shift at hw
    refine ⟨fun σ H' => ∃ (self_273 : St_Decoder) (octet_274 : Int) (G' : Hp), σ = [some (V.ref p_self), some (V.int octet_274)] ∧ Same G G' ∧ Sep [p_self, l_self_probs, l_self_octs] H G G' H' [p_self, l_self_probs, l_self_octs] ∧ H' p_self = some (.ins AD.c_Decoder dx_self [("_probabilities", V.ref l_self_probs), ("_octets", V.ref l_self_octs), ("_place", V.int (self_273.place)), ("_span", V.int (self_273.span)), ("_value", V.int (self_273.value))]) ∧ H' l_self_probs = some (.lst ((self_273.probs : (List Int)).map V.int)) ∧ H' l_self_octs = some (.lst ((self_273.octs : (List Int)).map V.int)) ∧ cW (F_Decoder__shift_k1  self_273 octet_274) KK EE, ?_, ?_⟩
    · obtain ⟨K275, hK276, hw⟩ := cW_push hw
      refine ⟨_, rfl, _, _, _, _, _, rfl, h_p_self, T.cl_Decoder, T.n_Decoder__place, rfl, _, rfl, _, _, _, _, _, rfl, h_p_self, T.cl_Decoder, T.n_Decoder__octets, rfl, _, _, rfl, (SqL.of h_l_self_octs), _, _, rfl, rfl, _, rfl, ?_⟩
      refine iteD (fun c277 => ?_) (fun c277 => ?_)
      · have hw := cW_pos c277 hw
        obtain ⟨g278, hw⟩ := cW_grd hw
        refine ⟨_, rfl, _, _, _, _, _, rfl, h_p_self, T.cl_Decoder, T.n_Decoder__octets, rfl, _, rfl, _, _, _, _, _, rfl, h_p_self, T.cl_Decoder, T.n_Decoder__place, rfl, _, _, _, _, rfl, rfl, (SqL.of h_l_self_octs), (atI_map g278), ?_⟩
        have hw := cW_bnd hw
        have hw := cW_bnd hw
        refine ⟨_, rfl, _, _, _, _, _, rfl, h_p_self, T.cl_Decoder, T.n_Decoder__place, rfl, _, _, rfl, rfl, _, _, h_p_self, (by show 5 < 1000; decide), ?_⟩
        generalize g281 : upd H p_self _ = H282
        obtain ⟨x283, h284⟩ := gen_mut g281
        have h285 : H282 p_self = some (.ins AD.c_Decoder dx_self [("_probabilities", V.ref l_self_probs), ("_octets", V.ref l_self_octs), ("_place", V.int ((self'.place + 1))), ("_span", V.int (self'.span)), ("_value", V.int (self'.value))]) := h284
        have S286 := S0.mut1 x283 (.head _) h285
        have hw := cW_ok hw
        have hw := hK276 _ hw
        have h287 := (x283 _ _ h_l_self_probs (ne_of h_l_self_probs h_p_self (fun z => nomatch z)))
        have h288 := (x283 _ _ h_l_self_octs (ne_of h_l_self_octs h_p_self (fun z => nomatch z)))
        exact ⟨((⟨self'.probs, self'.octs, (self'.place + 1), self'.span, self'.value⟩ : St_Decoder)), ((itD (self'.octs) (self'.place))), _, rfl, (Same.refl _), S286, h285, h287, h288, hw⟩
      · have hw := cW_neg c277 hw
        have hw := cW_ok hw
        have hw := hK276 _ hw
        exact ⟨(self'), (0), _, rfl, (Same.refl _), S0, h_p_self, h_l_self_probs, h_l_self_octs, hw⟩
    · intro σ H289 hw
      obtain ⟨self_273, octet_274, G294, rfl, eG295, S290, h291, h292, h293, hw⟩ := hw
      unfold F_Decoder__shift_k1 at hw
      obtain ⟨g296, hw⟩ := cW_grd hw
      have hw := cW_bnd hw
      refine ⟨_, rfl, _, _, _, _, _, rfl, h291, T.cl_Decoder, T.n_Decoder__value, rfl, _, _, rfl, rfl, (shl_side g296.1 g296.2.1 g296.2.2.1 g296.2.2.2), _, rfl, _, _, rfl, rfl, _, rfl, _, _, _, _, rfl, h291, T.cl_Decoder, T.n_Decoder__value, (by show 5 < 1000; decide), ?_⟩
      generalize g298 : upd H289 p_self _ = H299
      obtain ⟨x300, h301⟩ := gen_mut g298
      have h302 : H299 p_self = some (.ins AD.c_Decoder dx_self [("_probabilities", V.ref l_self_probs), ("_octets", V.ref l_self_octs), ("_place", V.int (self_273.place)), ("_span", V.int (self_273.span)), ("_value", V.int ((PySem.Builtin.bitOr ((self_273.value * 2 ^ Int.toNat (8))) (octet_274))))]) := h301
      have S303 := S290.mut1 x300 (.head _) h302
      have h304 := (x300 _ _ h292 (ne_of h292 h291 (fun z => nomatch z)))
      have h305 := (x300 _ _ h293 (ne_of h293 h291 (fun z => nomatch z)))
      have hw := cW_ok hw
      exact hK0 _ hw _ S303.base h302 h304 h305

abbrev N_Decoder__decide : List Str := ["self", "chance", "part", "decision"]
theorem sc_Decoder__decide : FnScope N_Decoder__decide ["self", "chance"] (defScope s_Decoder__decide) := ⟨rfl, rfl, rfl, by decide +kernel, rfl, by decide +kernel, by decide +kernel⟩
theorem ok_Decoder__decide (D : MethX K AD.c_Decoder "Decoder._decide" "_decide" s_Decoder__decide ["self", "chance"] pats_Decoder__decide) (T : Txt K mg AD) (c_Decoder__shift : MetX P w K mg base 1 AD.c_Decoder "_shift" (sp_Decoder__shift K AD) pats_Decoder__shift) : MetX P w K mg base 2 AD.c_Decoder "_decide" (sp_Decoder__decide K AD) pats_Decoder__decide := by
  refine D.ok T.cl_Decoder sc_Decoder__decide (fun vs H Q E h => ?_) (fun f cdv A_ outer s H vs Q E hr h => ?_)
  · obtain ⟨G, p_self, l_self_probs, l_self_octs, dx_self, self', chance', rfl, _⟩ := h
    rfl
  · obtain ⟨G, p_self, l_self_probs, l_self_octs, dx_self, self', chance', rfl, sG, gM, h_p_self, h_l_self_probs, h_l_self_octs, ne_self_0, hw⟩ := h
    refine ⟨_, (pss_cons (ps_set (i := 2) sc_Decoder__decide.nd rfl (Or.inl rfl) (pe_op op_mul (pe_op op_shr (fldK (K := K) (pv 0)) (C8.pe_gc rfl T.g_SCALE_BITS)) (pv 1)))
      (pss_cons (ps_set (i := 3) sc_Decoder__decide.nd rfl (Or.inl rfl) (pe_ifExp (pt_cmp (pc_lt (fldK (K := K) (pv 0)) (pv 2))) pe_int pe_int))
      (C8.pss_cut (ps_if (pt_cmp (pc_eqI (pv 3) pe_int)) (pss_one (ps_fld (pv 0) (pv 2) rfl)) (pss_cons (ps_fldaug (pv 0) (pv 2) (pip iop_sub))
      (pss_one (ps_fldaug (pv 0) (pv 2) (pip iop_sub)))))
      (pss_cons (ps_while (passes_of rfl) (pt_cmp (pc_lt (fldK (K := K) (pv 0)) (C8.pe_gc rfl T.g_LEAST_SPAN))) (pss_cons (ps_expr (vx_methX0 c_Decoder__shift pat_Decoder__shift_0 (.head _) hr (by decide) (takes_of rfl rfl rfl rfl) (pv 0)))
      (pss_one (ps_fldaug (pv 0) pe_int (pip iop_shlW)))))
      (pss_one (ps_ret (pv 3))))))), ?_⟩
    obtain ⟨KK, EE, hK0, hE, hw⟩ := cW_gen hw
    have S0 := Sep.startM (M := [p_self, l_self_probs, l_self_octs]) sG (all_cons (some_ne h_p_self) (all_cons (some_ne h_l_self_probs) (all_cons (some_ne h_l_self_octs) all_nil))) gM
    unfold F_Decoder__decide at hw
    obtain ⟨g306, hw⟩ := cW_grd hw
    refine ⟨_, rfl, _, _, _, _, _, rfl, h_p_self, T.cl_Decoder, T.n_Decoder__span, rfl, _, _, rfl, rfl, (show (0 : Int) ≤ 12 by decide), _, rfl, _, _, rfl, rfl, g306, ?_⟩
    have hw := cW_bnd hw
    refine vv_if (vt_cmp (vv_cmp (val_fld (val_var rfl) h_p_self T.cl_Decoder T.n_Decoder__value rfl) (val_var rfl) (fun Q q => ⟨_, _, rfl, rfl, q⟩))) val_c val_c _ ?_
    have hw := cW_bnd hw
    refine ⟨fun σ H' => ∃ (self_314 : St_Decoder) (G' : Hp), σ = [some (V.ref p_self), some (V.int (chance')), some (V.int (((self'.span / 4096) * chance'))), some (V.int ((if self'.value < ((self'.span / 4096) * chance') then 0 else 1)))] ∧ Same G G' ∧ Sep [p_self, l_self_probs, l_self_octs] H G G' H' [p_self, l_self_probs, l_self_octs] ∧ H' p_self = some (.ins AD.c_Decoder dx_self [("_probabilities", V.ref l_self_probs), ("_octets", V.ref l_self_octs), ("_place", V.int (self_314.place)), ("_span", V.int (self_314.span)), ("_value", V.int (self_314.value))]) ∧ H' l_self_probs = some (.lst ((self_314.probs : (List Int)).map V.int)) ∧ H' l_self_octs = some (.lst ((self_314.octs : (List Int)).map V.int)) ∧ cW (F_Decoder__decide_k1 ((if self'.value < ((self'.span / 4096) * chance') then 0 else 1)) self_314) KK EE, ?_, ?_⟩
    · obtain ⟨K315, hK316, hw⟩ := cW_push hw
      refine ⟨_, rfl, _, _, rfl, rfl, _, rfl, ?_⟩
      refine iteD (fun c317 => ?_) (fun c317 => ?_)
      · have hw := cW_pos c317 hw
        refine ⟨_, rfl, _, rfl, _, _, _, _, rfl, h_p_self, T.cl_Decoder, T.n_Decoder__span, (by show 5 < 1000; decide), ?_⟩
        generalize g318 : upd H p_self _ = H319
        obtain ⟨x320, h321⟩ := gen_mut g318
        have h322 : H319 p_self = some (.ins AD.c_Decoder dx_self [("_probabilities", V.ref l_self_probs), ("_octets", V.ref l_self_octs), ("_place", V.int (self'.place)), ("_span", V.int (((self'.span / 4096) * chance'))), ("_value", V.int (self'.value))]) := h321
        have S323 := S0.mut1 x320 (.head _) h322
        have hw := cW_ok hw
        have hw := hK316 _ hw
        have h324 := (x320 _ _ h_l_self_probs (ne_of h_l_self_probs h_p_self (fun z => nomatch z)))
        have h325 := (x320 _ _ h_l_self_octs (ne_of h_l_self_octs h_p_self (fun z => nomatch z)))
        exact ⟨((⟨self'.probs, self'.octs, self'.place, ((self'.span / 4096) * chance'), self'.value⟩ : St_Decoder)), _, rfl, (Same.refl _), S323, h322, h324, h325, hw⟩
      · have hw := cW_neg c317 hw
        have hw := cW_bnd hw
        refine ⟨_, rfl, _, _, _, _, _, rfl, h_p_self, T.cl_Decoder, T.n_Decoder__value, rfl, _, rfl, _, _, rfl, rfl, _, _, h_p_self, (by show 5 < 1000; decide), ?_⟩
        generalize g327 : upd H p_self _ = H328
        obtain ⟨x329, h330⟩ := gen_mut g327
        have h331 : H328 p_self = some (.ins AD.c_Decoder dx_self [("_probabilities", V.ref l_self_probs), ("_octets", V.ref l_self_octs), ("_place", V.int (self'.place)), ("_span", V.int (self'.span)), ("_value", V.int ((self'.value - ((self'.span / 4096) * chance'))))]) := h330
        have S332 := S0.mut1 x329 (.head _) h331
        have hw := cW_bnd hw
        refine ⟨_, rfl, _, _, _, _, _, rfl, h331, T.cl_Decoder, T.n_Decoder__span, rfl, _, rfl, _, _, rfl, rfl, _, _, h331, (by show 5 < 1000; decide), ?_⟩
        generalize g334 : upd H328 p_self _ = H335
        obtain ⟨x336, h337⟩ := gen_mut g334
        have h338 : H335 p_self = some (.ins AD.c_Decoder dx_self [("_probabilities", V.ref l_self_probs), ("_octets", V.ref l_self_octs), ("_place", V.int (self'.place)), ("_span", V.int ((self'.span - ((self'.span / 4096) * chance')))), ("_value", V.int ((self'.value - ((self'.span / 4096) * chance'))))]) := h337
        have S339 := S332.mut1 x336 (.head _) h338
        have hw := cW_ok hw
        have hw := hK316 _ hw
        have h340 := (x336 _ _ (x329 _ _ h_l_self_probs (ne_of h_l_self_probs h_p_self (fun z => nomatch z))) (ne_of h_l_self_probs h_p_self (fun z => nomatch z)))
        have h341 := (x336 _ _ (x329 _ _ h_l_self_octs (ne_of h_l_self_octs h_p_self (fun z => nomatch z))) (ne_of h_l_self_octs h_p_self (fun z => nomatch z)))
        exact ⟨((⟨self'.probs, self'.octs, self'.place, (self'.span - ((self'.span / 4096) * chance')), (self'.value - ((self'.span / 4096) * chance'))⟩ : St_Decoder)), _, rfl, (Same.refl _), S339, h338, h340, h341, hw⟩
    · intro σ H342 hw
      obtain ⟨self_314, G347, rfl, eG348, S343, h344, h345, h346, hw⟩ := hw
      unfold F_Decoder__decide_k1 at hw
      obtain ⟨K350, hK351, hw⟩ := cW_push hw
      refine ⟨fun m σ H' => ∃ (self_352 : St_Decoder) (G' : Hp), σ = [some (V.ref p_self), some (V.int (chance')), some (V.int (((self'.span / 4096) * chance'))), some (V.int ((if self'.value < ((self'.span / 4096) * chance') then 0 else 1)))] ∧ Same G347 G' ∧ Sep [p_self, l_self_probs, l_self_octs] H G G' H' [p_self, l_self_probs, l_self_octs] ∧ H' p_self = some (.ins AD.c_Decoder dx_self [("_probabilities", V.ref l_self_probs), ("_octets", V.ref l_self_octs), ("_place", V.int (self_352.place)), ("_span", V.int (self_352.span)), ("_value", V.int (self_352.value))]) ∧ H' l_self_probs = some (.lst ((self_352.probs : (List Int)).map V.int)) ∧ H' l_self_octs = some (.lst ((self_352.octs : (List Int)).map V.int)) ∧ cW (whileR m self_352 (fun s => F_Decoder__decide_b2  s)) K350 EE, ?_, ?_⟩
      · exact ⟨_, ⟨(self_314), _, rfl, (Same.refl _), S343, h344, h345, h346, hw⟩⟩
      · intro m σ H353 hw
        obtain ⟨self_352, G358, rfl, eG359, S354, h355, h356, h357, hw⟩ := hw
        obtain ⟨m360, rfl, hw2⟩ := cW_whileR hw
        have hw := hw2
        have hw : cW (F_Decoder__decide_b2  (self_352)) _ EE := hw
        unfold F_Decoder__decide_b2 at hw
        obtain ⟨K362, hK363, hw⟩ := cW_name hw
        refine ⟨_, rfl, _, _, _, _, _, rfl, h355, T.cl_Decoder, T.n_Decoder__span, rfl, _, _, rfl, rfl, _, rfl, ?_⟩
        refine iteD (fun c364 => ?_) (fun c364 => ?_)
        · have hw := cW_pos c364 hw
          refine ⟨(fun σ H' => ∃ m, (∃ (self_352 : St_Decoder) (G' : Hp), σ = [some (V.ref p_self), some (V.int (chance')), some (V.int (((self'.span / 4096) * chance'))), some (V.int ((if self'.value < ((self'.span / 4096) * chance') then 0 else 1)))] ∧ Same G347 G' ∧ Sep [p_self, l_self_probs, l_self_octs] H G G' H' [p_self, l_self_probs, l_self_octs] ∧ H' p_self = some (.ins AD.c_Decoder dx_self [("_probabilities", V.ref l_self_probs), ("_octets", V.ref l_self_octs), ("_place", V.int (self_352.place)), ("_span", V.int (self_352.span)), ("_value", V.int (self_352.value))]) ∧ H' l_self_probs = some (.lst ((self_352.probs : (List Int)).map V.int)) ∧ H' l_self_octs = some (.lst ((self_352.octs : (List Int)).map V.int)) ∧ cW (whileR m self_352 (fun s => F_Decoder__decide_b2  s)) K350 EE) ∧ m < m360 + 1), (fun _ _ ⟨m', a, b⟩ => ⟨m', b, a⟩), ?_⟩
          refine ⟨_, rfl, _, _, _, rfl, h355, rfl, rfl, rfl, G358, _, _, _, _, self_352, rfl, S354.sG, (S354.gno (all_cons (.head _) (all_cons (.tail _ (.head _)) (all_cons (.tail _ (.tail _ (.head _))) all_nil)))), h355, h356, h357, ne_self_0, cW_callN hw (fun v365 hw H366 x367 h369 h370 h371  => ?_) trivial⟩
          have S368 := S354.mut x367 (all_cons (.head _) (all_cons (.tail _ (.head _)) (all_cons (.tail _ (.tail _ (.head _))) all_nil))) (all_cons (some_ne h369) (all_cons (some_ne h370) (all_cons (some_ne h371) all_nil)))
          obtain ⟨g376, hw⟩ := cW_grd hw
          have hw := cW_bnd hw
          refine ⟨_, rfl, _, _, _, _, _, rfl, h369, T.cl_Decoder, T.n_Decoder__span, rfl, _, _, rfl, rfl, (shl_side g376.1 g376.2.1 g376.2.2.1 g376.2.2.2), _, _, h369, (by show 5 < 1000; decide), ?_⟩
          generalize g378 : upd H366 p_self _ = H379
          obtain ⟨x380, h381⟩ := gen_mut g378
          have h382 : H379 p_self = some (.ins AD.c_Decoder dx_self [("_probabilities", V.ref l_self_probs), ("_octets", V.ref l_self_octs), ("_place", V.int (v365.place)), ("_span", V.int ((v365.span * 2 ^ Int.toNat (8)))), ("_value", V.int (v365.value))]) := h381
          have S383 := S368.mut1 x380 (.head _) h382
          have hw := cW_ok hw
          have hw := hK363 _ hw
          have h384 := (x380 _ _ h370 (ne_of h370 h369 (fun z => nomatch z)))
          have h385 := (x380 _ _ h371 (ne_of h371 h369 (fun z => nomatch z)))
          exact ⟨m360, ⟨((⟨v365.probs, v365.octs, v365.place, (v365.span * 2 ^ Int.toNat (8)), v365.value⟩ : St_Decoder)), _, rfl, eG359, S383, h382, h384, h385, hw⟩, Nat.lt_succ_self _⟩
        · have hw := cW_neg c364 hw
          have hw := cW_ok hw
          have hw := hK363 _ hw
          have hw := cW_aftgo (hK351 (.go _) hw)
          have hw : cW (F_Decoder__decide_r2 ((if self'.value < ((self'.span / 4096) * chance') then 0 else 1)) (self_352)) _ EE := hw
          unfold F_Decoder__decide_r2 at hw
          refine ⟨_, rfl, ?_⟩
          have hw := cW_ok hw
          exact hK0 _ hw _ S354.base h355 h356 h357

abbrev N_Decoder_read : List Str := ["self", "context", "chance", "decision"]
theorem sc_Decoder_read : FnScope N_Decoder_read ["self", "context"] (defScope s_Decoder_read) := ⟨rfl, rfl, rfl, by decide +kernel, rfl, by decide +kernel, by decide +kernel⟩
theorem ok_Decoder_read (D : MethX K AD.c_Decoder "Decoder.read" "read" s_Decoder_read ["self", "context"] pats_Decoder_read) (T : Txt K mg AD) (c__check_context : CalX P w K mg base 1 "_check_context" (sp__check_context K AD) pats__check_context) (c_Decoder__decide : MetX P w K mg base 2 AD.c_Decoder "_decide" (sp_Decoder__decide K AD) pats_Decoder__decide) (c__adapted : CalX P w K mg base 1 "_adapted" (sp__adapted K AD) pats__adapted) : MetX P w K mg base 3 AD.c_Decoder "read" (sp_Decoder_read K AD) pats_Decoder_read := by
  refine D.ok T.cl_Decoder sc_Decoder_read (fun vs H Q E h => ?_) (fun f cdv A_ outer s H vs Q E hr h => ?_)
  · obtain ⟨G, p_self, l_self_probs, l_self_octs, dx_self, self', context', rfl, _⟩ := h
    rfl
  · obtain ⟨G, p_self, l_self_probs, l_self_octs, dx_self, self', context', rfl, sG, gM, h_p_self, h_l_self_probs, h_l_self_octs, ne_self_0, hw⟩ := h
    refine ⟨_, (pss_cons (ps_expr (vx_callX c__check_context pat__check_context_0 (.head _) hr (by decide) (takes_of rfl rfl rfl rfl) rfl (pa_cons (pv 1) pa_nil) pk_nil))
      (pss_cons (ps_set (i := 2) sc_Decoder_read.nd rfl (Or.inl rfl) (pe_ix (ix_listK (K := K)) (fldK (K := K) (pv 0)) (pv 1) (fun _ _ => rfl)))
      (pss_cons (ps_set (i := 3) sc_Decoder_read.nd rfl (Or.inl rfl) (vx_methX c_Decoder__decide pat_Decoder__decide_0 (.head _) hr (by decide) (takes_of rfl rfl rfl rfl) (pv 0) (pa_cons (pv 2) pa_nil) pk_nil))
      (pss_cons (ps_asg (vx_callX c__adapted pat__adapted_0 (.head _) hr (by decide) (takes_of rfl rfl rfl rfl) rfl (pa_cons (pv 2) (pa_cons (pv 3) pa_nil)) pk_nil) (pg_sub (fldK (K := K) (pv 0)) (pv 1) set_list))
      (pss_one (ps_ret (pv 3))))))), ?_⟩
    obtain ⟨KK, EE, hK0, hE, hw⟩ := cW_gen hw
    have S0 := Sep.startM (M := [p_self, l_self_probs, l_self_octs]) sG (all_cons (some_ne h_p_self) (all_cons (some_ne h_l_self_probs) (all_cons (some_ne h_l_self_octs) all_nil))) gM
    unfold F_Decoder_read at hw
    refine ⟨_, rfl, rfl, rfl, G, _, rfl, S0.sG, cW_call hw (fun v387 hw => ?_) (fun e he => hE e he _ (Same.refl _))⟩
    obtain ⟨g388, hw⟩ := cW_grd hw
    refine ⟨_, rfl, _, _, _, _, _, rfl, h_p_self, T.cl_Decoder, T.n_Decoder__probabilities, rfl, _, rfl, _, _, _, _, rfl, rfl, (SqL.of h_l_self_probs), (atI_map g388), ?_⟩
    have hw := cW_bnd hw
    refine ⟨_, rfl, _, _, _, rfl, h_p_self, rfl, _, rfl, rfl, rfl, G, _, _, _, _, self', _, rfl, S0.sG, (S0.gno (all_cons (.head _) (all_cons (.tail _ (.head _)) (all_cons (.tail _ (.tail _ (.head _))) all_nil)))), h_p_self, h_l_self_probs, h_l_self_octs, ne_self_0, cW_call hw (fun v390 hw H391 x392 h394 h395 h396  => ?_) (fun e he H2 e2 => hE e he H2 (Same.trans (Same.refl _) e2))⟩
    have S393 := S0.mut x392 (all_cons (.head _) (all_cons (.tail _ (.head _)) (all_cons (.tail _ (.tail _ (.head _))) all_nil))) (all_cons (some_ne h394) (all_cons (some_ne h395) (all_cons (some_ne h396) all_nil)))
    refine ⟨_, rfl, _, rfl, rfl, rfl, G, _, _, rfl, S393.sG, cW_callN hw (fun v401 hw => ?_) trivial⟩
    obtain ⟨g402, hw⟩ := cW_grd hw
    refine ⟨_, rfl, _, _, _, _, _, rfl, h394, T.cl_Decoder, T.n_Decoder__probabilities, rfl, _, rfl, _, _, _, _, rfl, rfl, h395, (ixN_map g402), ?_⟩
    generalize g403 : upd H391 l_self_probs _ = H404
    obtain ⟨x405, h406⟩ := gen_mut g403
    have h407 : H404 l_self_probs = some (.lst ((setL (v390.2.probs) (context') (v401) : (List Int)).map V.int)) := set_map h406
    have S408 := S393.mut1 x405 (.tail _ (.head _)) h407
    have hw := cW_bnd hw
    refine ⟨_, rfl, ?_⟩
    have h410 := (x405 _ _ h394 (ne_of h394 h395 (fun z => nomatch z)))
    have h411 := (x405 _ _ h396 (ne_self_0).symm)
    have hw := cW_ok hw
    exact hK0 _ hw _ S408.base h410 h407 h411

abbrev N_SymbolReader_flag : List Str := ["self", "base"]
theorem sc_SymbolReader_flag : FnScope N_SymbolReader_flag ["self", "base"] (defScope s_SymbolReader_flag) := ⟨rfl, rfl, rfl, by decide +kernel, rfl, by decide +kernel, by decide +kernel⟩
theorem ok_SymbolReader_flag (D : MethX K AD.c_SymbolReader "SymbolReader.flag" "flag" s_SymbolReader_flag ["self", "base"] pats_SymbolReader_flag) (T : Txt K mg AD) (c__check_contexts : CalX P w K mg base 1 "_check_contexts" (sp__check_contexts K AD) pats__check_contexts) (c_Decoder_read : MetX P w K mg base 3 AD.c_Decoder "read" (sp_Decoder_read K AD) pats_Decoder_read) : MetX P w K mg base 4 AD.c_SymbolReader "flag" (sp_SymbolReader_flag K AD) pats_SymbolReader_flag := by
  refine D.ok T.cl_SymbolReader sc_SymbolReader_flag (fun vs H Q E h => ?_) (fun f cdv A_ outer s H vs Q E hr h => ?_)
  · obtain ⟨G, p_self, p_self_dec, l_self_dec_probs, l_self_dec_octs, dx_self, dx_self_dec, self', base', rfl, _⟩ := h
    rfl
  · obtain ⟨G, p_self, p_self_dec, l_self_dec_probs, l_self_dec_octs, dx_self, dx_self_dec, self', base', rfl, sG, gM, h_p_self, h_p_self_dec, h_l_self_dec_probs, h_l_self_dec_octs, ne_self_0, ne_self_1, hw⟩ := h
    refine ⟨_, (pss_cons (ps_expr (vx_callX c__check_contexts pat__check_contexts_0 (.head _) hr (by decide) (takes_of rfl rfl rfl rfl) rfl (pa_cons (pv 1) (pa_cons pe_int pa_nil)) pk_nil))
      (pss_one (ps_ret (pe_cmp (pc_eqI (vx_methX c_Decoder_read pat_Decoder_read_0 (.head _) hr (by decide) (takes_of rfl rfl rfl rfl) (fldK (K := K) (pv 0)) (pa_cons (pv 1) pa_nil) pk_nil) pe_int))))), ?_⟩
    obtain ⟨KK, EE, hK0, hE, hw⟩ := cW_gen hw
    have S0 := Sep.startM (M := [p_self, p_self_dec, l_self_dec_probs, l_self_dec_octs]) sG (all_cons (some_ne h_p_self) (all_cons (some_ne h_p_self_dec) (all_cons (some_ne h_l_self_dec_probs) (all_cons (some_ne h_l_self_dec_octs) all_nil)))) gM
    unfold F_SymbolReader_flag at hw
    refine ⟨_, rfl, rfl, rfl, G, _, _, rfl, S0.sG, cW_call hw (fun v412 hw => ?_) (fun e he => hE e he _ (Same.refl _))⟩
    refine ⟨_, rfl, _, _, _, _, _, rfl, h_p_self, T.cl_SymbolReader, T.n_SymbolReader__decoder, rfl, _, _, _, rfl, h_p_self_dec, rfl, _, rfl, rfl, rfl, G, _, _, _, _, self'.dec, _, rfl, S0.sG, (S0.gno (all_cons (.tail _ (.head _)) (all_cons (.tail _ (.tail _ (.head _))) (all_cons (.tail _ (.tail _ (.tail _ (.head _)))) all_nil)))), h_p_self_dec, h_l_self_dec_probs, h_l_self_dec_octs, ne_self_0, cW_call hw (fun v413 hw H414 x415 h417 h418 h419  => ?_) (fun e he H2 e2 => hE e he H2 (Same.trans (Same.refl _) e2))⟩
    have S416 := S0.mut x415 (all_cons (.tail _ (.head _)) (all_cons (.tail _ (.tail _ (.head _))) (all_cons (.tail _ (.tail _ (.tail _ (.head _)))) all_nil))) (all_cons (some_ne h417) (all_cons (some_ne h418) (all_cons (some_ne h419) all_nil)))
    refine ⟨_, _, rfl, rfl, ?_⟩
    have h424 := (x415 _ _ h_p_self (ni3 ne_self_1 (ne_of h_p_self h_l_self_dec_probs (fun z => nomatch z)) (ne_of h_p_self h_l_self_dec_octs (fun z => nomatch z))))
    have hw := cW_ok hw
    exact hK0 _ hw _ S416.base h424 h417 h418 h419

abbrev N__put_places : List Str := ["writer", "levels", "last", "stride", "place"]
theorem sc__put_places : FnScope N__put_places ["writer", "levels", "last"] (defScope s__put_places) := ⟨rfl, rfl, rfl, by decide +kernel, rfl, by decide +kernel, by decide +kernel⟩
theorem ok__put_places (D : DefX K mg "_put_places" s__put_places ["writer", "levels", "last"] pats__put_places) (T : Txt K mg AD) (c_SymbolWriter_flag : MetX P w K mg base 4 AD.c_SymbolWriter "flag" (sp_SymbolWriter_flag K AD) pats_SymbolWriter_flag) : CalX P w K mg base 5 "_put_places" (sp__put_places K AD) pats__put_places := by
  refine D.ok sc__put_places (fun vs H Q E h => ?_) (fun f cdv A_ outer s H vs Q E hr h => ?_)
  · obtain ⟨G, p_writer, p_writer_enc, l_writer_enc_probs, l_writer_enc_front, dx_writer, dx_writer_enc, writer', a_levels, levels', last', rfl, _⟩ := h
    rfl
  · obtain ⟨G, p_writer, p_writer_enc, l_writer_enc_probs, l_writer_enc_front, dx_writer, dx_writer_enc, writer', a_levels, levels', last', rfl, sG, gM, h_p_writer, h_p_writer_enc, h_l_writer_enc_probs, h_l_writer_enc_front, ne_writer_0, ne_writer_1, q_levels, hw⟩ := h
    refine ⟨_, (pss_cons (ps_set (i := 3) sc__put_places.nd rfl (Or.inl rfl) (pe_op op_fdivW (C8.pe_gc rfl T.g_CLASSES) (pe_callB (call_lenLiK (K := K)) (by rfl) T.b_len (by decide +kernel) (pa_cons (pv 1) pa_nil))))
      (pss_one (ps_for (passes_of rfl) rfl (pi_range1 rfl T.b_range (pa_cons (pe_callB (call_min2 rfl) (by rfl) T.b_min (by decide +kernel) (pa_cons (pe_op op_add (pv 2) pe_int) (pa_cons (pe_op op_sub (pe_callB (call_lenLiK (K := K)) (by rfl) T.b_len (by decide +kernel) (pa_cons (pv 1) pa_nil)) pe_int) pa_nil))) pa_nil)) (pg_name (i := 4) sc__put_places.nd rfl (Or.inl rfl)) (pss_cons (ps_expr (vx_methX c_SymbolWriter_flag pat_SymbolWriter_flag_0 (.head _) hr (by decide) (takes_of rfl rfl rfl rfl) (pv 0) (pa_cons (pe_op op_add (C8.pe_gc rfl T.g_SIGNIFICANT) (pe_op op_mul (pv 3) (pv 4))) (pa_cons (pe_cmp (pc_neI (pe_ix (ix_listK (K := K)) (pv 1) (pv 4) (fun _ _ => rfl)) pe_int)) pa_nil)) pk_nil))
      (pss_one (ps_if (pt_cmp (pc_neI (pe_ix (ix_listK (K := K)) (pv 1) (pv 4) (fun _ _ => rfl)) pe_int)) (pss_one (ps_expr (vx_methX c_SymbolWriter_flag pat_SymbolWriter_flag_0 (.head _) hr (by decide) (takes_of rfl rfl rfl rfl) (pv 0) (pa_cons (pe_op op_add (C8.pe_gc rfl T.g_LAST) (pe_op op_mul (pv 3) (pv 4))) (pa_cons (pe_cmp (pc_eqI (pv 4) (pv 2))) pa_nil)) pk_nil))) pss_nil)))))), ?_⟩
    obtain ⟨KK, EE, hK0, hE, hw⟩ := cW_gen hw
    have S0 := Sep.startM (M := [p_writer, p_writer_enc, l_writer_enc_probs, l_writer_enc_front]) sG (all_cons (some_ne h_p_writer) (all_cons (some_ne h_p_writer_enc) (all_cons (some_ne h_l_writer_enc_probs) (all_cons (some_ne h_l_writer_enc_front) all_nil)))) gM
    unfold F__put_places at hw
    obtain ⟨g425, hw⟩ := cW_grd hw
    refine ⟨_, rfl, _, _, rfl, (SqL.of (S0.bM _ _ q_levels)), _, _, rfl, rfl, (divW_small g425.1 g425.2), ?_⟩
    have hw := cW_bnd hw
    obtain ⟨g427, hw⟩ := cW_grd hw
    obtain ⟨K431, hK432, hw⟩ := cW_push hw
    refine ⟨_, rfl, _, _, rfl, rfl, _, rfl, _, _, rfl, (SqL.of (S0.bM _ _ q_levels)), _, _, rfl, rfl, _, _, rfl, _, rfl, g427.1, g427.2, for_range (lo := 0) (n := Int.toNat ((if ((((levels') : (List Int)).length : Int) - 1) < (last' + 1) then ((((levels') : (List Int)).length : Int) - 1) else (last' + 1)))) (fun i σ H' => ∃ (writer_433 : St_SymbolWriter) (u434 : Option V) (G' : Hp), σ = [some (V.ref p_writer), some (V.ref a_levels), some (V.int (last')), some (V.int ((64 / (((levels') : (List Int)).length : Int)))), u434] ∧ Same G G' ∧ Sep [p_writer, p_writer_enc, l_writer_enc_probs, l_writer_enc_front] H G G' H' [p_writer, p_writer_enc, l_writer_enc_probs, l_writer_enc_front] ∧ H' p_writer = some (.ins AD.c_SymbolWriter dx_writer [("_encoder", V.ref p_writer_enc)]) ∧ H' p_writer_enc = some (.ins AD.c_Encoder dx_writer_enc [("_probabilities", V.ref l_writer_enc_probs), ("_front", V.ref l_writer_enc_front), ("_low", V.int (writer_433.enc.low)), ("_span", V.int (writer_433.enc.span))]) ∧ H' l_writer_enc_probs = some (.lst ((writer_433.enc.probs : (List Int)).map V.int)) ∧ H' l_writer_enc_front = some (.lst ((writer_433.enc.front : (List Int)).map V.int)) ∧ cW (forS (List.drop i (rng (0) (Int.toNat ((if ((((levels') : (List Int)).length : Int) - 1) < (last' + 1) then ((((levels') : (List Int)).length : Int) - 1) else (last' + 1)))))) writer_433 (fun s x => F__put_places_b1 (levels') (last') ((64 / (((levels') : (List Int)).length : Int))) s x)) K431 EE) ?_ ?_ ?_⟩
    · exact ⟨(writer'), _, _, rfl, (Same.refl _), S0, h_p_writer, h_p_writer_enc, h_l_writer_enc_probs, h_l_writer_enc_front, hw⟩
    · intro i σ H435 hi hw
      obtain ⟨writer_433, u434, G441, rfl, eG442, S436, h437, h438, h439, h440, hw⟩ := hw
      have hw := cW_forS (rng_get hi) hw
      generalize (0 + (i : Int)) = x443 at hw ⊢
      have hw : cW (F__put_places_b1 (levels') (last') ((64 / (((levels') : (List Int)).length : Int))) (writer_433) (x443)) _ EE := hw
      unfold F__put_places_b1 at hw
      obtain ⟨K445, hK446, hw⟩ := cW_name hw
      obtain ⟨g448, hw⟩ := cW_grd hw
      obtain ⟨g449, hw⟩ := cW_grd hw
      refine ⟨_, rfl, _, _, _, rfl, h437, rfl, _, rfl, _, rfl, _, _, rfl, rfl, g448, _, _, rfl, rfl, _, rfl, _, rfl, _, _, _, _, rfl, rfl, (SqL.of (S436.bM _ _ q_levels)), (atI_map g449), _, _, rfl, rfl, rfl, rfl, G441, _, _, _, _, _, _, writer_433, _, _, rfl, S436.sG, (S436.gno (all_cons (.head _) (all_cons (.tail _ (.head _)) (all_cons (.tail _ (.tail _ (.head _))) (all_cons (.tail _ (.tail _ (.tail _ (.head _)))) all_nil))))), h437, h438, h439, h440, ne_writer_0, ne_writer_1, cW_callN hw (fun v450 hw H451 x452 h454 h455 h456 h457  => ?_) trivial⟩
      have S453 := S436.mut x452 (all_cons (.head _) (all_cons (.tail _ (.head _)) (all_cons (.tail _ (.tail _ (.head _))) (all_cons (.tail _ (.tail _ (.tail _ (.head _)))) all_nil)))) (all_cons (some_ne h454) (all_cons (some_ne h455) (all_cons (some_ne h456) (all_cons (some_ne h457) all_nil))))
      obtain ⟨g462, hw⟩ := cW_grd hw
      refine ⟨_, rfl, _, rfl, _, _, _, _, rfl, rfl, (SqL.of (S453.bM _ _ q_levels)), (atI_map g462), _, _, rfl, rfl, _, rfl, ?_⟩
      refine iteN (fun c463 => ?_) (fun c463 => ?_)
      · have hw := cW_neg c463 hw
        obtain ⟨g464, hw⟩ := cW_grd hw
        refine ⟨_, rfl, _, _, _, rfl, h454, rfl, _, rfl, _, rfl, _, _, rfl, rfl, g464, _, _, rfl, rfl, _, rfl, _, rfl, _, _, rfl, rfl, rfl, rfl, G441, _, _, _, _, _, _, v450, _, _, rfl, S453.sG, (S453.gno (all_cons (.head _) (all_cons (.tail _ (.head _)) (all_cons (.tail _ (.tail _ (.head _))) (all_cons (.tail _ (.tail _ (.tail _ (.head _)))) all_nil))))), h454, h455, h456, h457, ne_writer_0, ne_writer_1, cW_callN hw (fun v465 hw H466 x467 h469 h470 h471 h472  => ?_) trivial⟩
        have S468 := S453.mut x467 (all_cons (.head _) (all_cons (.tail _ (.head _)) (all_cons (.tail _ (.tail _ (.head _))) (all_cons (.tail _ (.tail _ (.tail _ (.head _)))) all_nil)))) (all_cons (some_ne h469) (all_cons (some_ne h470) (all_cons (some_ne h471) (all_cons (some_ne h472) all_nil))))
        have hw := cW_ok hw
        have hw := hK446 _ hw
        exact ⟨(v465), _, _, rfl, eG442, S468, h469, h470, h471, h472, hw⟩
      · have hw := cW_pos c463 hw
        have hw := cW_ok hw
        have hw := hK446 _ hw
        exact ⟨(v450), _, _, rfl, eG442, S453, h454, h455, h456, h457, hw⟩
    · intro σ H477 hw
      obtain ⟨writer_433, u434, G483, rfl, eG484, S478, h479, h480, h481, h482, hw⟩ := hw
      have hw := hK432 _ (cW_forS0 (rng_len _ _).symm hw)
      have hw : cW (F__put_places_r1  (writer_433)) _ EE := hw
      unfold F__put_places_r1 at hw
      have hw := cW_ok hw
      exact hK0 _ hw _ S478.base h479 h480 h481 h482

abbrev N__base_after : List Str := ["base", "worth"]
theorem sc__base_after : FnScope N__base_after ["base", "worth"] (defScope s__base_after) := ⟨rfl, rfl, rfl, by decide +kernel, rfl, by decide +kernel, by decide +kernel⟩
theorem ok__base_after (D : DefX K mg "_base_after" s__base_after ["base", "worth"] pats__base_after) (T : Txt K mg AD)  : CalX P w K mg base 1 "_base_after" (sp__base_after K AD) pats__base_after := by
  refine D.ok sc__base_after (fun vs H Q E h => ?_) (fun f cdv A_ outer s H vs Q E hr h => ?_)
  · obtain ⟨G, base', worth', rfl, _⟩ := h
    rfl
  · obtain ⟨G, base', worth', rfl, sG, hw⟩ := h
    refine ⟨_, (pss_one (ps_ret (pe_ifExp (pt_cmp (pc_gt (pv 1) pe_int)) (pe_op op_add (C8.pe_gc rfl T.g_LEVEL) (C8.pe_gc rfl T.g_VALUE_CONTEXTS)) (pv 0)))), ?_⟩
    obtain ⟨KK, EE, hK0, hE, hw⟩ := cW_gen hw
    have S0 := Sep.startG sG
    unfold F__base_after at hw
    refine vv_if (p := 1 < worth') (ta := (tOp (rI0 fun i j => V.int (i + j)) (tC (V.int 192)) (tC (V.int 16)))) (tb := (tVar 0)) (t := tB (tGt (tVar 1) (tC (V.int 1)))) (a := (192 + 16)) (b := base') ?hx486 ?hy487 ?hz488 _ ?_
    case hx486 => exact vt_cmp (vv_cmp (val_var rfl) val_c (fun Q q => ⟨_, _, rfl, rfl, q⟩))
    case hy487 => exact (val_op val_c val_c (fun Q q => ⟨_, _, rfl, rfl, q⟩))
    case hz488 => exact (val_var rfl)
    have hw := cW_ok hw
    exact hK0 _ hw

abbrev N__check_unary : List Str := ["base", "most"]
theorem sc__check_unary : FnScope N__check_unary ["base", "most"] (defScope s__check_unary) := ⟨rfl, rfl, rfl, by decide +kernel, rfl, by decide +kernel, by decide +kernel⟩
theorem ok__check_unary (D : DefX K mg "_check_unary" s__check_unary ["base", "most"] pats__check_unary) (T : Txt K mg AD) (c__check_contexts : CalX P w K mg base 1 "_check_contexts" (sp__check_contexts K AD) pats__check_contexts) : CalX P w K mg base 2 "_check_unary" (sp__check_unary K AD) pats__check_unary := by
  refine D.ok sc__check_unary (fun vs H Q E h => ?_) (fun f cdv A_ outer s H vs Q E hr h => ?_)
  · obtain ⟨G, base', most', rfl, _⟩ := h
    rfl
  · obtain ⟨G, base', most', rfl, sG, hw⟩ := h
    refine ⟨_, (pss_cons (ps_if (pt_not (pt_chain op_le op_le pe_int (pv 1) (C8.pe_gc rfl T.g_GREATEST_UNARY))) (pss_one (ps_raise rfl (takes_of rfl rfl rfl rfl) (pmk_own PySem.F.excBase_ValueError T.xx_OutOfRange T.xg_OutOfRange T.xk_OutOfRange (raises_own T.xb_OutOfRange T.xt_OutOfRange) rfl))) pss_nil)
      (pss_one (ps_expr (vx_callX c__check_contexts pat__check_contexts_0 (.head _) hr (by decide) (takes_of rfl rfl rfl rfl) rfl (pa_cons (pv 0) (pa_cons (pe_callB (call_min2 rfl) (by rfl) T.b_min (by decide +kernel) (pa_cons (pv 1) (pa_cons (C8.pe_gc rfl T.g_SHARED) pa_nil))) pa_nil)) pk_nil)))), ?_⟩
    obtain ⟨KK, EE, hK0, hE, hw⟩ := cW_gen hw
    have S0 := Sep.startG sG
    unfold F__check_unary at hw
    refine ⟨_, rfl, _, _, rfl, rfl, _, rfl, ?_⟩
    refine iteD (fun c489 => ?_) (fun c489 => ?_)
    · have hw := cW_pos c489 hw
      refine ⟨_, _, rfl, rfl, _, rfl, ?_⟩
      refine iteN (fun c490 => ?_) (fun c490 => ?_)
      · have hw := cW_neg c490 hw
        exact hE 1 (cW_er hw)
      · have hw := cW_pos c490 hw
        refine ⟨_, rfl, _, rfl, _, _, rfl, rfl, rfl, G, _, _, rfl, S0.sG, cW_call hw (fun v491 hw => ?_) (fun e he => hE e he)⟩
        have hw := cW_ok hw
        exact hK0 _ hw
    · have hw := cW_neg c489 hw
      refine ⟨_, rfl, ?_⟩
      refine iteT ?_
      exact hE 1 (cW_er hw)

abbrev N_SymbolWriter_unary : List Str := ["self", "base", "value", "most", "index"]
theorem sc_SymbolWriter_unary : FnScope N_SymbolWriter_unary ["self", "base", "value", "most"] (defScope s_SymbolWriter_unary) := ⟨rfl, rfl, rfl, by decide +kernel, rfl, by decide +kernel, by decide +kernel⟩
theorem ok_SymbolWriter_unary (D : MethX K AD.c_SymbolWriter "SymbolWriter.unary" "unary" s_SymbolWriter_unary ["self", "base", "value", "most"] pats_SymbolWriter_unary) (T : Txt K mg AD) (c__check_unary : CalX P w K mg base 2 "_check_unary" (sp__check_unary K AD) pats__check_unary) (c_Encoder_code : MetX P w K mg base 3 AD.c_Encoder "code" (sp_Encoder_code K AD) pats_Encoder_code) : MetX P w K mg base 4 AD.c_SymbolWriter "unary" (sp_SymbolWriter_unary K AD) pats_SymbolWriter_unary := by
  refine D.ok T.cl_SymbolWriter sc_SymbolWriter_unary (fun vs H Q E h => ?_) (fun f cdv A_ outer s H vs Q E hr h => ?_)
  · obtain ⟨G, p_self, p_self_enc, l_self_enc_probs, l_self_enc_front, dx_self, dx_self_enc, self', base', value', most', rfl, _⟩ := h
    rfl
  · obtain ⟨G, p_self, p_self_enc, l_self_enc_probs, l_self_enc_front, dx_self, dx_self_enc, self', base', value', most', rfl, sG, gM, h_p_self, h_p_self_enc, h_l_self_enc_probs, h_l_self_enc_front, ne_self_0, ne_self_1, hw⟩ := h
    refine ⟨_, (pss_cons (ps_expr (vx_callX c__check_unary pat__check_unary_0 (.head _) hr (by decide) (takes_of rfl rfl rfl rfl) rfl (pa_cons (pv 1) (pa_cons (pv 3) pa_nil)) pk_nil))
      (pss_cons (ps_if (pt_not (pt_chain op_le op_le pe_int (pv 2) (pv 3))) (pss_one (ps_raise rfl (takes_of rfl rfl rfl rfl) (pmk_own PySem.F.excBase_ValueError T.xx_OutOfRange T.xg_OutOfRange T.xk_OutOfRange (raises_own T.xb_OutOfRange T.xt_OutOfRange) rfl))) pss_nil)
      (pss_cons (ps_for (passes_of rfl) rfl (pi_range1 rfl T.b_range (pa_cons (pv 2) pa_nil)) (pg_name (i := 4) sc_SymbolWriter_unary.nd rfl (Or.inl rfl)) (pss_one (ps_expr (vx_methX c_Encoder_code pat_Encoder_code_0 (.head _) hr (by decide) (takes_of rfl rfl rfl rfl) (fldK (K := K) (pv 0)) (pa_cons (pe_op op_add (pv 1) (pe_callB (call_min2 rfl) (by rfl) T.b_min (by decide +kernel) (pa_cons (pv 4) (pa_cons (pe_op op_sub (C8.pe_gc rfl T.g_SHARED) pe_int) pa_nil)))) (pa_cons pe_int pa_nil)) pk_nil))))
      (pss_one (ps_if (pt_cmp (pc_lt (pv 2) (pv 3))) (pss_one (ps_expr (vx_methX c_Encoder_code pat_Encoder_code_0 (.head _) hr (by decide) (takes_of rfl rfl rfl rfl) (fldK (K := K) (pv 0)) (pa_cons (pe_op op_add (pv 1) (pe_callB (call_min2 rfl) (by rfl) T.b_min (by decide +kernel) (pa_cons (pv 2) (pa_cons (pe_op op_sub (C8.pe_gc rfl T.g_SHARED) pe_int) pa_nil)))) (pa_cons pe_int pa_nil)) pk_nil))) pss_nil))))), ?_⟩
    obtain ⟨KK, EE, hK0, hE, hw⟩ := cW_gen hw
    have S0 := Sep.startM (M := [p_self, p_self_enc, l_self_enc_probs, l_self_enc_front]) sG (all_cons (some_ne h_p_self) (all_cons (some_ne h_p_self_enc) (all_cons (some_ne h_l_self_enc_probs) (all_cons (some_ne h_l_self_enc_front) all_nil)))) gM
    unfold F_SymbolWriter_unary at hw
    refine ⟨_, rfl, _, rfl, rfl, rfl, G, _, _, rfl, S0.sG, cW_call hw (fun v492 hw => ?_) (fun e he => hE e he _ (Same.refl _))⟩
    refine ⟨_, rfl, _, _, rfl, rfl, _, rfl, ?_⟩
    refine iteD (fun c493 => ?_) (fun c493 => ?_)
    · have hw := cW_pos c493 hw
      refine ⟨_, rfl, _, _, rfl, rfl, _, rfl, ?_⟩
      refine iteN (fun c494 => ?_) (fun c494 => ?_)
      · have hw := cW_neg c494 hw
        exact hE 1 (cW_er hw) _ (Same.refl _)
      · have hw := cW_pos c494 hw
        obtain ⟨g495, hw⟩ := cW_grd hw
        obtain ⟨K500, hK501, hw⟩ := cW_push hw
        refine ⟨_, rfl, _, rfl, g495.1, g495.2, for_range (lo := 0) (n := Int.toNat (value')) (fun i σ H' => ∃ (self_502 : St_SymbolWriter) (u503 : Option V) (G' : Hp), σ = [some (V.ref p_self), some (V.int (base')), some (V.int (value')), some (V.int (most')), u503] ∧ Same G G' ∧ Sep [p_self, p_self_enc, l_self_enc_probs, l_self_enc_front] H G G' H' [p_self, p_self_enc, l_self_enc_probs, l_self_enc_front] ∧ H' p_self = some (.ins AD.c_SymbolWriter dx_self [("_encoder", V.ref p_self_enc)]) ∧ H' p_self_enc = some (.ins AD.c_Encoder dx_self_enc [("_probabilities", V.ref l_self_enc_probs), ("_front", V.ref l_self_enc_front), ("_low", V.int (self_502.enc.low)), ("_span", V.int (self_502.enc.span))]) ∧ H' l_self_enc_probs = some (.lst ((self_502.enc.probs : (List Int)).map V.int)) ∧ H' l_self_enc_front = some (.lst ((self_502.enc.front : (List Int)).map V.int)) ∧ cW (forS (List.drop i (rng (0) (Int.toNat (value')))) self_502 (fun s x => F_SymbolWriter_unary_b1 (base') s x)) K500 EE) ?_ ?_ ?_⟩
        · exact ⟨(self'), _, _, rfl, (Same.refl _), S0, h_p_self, h_p_self_enc, h_l_self_enc_probs, h_l_self_enc_front, hw⟩
        · intro i σ H504 hi hw
          obtain ⟨self_502, u503, G510, rfl, eG511, S505, h506, h507, h508, h509, hw⟩ := hw
          have hw := cW_forS (rng_get hi) hw
          generalize (0 + (i : Int)) = x512 at hw ⊢
          have hw : cW (F_SymbolWriter_unary_b1 (base') (self_502) (x512)) _ EE := hw
          unfold F_SymbolWriter_unary_b1 at hw
          obtain ⟨K514, hK515, hw⟩ := cW_name hw
          refine ⟨_, rfl, _, _, _, _, _, rfl, h506, T.cl_SymbolWriter, T.n_SymbolWriter__encoder, rfl, _, _, _, rfl, h507, rfl, _, rfl, _, rfl, _, _, rfl, rfl, _, _, rfl, _, _, rfl, rfl, rfl, rfl, G510, _, _, _, _, self_502.enc, _, _, rfl, S505.sG, (S505.gno (all_cons (.tail _ (.head _)) (all_cons (.tail _ (.tail _ (.head _))) (all_cons (.tail _ (.tail _ (.tail _ (.head _)))) all_nil)))), h507, h508, h509, ne_self_0, cW_callN hw (fun v517 hw H518 x519 h521 h522 h523  => ?_) trivial⟩
          have S520 := S505.mut x519 (all_cons (.tail _ (.head _)) (all_cons (.tail _ (.tail _ (.head _))) (all_cons (.tail _ (.tail _ (.tail _ (.head _)))) all_nil))) (all_cons (some_ne h521) (all_cons (some_ne h522) (all_cons (some_ne h523) all_nil)))
          have hw := cW_ok hw
          have hw := hK515 _ hw
          have h528 := (x519 _ _ h506 (ni3 ne_self_1 (ne_of h506 h508 (fun z => nomatch z)) (ne_of h506 h509 (fun z => nomatch z))))
          exact ⟨((⟨v517⟩ : St_SymbolWriter)), _, _, rfl, eG511, S520, h528, h521, h522, h523, hw⟩
        · intro σ H529 hw
          obtain ⟨self_502, u503, G535, rfl, eG536, S530, h531, h532, h533, h534, hw⟩ := hw
          have hw := hK501 _ (cW_forS0 (rng_len _ _).symm hw)
          have hw : cW (F_SymbolWriter_unary_r1 (base') (value') (most') (self_502)) _ EE := hw
          unfold F_SymbolWriter_unary_r1 at hw
          refine ⟨_, rfl, _, rfl, _, _, rfl, rfl, _, rfl, ?_⟩
          refine iteD (fun c538 => ?_) (fun c538 => ?_)
          · have hw := cW_pos c538 hw
            refine ⟨_, rfl, _, _, _, _, _, rfl, h531, T.cl_SymbolWriter, T.n_SymbolWriter__encoder, rfl, _, _, _, rfl, h532, rfl, _, rfl, _, rfl, _, _, rfl, rfl, _, _, rfl, _, _, rfl, rfl, rfl, rfl, G535, _, _, _, _, self_502.enc, _, _, rfl, S530.sG, (S530.gno (all_cons (.tail _ (.head _)) (all_cons (.tail _ (.tail _ (.head _))) (all_cons (.tail _ (.tail _ (.tail _ (.head _)))) all_nil)))), h532, h533, h534, ne_self_0, cW_callN hw (fun v539 hw H540 x541 h543 h544 h545  => ?_) trivial⟩
            have S542 := S530.mut x541 (all_cons (.tail _ (.head _)) (all_cons (.tail _ (.tail _ (.head _))) (all_cons (.tail _ (.tail _ (.tail _ (.head _)))) all_nil))) (all_cons (some_ne h543) (all_cons (some_ne h544) (all_cons (some_ne h545) all_nil)))
            have h550 := (x541 _ _ h531 (ni3 ne_self_1 (ne_of h531 h533 (fun z => nomatch z)) (ne_of h531 h534 (fun z => nomatch z))))
            have hw := cW_ok hw
            exact hK0 _ hw _ S542.base h550 h543 h544 h545
          · have hw := cW_neg c538 hw
            have hw := cW_ok hw
            exact hK0 _ hw _ S530.base h531 h532 h533 h534
    · have hw := cW_neg c493 hw
      refine ⟨_, rfl, ?_⟩
      refine iteT ?_
      exact hE 1 (cW_er hw) _ (Same.refl _)

abbrev N_SymbolReader_unary : List Str := ["self", "base", "most", "value"]
theorem sc_SymbolReader_unary : FnScope N_SymbolReader_unary ["self", "base", "most"] (defScope s_SymbolReader_unary) := ⟨rfl, rfl, rfl, by decide +kernel, rfl, by decide +kernel, by decide +kernel⟩
theorem ok_SymbolReader_unary (D : MethX K AD.c_SymbolReader "SymbolReader.unary" "unary" s_SymbolReader_unary ["self", "base", "most"] pats_SymbolReader_unary) (T : Txt K mg AD) (c__check_unary : CalX P w K mg base 2 "_check_unary" (sp__check_unary K AD) pats__check_unary) (c_Decoder_read : MetX P w K mg base 3 AD.c_Decoder "read" (sp_Decoder_read K AD) pats_Decoder_read) : MetX P w K mg base 4 AD.c_SymbolReader "unary" (sp_SymbolReader_unary K AD) pats_SymbolReader_unary := by
  refine D.ok T.cl_SymbolReader sc_SymbolReader_unary (fun vs H Q E h => ?_) (fun f cdv A_ outer s H vs Q E hr h => ?_)
  · obtain ⟨G, p_self, p_self_dec, l_self_dec_probs, l_self_dec_octs, dx_self, dx_self_dec, self', base', most', rfl, _⟩ := h
    rfl
  · obtain ⟨G, p_self, p_self_dec, l_self_dec_probs, l_self_dec_octs, dx_self, dx_self_dec, self', base', most', rfl, sG, gM, h_p_self, h_p_self_dec, h_l_self_dec_probs, h_l_self_dec_octs, ne_self_0, ne_self_1, hw⟩ := h
    refine ⟨_, (pss_cons (ps_expr (vx_callX c__check_unary pat__check_unary_0 (.head _) hr (by decide) (takes_of rfl rfl rfl rfl) rfl (pa_cons (pv 1) (pa_cons (pv 2) pa_nil)) pk_nil))
      (pss_cons (ps_set (i := 3) sc_SymbolReader_unary.nd rfl (Or.inl rfl) pe_int)
      (pss_cons (ps_while (passes_of rfl) (PW.pt (pw_and (pt_cmp (pc_lt (pv 3) (pv 2))) (pw_and1 (pt_cmp (pc_eqI (vx_methX c_Decoder_read pat_Decoder_read_0 (.head _) hr (by decide) (takes_of rfl rfl rfl rfl) (fldK (K := K) (pv 0)) (pa_cons (pe_op op_add (pv 1) (pe_callB (call_min2 rfl) (by rfl) T.b_min (by decide +kernel) (pa_cons (pv 3) (pa_cons (pe_op op_sub (C8.pe_gc rfl T.g_SHARED) pe_int) pa_nil)))) pa_nil) pk_nil) pe_int))))) (pss_one (ps_aug (i := 3) sc_SymbolReader_unary.nd rfl (Or.inl rfl) pe_int (pip iop_add))))
      (pss_one (ps_ret (pv 3)))))), ?_⟩
    obtain ⟨KK, EE, hK0, hE, hw⟩ := cW_gen hw
    have S0 := Sep.startM (M := [p_self, p_self_dec, l_self_dec_probs, l_self_dec_octs]) sG (all_cons (some_ne h_p_self) (all_cons (some_ne h_p_self_dec) (all_cons (some_ne h_l_self_dec_probs) (all_cons (some_ne h_l_self_dec_octs) all_nil)))) gM
    unfold F_SymbolReader_unary at hw
    refine ⟨_, rfl, _, rfl, rfl, rfl, G, _, _, rfl, S0.sG, cW_call hw (fun v551 hw => ?_) (fun e he => hE e he _ (Same.refl _))⟩
    obtain ⟨K554, hK555, hw⟩ := cW_push hw
    refine ⟨fun m σ H' => ∃ (self_556 : St_SymbolReader) (value_557 : Int) (G' : Hp), σ = [some (V.ref p_self), some (V.int (base')), some (V.int (most')), some (V.int value_557)] ∧ Same G G' ∧ Sep [p_self, p_self_dec, l_self_dec_probs, l_self_dec_octs] H G G' H' [p_self, p_self_dec, l_self_dec_probs, l_self_dec_octs] ∧ H' p_self = some (.ins AD.c_SymbolReader dx_self [("_decoder", V.ref p_self_dec)]) ∧ H' p_self_dec = some (.ins AD.c_Decoder dx_self_dec [("_probabilities", V.ref l_self_dec_probs), ("_octets", V.ref l_self_dec_octs), ("_place", V.int (self_556.dec.place)), ("_span", V.int (self_556.dec.span)), ("_value", V.int (self_556.dec.value))]) ∧ H' l_self_dec_probs = some (.lst ((self_556.dec.probs : (List Int)).map V.int)) ∧ H' l_self_dec_octs = some (.lst ((self_556.dec.octs : (List Int)).map V.int)) ∧ cW (whileR m (self_556, value_557) (fun s => F_SymbolReader_unary_b1 (base') (most') (s.1) (s.2))) K554 EE, ?_, ?_⟩
    · exact ⟨_, ⟨(self'), (0), _, rfl, (Same.refl _), S0, h_p_self, h_p_self_dec, h_l_self_dec_probs, h_l_self_dec_octs, hw⟩⟩
    · intro m σ H558 hw
      obtain ⟨self_556, value_557, G564, rfl, eG565, S559, h560, h561, h562, h563, hw⟩ := hw
      obtain ⟨m566, rfl, hw2⟩ := cW_whileR hw
      have hw := hw2
      have hw : cW (F_SymbolReader_unary_b1 (base') (most') (self_556) (value_557)) _ EE := hw
      unfold F_SymbolReader_unary_b1 at hw
      obtain ⟨K569, hK570, hw⟩ := cW_name hw
      refine ⟨_, rfl, _, rfl, _, _, rfl, rfl, _, rfl, ?_⟩
      refine iteD (fun c571 => ?_) (fun c571 => ?_)
      · have hw := cW_pos c571 hw
        refine ⟨_, rfl, _, _, _, _, _, rfl, h560, T.cl_SymbolReader, T.n_SymbolReader__decoder, rfl, _, _, _, rfl, h561, rfl, _, rfl, _, rfl, _, _, rfl, rfl, _, _, rfl, _, _, rfl, rfl, rfl, rfl, G564, _, _, _, _, self_556.dec, _, rfl, S559.sG, (S559.gno (all_cons (.tail _ (.head _)) (all_cons (.tail _ (.tail _ (.head _))) (all_cons (.tail _ (.tail _ (.tail _ (.head _)))) all_nil)))), h561, h562, h563, ne_self_0, cW_callN hw (fun v572 hw H573 x574 h576 h577 h578  => ?_) trivial⟩
        have S575 := S559.mut x574 (all_cons (.tail _ (.head _)) (all_cons (.tail _ (.tail _ (.head _))) (all_cons (.tail _ (.tail _ (.tail _ (.head _)))) all_nil))) (all_cons (some_ne h576) (all_cons (some_ne h577) (all_cons (some_ne h578) all_nil)))
        refine ⟨_, _, rfl, rfl, _, rfl, ?_⟩
        refine iteD (fun c583 => ?_) (fun c583 => ?_)
        · have hw := cW_pos c583 hw
          refine ⟨(fun σ H' => ∃ m, (∃ (self_556 : St_SymbolReader) (value_557 : Int) (G' : Hp), σ = [some (V.ref p_self), some (V.int (base')), some (V.int (most')), some (V.int value_557)] ∧ Same G G' ∧ Sep [p_self, p_self_dec, l_self_dec_probs, l_self_dec_octs] H G G' H' [p_self, p_self_dec, l_self_dec_probs, l_self_dec_octs] ∧ H' p_self = some (.ins AD.c_SymbolReader dx_self [("_decoder", V.ref p_self_dec)]) ∧ H' p_self_dec = some (.ins AD.c_Decoder dx_self_dec [("_probabilities", V.ref l_self_dec_probs), ("_octets", V.ref l_self_dec_octs), ("_place", V.int (self_556.dec.place)), ("_span", V.int (self_556.dec.span)), ("_value", V.int (self_556.dec.value))]) ∧ H' l_self_dec_probs = some (.lst ((self_556.dec.probs : (List Int)).map V.int)) ∧ H' l_self_dec_octs = some (.lst ((self_556.dec.octs : (List Int)).map V.int)) ∧ cW (whileR m (self_556, value_557) (fun s => F_SymbolReader_unary_b1 (base') (most') (s.1) (s.2))) K554 EE) ∧ m < m566 + 1), (fun _ _ ⟨m', a, b⟩ => ⟨m', b, a⟩), ?_⟩
          refine ⟨_, rfl, _, _, rfl, rfl, ?_⟩
          have hw := cW_bnd hw
          have hw := cW_ok hw
          have hw := hK570 _ hw
          have h585 := (x574 _ _ h560 (ni3 ne_self_1 (ne_of h560 h562 (fun z => nomatch z)) (ne_of h560 h563 (fun z => nomatch z))))
          exact ⟨m566, ⟨((⟨v572.2⟩ : St_SymbolReader)), ((value_557 + 1)), _, rfl, eG565, S575, h585, h576, h577, h578, hw⟩, Nat.lt_succ_self _⟩
        · have hw := cW_neg c583 hw
          have hw := cW_ok hw
          have hw := hK570 _ hw
          have hw := cW_aftgo (hK555 (.go _) hw)
          have hw : cW (F_SymbolReader_unary_r1  ((⟨v572.2⟩ : St_SymbolReader)) (value_557)) _ EE := hw
          unfold F_SymbolReader_unary_r1 at hw
          refine ⟨_, rfl, ?_⟩
          have h588 := (x574 _ _ h560 (ni3 ne_self_1 (ne_of h560 h562 (fun z => nomatch z)) (ne_of h560 h563 (fun z => nomatch z))))
          have hw := cW_ok hw
          exact hK0 _ hw _ S575.base h588 h576 h577 h578
      · have hw := cW_neg c571 hw
        refine iteF ?_
        have hw := cW_ok hw
        have hw := hK570 _ hw
        have hw := cW_aftgo (hK555 (.go _) hw)
        have hw : cW (F_SymbolReader_unary_r1  (self_556) (value_557)) _ EE := hw
        unfold F_SymbolReader_unary_r1 at hw
        refine ⟨_, rfl, ?_⟩
        have hw := cW_ok hw
        exact hK0 _ hw _ S559.base h560 h561 h562 h563

abbrev N__digit_context : List Str := ["base", "digits"]
theorem sc__digit_context : FnScope N__digit_context ["base", "digits"] (defScope s__digit_context) := ⟨rfl, rfl, rfl, by decide +kernel, rfl, by decide +kernel, by decide +kernel⟩
theorem ok__digit_context (D : DefX K mg "_digit_context" s__digit_context ["base", "digits"] pats__digit_context) (T : Txt K mg AD)  : CalX P w K mg base 1 "_digit_context" (sp__digit_context K AD) pats__digit_context := by
  refine D.ok sc__digit_context (fun vs H Q E h => ?_) (fun f cdv A_ outer s H vs Q E hr h => ?_)
  · obtain ⟨G, base', digits', rfl, _⟩ := h
    rfl
  · obtain ⟨G, base', digits', rfl, sG, hw⟩ := h
    refine ⟨_, (pss_one (ps_ret (pe_op op_add (pe_op op_add (pv 0) (C8.pe_gc rfl T.g_SHARED)) (pe_callB (call_min2 rfl) (by rfl) T.b_min (by decide +kernel) (pa_cons (pe_op op_sub (pv 1) pe_int) (pa_cons (pe_op op_sub (C8.pe_gc rfl T.g_SHARED) pe_int) pa_nil)))))), ?_⟩
    obtain ⟨KK, EE, hK0, hE, hw⟩ := cW_gen hw
    have S0 := Sep.startG sG
    unfold F__digit_context at hw
    refine ⟨_, rfl, _, _, rfl, rfl, _, rfl, _, _, rfl, rfl, _, _, rfl, rfl, _, _, rfl, _, _, rfl, rfl, ?_⟩
    have hw := cW_ok hw
    exact hK0 _ hw

abbrev N_Encoder_code_even : List Str := ["self", "decision"]
theorem sc_Encoder_code_even : FnScope N_Encoder_code_even ["self", "decision"] (defScope s_Encoder_code_even) := ⟨rfl, rfl, rfl, by decide +kernel, rfl, by decide +kernel, by decide +kernel⟩
theorem ok_Encoder_code_even (D : MethX K AD.c_Encoder "Encoder.code_even" "code_even" s_Encoder_code_even ["self", "decision"] pats_Encoder_code_even) (T : Txt K mg AD) (c__check_decision : CalX P w K mg base 1 "_check_decision" (sp__check_decision K AD) pats__check_decision) (c_Encoder__narrow : MetX P w K mg base 2 AD.c_Encoder "_narrow" (sp_Encoder__narrow K AD) pats_Encoder__narrow) : MetX P w K mg base 3 AD.c_Encoder "code_even" (sp_Encoder_code_even K AD) pats_Encoder_code_even := by
  refine D.ok T.cl_Encoder sc_Encoder_code_even (fun vs H Q E h => ?_) (fun f cdv A_ outer s H vs Q E hr h => ?_)
  · obtain ⟨G, p_self, l_self_probs, l_self_front, dx_self, self', decision', rfl, _⟩ := h
    rfl
  · obtain ⟨G, p_self, l_self_probs, l_self_front, dx_self, self', decision', rfl, sG, gM, h_p_self, h_l_self_probs, h_l_self_front, ne_self_0, hw⟩ := h
    refine ⟨_, (pss_cons (ps_expr (vx_callX c__check_decision pat__check_decision_0 (.head _) hr (by decide) (takes_of rfl rfl rfl rfl) rfl (pa_cons (pv 1) pa_nil) pk_nil))
      (pss_one (ps_expr (vx_methX c_Encoder__narrow pat_Encoder__narrow_0 (.head _) hr (by decide) (takes_of rfl rfl rfl rfl) (pv 0) (pa_cons (C8.pe_gc rfl T.g_EVEN) (pa_cons (pv 1) pa_nil)) pk_nil)))), ?_⟩
    obtain ⟨KK, EE, hK0, hE, hw⟩ := cW_gen hw
    have S0 := Sep.startM (M := [p_self, l_self_probs, l_self_front]) sG (all_cons (some_ne h_p_self) (all_cons (some_ne h_l_self_probs) (all_cons (some_ne h_l_self_front) all_nil))) gM
    unfold F_Encoder_code_even at hw
    refine ⟨_, rfl, rfl, rfl, G, _, rfl, S0.sG, cW_call hw (fun v591 hw => ?_) (fun e he => hE e he _ (Same.refl _))⟩
    refine ⟨_, rfl, _, _, _, rfl, h_p_self, rfl, _, rfl, rfl, rfl, G, _, _, _, _, self', _, _, rfl, S0.sG, (S0.gno (all_cons (.head _) (all_cons (.tail _ (.head _)) (all_cons (.tail _ (.tail _ (.head _))) all_nil)))), h_p_self, h_l_self_probs, h_l_self_front, ne_self_0, cW_call hw (fun v592 hw H593 x594 h596 h597 h598  => ?_) (fun e he H2 e2 => hE e he H2 (Same.trans (Same.refl _) e2))⟩
    have S595 := S0.mut x594 (all_cons (.head _) (all_cons (.tail _ (.head _)) (all_cons (.tail _ (.tail _ (.head _))) all_nil))) (all_cons (some_ne h596) (all_cons (some_ne h597) (all_cons (some_ne h598) all_nil)))
    have hw := cW_ok hw
    exact hK0 _ hw _ S595.base h596 h597 h598

abbrev N_SymbolWriter_number : List Str := ["self", "base", "value", "digits", "shift", "digit"]
theorem sc_SymbolWriter_number : FnScope N_SymbolWriter_number ["self", "base", "value"] (defScope s_SymbolWriter_number) := ⟨rfl, rfl, rfl, by decide +kernel, rfl, by decide +kernel, by decide +kernel⟩
theorem ok_SymbolWriter_number (D : MethX K AD.c_SymbolWriter "SymbolWriter.number" "number" s_SymbolWriter_number ["self", "base", "value"] pats_SymbolWriter_number) (T : Txt K mg AD) (c__check_contexts : CalX P w K mg base 1 "_check_contexts" (sp__check_contexts K AD) pats__check_contexts) (c_SymbolWriter_unary : MetX P w K mg base 4 AD.c_SymbolWriter "unary" (sp_SymbolWriter_unary K AD) pats_SymbolWriter_unary) (c_Encoder_code : MetX P w K mg base 3 AD.c_Encoder "code" (sp_Encoder_code K AD) pats_Encoder_code) (c__digit_context : CalX P w K mg base 1 "_digit_context" (sp__digit_context K AD) pats__digit_context) (c_Encoder_code_even : MetX P w K mg base 3 AD.c_Encoder "code_even" (sp_Encoder_code_even K AD) pats_Encoder_code_even) : MetX P w K mg base 5 AD.c_SymbolWriter "number" (sp_SymbolWriter_number K AD) pats_SymbolWriter_number := by
  refine D.ok T.cl_SymbolWriter sc_SymbolWriter_number (fun vs H Q E h => ?_) (fun f cdv A_ outer s H vs Q E hr h => ?_)
  · obtain ⟨G, p_self, p_self_enc, l_self_enc_probs, l_self_enc_front, dx_self, dx_self_enc, self', base', value', rfl, _⟩ := h
    rfl
  · obtain ⟨G, p_self, p_self_enc, l_self_enc_probs, l_self_enc_front, dx_self, dx_self_enc, self', base', value', rfl, sG, gM, h_p_self, h_p_self_enc, h_l_self_enc_probs, h_l_self_enc_front, ne_self_0, ne_self_1, hw⟩ := h
    refine ⟨_, (pss_cons (ps_expr (vx_callX c__check_contexts pat__check_contexts_0 (.head _) hr (by decide) (takes_of rfl rfl rfl rfl) rfl (pa_cons (pv 1) (pa_cons (pe_op op_mul pe_int (C8.pe_gc rfl T.g_SHARED)) pa_nil)) pk_nil))
      (pss_cons (ps_if (pt_not (pt_chain op_le op_le pe_int (pv 2) (C8.pe_gc rfl T.g_GREATEST_NUMBER))) (pss_one (ps_raise rfl (takes_of rfl rfl rfl rfl) (pmk_own PySem.F.excBase_ValueError T.xx_OutOfRange T.xg_OutOfRange T.xk_OutOfRange (raises_own T.xb_OutOfRange T.xt_OutOfRange) rfl))) pss_nil)
      (pss_cons (ps_set (i := 3) sc_SymbolWriter_number.nd rfl (Or.inl rfl) (pe_op op_sub (pe_bits (pe_op op_add (pv 2) pe_int)) pe_int))
      (pss_cons (ps_expr (vx_methX c_SymbolWriter_unary pat_SymbolWriter_unary_0 (.head _) hr (by decide) (takes_of rfl rfl rfl rfl) (pv 0) (pa_cons (pv 1) (pa_cons (pv 3) pa_nil)) (pk_cons (C8.pe_gc rfl T.g_MOST_DIGITS) pk_nil)))
      (pss_one (ps_for (passes_of rfl) rfl (pi_range3 rfl T.b_range (pa_cons (pe_op op_sub (pv 3) pe_int) (pa_cons (pe_un un_neg pe_int) (pa_cons (pe_un un_neg pe_int) pa_nil)))) (pg_name (i := 4) sc_SymbolWriter_number.nd rfl (Or.inl rfl)) (pss_cons (ps_set (i := 5) sc_SymbolWriter_number.nd rfl (Or.inl rfl) (pe_op op_and (pe_op op_shr (pe_op op_add (pv 2) pe_int) (pv 4)) pe_int))
      (pss_one (ps_if (pt_cmp (pc_eqI (pv 4) (pe_op op_sub (pv 3) pe_int))) (pss_one (ps_expr (vx_methX c_Encoder_code pat_Encoder_code_0 (.head _) hr (by decide) (takes_of rfl rfl rfl rfl) (fldK (K := K) (pv 0)) (pa_cons (vx_callX c__digit_context pat__digit_context_0 (.head _) hr (by decide) (takes_of rfl rfl rfl rfl) rfl (pa_cons (pv 1) (pa_cons (pv 3) pa_nil)) pk_nil) (pa_cons (pv 5) pa_nil)) pk_nil))) (pss_one (ps_expr (vx_methX c_Encoder_code_even pat_Encoder_code_even_0 (.head _) hr (by decide) (takes_of rfl rfl rfl rfl) (fldK (K := K) (pv 0)) (pa_cons (pv 5) pa_nil) pk_nil)))))))))))), ?_⟩
    obtain ⟨KK, EE, hK0, hE, hw⟩ := cW_gen hw
    have S0 := Sep.startM (M := [p_self, p_self_enc, l_self_enc_probs, l_self_enc_front]) sG (all_cons (some_ne h_p_self) (all_cons (some_ne h_p_self_enc) (all_cons (some_ne h_l_self_enc_probs) (all_cons (some_ne h_l_self_enc_front) all_nil)))) gM
    unfold F_SymbolWriter_number at hw
    refine ⟨_, rfl, _, _, rfl, rfl, (.inl ⟨by decide, by decide⟩), rfl, rfl, G, _, _, rfl, S0.sG, cW_call hw (fun v603 hw => ?_) (fun e he => hE e he _ (Same.refl _))⟩
    refine ⟨_, rfl, _, _, rfl, rfl, _, rfl, ?_⟩
    refine iteD (fun c604 => ?_) (fun c604 => ?_)
    · have hw := cW_pos c604 hw
      refine ⟨_, _, rfl, rfl, _, rfl, ?_⟩
      refine iteN (fun c605 => ?_) (fun c605 => ?_)
      · have hw := cW_neg c605 hw
        exact hE 1 (cW_er hw) _ (Same.refl _)
      · have hw := cW_pos c605 hw
        refine ⟨_, rfl, _, _, rfl, rfl, _, rfl, _, _, rfl, rfl, ?_⟩
        have hw := cW_bnd hw
        refine ⟨_, rfl, _, _, _, rfl, h_p_self, rfl, _, rfl, _, rfl, rfl, rfl, G, _, _, _, _, _, _, self', _, _, _, rfl, S0.sG, (S0.gno (all_cons (.head _) (all_cons (.tail _ (.head _)) (all_cons (.tail _ (.tail _ (.head _))) (all_cons (.tail _ (.tail _ (.tail _ (.head _)))) all_nil))))), h_p_self, h_p_self_enc, h_l_self_enc_probs, h_l_self_enc_front, ne_self_0, ne_self_1, cW_call hw (fun v607 hw H608 x609 h611 h612 h613 h614  => ?_) (fun e he H2 e2 => hE e he H2 (Same.trans (Same.refl _) e2))⟩
        have S610 := S0.mut x609 (all_cons (.head _) (all_cons (.tail _ (.head _)) (all_cons (.tail _ (.tail _ (.head _))) (all_cons (.tail _ (.tail _ (.tail _ (.head _)))) all_nil)))) (all_cons (some_ne h611) (all_cons (some_ne h612) (all_cons (some_ne h613) (all_cons (some_ne h614) all_nil))))
        obtain ⟨g619, hw⟩ := cW_grd hw
        obtain ⟨K623, hK624, hw⟩ := cW_push hw
        refine ⟨_, rfl, _, _, rfl, rfl, _, rfl, _, rfl, _, _, _, _, rfl, (RgC.neg g619.1 g619.2.1 g619.2.2.1 g619.2.2.2), for_rangeC (lo := ((((PySem.Builtin.Int.intBits ((value' + 1)) : Nat) : Int) - 1) - 1)) (c := -1) (n := Int.toNat (((((PySem.Builtin.Int.intBits ((value' + 1)) : Nat) : Int) - 1) - 1) - (-1))) (fun i σ H' => ∃ (self_625 : St_SymbolWriter) (u626 : Option V) (u627 : Option V) (G' : Hp), σ = [some (V.ref p_self), some (V.int (base')), some (V.int (value')), some (V.int ((((PySem.Builtin.Int.intBits ((value' + 1)) : Nat) : Int) - 1))), u626, u627] ∧ Same G G' ∧ Sep [p_self, p_self_enc, l_self_enc_probs, l_self_enc_front] H G G' H' [p_self, p_self_enc, l_self_enc_probs, l_self_enc_front] ∧ H' p_self = some (.ins AD.c_SymbolWriter dx_self [("_encoder", V.ref p_self_enc)]) ∧ H' p_self_enc = some (.ins AD.c_Encoder dx_self_enc [("_probabilities", V.ref l_self_enc_probs), ("_front", V.ref l_self_enc_front), ("_low", V.int (self_625.enc.low)), ("_span", V.int (self_625.enc.span))]) ∧ H' l_self_enc_probs = some (.lst ((self_625.enc.probs : (List Int)).map V.int)) ∧ H' l_self_enc_front = some (.lst ((self_625.enc.front : (List Int)).map V.int)) ∧ cW (forS (List.drop i (rngD (((((PySem.Builtin.Int.intBits ((value' + 1)) : Nat) : Int) - 1) - 1)) (Int.toNat (((((PySem.Builtin.Int.intBits ((value' + 1)) : Nat) : Int) - 1) - 1) - (-1))))) self_625 (fun s x => F_SymbolWriter_number_b1 (base') (value') ((((PySem.Builtin.Int.intBits ((value' + 1)) : Nat) : Int) - 1)) s x)) K623 EE) ?_ ?_ ?_⟩
        · exact ⟨(v607), _, _, _, rfl, (Same.refl _), S610, h611, h612, h613, h614, hw⟩
        · intro i σ H628 hi hw
          obtain ⟨self_625, u626, u627, G634, rfl, eG635, S629, h630, h631, h632, h633, hw⟩ := hw
          have hw := cW_forS (rngD_get hi) hw
          generalize (((((PySem.Builtin.Int.intBits ((value' + 1)) : Nat) : Int) - 1) - 1) + ((i : Nat) : Int) * (-1)) = x636 at hw ⊢
          have hw : cW (F_SymbolWriter_number_b1 (base') (value') ((((PySem.Builtin.Int.intBits ((value' + 1)) : Nat) : Int) - 1)) (self_625) (x636)) _ EE := hw
          unfold F_SymbolWriter_number_b1 at hw
          obtain ⟨K638, hK639, hw⟩ := cW_name hw
          obtain ⟨g641, hw⟩ := cW_grd hw
          refine ⟨_, rfl, _, _, rfl, rfl, _, rfl, _, _, rfl, rfl, g641, _, _, rfl, rfl, ?_⟩
          have hw := cW_bnd hw
          refine ⟨_, rfl, _, rfl, _, _, rfl, rfl, _, _, rfl, rfl, _, rfl, ?_⟩
          refine iteD (fun c643 => ?_) (fun c643 => ?_)
          · have hw := cW_pos c643 hw
            refine ⟨_, rfl, _, _, _, _, _, rfl, h630, T.cl_SymbolWriter, T.n_SymbolWriter__encoder, rfl, _, _, _, rfl, h631, rfl, _, rfl, _, rfl, rfl, rfl, G634, _, _, rfl, S629.sG, cW_callN hw (fun v644 hw => ?_) trivial⟩
            refine ⟨_, rfl, rfl, rfl, G634, _, _, _, _, self_625.enc, _, _, rfl, S629.sG, (S629.gno (all_cons (.tail _ (.head _)) (all_cons (.tail _ (.tail _ (.head _))) (all_cons (.tail _ (.tail _ (.tail _ (.head _)))) all_nil)))), h631, h632, h633, ne_self_0, cW_callN hw (fun v645 hw H646 x647 h649 h650 h651  => ?_) trivial⟩
            have S648 := S629.mut x647 (all_cons (.tail _ (.head _)) (all_cons (.tail _ (.tail _ (.head _))) (all_cons (.tail _ (.tail _ (.tail _ (.head _)))) all_nil))) (all_cons (some_ne h649) (all_cons (some_ne h650) (all_cons (some_ne h651) all_nil)))
            have hw := cW_ok hw
            have hw := hK639 _ hw
            have h656 := (x647 _ _ h630 (ni3 ne_self_1 (ne_of h630 h632 (fun z => nomatch z)) (ne_of h630 h633 (fun z => nomatch z))))
            exact ⟨((⟨v645⟩ : St_SymbolWriter)), _, _, _, rfl, eG635, S648, h656, h649, h650, h651, hw⟩
          · have hw := cW_neg c643 hw
            refine ⟨_, rfl, _, _, _, _, _, rfl, h630, T.cl_SymbolWriter, T.n_SymbolWriter__encoder, rfl, _, _, _, rfl, h631, rfl, _, rfl, rfl, rfl, G634, _, _, _, _, self_625.enc, _, rfl, S629.sG, (S629.gno (all_cons (.tail _ (.head _)) (all_cons (.tail _ (.tail _ (.head _))) (all_cons (.tail _ (.tail _ (.tail _ (.head _)))) all_nil)))), h631, h632, h633, ne_self_0, cW_callN hw (fun v657 hw H658 x659 h661 h662 h663  => ?_) trivial⟩
            have S660 := S629.mut x659 (all_cons (.tail _ (.head _)) (all_cons (.tail _ (.tail _ (.head _))) (all_cons (.tail _ (.tail _ (.tail _ (.head _)))) all_nil))) (all_cons (some_ne h661) (all_cons (some_ne h662) (all_cons (some_ne h663) all_nil)))
            have hw := cW_ok hw
            have hw := hK639 _ hw
            have h668 := (x659 _ _ h630 (ni3 ne_self_1 (ne_of h630 h632 (fun z => nomatch z)) (ne_of h630 h633 (fun z => nomatch z))))
            exact ⟨((⟨v657⟩ : St_SymbolWriter)), _, _, _, rfl, eG635, S660, h668, h661, h662, h663, hw⟩
        · intro σ H669 hw
          obtain ⟨self_625, u626, u627, G675, rfl, eG676, S670, h671, h672, h673, h674, hw⟩ := hw
          have hw := hK624 _ (cW_forS0 (rngD_len _ _).symm hw)
          have hw : cW (F_SymbolWriter_number_r1  (self_625)) _ EE := hw
          unfold F_SymbolWriter_number_r1 at hw
          have hw := cW_ok hw
          exact hK0 _ hw _ S670.base h671 h672 h673 h674
    · have hw := cW_neg c604 hw
      refine ⟨_, rfl, ?_⟩
      refine iteT ?_
      exact hE 1 (cW_er hw) _ (Same.refl _)

abbrev N_Decoder_read_even : List Str := ["self"]
theorem sc_Decoder_read_even : FnScope N_Decoder_read_even ["self"] (defScope s_Decoder_read_even) := ⟨rfl, rfl, rfl, by decide +kernel, rfl, by decide +kernel, by decide +kernel⟩
theorem ok_Decoder_read_even (D : MethX K AD.c_Decoder "Decoder.read_even" "read_even" s_Decoder_read_even ["self"] pats_Decoder_read_even) (T : Txt K mg AD) (c_Decoder__decide : MetX P w K mg base 2 AD.c_Decoder "_decide" (sp_Decoder__decide K AD) pats_Decoder__decide) : MetX P w K mg base 3 AD.c_Decoder "read_even" (sp_Decoder_read_even K AD) pats_Decoder_read_even := by
  refine D.ok T.cl_Decoder sc_Decoder_read_even (fun vs H Q E h => ?_) (fun f cdv A_ outer s H vs Q E hr h => ?_)
  · obtain ⟨G, p_self, l_self_probs, l_self_octs, dx_self, self', rfl, _⟩ := h
    rfl
  · obtain ⟨G, p_self, l_self_probs, l_self_octs, dx_self, self', rfl, sG, gM, h_p_self, h_l_self_probs, h_l_self_octs, ne_self_0, hw⟩ := h
    refine ⟨_, (pss_one (ps_ret (vx_methX c_Decoder__decide pat_Decoder__decide_0 (.head _) hr (by decide) (takes_of rfl rfl rfl rfl) (pv 0) (pa_cons (C8.pe_gc rfl T.g_EVEN) pa_nil) pk_nil))), ?_⟩
    obtain ⟨KK, EE, hK0, hE, hw⟩ := cW_gen hw
    have S0 := Sep.startM (M := [p_self, l_self_probs, l_self_octs]) sG (all_cons (some_ne h_p_self) (all_cons (some_ne h_l_self_probs) (all_cons (some_ne h_l_self_octs) all_nil))) gM
    unfold F_Decoder_read_even at hw
    refine ⟨_, rfl, _, _, _, rfl, h_p_self, rfl, rfl, rfl, G, _, _, _, _, self', _, rfl, S0.sG, (S0.gno (all_cons (.head _) (all_cons (.tail _ (.head _)) (all_cons (.tail _ (.tail _ (.head _))) all_nil)))), h_p_self, h_l_self_probs, h_l_self_octs, ne_self_0, cW_call hw (fun v678 hw H679 x680 h682 h683 h684  => ?_) (fun e he H2 e2 => hE e he H2 (Same.trans (Same.refl _) e2))⟩
    have S681 := S0.mut x680 (all_cons (.head _) (all_cons (.tail _ (.head _)) (all_cons (.tail _ (.tail _ (.head _))) all_nil))) (all_cons (some_ne h682) (all_cons (some_ne h683) (all_cons (some_ne h684) all_nil)))
    have hw := cW_ok hw
    exact hK0 _ hw _ S681.base h682 h683 h684

abbrev N_SymbolReader_number : List Str := ["self", "base", "digits", "grown", "_"]
theorem sc_SymbolReader_number : FnScope N_SymbolReader_number ["self", "base"] (defScope s_SymbolReader_number) := ⟨rfl, rfl, rfl, by decide +kernel, rfl, by decide +kernel, by decide +kernel⟩
theorem ok_SymbolReader_number (D : MethX K AD.c_SymbolReader "SymbolReader.number" "number" s_SymbolReader_number ["self", "base"] pats_SymbolReader_number) (T : Txt K mg AD) (c__check_contexts : CalX P w K mg base 1 "_check_contexts" (sp__check_contexts K AD) pats__check_contexts) (c_SymbolReader_unary : MetX P w K mg base 4 AD.c_SymbolReader "unary" (sp_SymbolReader_unary K AD) pats_SymbolReader_unary) (c_Decoder_read : MetX P w K mg base 3 AD.c_Decoder "read" (sp_Decoder_read K AD) pats_Decoder_read) (c__digit_context : CalX P w K mg base 1 "_digit_context" (sp__digit_context K AD) pats__digit_context) (c_Decoder_read_even : MetX P w K mg base 3 AD.c_Decoder "read_even" (sp_Decoder_read_even K AD) pats_Decoder_read_even) : MetX P w K mg base 5 AD.c_SymbolReader "number" (sp_SymbolReader_number K AD) pats_SymbolReader_number := by
  refine D.ok T.cl_SymbolReader sc_SymbolReader_number (fun vs H Q E h => ?_) (fun f cdv A_ outer s H vs Q E hr h => ?_)
  · obtain ⟨G, p_self, p_self_dec, l_self_dec_probs, l_self_dec_octs, dx_self, dx_self_dec, self', base', rfl, _⟩ := h
    rfl
  · obtain ⟨G, p_self, p_self_dec, l_self_dec_probs, l_self_dec_octs, dx_self, dx_self_dec, self', base', rfl, sG, gM, h_p_self, h_p_self_dec, h_l_self_dec_probs, h_l_self_dec_octs, ne_self_0, ne_self_1, hw⟩ := h
    refine ⟨_, (pss_cons (ps_expr (vx_callX c__check_contexts pat__check_contexts_0 (.head _) hr (by decide) (takes_of rfl rfl rfl rfl) rfl (pa_cons (pv 1) (pa_cons (pe_op op_mul pe_int (C8.pe_gc rfl T.g_SHARED)) pa_nil)) pk_nil))
      (pss_cons (ps_set (i := 2) sc_SymbolReader_number.nd rfl (Or.inl rfl) (vx_methX c_SymbolReader_unary pat_SymbolReader_unary_0 (.head _) hr (by decide) (takes_of rfl rfl rfl rfl) (pv 0) (pa_cons (pv 1) pa_nil) (pk_cons (C8.pe_gc rfl T.g_MOST_DIGITS) pk_nil)))
      (pss_cons (ps_set (i := 3) sc_SymbolReader_number.nd rfl (Or.inl rfl) pe_int)
      (C8.pss_cut (ps_if (pt_cmp (pc_gt (pv 2) pe_int)) (pss_one (ps_set (i := 3) sc_SymbolReader_number.nd rfl (Or.inl rfl) (pe_op op_add pe_int (vx_methX c_Decoder_read pat_Decoder_read_0 (.head _) hr (by decide) (takes_of rfl rfl rfl rfl) (fldK (K := K) (pv 0)) (pa_cons (vx_callX c__digit_context pat__digit_context_0 (.head _) hr (by decide) (takes_of rfl rfl rfl rfl) rfl (pa_cons (pv 1) (pa_cons (pv 2) pa_nil)) pk_nil) pa_nil) pk_nil)))) pss_nil)
      (pss_cons (ps_for (passes_of rfl) rfl (pi_range1 rfl T.b_range (pa_cons (pe_op op_sub (pv 2) pe_int) pa_nil)) (pg_name (i := 4) sc_SymbolReader_number.nd rfl (Or.inl rfl)) (pss_one (ps_set (i := 3) sc_SymbolReader_number.nd rfl (Or.inl rfl) (pe_op op_add (pe_op op_mul pe_int (pv 3)) (vx_methX0 c_Decoder_read_even pat_Decoder_read_even_0 (.head _) hr (by decide) (takes_of rfl rfl rfl rfl) (fldK (K := K) (pv 0)))))))
      (pss_one (ps_ret (pe_callB (call_min2 rfl) (by rfl) T.b_min (by decide +kernel) (pa_cons (pe_op op_sub (pv 3) pe_int) (pa_cons (C8.pe_gc rfl T.g_GREATEST_NUMBER) pa_nil)))))))))), ?_⟩
    obtain ⟨KK, EE, hK0, hE, hw⟩ := cW_gen hw
    have S0 := Sep.startM (M := [p_self, p_self_dec, l_self_dec_probs, l_self_dec_octs]) sG (all_cons (some_ne h_p_self) (all_cons (some_ne h_p_self_dec) (all_cons (some_ne h_l_self_dec_probs) (all_cons (some_ne h_l_self_dec_octs) all_nil)))) gM
    unfold F_SymbolReader_number at hw
    refine ⟨_, rfl, _, _, rfl, rfl, (.inl ⟨by decide, by decide⟩), rfl, rfl, G, _, _, rfl, S0.sG, cW_call hw (fun v689 hw => ?_) (fun e he => hE e he _ (Same.refl _))⟩
    refine ⟨_, rfl, _, _, _, rfl, h_p_self, rfl, _, rfl, rfl, rfl, G, _, _, _, _, _, _, self', _, _, rfl, S0.sG, (S0.gno (all_cons (.head _) (all_cons (.tail _ (.head _)) (all_cons (.tail _ (.tail _ (.head _))) (all_cons (.tail _ (.tail _ (.tail _ (.head _)))) all_nil))))), h_p_self, h_p_self_dec, h_l_self_dec_probs, h_l_self_dec_octs, ne_self_0, ne_self_1, cW_call hw (fun v690 hw H691 x692 h694 h695 h696 h697  => ?_) (fun e he H2 e2 => hE e he H2 (Same.trans (Same.refl _) e2))⟩
    have S693 := S0.mut x692 (all_cons (.head _) (all_cons (.tail _ (.head _)) (all_cons (.tail _ (.tail _ (.head _))) (all_cons (.tail _ (.tail _ (.tail _ (.head _)))) all_nil)))) (all_cons (some_ne h694) (all_cons (some_ne h695) (all_cons (some_ne h696) (all_cons (some_ne h697) all_nil))))
    refine ⟨fun σ H' => ∃ (self_705 : St_SymbolReader) (grown_706 : Int) (G' : Hp), σ = [some (V.ref p_self), some (V.int (base')), some (V.int (v690.1)), some (V.int grown_706), none] ∧ Same G G' ∧ Sep [p_self, p_self_dec, l_self_dec_probs, l_self_dec_octs] H G G' H' [p_self, p_self_dec, l_self_dec_probs, l_self_dec_octs] ∧ H' p_self = some (.ins AD.c_SymbolReader dx_self [("_decoder", V.ref p_self_dec)]) ∧ H' p_self_dec = some (.ins AD.c_Decoder dx_self_dec [("_probabilities", V.ref l_self_dec_probs), ("_octets", V.ref l_self_dec_octs), ("_place", V.int (self_705.dec.place)), ("_span", V.int (self_705.dec.span)), ("_value", V.int (self_705.dec.value))]) ∧ H' l_self_dec_probs = some (.lst ((self_705.dec.probs : (List Int)).map V.int)) ∧ H' l_self_dec_octs = some (.lst ((self_705.dec.octs : (List Int)).map V.int)) ∧ cW (F_SymbolReader_number_k1 (v690.1) self_705 grown_706) KK EE, ?_, ?_⟩
    · obtain ⟨K707, hK708, hw⟩ := cW_push hw
      refine ⟨_, rfl, _, _, rfl, rfl, _, rfl, ?_⟩
      refine iteD (fun c709 => ?_) (fun c709 => ?_)
      · have hw := cW_pos c709 hw
        refine ⟨_, rfl, _, _, _, _, _, rfl, h694, T.cl_SymbolReader, T.n_SymbolReader__decoder, rfl, _, _, _, rfl, h695, rfl, _, rfl, _, rfl, rfl, rfl, G, _, _, rfl, S693.sG, cW_callN hw (fun v710 hw => ?_) trivial⟩
        refine ⟨rfl, rfl, G, _, _, _, _, v690.2.dec, _, rfl, S693.sG, (S693.gno (all_cons (.tail _ (.head _)) (all_cons (.tail _ (.tail _ (.head _))) (all_cons (.tail _ (.tail _ (.tail _ (.head _)))) all_nil)))), h695, h696, h697, ne_self_0, cW_callN hw (fun v711 hw H712 x713 h715 h716 h717  => ?_) trivial⟩
        have S714 := S693.mut x713 (all_cons (.tail _ (.head _)) (all_cons (.tail _ (.tail _ (.head _))) (all_cons (.tail _ (.tail _ (.tail _ (.head _)))) all_nil))) (all_cons (some_ne h715) (all_cons (some_ne h716) (all_cons (some_ne h717) all_nil)))
        refine ⟨_, _, rfl, rfl, ?_⟩
        have hw := cW_bnd hw
        have hw := cW_ok hw
        have hw := hK708 _ hw
        have h723 := (x713 _ _ h694 (ni3 ne_self_1 (ne_of h694 h696 (fun z => nomatch z)) (ne_of h694 h697 (fun z => nomatch z))))
        exact ⟨((⟨v711.2⟩ : St_SymbolReader)), ((2 + v711.1)), _, rfl, (Same.refl _), S714, h723, h715, h716, h717, hw⟩
      · have hw := cW_neg c709 hw
        have hw := cW_ok hw
        have hw := hK708 _ hw
        exact ⟨(v690.2), (1), _, rfl, (Same.refl _), S693, h694, h695, h696, h697, hw⟩
    · intro σ H724 hw
      obtain ⟨self_705, grown_706, G730, rfl, eG731, S725, h726, h727, h728, h729, hw⟩ := hw
      unfold F_SymbolReader_number_k1 at hw
      obtain ⟨g732, hw⟩ := cW_grd hw
      obtain ⟨K733, hK734, hw⟩ := cW_push hw
      refine ⟨_, rfl, _, _, rfl, rfl, _, rfl, g732.1, g732.2, for_range (lo := 0) (n := Int.toNat ((v690.1 - 1))) (fun i σ H' => ∃ (self_735 : St_SymbolReader) (grown_736 : Int) (u737 : Option V) (G' : Hp), σ = [some (V.ref p_self), some (V.int (base')), some (V.int (v690.1)), some (V.int grown_736), u737] ∧ Same G730 G' ∧ Sep [p_self, p_self_dec, l_self_dec_probs, l_self_dec_octs] H G G' H' [p_self, p_self_dec, l_self_dec_probs, l_self_dec_octs] ∧ H' p_self = some (.ins AD.c_SymbolReader dx_self [("_decoder", V.ref p_self_dec)]) ∧ H' p_self_dec = some (.ins AD.c_Decoder dx_self_dec [("_probabilities", V.ref l_self_dec_probs), ("_octets", V.ref l_self_dec_octs), ("_place", V.int (self_735.dec.place)), ("_span", V.int (self_735.dec.span)), ("_value", V.int (self_735.dec.value))]) ∧ H' l_self_dec_probs = some (.lst ((self_735.dec.probs : (List Int)).map V.int)) ∧ H' l_self_dec_octs = some (.lst ((self_735.dec.octs : (List Int)).map V.int)) ∧ cW (forS (List.drop i (rng (0) (Int.toNat ((v690.1 - 1))))) (self_735, grown_736) (fun s x => F_SymbolReader_number_b2  (s.1) (s.2) x)) K733 EE) ?_ ?_ ?_⟩
      · exact ⟨(self_705), (grown_706), _, _, rfl, (Same.refl _), S725, h726, h727, h728, h729, hw⟩
      · intro i σ H738 hi hw
        obtain ⟨self_735, grown_736, u737, G744, rfl, eG745, S739, h740, h741, h742, h743, hw⟩ := hw
        have hw := cW_forS (rng_get hi) hw
        generalize (0 + (i : Int)) = x746 at hw ⊢
        have hw : cW (F_SymbolReader_number_b2  (self_735) (grown_736) (x746)) _ EE := hw
        unfold F_SymbolReader_number_b2 at hw
        obtain ⟨K749, hK750, hw⟩ := cW_name hw
        refine ⟨_, rfl, _, _, rfl, rfl, (.inl ⟨by decide, by decide⟩), _, rfl, _, _, _, _, _, rfl, h740, T.cl_SymbolReader, T.n_SymbolReader__decoder, rfl, _, _, _, rfl, h741, rfl, rfl, rfl, G744, _, _, _, _, self_735.dec, rfl, S739.sG, (S739.gno (all_cons (.tail _ (.head _)) (all_cons (.tail _ (.tail _ (.head _))) (all_cons (.tail _ (.tail _ (.tail _ (.head _)))) all_nil)))), h741, h742, h743, ne_self_0, cW_callN hw (fun v752 hw H753 x754 h756 h757 h758  => ?_) trivial⟩
        have S755 := S739.mut x754 (all_cons (.tail _ (.head _)) (all_cons (.tail _ (.tail _ (.head _))) (all_cons (.tail _ (.tail _ (.tail _ (.head _)))) all_nil))) (all_cons (some_ne h756) (all_cons (some_ne h757) (all_cons (some_ne h758) all_nil)))
        refine ⟨_, _, rfl, rfl, ?_⟩
        have hw := cW_bnd hw
        have hw := cW_ok hw
        have hw := hK750 _ hw
        have h764 := (x754 _ _ h740 (ni3 ne_self_1 (ne_of h740 h742 (fun z => nomatch z)) (ne_of h740 h743 (fun z => nomatch z))))
        exact ⟨((⟨v752.2⟩ : St_SymbolReader)), (((2 * grown_736) + v752.1)), _, _, rfl, eG745, S755, h764, h756, h757, h758, hw⟩
      · intro σ H765 hw
        obtain ⟨self_735, grown_736, u737, G771, rfl, eG772, S766, h767, h768, h769, h770, hw⟩ := hw
        have hw := hK734 _ (cW_forS0 (rng_len _ _).symm hw)
        have hw : cW (F_SymbolReader_number_r2  (self_735) (grown_736)) _ EE := hw
        unfold F_SymbolReader_number_r2 at hw
        refine ⟨_, rfl, _, _, rfl, rfl, _, _, rfl, ?_⟩
        have hw := cW_ok hw
        exact hK0 _ hw _ S766.base h767 h768 h769 h770

abbrev N_SymbolWriter_even : List Str := ["self", "decision"]
theorem sc_SymbolWriter_even : FnScope N_SymbolWriter_even ["self", "decision"] (defScope s_SymbolWriter_even) := ⟨rfl, rfl, rfl, by decide +kernel, rfl, by decide +kernel, by decide +kernel⟩
theorem ok_SymbolWriter_even (D : MethX K AD.c_SymbolWriter "SymbolWriter.even" "even" s_SymbolWriter_even ["self", "decision"] pats_SymbolWriter_even) (T : Txt K mg AD) (c_Encoder_code_even : MetX P w K mg base 3 AD.c_Encoder "code_even" (sp_Encoder_code_even K AD) pats_Encoder_code_even) : MetX P w K mg base 4 AD.c_SymbolWriter "even" (sp_SymbolWriter_even K AD) pats_SymbolWriter_even := by
  refine D.ok T.cl_SymbolWriter sc_SymbolWriter_even (fun vs H Q E h => ?_) (fun f cdv A_ outer s H vs Q E hr h => ?_)
  · obtain ⟨G, p_self, p_self_enc, l_self_enc_probs, l_self_enc_front, dx_self, dx_self_enc, self', decision', rfl, _⟩ := h
    rfl
  · obtain ⟨G, p_self, p_self_enc, l_self_enc_probs, l_self_enc_front, dx_self, dx_self_enc, self', decision', rfl, sG, gM, h_p_self, h_p_self_enc, h_l_self_enc_probs, h_l_self_enc_front, ne_self_0, ne_self_1, hw⟩ := h
    refine ⟨_, (pss_one (ps_expr (vx_methX c_Encoder_code_even pat_Encoder_code_even_0 (.head _) hr (by decide) (takes_of rfl rfl rfl rfl) (fldK (K := K) (pv 0)) (pa_cons (pv 1) pa_nil) pk_nil))), ?_⟩
    obtain ⟨KK, EE, hK0, hE, hw⟩ := cW_gen hw
    have S0 := Sep.startM (M := [p_self, p_self_enc, l_self_enc_probs, l_self_enc_front]) sG (all_cons (some_ne h_p_self) (all_cons (some_ne h_p_self_enc) (all_cons (some_ne h_l_self_enc_probs) (all_cons (some_ne h_l_self_enc_front) all_nil)))) gM
    unfold F_SymbolWriter_even at hw
    refine ⟨_, rfl, _, _, _, _, _, rfl, h_p_self, T.cl_SymbolWriter, T.n_SymbolWriter__encoder, rfl, _, _, _, rfl, h_p_self_enc, rfl, _, rfl, rfl, rfl, G, _, _, _, _, self'.enc, _, rfl, S0.sG, (S0.gno (all_cons (.tail _ (.head _)) (all_cons (.tail _ (.tail _ (.head _))) (all_cons (.tail _ (.tail _ (.tail _ (.head _)))) all_nil)))), h_p_self_enc, h_l_self_enc_probs, h_l_self_enc_front, ne_self_0, cW_call hw (fun v775 hw H776 x777 h779 h780 h781  => ?_) (fun e he H2 e2 => hE e he H2 (Same.trans (Same.refl _) e2))⟩
    have S778 := S0.mut x777 (all_cons (.tail _ (.head _)) (all_cons (.tail _ (.tail _ (.head _))) (all_cons (.tail _ (.tail _ (.tail _ (.head _)))) all_nil))) (all_cons (some_ne h779) (all_cons (some_ne h780) (all_cons (some_ne h781) all_nil)))
    have h786 := (x777 _ _ h_p_self (ni3 ne_self_1 (ne_of h_p_self h_l_self_enc_probs (fun z => nomatch z)) (ne_of h_p_self h_l_self_enc_front (fun z => nomatch z))))
    have hw := cW_ok hw
    exact hK0 _ hw _ S778.base h786 h779 h780 h781

abbrev N_SymbolReader_even : List Str := ["self"]
theorem sc_SymbolReader_even : FnScope N_SymbolReader_even ["self"] (defScope s_SymbolReader_even) := ⟨rfl, rfl, rfl, by decide +kernel, rfl, by decide +kernel, by decide +kernel⟩
theorem ok_SymbolReader_even (D : MethX K AD.c_SymbolReader "SymbolReader.even" "even" s_SymbolReader_even ["self"] pats_SymbolReader_even) (T : Txt K mg AD) (c_Decoder_read_even : MetX P w K mg base 3 AD.c_Decoder "read_even" (sp_Decoder_read_even K AD) pats_Decoder_read_even) : MetX P w K mg base 4 AD.c_SymbolReader "even" (sp_SymbolReader_even K AD) pats_SymbolReader_even := by
  refine D.ok T.cl_SymbolReader sc_SymbolReader_even (fun vs H Q E h => ?_) (fun f cdv A_ outer s H vs Q E hr h => ?_)
  · obtain ⟨G, p_self, p_self_dec, l_self_dec_probs, l_self_dec_octs, dx_self, dx_self_dec, self', rfl, _⟩ := h
    rfl
  · obtain ⟨G, p_self, p_self_dec, l_self_dec_probs, l_self_dec_octs, dx_self, dx_self_dec, self', rfl, sG, gM, h_p_self, h_p_self_dec, h_l_self_dec_probs, h_l_self_dec_octs, ne_self_0, ne_self_1, hw⟩ := h
    refine ⟨_, (pss_one (ps_ret (vx_methX0 c_Decoder_read_even pat_Decoder_read_even_0 (.head _) hr (by decide) (takes_of rfl rfl rfl rfl) (fldK (K := K) (pv 0))))), ?_⟩
    obtain ⟨KK, EE, hK0, hE, hw⟩ := cW_gen hw
    have S0 := Sep.startM (M := [p_self, p_self_dec, l_self_dec_probs, l_self_dec_octs]) sG (all_cons (some_ne h_p_self) (all_cons (some_ne h_p_self_dec) (all_cons (some_ne h_l_self_dec_probs) (all_cons (some_ne h_l_self_dec_octs) all_nil)))) gM
    unfold F_SymbolReader_even at hw
    refine ⟨_, rfl, _, _, _, _, _, rfl, h_p_self, T.cl_SymbolReader, T.n_SymbolReader__decoder, rfl, _, _, _, rfl, h_p_self_dec, rfl, rfl, rfl, G, _, _, _, _, self'.dec, rfl, S0.sG, (S0.gno (all_cons (.tail _ (.head _)) (all_cons (.tail _ (.tail _ (.head _))) (all_cons (.tail _ (.tail _ (.tail _ (.head _)))) all_nil)))), h_p_self_dec, h_l_self_dec_probs, h_l_self_dec_octs, ne_self_0, cW_call hw (fun v787 hw H788 x789 h791 h792 h793  => ?_) (fun e he H2 e2 => hE e he H2 (Same.trans (Same.refl _) e2))⟩
    have S790 := S0.mut x789 (all_cons (.tail _ (.head _)) (all_cons (.tail _ (.tail _ (.head _))) (all_cons (.tail _ (.tail _ (.tail _ (.head _)))) all_nil))) (all_cons (some_ne h791) (all_cons (some_ne h792) (all_cons (some_ne h793) all_nil)))
    have h798 := (x789 _ _ h_p_self (ni3 ne_self_1 (ne_of h_p_self h_l_self_dec_probs (fun z => nomatch z)) (ne_of h_p_self h_l_self_dec_octs (fun z => nomatch z))))
    have hw := cW_ok hw
    exact hK0 _ hw _ S790.base h798 h791 h792 h793

abbrev N_put_levels : List Str := ["writer", "levels", "places", "base", "place", "level"]
theorem sc_put_levels : FnScope N_put_levels ["writer", "levels"] (defScope s_put_levels) := ⟨rfl, rfl, rfl, by decide +kernel, rfl, by decide +kernel, by decide +kernel⟩
theorem ok_put_levels (D : DefX K mg "put_levels" s_put_levels ["writer", "levels"] pats_put_levels) (T : Txt K mg AD) (c__check_levels : CalX P w K mg base 1 "_check_levels" (sp__check_levels K AD) pats__check_levels) (c__put_places : CalX P w K mg base 5 "_put_places" (sp__put_places K AD) pats__put_places) (c_SymbolWriter_number : MetX P w K mg base 5 AD.c_SymbolWriter "number" (sp_SymbolWriter_number K AD) pats_SymbolWriter_number) (c_SymbolWriter_even : MetX P w K mg base 4 AD.c_SymbolWriter "even" (sp_SymbolWriter_even K AD) pats_SymbolWriter_even) (c__base_after : CalX P w K mg base 1 "_base_after" (sp__base_after K AD) pats__base_after) : CalX P w K mg base 6 "put_levels" (sp_put_levels K AD) pats_put_levels := by
  refine D.ok sc_put_levels (fun vs H Q E h => ?_) (fun f cdv A_ outer s H vs Q E hr h => ?_)
  · obtain ⟨G, p_writer, p_writer_enc, l_writer_enc_probs, l_writer_enc_front, dx_writer, dx_writer_enc, writer', a_levels, levels', rfl, _⟩ := h
    rfl
  · obtain ⟨G, p_writer, p_writer_enc, l_writer_enc_probs, l_writer_enc_front, dx_writer, dx_writer_enc, writer', a_levels, levels', rfl, sG, gM, h_p_writer, h_p_writer_enc, h_l_writer_enc_probs, h_l_writer_enc_front, ne_writer_0, ne_writer_1, q_levels, hw⟩ := h
    refine ⟨_, (pss_cons (ps_expr (vx_callX c__check_levels pat__check_levels_0 (.head _) hr (by decide) (takes_of rfl rfl rfl rfl) rfl (pa_cons (pv 1) pa_nil) pk_nil))
      (pss_cons (ps_setLc (i := 2) (y := "places") rfl sc_put_levels.nd rfl rfl (sw_true rfl rfl rfl (by decide +kernel)) (own := [("place", 4), ("level", 5)]) (g := gTup K 2 (gCons (gName 4) (gCons (gName 5) gNil))) (pi_enumK (K := K) rfl T.b_enumerate (pa_cons (pv 1) pa_nil)) (blkOk_by (own := [("place", 4), ("level", 5)]) (N := N_put_levels) (sc := defScope s_put_levels) (by decide +kernel)) (fun _ _ _ _ _ => (pg_tupK (K := K) (n := 2) (pgs_cons (pg_name (i := 4) sc_put_levels.nd rfl (Or.inl rfl)) (pgs_cons (pg_name (i := 5) sc_put_levels.nd rfl (Or.inl rfl)) pgs_nil)))) (fun _ _ _ _ _ => pts_one (pt_cmp (pc_neI (pv 5) pe_int))) (fun _ _ _ _ _ => (pv 4)))
      (pss_cons (ps_expr (vx_callX c__put_places pat__put_places_0 (.head _) hr (by decide) (takes_of rfl rfl rfl rfl) rfl (pa_cons (pv 0) (pa_cons (pv 1) (pa_cons (pe_ix (ix_listK (K := K)) (pv 2) (pe_un un_neg pe_int) (fun _ _ => rfl)) pa_nil))) pk_nil))
      (pss_cons (ps_set (i := 3) sc_put_levels.nd rfl (Or.inl rfl) (C8.pe_gc rfl T.g_LEVEL))
      (pss_one (ps_for (passes_of rfl) rfl (pi_revK (K := K) rfl T.b_reversed (pa_cons (pv 2) pa_nil)) (pg_name (i := 4) sc_put_levels.nd rfl (Or.inl rfl)) (pss_cons (ps_set (i := 5) sc_put_levels.nd rfl (Or.inl rfl) (pe_ix (ix_listK (K := K)) (pv 1) (pv 4) (fun _ _ => rfl)))
      (pss_cons (ps_expr (vx_methX c_SymbolWriter_number pat_SymbolWriter_number_0 (.head _) hr (by decide) (takes_of rfl rfl rfl rfl) (pv 0) (pa_cons (pv 3) (pa_cons (pe_op op_sub (pe_callB call_abs (by rfl) T.b_abs (by decide +kernel) (pa_cons (pv 5) pa_nil)) pe_int) pa_nil)) pk_nil))
      (pss_cons (ps_expr (vx_methX c_SymbolWriter_even pat_SymbolWriter_even_0 (.head _) hr (by decide) (takes_of rfl rfl rfl rfl) (pv 0) (pa_cons (pe_ifExp (pt_cmp (pc_lt (pv 5) pe_int)) pe_int pe_int) pa_nil) pk_nil))
      (pss_one (ps_set (i := 3) sc_put_levels.nd rfl (Or.inl rfl) (vx_callX c__base_after pat__base_after_0 (.head _) hr (by decide) (takes_of rfl rfl rfl rfl) rfl (pa_cons (pv 3) (pa_cons (pe_callB call_abs (by rfl) T.b_abs (by decide +kernel) (pa_cons (pv 5) pa_nil)) pa_nil)) pk_nil)))))))))))), ?_⟩
    obtain ⟨KK, EE, hK0, hE, hw⟩ := cW_gen hw
    have S0 := Sep.startM (M := [p_writer, p_writer_enc, l_writer_enc_probs, l_writer_enc_front]) sG (all_cons (some_ne h_p_writer) (all_cons (some_ne h_p_writer_enc) (all_cons (some_ne h_l_writer_enc_probs) (all_cons (some_ne h_l_writer_enc_front) all_nil)))) gM
    unfold F_put_levels at hw
    refine ⟨_, rfl, rfl, rfl, G, _, _, rfl, S0.sG, (hide_nil (S0.bM _ _ q_levels)), cW_call hw (fun v799 hw => ?_) (fun e he => hE e he _ (Same.refl _))⟩
    obtain ⟨K801, hK802, hw⟩ := cW_push hw
    refine ⟨_, rfl, _, _, rfl, (SqL.of (S0.bM _ _ q_levels)), fun D803 n804 => lc_enum (K := K) (a := a_levels) (xs := (levels' : List Int).map V.int) (fun i H' => ∃ (G' : Hp) (acc806 : (List Int)), Same G G' ∧ Sep [p_writer, p_writer_enc, l_writer_enc_probs, l_writer_enc_front] H G G' H' [D803, p_writer, p_writer_enc, l_writer_enc_probs, l_writer_enc_front] ∧ H' p_writer = some (.ins AD.c_SymbolWriter dx_writer [("_encoder", V.ref p_writer_enc)]) ∧ H' p_writer_enc = some (.ins AD.c_Encoder dx_writer_enc [("_probabilities", V.ref l_writer_enc_probs), ("_front", V.ref l_writer_enc_front), ("_low", V.int (writer'.enc.low)), ("_span", V.int (writer'.enc.span))]) ∧ H' l_writer_enc_probs = some (.lst ((writer'.enc.probs : (List Int)).map V.int)) ∧ H' l_writer_enc_front = some (.lst ((writer'.enc.front : (List Int)).map V.int)) ∧ H' D803 = some (.lst ((acc806 : (List Int)).map V.int)) ∧ Same H H' ∧ cW (mapF (List.drop i (enumL (levels'))) acc806 (fun x => noEr (F_put_levels_c1  x))) K801 EE) ?_ ?_ ?_ ?_⟩
    · generalize g808 : upd H D803 _ = H809
      obtain ⟨e810, h811⟩ := gen_new n804 g808
      have fr812 := S0.free n804
      have S813 := S0.new n804 e810 h811 fr812
      have h814 := (e810 _ _ h_p_writer)
      have h815 := (e810 _ _ h_p_writer_enc)
      have h816 := (e810 _ _ h_l_writer_enc_probs)
      have h817 := (e810 _ _ h_l_writer_enc_front)
      exact ⟨_, [], Same.refl _, S813, h814, h815, h816, h817, h811, e810, hw⟩
    · intro i H818 _ hw
      obtain ⟨G821, acc823, eG822, S819, h830, h831, h832, h833, h820, eo829, hw⟩ := hw
      exact (SqL.of (S819.bM _ _ q_levels))
    · intro i x T836 H834 hj n835 hw
      obtain ⟨G839, acc841, eG840, S837, h848, h849, h850, h851, h838, eo847, hw⟩ := hw
      obtain ⟨x852, hx853, rfl⟩ := map_get hj
      generalize g854 : upd H834 T836 _ = H855
      obtain ⟨e856, h857⟩ := gen_new n835 g854
      have h858 : H855 T836 = some (.tup [V.int (((i : Nat) : Int)), V.int (x852)]) := h857
      have fr859 := S837.free n835
      obtain ⟨G861, eG862, hg863, S860⟩ := S837.grow n835 e856 h858 fr859
      obtain ⟨z864, hw⟩ := cW_mapF (enumL_get hx853) hw
      have hw := cW_noEr hw
      have hw : cW (F_put_levels_c1  ((((i : Nat) : Int), x852))) _ (fun _ => False) := hw
      unfold F_put_levels_c1 at hw
      refine ⟨_, _, rfl, (SqT.of (S860.sG _ _ hg863)), rfl, _, _, rfl, _, _, rfl, rfl, rfl, ?_⟩
      refine ⟨_, rfl, _, _, rfl, rfl, _, rfl, ?_⟩
      refine iteN (fun c866 => ?_) (fun c866 => ?_)
      · have hw := cW_neg c866 hw
        have h867 := (e856 _ _ h838)
        refine ⟨_, rfl, _, h867, (app_lenM z864), ?_⟩
        generalize g868 : upd H855 D803 _ = H869
        obtain ⟨x870, h871⟩ := gen_mut g868
        have S872 := S860.mut1 x870 (.head _) h871
        have hw := cW_ok hw
        have h873 := (x870 _ _ (e856 _ _ h848) (ne_of_none h_p_writer n804))
        have h874 := (x870 _ _ (e856 _ _ h849) (ne_of_none h_p_writer_enc n804))
        have h875 := (x870 _ _ (e856 _ _ h850) (ne_of_none h_l_writer_enc_probs n804))
        have h876 := (x870 _ _ (e856 _ _ h851) (ne_of_none h_l_writer_enc_front n804))
        exact ⟨_, (acc841 ++ [((i : Nat) : Int)]), (Same.trans eG840 eG862), S872, h873, h874, h875, h876, (snoc_map h871), (same_mut (Same.trans eo847 e856) x870 n804), hw⟩
      · have hw := cW_pos c866 hw
        have hw := cW_ok hw
        have h877 := (e856 _ _ h848)
        have h878 := (e856 _ _ h849)
        have h879 := (e856 _ _ h850)
        have h880 := (e856 _ _ h851)
        have h881 := (e856 _ _ h838)
        exact ⟨_, acc841, (Same.trans eG840 eG862), S860, h877, h878, h879, h880, h881, (Same.trans eo847 e856), hw⟩
    intro H882 hw
    obtain ⟨G885, acc887, eG886, S883, h894, h895, h896, h897, h884, eo893, hw⟩ := hw
    have hw := hK802 _ (cW_mapF0 (by rw [enumL_len]; exact (by rw [List.length_map])) hw)
    have fr898 := S0.free n804
    obtain ⟨g899, hw⟩ := cW_grd hw
    refine ⟨_, rfl, _, rfl, _, rfl, _, rfl, _, _, _, _, rfl, rfl, (SqL.of h884), (atI_map g899), rfl, rfl, G885, _, _, _, _, _, _, writer', _, _, _, rfl, S883.sG, (S883.gno (all_cons (.tail _ (.head _)) (all_cons (.tail _ (.tail _ (.head _))) (all_cons (.tail _ (.tail _ (.tail _ (.head _)))) (all_cons (.tail _ (.tail _ (.tail _ (.tail _ (.head _))))) all_nil))))), h894, h895, h896, h897, ne_writer_0, ne_writer_1, ((hideL_out (ni4 (b_ne q_levels S883 (.tail _ (.head _))) (b_ne q_levels S883 (.tail _ (.tail _ (.head _)))) (b_ne q_levels S883 (.tail _ (.tail _ (.tail _ (.head _))))) (b_ne q_levels S883 (.tail _ (.tail _ (.tail _ (.tail _ (.head _)))))))).trans (S883.bM _ _ q_levels)), cW_call hw (fun v900 hw H901 x902 h904 h905 h906 h907  => ?_) (fun e he H2 e2 => hE e he H2 (Same.trans eo893 e2))⟩
    have S903 := S883.mut x902 (all_cons (.tail _ (.head _)) (all_cons (.tail _ (.tail _ (.head _))) (all_cons (.tail _ (.tail _ (.tail _ (.head _)))) (all_cons (.tail _ (.tail _ (.tail _ (.tail _ (.head _))))) all_nil)))) (all_cons (some_ne h904) (all_cons (some_ne h905) (all_cons (some_ne h906) (all_cons (some_ne h907) all_nil))))
    have h912 := (x902 _ _ h884 (ni4 (ne_of_none h_p_writer n804).symm (ne_of_none h_p_writer_enc n804).symm (ne_of_none h_l_writer_enc_probs n804).symm (ne_of_none h_l_writer_enc_front n804).symm))
    obtain ⟨K914, hK915, hw⟩ := cW_push hw
    refine ⟨_, rfl, _, _, rfl, (SqL.of h912), for_revI (K := K) (a := D803) (xs := acc887) (fun i σ H' => ∃ (writer_916 : St_SymbolWriter) (base_917 : Int) (u918 : Option V) (u919 : Option V) (G' : Hp), σ = [some (V.ref p_writer), some (V.ref a_levels), some (V.ref D803), some (V.int base_917), u918, u919] ∧ Same G885 G' ∧ Sep [p_writer, p_writer_enc, l_writer_enc_probs, l_writer_enc_front] H G G' H' [p_writer, p_writer_enc, l_writer_enc_probs, l_writer_enc_front, D803] ∧ H' p_writer = some (.ins AD.c_SymbolWriter dx_writer [("_encoder", V.ref p_writer_enc)]) ∧ H' p_writer_enc = some (.ins AD.c_Encoder dx_writer_enc [("_probabilities", V.ref l_writer_enc_probs), ("_front", V.ref l_writer_enc_front), ("_low", V.int (writer_916.enc.low)), ("_span", V.int (writer_916.enc.span))]) ∧ H' l_writer_enc_probs = some (.lst ((writer_916.enc.probs : (List Int)).map V.int)) ∧ H' l_writer_enc_front = some (.lst ((writer_916.enc.front : (List Int)).map V.int)) ∧ H' D803 = some (.lst ((acc887 : (List Int)).map V.int)) ∧ cW (forS (List.drop i ((List.reverse (acc887 : List Int)))) (writer_916, base_917) (fun s x => F_put_levels_b2 (levels') (s.1) (s.2) x)) K914 EE) ?_ ?_ ?_ ?_⟩
    · exact ⟨(v900), (192), _, _, _, rfl, (Same.refl _), (S903.sub (all_cons (.tail _ (.head _)) (all_cons (.tail _ (.tail _ (.head _))) (all_cons (.tail _ (.tail _ (.tail _ (.head _)))) (all_cons (.tail _ (.tail _ (.tail _ (.tail _ (.head _))))) (all_cons (.head _) all_nil)))))), h904, h905, h906, h907, h912, hw⟩
    · intro i σ H920 _ hw
      obtain ⟨writer_916, base_917, u918, u919, G927, rfl, eG928, S921, h922, h923, h924, h925, h926, hw⟩ := hw
      exact (SqL.of h926)
    · intro i x σ H929 hj hw
      obtain ⟨writer_916, base_917, u918, u919, G936, rfl, eG937, S930, h931, h932, h933, h934, h935, hw⟩ := hw
      obtain ⟨x938, hx, rfl⟩ := map_get hj
      have hw := cW_forS hx hw
      have hw : cW (F_put_levels_b2 (levels') (writer_916) (base_917) (x938)) _ EE := hw
      unfold F_put_levels_b2 at hw
      obtain ⟨K941, hK942, hw⟩ := cW_name hw
      obtain ⟨g944, hw⟩ := cW_grd hw
      refine ⟨_, rfl, _, rfl, _, _, _, _, rfl, rfl, (SqL.of (S930.bM _ _ q_levels)), (atI_map g944), ?_⟩
      have hw := cW_bnd hw
      refine ⟨_, rfl, _, _, _, rfl, h931, rfl, _, rfl, _, rfl, _, rfl, _, _, rfl, rfl, rfl, rfl, G936, _, _, _, _, _, _, writer_916, _, _, rfl, S930.sG, (S930.gno (all_cons (.head _) (all_cons (.tail _ (.head _)) (all_cons (.tail _ (.tail _ (.head _))) (all_cons (.tail _ (.tail _ (.tail _ (.head _)))) all_nil))))), h931, h932, h933, h934, ne_writer_0, ne_writer_1, cW_callN hw (fun v946 hw H947 x948 h950 h951 h952 h953  => ?_) trivial⟩
      have S949 := S930.mut x948 (all_cons (.head _) (all_cons (.tail _ (.head _)) (all_cons (.tail _ (.tail _ (.head _))) (all_cons (.tail _ (.tail _ (.tail _ (.head _)))) all_nil)))) (all_cons (some_ne h950) (all_cons (some_ne h951) (all_cons (some_ne h952) (all_cons (some_ne h953) all_nil))))
      refine ⟨_, rfl, _, _, _, rfl, h950, rfl, ?_⟩
      refine vv_if (vt_cmp (vv_cmp (val_var rfl) val_c (fun Q q => ⟨_, _, rfl, rfl, q⟩))) val_c val_c _ ?_
      refine ⟨rfl, rfl, G936, _, _, _, _, _, _, v946, _, rfl, S949.sG, (S949.gno (all_cons (.head _) (all_cons (.tail _ (.head _)) (all_cons (.tail _ (.tail _ (.head _))) (all_cons (.tail _ (.tail _ (.tail _ (.head _)))) all_nil))))), h950, h951, h952, h953, ne_writer_0, ne_writer_1, cW_callN hw (fun v961 hw H962 x963 h965 h966 h967 h968  => ?_) trivial⟩
      have S964 := S949.mut x963 (all_cons (.head _) (all_cons (.tail _ (.head _)) (all_cons (.tail _ (.tail _ (.head _))) (all_cons (.tail _ (.tail _ (.tail _ (.head _)))) all_nil)))) (all_cons (some_ne h965) (all_cons (some_ne h966) (all_cons (some_ne h967) (all_cons (some_ne h968) all_nil))))
      refine ⟨_, rfl, _, rfl, _, rfl, rfl, rfl, G936, _, _, rfl, S964.sG, cW_callN hw (fun v973 hw => ?_) trivial⟩
      have hw := cW_ok hw
      have hw := hK942 _ hw
      have h974 := (x963 _ _ (x948 _ _ h935 (ni4 (ne_of_none h_p_writer n804).symm (ne_of_none h_p_writer_enc n804).symm (ne_of_none h_l_writer_enc_probs n804).symm (ne_of_none h_l_writer_enc_front n804).symm)) (ni4 (ne_of_none h_p_writer n804).symm (ne_of_none h_p_writer_enc n804).symm (ne_of_none h_l_writer_enc_probs n804).symm (ne_of_none h_l_writer_enc_front n804).symm))
      exact ⟨(v961), (v973), _, _, _, rfl, eG937, S964, h965, h966, h967, h968, h974, hw⟩
    · intro σ H975 hw
      obtain ⟨writer_916, base_917, u918, u919, G982, rfl, eG983, S976, h977, h978, h979, h980, h981, hw⟩ := hw
      have hw := hK915 _ (cW_forS0 (by rw [List.length_map]) hw)
      have hw : cW (F_put_levels_r2  (writer_916) (base_917)) _ EE := hw
      unfold F_put_levels_r2 at hw
      have hw := cW_ok hw
      exact hK0 _ hw _ S976.base h977 h978 h979 h980

abbrev N_Encoder_octets : List Str := ["self", "octets", "shift"]
theorem sc_Encoder_octets : FnScope N_Encoder_octets ["self"] (defScope s_Encoder_octets) := ⟨rfl, rfl, rfl, by decide +kernel, rfl, by decide +kernel, by decide +kernel⟩
theorem ok_Encoder_octets (D : MethX K AD.c_Encoder "Encoder.octets" "octets" s_Encoder_octets ["self"] pats_Encoder_octets) (T : Txt K mg AD)  : MetX P w K mg base 1 AD.c_Encoder "octets" (sp_Encoder_octets K AD) pats_Encoder_octets := by
  refine D.ok T.cl_Encoder sc_Encoder_octets (fun vs H Q E h => ?_) (fun f cdv A_ outer s H vs Q E hr h => ?_)
  · obtain ⟨G, p_self, l_self_probs, l_self_front, dx_self, self', rfl, _⟩ := h
    rfl
  · obtain ⟨G, p_self, l_self_probs, l_self_front, dx_self, self', rfl, sG, h_p_self, h_l_self_probs, h_l_self_front, hw⟩ := h
    refine ⟨_, (pss_cons (ps_set (i := 1) sc_Encoder_octets.nd rfl (Or.inl rfl) (pe_op op_cat (fldK (K := K) (pv 0)) (pe_lc (own := [("shift", 2)]) (g := gName 2) (by rfl) sc_Encoder_octets.nd (pi_tupK (K := K) (pe_tup (pa_cons pe_int (pa_cons pe_int (pa_cons pe_int (pa_cons pe_int pa_nil)))))) (blkOk_by (own := [("shift", 2)]) (N := N_Encoder_octets) (sc := defScope s_Encoder_octets) (by decide +kernel)) (fun _ _ _ _ _ => (pg_name (i := 2) sc_Encoder_octets.nd rfl (Or.inl rfl))) (fun _ _ _ _ _ => pts_nil) (fun _ _ _ _ _ => (pe_op op_and (pe_op op_shr (fldK (K := K) (pv 0)) (pv 2)) pe_int)))))
      (pss_cons (ps_while (passes_of rfl) (PW.pt (pw_and (pt_truth (pv 1) (fun _ => rfl)) (pw_and1 (pt_cmp (pc_eqI (pe_ix (ix_listK (K := K)) (pv 1) (pe_un un_neg pe_int) (fun _ _ => rfl)) pe_int))))) (pss_one (ps_expr (pe_bm0 PySem.F.plainAttrs_list PySem.F.slot_list_pop PySem.F.type_list_pop mt_pop (pv 1)))))
      (pss_one (ps_ret (pv 1))))), ?_⟩
    obtain ⟨KK, EE, hK0, hE, hw⟩ := cW_gen hw
    have S0 := Sep.startG sG
    unfold F_Encoder_octets at hw
    refine ⟨_, rfl, _, _, _, _, _, rfl, (S0.bM _ _ h_p_self), T.cl_Encoder, T.n_Encoder__front, rfl, (by show 4 ≤ sizeLine; decide), fun p986 n987 => ?_⟩
    generalize g988 : upd H p986 _ = H989
    obtain ⟨e990, h991⟩ := gen_new n987 g988
    have h992 : H989 p986 = some (.tup [V.int (24), V.int (16), V.int (8), V.int (0)]) := h991
    have fr993 := S0.free n987
    obtain ⟨G995, eG996, hg997, S994⟩ := S0.grow n987 e990 h992 fr993
    obtain ⟨K1000, hK1001, hw⟩ := cW_push hw
    refine ⟨_, rfl, ⟨_, (SqT.of (S994.sG _ _ hg997))⟩, fun D1002 n1003 => lc_tup (K := K) (a := p986) (xs := (([24, 16, 8, 0] : List Int).map V.int)) (fun i H' => ∃ (G' : Hp) (acc1005 : (List Int)), Same G995 G' ∧ Sep [] H G G' H' [D1002] ∧ H' D1002 = some (.lst ((acc1005 : (List Int)).map V.int)) ∧ Same H989 H' ∧ cW (mapA (List.drop i ([24, 16, 8, 0])) acc1005 (fun x => noEr (F_Encoder_octets_c1 (self') x))) K1000 EE) ?_ ?_ ?_ ?_⟩
    · generalize g1007 : upd H989 D1002 _ = H1008
      obtain ⟨e1009, h1010⟩ := gen_new n1003 g1007
      have fr1011 := S994.free n1003
      have S1012 := S994.new n1003 e1009 h1010 fr1011
      exact ⟨_, [], Same.refl _, S1012, h1010, e1009, hw⟩
    · intro i H1013 _ hw
      obtain ⟨G1016, acc1018, eG1017, S1014, h1015, eo1024, hw⟩ := hw
      exact (SqT.of (S1014.sG _ _ (eG1017 _ _ hg997)))
    · intro i x H1025 hj hw
      obtain ⟨G1028, acc1030, eG1029, S1026, h1027, eo1036, hw⟩ := hw
      obtain ⟨x1037, hx, rfl⟩ := map_get hj
      obtain ⟨z1038, hw⟩ := cW_mapA hx hw
      have hw := cW_noEr hw
      have hw : cW (F_Encoder_octets_c1 (self') (x1037)) _ (fun _ => False) := hw
      unfold F_Encoder_octets_c1 at hw
      refine ⟨rfl, ?_⟩
      refine tyes_go ?_
      obtain ⟨g1040, hw⟩ := cW_grd hw
      refine ⟨_, rfl, _, _, _, _, _, rfl, (S1026.bM _ _ h_p_self), T.cl_Encoder, T.n_Encoder__low, rfl, _, rfl, _, _, rfl, rfl, g1040, _, _, rfl, rfl, _, h1027, (app_lenM z1038), ?_⟩
      generalize g1041 : upd H1025 D1002 _ = H1042
      obtain ⟨x1043, h1044⟩ := gen_mut g1041
      have S1045 := S1026.mut1 x1043 (.head _) h1044
      have hw := cW_ok hw
      exact ⟨_, (acc1030 ++ [(PySem.Builtin.bitAnd ((self'.low / 2 ^ Int.toNat (x1037))) (255))]), eG1029, S1045, (snoc_map h1044), (same_mut eo1036 x1043 n1003), hw⟩
    intro H1046 hw
    obtain ⟨G1049, acc1051, eG1050, S1047, h1048, eo1057, hw⟩ := hw
    have hw := hK1001 _ (cW_mapA0 (by rw [List.length_map]) hw)
    have fr1058 := S994.free n1003
    obtain ⟨g1059, hw⟩ := cW_grd hw
    refine ⟨_, _, _, _, rfl, rfl, (S1047.bM _ _ h_l_self_front), h1048, (cat_lenM g1059), fun p1060 n1061 => ?_⟩
    generalize g1062 : upd H1046 p1060 _ = H1063
    obtain ⟨e1064, h1065⟩ := gen_new n1061 g1062
    have h1066 : H1063 p1060 = some (.lst (((self'.front) ++ (acc1051) : (List Int)).map V.int)) := cat_map h1065
    have fr1067 := S1047.free n1061
    have S1068 := S1047.new n1061 e1064 h1066 fr1067
    obtain ⟨K1069, hK1070, hw⟩ := cW_push hw
    refine ⟨fun m σ H' => ∃ (octets_1071 : (List Int)) (G' : Hp), σ = [some (V.ref p_self), some (V.ref p1060), none] ∧ Same G1049 G' ∧ Sep [] H G G' H' [p1060] ∧ H' p1060 = some (.lst ((octets_1071 : (List Int)).map V.int)) ∧ cW (whileR m octets_1071 (fun s => F_Encoder_octets_b2  s)) K1069 EE, ?_, ?_⟩
    · exact ⟨_, ⟨((self'.front) ++ (acc1051)), _, rfl, (Same.refl _), (S1068.sub (all_cons (.head _) all_nil)), h1066, hw⟩⟩
    · intro m σ H1072 hw
      obtain ⟨octets_1071, G1075, rfl, eG1076, S1073, h1074, hw⟩ := hw
      obtain ⟨m1077, rfl, hw2⟩ := cW_whileR hw
      have hw := hw2
      have hw : cW (F_Encoder_octets_b2  (octets_1071)) _ EE := hw
      unfold F_Encoder_octets_b2 at hw
      obtain ⟨K1079, hK1080, hw⟩ := cW_name hw
      refine ⟨_, rfl, _, (.inl ⟨_, (SqL.of h1074), tru_map⟩), ?_⟩
      refine iteN (fun c1081 => ?_) (fun c1081 => ?_)
      · have hw := cW_neg c1081 hw
        obtain ⟨g1082, hw⟩ := cW_grd hw
        refine ⟨_, rfl, _, rfl, _, _, _, _, rfl, rfl, (SqL.of h1074), (atI_map g1082), _, _, rfl, rfl, _, rfl, ?_⟩
        refine iteD (fun c1083 => ?_) (fun c1083 => ?_)
        · have hw := cW_pos c1083 hw
          refine ⟨(fun σ H' => ∃ m, (∃ (octets_1071 : (List Int)) (G' : Hp), σ = [some (V.ref p_self), some (V.ref p1060), none] ∧ Same G1049 G' ∧ Sep [] H G G' H' [p1060] ∧ H' p1060 = some (.lst ((octets_1071 : (List Int)).map V.int)) ∧ cW (whileR m octets_1071 (fun s => F_Encoder_octets_b2  s)) K1069 EE) ∧ m < m1077 + 1), (fun _ _ ⟨m', a, b⟩ => ⟨m', b, a⟩), ?_⟩
          obtain ⟨g1084, hw⟩ := cW_grd hw
          refine ⟨_, rfl, (.inl ⟨rfl, _, SqL.of h1074⟩), _, _, _, rfl, rfl, h1074, (pop_map g1084), ?_⟩
          generalize g1085 : upd H1072 p1060 _ = H1086
          obtain ⟨x1087, h1088⟩ := gen_mut g1085
          have h1089 : H1086 p1060 = some (.lst (((octets_1071).dropLast : (List Int)).map V.int)) := drop_map h1088
          have S1090 := S1073.mut1 x1087 (.head _) h1089
          have hw := cW_bnd hw
          have hw := cW_ok hw
          have hw := hK1080 _ hw
          exact ⟨m1077, ⟨((octets_1071).dropLast), _, rfl, eG1076, S1090, h1089, hw⟩, Nat.lt_succ_self _⟩
        · have hw := cW_neg c1083 hw
          have hw := cW_ok hw
          have hw := hK1080 _ hw
          have hw := cW_aftgo (hK1070 (.go _) hw)
          have hw : cW (F_Encoder_octets_r2  (octets_1071)) _ EE := hw
          unfold F_Encoder_octets_r2 at hw
          refine ⟨_, rfl, ?_⟩
          have hw := cW_ok hw
          exact hK0 _ hw _ _ fr1067 S1073.b0 h1074
      · have hw := cW_pos c1081 hw
        refine iteF ?_
        have hw := cW_ok hw
        have hw := hK1080 _ hw
        have hw := cW_aftgo (hK1070 (.go _) hw)
        have hw : cW (F_Encoder_octets_r2  (octets_1071)) _ EE := hw
        unfold F_Encoder_octets_r2 at hw
        refine ⟨_, rfl, ?_⟩
        have hw := cW_ok hw
        exact hK0 _ hw _ _ fr1067 S1073.b0 h1074

abbrev N_Decoder___init__ : List Str := ["self", "octets", "_"]
theorem sc_Decoder___init__ : FnScope N_Decoder___init__ ["self", "octets"] (defScope s_Decoder___init__) := ⟨rfl, rfl, rfl, by decide +kernel, rfl, by decide +kernel, by decide +kernel⟩
theorem ok_Decoder___init__ (D : InitX K mg AD.c_Decoder "Decoder" "Decoder.__init__" s_Decoder___init__ ["self", "octets"] pats_Decoder___init__) (T : Txt K mg AD) (c_Decoder__shift : MetX P w K mg base 1 AD.c_Decoder "_shift" (sp_Decoder__shift K AD) pats_Decoder__shift) : MakX P w K mg base 2 "Decoder" AD.c_Decoder (sp_Decoder___init__ K AD) pats_Decoder___init__ := by
  refine D.ok sc_Decoder___init__ (fun vs H Q E h => ?_) (fun f cdv A_ outer s H vs Q E hr h => ?_)
  · obtain ⟨G, p_self, dx_self, a_octets, octets', rfl, _⟩ := h
    rfl
  · obtain ⟨G, p_self, dx_self, a_octets, octets', rfl, sG, gM, h_self, q_octets, hw⟩ := h
    refine ⟨_, (pss_cons (ps_fld (pv 0) (pe_op op_rep (pe_lst (pa_cons (C8.pe_gc rfl T.g_EVEN) pa_nil)) (C8.pe_gc rfl T.g_CONTEXTS_coder)) rfl)
      (pss_cons (ps_fld (pv 0) (pe_callTy (call_listLK (K := K)) (by rfl) T.b_list (by decide +kernel) (pa_cons (pv 1) pa_nil)) rfl)
      (pss_cons (ps_fld (pv 0) pe_int rfl)
      (pss_cons (ps_fld (pv 0) (pe_op op_sub (C8.pe_gc rfl T.g_WORD) pe_int) rfl)
      (pss_cons (ps_fld (pv 0) pe_int rfl)
      (pss_cons (ps_for (passes_of rfl) rfl (pi_range1 rfl T.b_range (pa_cons pe_int pa_nil)) (pg_name (i := 2) sc_Decoder___init__.nd rfl (Or.inl rfl)) (pss_one (ps_expr (vx_methX0 c_Decoder__shift pat_Decoder__shift_0 (.head _) hr (by decide) (takes_of rfl rfl rfl rfl) (pv 0)))))
      (pss_one (ps_fld (pv 0) (pe_callB (call_min2 rfl) (by rfl) T.b_min (by decide +kernel) (pa_cons (fldK (K := K) (pv 0)) (pa_cons (pe_op op_sub (C8.pe_gc rfl T.g_WORD) pe_int) pa_nil))) rfl)))))))), ?_⟩
    obtain ⟨KK, EE, hK0, hE, hw⟩ := cW_gen hw
    have S0 := Sep.startM (M := [p_self]) sG (all_cons (some_ne h_self) all_nil) gM
    unfold F_Decoder___init__ at hw
    refine ⟨(by show 1 ≤ sizeLine; decide), fun p1094 n1095 => ?_⟩
    generalize g1096 : upd H p1094 _ = H1097
    obtain ⟨e1098, h1099⟩ := gen_new n1095 g1096
    have h1100 : H1097 p1094 = some (.lst (([2048] : (List Int)).map V.int)) := h1099
    have fr1101 := S0.free n1095
    have S1102 := S0.new n1095 e1098 h1100 fr1101
    obtain ⟨g1103, hw⟩ := cW_grd hw
    refine ⟨_, _, _, rfl, rfl, h1100, g1103.1, g1103.2.1, (rep_lenM g1103.2.2), fun p1104 n1105 => ?_⟩
    generalize g1106 : upd H1097 p1104 _ = H1107
    obtain ⟨e1108, h1109⟩ := gen_new n1105 g1106
    have h1110 : H1107 p1104 = some (.lst ((repL ([2048]) (256) : (List Int)).map V.int)) := rep_map h1109
    have fr1111 := S1102.free n1105
    have S1112 := S1102.new n1105 e1108 h1110 fr1111
    have h1113 := (e1108 _ _ (e1098 _ _ h_self))
    refine ⟨_, rfl, _, _, _, _, rfl, h1113, T.cl_Decoder, T.n_Decoder__probabilities, (by show 0 < 1000; decide), ?_⟩
    generalize g1114 : upd H1107 p_self _ = H1115
    obtain ⟨x1116, h1117⟩ := gen_mut g1114
    have h1118 : H1115 p_self = some (.ins AD.c_Decoder dx_self [("_probabilities", V.ref p1104)]) := h1117
    have S1119 := S1112.mut1 x1116 (.tail _ (.tail _ (.head _))) h1118
    refine ⟨_, rfl, _, _, rfl, (SqL.of (S1119.bM _ _ q_octets)), fun p1120 n1121 => ?_⟩
    generalize g1122 : upd H1115 p1120 _ = H1123
    obtain ⟨e1124, h1125⟩ := gen_new n1121 g1122
    have h1126 : H1123 p1120 = some (.lst ((octets' : (List Int)).map V.int)) := h1125
    have fr1127 := S1119.free n1121
    have S1128 := S1119.new n1121 e1124 h1126 fr1127
    have h1129 := (e1124 _ _ h1118)
    refine ⟨_, rfl, _, _, _, _, rfl, h1129, T.cl_Decoder, T.n_Decoder__octets, (by show 1 < 1000; decide), ?_⟩
    generalize g1130 : upd H1123 p_self _ = H1131
    obtain ⟨x1132, h1133⟩ := gen_mut g1130
    have h1134 : H1131 p_self = some (.ins AD.c_Decoder dx_self [("_probabilities", V.ref p1104), ("_octets", V.ref p1120)]) := h1133
    have S1135 := S1128.mut1 x1132 (.tail _ (.tail _ (.tail _ (.head _)))) h1134
    refine ⟨_, rfl, _, _, _, _, rfl, h1134, T.cl_Decoder, T.n_Decoder__place, (by show 2 < 1000; decide), ?_⟩
    generalize g1136 : upd H1131 p_self _ = H1137
    obtain ⟨x1138, h1139⟩ := gen_mut g1136
    have h1140 : H1137 p_self = some (.ins AD.c_Decoder dx_self [("_probabilities", V.ref p1104), ("_octets", V.ref p1120), ("_place", V.int (0))]) := h1139
    have S1141 := S1135.mut1 x1138 (.tail _ (.tail _ (.tail _ (.head _)))) h1140
    have hw := cW_bnd hw
    refine ⟨_, _, rfl, rfl, _, rfl, _, _, _, _, rfl, h1140, T.cl_Decoder, T.n_Decoder__span, (by show 3 < 1000; decide), ?_⟩
    generalize g1143 : upd H1137 p_self _ = H1144
    obtain ⟨x1145, h1146⟩ := gen_mut g1143
    have h1147 : H1144 p_self = some (.ins AD.c_Decoder dx_self [("_probabilities", V.ref p1104), ("_octets", V.ref p1120), ("_place", V.int (0)), ("_span", V.int ((4294967296 - 1)))]) := h1146
    have S1148 := S1141.mut1 x1145 (.tail _ (.tail _ (.tail _ (.head _)))) h1147
    refine ⟨_, rfl, _, _, _, _, rfl, h1147, T.cl_Decoder, T.n_Decoder__value, (by show 4 < 1000; decide), ?_⟩
    generalize g1149 : upd H1144 p_self _ = H1150
    obtain ⟨x1151, h1152⟩ := gen_mut g1149
    have h1153 : H1150 p_self = some (.ins AD.c_Decoder dx_self [("_probabilities", V.ref p1104), ("_octets", V.ref p1120), ("_place", V.int (0)), ("_span", V.int ((4294967296 - 1))), ("_value", V.int (0))]) := h1152
    have S1154 := S1148.mut1 x1151 (.tail _ (.tail _ (.tail _ (.head _)))) h1153
    obtain ⟨K1155, hK1156, hw⟩ := cW_push hw
    refine ⟨_, rfl, (by decide), (by decide), for_range (lo := 0) (n := Int.toNat (4)) (fun i σ H' => ∃ (self_1157 : St_Decoder) (u1158 : Option V) (G' : Hp), σ = [some (V.ref p_self), some (V.ref a_octets), u1158] ∧ Same G G' ∧ Sep [p_self] H G G' H' [p_self, p1104, p1120] ∧ H' p_self = some (.ins AD.c_Decoder dx_self [("_probabilities", V.ref p1104), ("_octets", V.ref p1120), ("_place", V.int (self_1157.place)), ("_span", V.int (self_1157.span)), ("_value", V.int (self_1157.value))]) ∧ H' p1104 = some (.lst ((self_1157.probs : (List Int)).map V.int)) ∧ H' p1120 = some (.lst ((self_1157.octs : (List Int)).map V.int)) ∧ cW (forS (List.drop i (rng (0) (Int.toNat (4)))) self_1157 (fun s x => F_Decoder___init___b1  s x)) K1155 EE) ?_ ?_ ?_⟩
    · have h1159 := (x1151 _ _ (x1145 _ _ (x1138 _ _ (x1132 _ _ (e1124 _ _ (x1116 _ _ h1110 (ne_of_none (e1098 _ _ h_self) n1105).symm)) (ne_of_none (e1098 _ _ h_self) n1105).symm) (ne_of_none (e1098 _ _ h_self) n1105).symm) (ne_of_none (e1098 _ _ h_self) n1105).symm) (ne_of_none (e1098 _ _ h_self) n1105).symm)
      have h1160 := (x1151 _ _ (x1145 _ _ (x1138 _ _ (x1132 _ _ h1126 (ne_of_none h1118 n1121).symm) (ne_of_none h1118 n1121).symm) (ne_of_none h1118 n1121).symm) (ne_of_none h1118 n1121).symm)
      exact ⟨((⟨repL ([2048]) (256), octets', 0, (4294967296 - 1), 0⟩ : St_Decoder)), _, _, rfl, (Same.refl _), (S1154.sub (all_cons (.tail _ (.tail _ (.tail _ (.head _)))) (all_cons (.tail _ (.head _)) (all_cons (.head _) all_nil)))), h1153, h1159, h1160, hw⟩
    · intro i σ H1161 hi hw
      obtain ⟨self_1157, u1158, G1166, rfl, eG1167, S1162, h1163, h1164, h1165, hw⟩ := hw
      have hw := cW_forS (rng_get hi) hw
      generalize (0 + (i : Int)) = x1168 at hw ⊢
      have hw : cW (F_Decoder___init___b1  (self_1157) (x1168)) _ EE := hw
      unfold F_Decoder___init___b1 at hw
      obtain ⟨K1170, hK1171, hw⟩ := cW_name hw
      refine ⟨_, rfl, _, _, _, rfl, h1163, rfl, rfl, rfl, G1166, _, _, _, _, self_1157, rfl, S1162.sG, (S1162.gno (all_cons (.head _) (all_cons (.tail _ (.head _)) (all_cons (.tail _ (.tail _ (.head _))) all_nil)))), h1163, h1164, h1165, (ne_of_none (x1116 _ _ h1110 (ne_of_none (e1098 _ _ h_self) n1105).symm) n1121), cW_callN hw (fun v1173 hw H1174 x1175 h1177 h1178 h1179  => ?_) trivial⟩
      have S1176 := S1162.mut x1175 (all_cons (.head _) (all_cons (.tail _ (.head _)) (all_cons (.tail _ (.tail _ (.head _))) all_nil))) (all_cons (some_ne h1177) (all_cons (some_ne h1178) (all_cons (some_ne h1179) all_nil)))
      have hw := cW_ok hw
      have hw := hK1171 _ hw
      exact ⟨(v1173), _, _, rfl, eG1167, S1176, h1177, h1178, h1179, hw⟩
    · intro σ H1184 hw
      obtain ⟨self_1157, u1158, G1189, rfl, eG1190, S1185, h1186, h1187, h1188, hw⟩ := hw
      have hw := hK1156 _ (cW_forS0 (rng_len _ _).symm hw)
      have hw : cW (F_Decoder___init___r1  (self_1157)) _ EE := hw
      unfold F_Decoder___init___r1 at hw
      have hw := cW_bnd hw
      refine ⟨_, rfl, _, _, _, _, _, rfl, h1186, T.cl_Decoder, T.n_Decoder__value, rfl, _, _, rfl, rfl, _, _, rfl, _, rfl, _, _, _, _, rfl, h1186, T.cl_Decoder, T.n_Decoder__value, (by show 5 < 1000; decide), ?_⟩
      generalize g1193 : upd H1184 p_self _ = H1194
      obtain ⟨x1195, h1196⟩ := gen_mut g1193
      have h1197 : H1194 p_self = some (.ins AD.c_Decoder dx_self [("_probabilities", V.ref p1104), ("_octets", V.ref p1120), ("_place", V.int (self_1157.place)), ("_span", V.int (self_1157.span)), ("_value", V.int ((if (4294967296 - 2) < self_1157.value then (4294967296 - 2) else self_1157.value)))]) := h1196
      have S1198 := S1185.mut1 x1195 (.head _) h1197
      have h1199 := (x1195 _ _ h1187 (ne_of_none (e1098 _ _ h_self) n1105).symm)
      have h1200 := (x1195 _ _ h1188 (ne_of_none h1118 n1121).symm)
      have hw := cW_ok hw
      exact hK0 _ hw _ _ _ (sameX_of S1198.base) fr1111 fr1127 (ne_of_none (x1116 _ _ h1110 (ne_of_none (e1098 _ _ h_self) n1105).symm) n1121) h1197 h1199 h1200

abbrev N_check_size : List Str := ["size"]
theorem sc_check_size : FnScope N_check_size ["size"] (defScope s_check_size) := ⟨rfl, rfl, rfl, by decide +kernel, rfl, by decide +kernel, by decide +kernel⟩
theorem ok_check_size (D : DefX K mg "check_size" s_check_size ["size"] pats_check_size) (T : Txt K mg AD)  : CalX P w K mg base 1 "check_size" (sp_check_size K AD) pats_check_size := by
  refine D.ok sc_check_size (fun vs H Q E h => ?_) (fun f cdv A_ outer s H vs Q E hr h => ?_)
  · obtain ⟨G, size', rfl, _⟩ := h
    rfl
  · obtain ⟨G, size', rfl, sG, hw⟩ := h
    refine ⟨_, (pss_one (ps_if (pt_cmpR (op_notInI (K := K)) (pv 0) (C8.pe_gc (v := V.ref AD.t_SIZES) rfl T.g_SIZES) (by with_unfolding_all rfl)) (pss_one (ps_raise rfl (takes_of rfl rfl rfl rfl) (pmk_own PySem.F.excBase_ValueError T.xx_OutOfRange T.xg_OutOfRange T.xk_OutOfRange (raises_own T.xb_OutOfRange T.xt_OutOfRange) rfl))) pss_nil)), ?_⟩
    obtain ⟨KK, EE, hK0, hE, hw⟩ := cW_gen hw
    have S0 := Sep.startG sG
    unfold F_check_size at hw
    refine ⟨_, rfl, _, _, ([4, 8] : List Int), rfl, rfl, (.inr (T.ts_SIZES _)), _, rfl, ?_⟩
    refine iteN (fun c1201 => ?_) (fun c1201 => ?_)
    · have hw := cW_neg c1201 hw
      exact hE 1 (cW_er hw)
    · have hw := cW_pos c1201 hw
      have hw := cW_ok hw
      exact hK0 _ hw

abbrev N__get_places : List Str := ["reader", "count", "places", "stride", "place"]
theorem sc__get_places : FnScope N__get_places ["reader", "count"] (defScope s__get_places) := ⟨rfl, rfl, rfl, by decide +kernel, rfl, by decide +kernel, by decide +kernel⟩
theorem ok__get_places (D : DefX K mg "_get_places" s__get_places ["reader", "count"] pats__get_places) (T : Txt K mg AD) (c_SymbolReader_flag : MetX P w K mg base 4 AD.c_SymbolReader "flag" (sp_SymbolReader_flag K AD) pats_SymbolReader_flag) : CalX P w K mg base 5 "_get_places" (sp__get_places K AD) pats__get_places := by
  refine D.ok sc__get_places (fun vs H Q E h => ?_) (fun f cdv A_ outer s H vs Q E hr h => ?_)
  · obtain ⟨G, p_reader, p_reader_dec, l_reader_dec_probs, l_reader_dec_octs, dx_reader, dx_reader_dec, reader', count', rfl, _⟩ := h
    rfl
  · obtain ⟨G, p_reader, p_reader_dec, l_reader_dec_probs, l_reader_dec_octs, dx_reader, dx_reader_dec, reader', count', rfl, sG, gM, h_p_reader, h_p_reader_dec, h_l_reader_dec_probs, h_l_reader_dec_octs, ne_reader_0, ne_reader_1, hw⟩ := h
    refine ⟨_, (pss_cons (ps_set (i := 2) sc__get_places.nd rfl (Or.inl rfl) (pe_lst pa_nil))
      (pss_cons (ps_set (i := 3) sc__get_places.nd rfl (Or.inl rfl) (pe_op op_fdivW (C8.pe_gc rfl T.g_CLASSES) (pv 1)))
      (pss_cons (ps_for (passes_of rfl) rfl (pi_range1 rfl T.b_range (pa_cons (pe_op op_sub (pv 1) pe_int) pa_nil)) (pg_name (i := 4) sc__get_places.nd rfl (Or.inl rfl)) (pss_one (ps_if (pt_val (vx_methX c_SymbolReader_flag pat_SymbolReader_flag_0 (.head _) hr (by decide) (takes_of rfl rfl rfl rfl) (pv 0) (pa_cons (pe_op op_add (C8.pe_gc rfl T.g_SIGNIFICANT) (pe_op op_mul (pv 3) (pv 4))) pa_nil) pk_nil)) (pss_cons (ps_expr (pe_bm PySem.F.plainAttrs_list PySem.F.slot_list_append PySem.F.type_list_append mt_append (pv 2) (pa_cons (pv 4) pa_nil)))
      (pss_one (ps_if (pt_val (vx_methX c_SymbolReader_flag pat_SymbolReader_flag_0 (.head _) hr (by decide) (takes_of rfl rfl rfl rfl) (pv 0) (pa_cons (pe_op op_add (C8.pe_gc rfl T.g_LAST) (pe_op op_mul (pv 3) (pv 4))) pa_nil) pk_nil)) (pss_one (ps_ret (pv 2))) pss_nil))) pss_nil)))
      (pss_one (ps_ret (pe_op op_cat (pv 2) (pe_lst (pa_cons (pe_op op_sub (pv 1) pe_int) pa_nil)))))))), ?_⟩
    obtain ⟨KK, EE, hK0, hE, hw⟩ := cW_gen hw
    have S0 := Sep.startM (M := [p_reader, p_reader_dec, l_reader_dec_probs, l_reader_dec_octs]) sG (all_cons (some_ne h_p_reader) (all_cons (some_ne h_p_reader_dec) (all_cons (some_ne h_l_reader_dec_probs) (all_cons (some_ne h_l_reader_dec_octs) all_nil)))) gM
    unfold F__get_places at hw
    refine ⟨(by show 0 ≤ sizeLine; decide), fun p1202 n1203 => ?_⟩
    generalize g1204 : upd H p1202 _ = H1205
    obtain ⟨e1206, h1207⟩ := gen_new n1203 g1204
    have h1208 : H1205 p1202 = some (.lst ((([] : (List Int)) : (List Int)).map V.int)) := h1207
    have fr1209 := S0.free n1203
    have S1210 := S0.new n1203 e1206 h1208 fr1209
    obtain ⟨g1211, hw⟩ := cW_grd hw
    refine ⟨_, rfl, _, _, rfl, rfl, (divW_small g1211.1 g1211.2), ?_⟩
    have hw := cW_bnd hw
    obtain ⟨g1213, hw⟩ := cW_grd hw
    obtain ⟨K1216, hK1217, hw⟩ := cW_push hw
    refine ⟨_, rfl, _, _, rfl, rfl, _, rfl, g1213.1, g1213.2, for_range (lo := 0) (n := Int.toNat ((count' - 1))) (fun i σ H' => ∃ (reader_1218 : St_SymbolReader) (places_1219 : (List Int)) (u1220 : Option V) (G' : Hp), σ = [some (V.ref p_reader), some (V.int (count')), some (V.ref p1202), some (V.int ((64 / count'))), u1220] ∧ Same G G' ∧ Sep [p_reader, p_reader_dec, l_reader_dec_probs, l_reader_dec_octs] H G G' H' [p_reader, p_reader_dec, l_reader_dec_probs, l_reader_dec_octs, p1202] ∧ H' p_reader = some (.ins AD.c_SymbolReader dx_reader [("_decoder", V.ref p_reader_dec)]) ∧ H' p_reader_dec = some (.ins AD.c_Decoder dx_reader_dec [("_probabilities", V.ref l_reader_dec_probs), ("_octets", V.ref l_reader_dec_octs), ("_place", V.int (reader_1218.dec.place)), ("_span", V.int (reader_1218.dec.span)), ("_value", V.int (reader_1218.dec.value))]) ∧ H' l_reader_dec_probs = some (.lst ((reader_1218.dec.probs : (List Int)).map V.int)) ∧ H' l_reader_dec_octs = some (.lst ((reader_1218.dec.octs : (List Int)).map V.int)) ∧ H' p1202 = some (.lst ((places_1219 : (List Int)).map V.int)) ∧ cW (forR (List.drop i (rng (0) (Int.toNat ((count' - 1))))) (reader_1218, places_1219) (fun s x => F__get_places_b1 ((64 / count')) (s.1) (s.2) x)) K1216 EE) ?_ ?_ ?_⟩
    · have h1221 := (e1206 _ _ h_p_reader)
      have h1222 := (e1206 _ _ h_p_reader_dec)
      have h1223 := (e1206 _ _ h_l_reader_dec_probs)
      have h1224 := (e1206 _ _ h_l_reader_dec_octs)
      exact ⟨(reader'), (([] : (List Int))), _, _, rfl, (Same.refl _), (S1210.sub (all_cons (.tail _ (.head _)) (all_cons (.tail _ (.tail _ (.head _))) (all_cons (.tail _ (.tail _ (.tail _ (.head _)))) (all_cons (.tail _ (.tail _ (.tail _ (.tail _ (.head _))))) (all_cons (.head _) all_nil)))))), h1221, h1222, h1223, h1224, h1208, hw⟩
    · intro i σ H1225 hi hw
      obtain ⟨reader_1218, places_1219, u1220, G1232, rfl, eG1233, S1226, h1227, h1228, h1229, h1230, h1231, hw⟩ := hw
      have hw := cW_forR (rng_get hi) hw
      generalize (0 + (i : Int)) = x1234 at hw ⊢
      have hw : cW (F__get_places_b1 ((64 / count')) (reader_1218) (places_1219) (x1234)) _ EE := hw
      unfold F__get_places_b1 at hw
      obtain ⟨K1237, hK1238, hw⟩ := cW_name hw
      obtain ⟨g1240, hw⟩ := cW_grd hw
      refine ⟨_, rfl, _, _, _, rfl, h1227, rfl, _, rfl, _, rfl, _, _, rfl, rfl, g1240, _, _, rfl, rfl, rfl, rfl, G1232, _, _, _, _, _, _, reader_1218, _, rfl, S1226.sG, (S1226.gno (all_cons (.head _) (all_cons (.tail _ (.head _)) (all_cons (.tail _ (.tail _ (.head _))) (all_cons (.tail _ (.tail _ (.tail _ (.head _)))) all_nil))))), h1227, h1228, h1229, h1230, ne_reader_0, ne_reader_1, cW_callN hw (fun v1241 hw H1242 x1243 h1245 h1246 h1247 h1248  => ?_) trivial⟩
      have S1244 := S1226.mut x1243 (all_cons (.head _) (all_cons (.tail _ (.head _)) (all_cons (.tail _ (.tail _ (.head _))) (all_cons (.tail _ (.tail _ (.tail _ (.head _)))) all_nil)))) (all_cons (some_ne h1245) (all_cons (some_ne h1246) (all_cons (some_ne h1247) (all_cons (some_ne h1248) all_nil))))
      refine ⟨_, rfl, ?_⟩
      refine iteB (fun c1253 => ?_) (fun c1253 => ?_)
      · have hw := cW_pos c1253 hw
        have h1254 := (x1243 _ _ h1231 (ni4 (ne_of_none h_p_reader n1203).symm (ne_of_none h_p_reader_dec n1203).symm (ne_of_none h_l_reader_dec_probs n1203).symm (ne_of_none h_l_reader_dec_octs n1203).symm))
        obtain ⟨g1255, hw⟩ := cW_grd hw
        refine ⟨_, rfl, (.inl ⟨rfl, _, SqL.of h1254⟩), _, rfl, _, _, _, rfl, rfl, h1254, (app_lenM g1255), ?_⟩
        generalize g1256 : upd H1242 p1202 _ = H1257
        obtain ⟨x1258, h1259⟩ := gen_mut g1256
        have h1260 : H1257 p1202 = some (.lst (((places_1219) ++ [x1234] : (List Int)).map V.int)) := snoc_map h1259
        have S1261 := S1244.mut1 x1258 (.tail _ (.tail _ (.tail _ (.tail _ (.head _))))) h1260
        have hw := cW_bnd hw
        have h1263 := (x1258 _ _ h1245 (ne_of_none h_p_reader n1203))
        obtain ⟨g1264, hw⟩ := cW_grd hw
        have h1265 := (x1258 _ _ h1246 (ne_of_none h_p_reader_dec n1203))
        have h1266 := (x1258 _ _ h1247 (ne_of_none h_l_reader_dec_probs n1203))
        have h1267 := (x1258 _ _ h1248 (ne_of_none h_l_reader_dec_octs n1203))
        refine ⟨_, rfl, _, _, _, rfl, h1263, rfl, _, rfl, _, rfl, _, _, rfl, rfl, g1264, _, _, rfl, rfl, rfl, rfl, G1232, _, _, _, _, _, _, v1241.2, _, rfl, S1261.sG, (S1261.gno (all_cons (.head _) (all_cons (.tail _ (.head _)) (all_cons (.tail _ (.tail _ (.head _))) (all_cons (.tail _ (.tail _ (.tail _ (.head _)))) all_nil))))), h1263, h1265, h1266, h1267, ne_reader_0, ne_reader_1, cW_callN hw (fun v1268 hw H1269 x1270 h1272 h1273 h1274 h1275  => ?_) trivial⟩
        have S1271 := S1261.mut x1270 (all_cons (.head _) (all_cons (.tail _ (.head _)) (all_cons (.tail _ (.tail _ (.head _))) (all_cons (.tail _ (.tail _ (.tail _ (.head _)))) all_nil)))) (all_cons (some_ne h1272) (all_cons (some_ne h1273) (all_cons (some_ne h1274) (all_cons (some_ne h1275) all_nil))))
        refine ⟨_, rfl, ?_⟩
        refine iteB (fun c1280 => ?_) (fun c1280 => ?_)
        · have hw := cW_pos c1280 hw
          refine ⟨_, rfl, ?_⟩
          have h1281 := (x1270 _ _ h1260 (ni4 (ne_of_none h_p_reader n1203).symm (ne_of_none h_p_reader_dec n1203).symm (ne_of_none h_l_reader_dec_probs n1203).symm (ne_of_none h_l_reader_dec_octs n1203).symm))
          have hw := cW_ok hw
          have hw := hK1238 (.rt _) hw
          have hw := hK1217 (.rt _) hw
          have hw := cW_ok hw
          exact hK0 _ hw _ S1271.base h1272 h1273 h1274 h1275 _ fr1209 h1281
        · have hw := cW_negB c1280 hw
          have hw := cW_ok hw
          have hw := hK1238 _ hw
          have h1282 := (x1270 _ _ h1260 (ni4 (ne_of_none h_p_reader n1203).symm (ne_of_none h_p_reader_dec n1203).symm (ne_of_none h_l_reader_dec_probs n1203).symm (ne_of_none h_l_reader_dec_octs n1203).symm))
          exact ⟨(v1268.2), ((places_1219) ++ [x1234]), _, _, rfl, eG1233, S1271, h1272, h1273, h1274, h1275, h1282, hw⟩
      · have hw := cW_negB c1253 hw
        have hw := cW_ok hw
        have hw := hK1238 _ hw
        have h1283 := (x1243 _ _ h1231 (ni4 (ne_of_none h_p_reader n1203).symm (ne_of_none h_p_reader_dec n1203).symm (ne_of_none h_l_reader_dec_probs n1203).symm (ne_of_none h_l_reader_dec_octs n1203).symm))
        exact ⟨(v1241.2), (places_1219), _, _, rfl, eG1233, S1244, h1245, h1246, h1247, h1248, h1283, hw⟩
    · intro σ H1284 hw
      obtain ⟨reader_1218, places_1219, u1220, G1291, rfl, eG1292, S1285, h1286, h1287, h1288, h1289, h1290, hw⟩ := hw
      have hw := cW_aftgo (hK1217 _ (cW_forR0 (rng_len _ _).symm hw))
      have hw : cW (F__get_places_r1 (count') (reader_1218) (places_1219)) _ EE := hw
      unfold F__get_places_r1 at hw
      refine ⟨_, rfl, _, rfl, _, _, rfl, rfl, (by show 1 ≤ sizeLine; decide), fun p1295 n1296 => ?_⟩
      generalize g1297 : upd H1284 p1295 _ = H1298
      obtain ⟨e1299, h1300⟩ := gen_new n1296 g1297
      have h1301 : H1298 p1295 = some (.lst (([(count' - 1)] : (List Int)).map V.int)) := h1300
      have fr1302 := S1285.free n1296
      have S1303 := S1285.new n1296 e1299 h1301 fr1302
      obtain ⟨g1304, hw⟩ := cW_grd hw
      have h1305 := (e1299 _ _ h1290)
      refine ⟨_, _, _, _, rfl, rfl, h1305, h1301, (cat_lenM g1304), fun p1306 n1307 => ?_⟩
      generalize g1308 : upd H1298 p1306 _ = H1309
      obtain ⟨e1310, h1311⟩ := gen_new n1307 g1308
      have h1312 : H1309 p1306 = some (.lst (((places_1219) ++ ([(count' - 1)]) : (List Int)).map V.int)) := cat_map h1311
      have fr1313 := S1303.free n1307
      have S1314 := S1303.new n1307 e1310 h1312 fr1313
      have h1315 := (e1310 _ _ (e1299 _ _ h1286))
      have h1316 := (e1310 _ _ (e1299 _ _ h1287))
      have h1317 := (e1310 _ _ (e1299 _ _ h1288))
      have h1318 := (e1310 _ _ (e1299 _ _ h1289))
      have hw := cW_ok hw
      exact hK0 _ hw _ S1314.base h1315 h1316 h1317 h1318 _ fr1313 h1312

abbrev N_clip : List Str := ["value", "low", "high"]
theorem sc_clip : FnScope N_clip ["value", "low", "high"] (defScope s_clip) := ⟨rfl, rfl, rfl, by decide +kernel, rfl, by decide +kernel, by decide +kernel⟩
theorem ok_clip (D : DefX K mg "clip" s_clip ["value", "low", "high"] pats_clip) (T : Txt K mg AD)  : CalX P w K mg base 1 "clip" (sp_clip K AD) pats_clip := by
  refine D.ok sc_clip (fun vs H Q E h => ?_) (fun f cdv A_ outer s H vs Q E hr h => ?_)
  · obtain ⟨G, value', low', high', rfl, _⟩ := h
    rfl
  · obtain ⟨G, value', low', high', rfl, sG, hw⟩ := h
    refine ⟨_, (pss_one (ps_ret (pe_callB (call_min2 rfl) (by rfl) T.b_min (by decide +kernel) (pa_cons (pe_callB (call_max2 rfl) (by rfl) T.b_max (by decide +kernel) (pa_cons (pv 0) (pa_cons (pv 1) pa_nil))) (pa_cons (pv 2) pa_nil))))), ?_⟩
    obtain ⟨KK, EE, hK0, hE, hw⟩ := cW_gen hw
    have S0 := Sep.startG sG
    unfold F_clip at hw
    refine ⟨_, rfl, _, rfl, _, _, rfl, _, rfl, _, _, rfl, ?_⟩
    have hw := cW_ok hw
    exact hK0 _ hw

abbrev N_get_levels : List Str := ["reader", "size", "levels", "places", "base", "place", "worth", "level"]
theorem sc_get_levels : FnScope N_get_levels ["reader", "size"] (defScope s_get_levels) := ⟨rfl, rfl, rfl, by decide +kernel, rfl, by decide +kernel, by decide +kernel⟩
theorem ok_get_levels (D : DefX K mg "get_levels" s_get_levels ["reader", "size"] pats_get_levels) (T : Txt K mg AD) (c_check_size : CalX P w K mg base 1 "check_size" (sp_check_size K AD) pats_check_size) (c__get_places : CalX P w K mg base 5 "_get_places" (sp__get_places K AD) pats__get_places) (c_SymbolReader_number : MetX P w K mg base 5 AD.c_SymbolReader "number" (sp_SymbolReader_number K AD) pats_SymbolReader_number) (c_SymbolReader_even : MetX P w K mg base 4 AD.c_SymbolReader "even" (sp_SymbolReader_even K AD) pats_SymbolReader_even) (c_clip : CalX P w K mg base 1 "clip" (sp_clip K AD) pats_clip) (c__base_after : CalX P w K mg base 1 "_base_after" (sp__base_after K AD) pats__base_after) : CalX P w K mg base 6 "get_levels" (sp_get_levels K AD) pats_get_levels := by
  refine D.ok sc_get_levels (fun vs H Q E h => ?_) (fun f cdv A_ outer s H vs Q E hr h => ?_)
  · obtain ⟨G, p_reader, p_reader_dec, l_reader_dec_probs, l_reader_dec_octs, dx_reader, dx_reader_dec, reader', size', rfl, _⟩ := h
    rfl
  · obtain ⟨G, p_reader, p_reader_dec, l_reader_dec_probs, l_reader_dec_octs, dx_reader, dx_reader_dec, reader', size', rfl, sG, gM, h_p_reader, h_p_reader_dec, h_l_reader_dec_probs, h_l_reader_dec_octs, ne_reader_0, ne_reader_1, hw⟩ := h
    refine ⟨_, (pss_cons (ps_expr (vx_callX c_check_size pat_check_size_0 (.head _) hr (by decide) (takes_of rfl rfl rfl rfl) rfl (pa_cons (pv 1) pa_nil) pk_nil))
      (pss_cons (ps_set (i := 2) sc_get_levels.nd rfl (Or.inl rfl) (pe_op op_rep (pe_lst (pa_cons pe_int pa_nil)) (pe_op op_mul (pv 1) (pv 1))))
      (pss_cons (ps_set (i := 3) sc_get_levels.nd rfl (Or.inl rfl) (vx_callX c__get_places pat__get_places_0 (.head _) hr (by decide) (takes_of rfl rfl rfl rfl) rfl (pa_cons (pv 0) (pa_cons (pe_op op_mul (pv 1) (pv 1)) pa_nil)) pk_nil))
      (pss_cons (ps_set (i := 4) sc_get_levels.nd rfl (Or.inl rfl) (C8.pe_gc rfl T.g_LEVEL))
      (pss_cons (ps_for (passes_of rfl) rfl (pi_revK (K := K) rfl T.b_reversed (pa_cons (pv 3) pa_nil)) (pg_name (i := 5) sc_get_levels.nd rfl (Or.inl rfl)) (pss_cons (ps_set (i := 6) sc_get_levels.nd rfl (Or.inl rfl) (pe_op op_add (vx_methX c_SymbolReader_number pat_SymbolReader_number_0 (.head _) hr (by decide) (takes_of rfl rfl rfl rfl) (pv 0) (pa_cons (pv 4) pa_nil) pk_nil) pe_int))
      (pss_cons (ps_set (i := 7) sc_get_levels.nd rfl (Or.inl rfl) (pe_ifExp (pt_cmp (pc_eqI (vx_methX0 c_SymbolReader_even pat_SymbolReader_even_0 (.head _) hr (by decide) (takes_of rfl rfl rfl rfl) (pv 0)) pe_int)) (pe_un un_neg (pv 6)) (pv 6)))
      (pss_cons (ps_asg (vx_callX c_clip pat_clip_0 (.head _) hr (by decide) (takes_of rfl rfl rfl rfl) rfl (pa_cons (pv 7) (pa_cons (C8.pe_gc rfl T.g_LEAST_LEVEL) (pa_cons (C8.pe_gc rfl T.g_GREATEST_LEVEL) pa_nil))) pk_nil) (pg_sub (pv 2) (pv 5) set_list))
      (pss_one (ps_set (i := 4) sc_get_levels.nd rfl (Or.inl rfl) (vx_callX c__base_after pat__base_after_0 (.head _) hr (by decide) (takes_of rfl rfl rfl rfl) rfl (pa_cons (pv 4) (pa_cons (pv 6) pa_nil)) pk_nil)))))))
      (pss_one (ps_ret (pv 2)))))))), ?_⟩
    obtain ⟨KK, EE, hK0, hE, hw⟩ := cW_gen hw
    have S0 := Sep.startM (M := [p_reader, p_reader_dec, l_reader_dec_probs, l_reader_dec_octs]) sG (all_cons (some_ne h_p_reader) (all_cons (some_ne h_p_reader_dec) (all_cons (some_ne h_l_reader_dec_probs) (all_cons (some_ne h_l_reader_dec_octs) all_nil)))) gM
    unfold F_get_levels at hw
    refine ⟨_, rfl, rfl, rfl, G, _, rfl, S0.sG, cW_call hw (fun v1319 hw => ?_) (fun e he => hE e he _ (Same.refl _))⟩
    refine ⟨(by show 1 ≤ sizeLine; decide), fun p1320 n1321 => ?_⟩
    generalize g1322 : upd H p1320 _ = H1323
    obtain ⟨e1324, h1325⟩ := gen_new n1321 g1322
    have h1326 : H1323 p1320 = some (.lst (([0] : (List Int)).map V.int)) := h1325
    have fr1327 := S0.free n1321
    have S1328 := S0.new n1321 e1324 h1326 fr1327
    obtain ⟨g1329, hw⟩ := cW_grd hw
    obtain ⟨g1330, hw⟩ := cW_grd hw
    refine ⟨_, rfl, _, rfl, _, _, rfl, rfl, g1329, _, _, _, rfl, rfl, h1326, g1330.1, g1330.2.1, (rep_lenM g1330.2.2), fun p1331 n1332 => ?_⟩
    generalize g1333 : upd H1323 p1331 _ = H1334
    obtain ⟨e1335, h1336⟩ := gen_new n1332 g1333
    have h1337 : H1334 p1331 = some (.lst ((repL ([0]) ((size' * size')) : (List Int)).map V.int)) := rep_map h1336
    have fr1338 := S1328.free n1332
    have S1339 := S1328.new n1332 e1335 h1337 fr1338
    obtain ⟨g1340, hw⟩ := cW_grd hw
    have h1341 := (e1335 _ _ (e1324 _ _ h_p_reader))
    have h1342 := (e1335 _ _ (e1324 _ _ h_p_reader_dec))
    have h1343 := (e1335 _ _ (e1324 _ _ h_l_reader_dec_probs))
    have h1344 := (e1335 _ _ (e1324 _ _ h_l_reader_dec_octs))
    refine ⟨_, rfl, _, rfl, _, rfl, _, _, rfl, rfl, g1340, rfl, rfl, G, _, _, _, _, _, _, reader', _, rfl, S1339.sG, (S1339.gno (all_cons (.tail _ (.tail _ (.head _))) (all_cons (.tail _ (.tail _ (.tail _ (.head _)))) (all_cons (.tail _ (.tail _ (.tail _ (.tail _ (.head _))))) (all_cons (.tail _ (.tail _ (.tail _ (.tail _ (.tail _ (.head _)))))) all_nil))))), h1341, h1342, h1343, h1344, ne_reader_0, ne_reader_1, cW_call hw (fun v1345 hw H1346 x1347 h1349 h1350 h1351 h1352 p1353 n1354 h1355 => ?_) (fun e he H2 e2 => hE e he H2 (Same.trans (Same.trans e1324 e1335) e2))⟩
    have fr1356 := S1339.free n1354
    have S1348 := S1339.mutnew x1347 (all_cons (.tail _ (.tail _ (.head _))) (all_cons (.tail _ (.tail _ (.tail _ (.head _)))) (all_cons (.tail _ (.tail _ (.tail _ (.tail _ (.head _))))) (all_cons (.tail _ (.tail _ (.tail _ (.tail _ (.tail _ (.head _)))))) all_nil)))) (all_cons (some_ne h1349) (all_cons (some_ne h1350) (all_cons (some_ne h1351) (all_cons (some_ne h1352) all_nil)))) n1354 (some_ne h1355) fr1356
    obtain ⟨K1357, hK1358, hw⟩ := cW_push hw
    refine ⟨_, rfl, _, _, rfl, (SqL.of h1355), for_revI (K := K) (a := p1353) (xs := v1345.1) (fun i σ H' => ∃ (reader_1359 : St_SymbolReader) (levels_1360 : (List Int)) (base_1361 : Int) (u1362 : Option V) (u1363 : Option V) (u1364 : Option V) (G' : Hp), σ = [some (V.ref p_reader), some (V.int (size')), some (V.ref p1331), some (V.ref p1353), some (V.int base_1361), u1362, u1363, u1364] ∧ Same G G' ∧ Sep [p_reader, p_reader_dec, l_reader_dec_probs, l_reader_dec_octs] H G G' H' [p_reader, p_reader_dec, l_reader_dec_probs, l_reader_dec_octs, p1331, p1353] ∧ H' p_reader = some (.ins AD.c_SymbolReader dx_reader [("_decoder", V.ref p_reader_dec)]) ∧ H' p_reader_dec = some (.ins AD.c_Decoder dx_reader_dec [("_probabilities", V.ref l_reader_dec_probs), ("_octets", V.ref l_reader_dec_octs), ("_place", V.int (reader_1359.dec.place)), ("_span", V.int (reader_1359.dec.span)), ("_value", V.int (reader_1359.dec.value))]) ∧ H' l_reader_dec_probs = some (.lst ((reader_1359.dec.probs : (List Int)).map V.int)) ∧ H' l_reader_dec_octs = some (.lst ((reader_1359.dec.octs : (List Int)).map V.int)) ∧ H' p1331 = some (.lst ((levels_1360 : (List Int)).map V.int)) ∧ H' p1353 = some (.lst ((v1345.1).map V.int)) ∧ cW (forS (List.drop i ((List.reverse (v1345.1 : List Int)))) (reader_1359, levels_1360, base_1361) (fun s x => F_get_levels_b1  (s.1) (s.2.1) (s.2.2) x)) K1357 EE) ?_ ?_ ?_ ?_⟩
    · have h1365 := (x1347 _ _ h1337 (ni4 (ne_of_none (e1324 _ _ h_p_reader) n1332).symm (ne_of_none (e1324 _ _ h_p_reader_dec) n1332).symm (ne_of_none (e1324 _ _ h_l_reader_dec_probs) n1332).symm (ne_of_none (e1324 _ _ h_l_reader_dec_octs) n1332).symm))
      exact ⟨(v1345.2), (repL ([0]) ((size' * size'))), (192), _, _, _, _, rfl, (Same.refl _), (S1348.sub (all_cons (.tail _ (.tail _ (.tail _ (.head _)))) (all_cons (.tail _ (.tail _ (.tail _ (.tail _ (.head _))))) (all_cons (.tail _ (.tail _ (.tail _ (.tail _ (.tail _ (.head _)))))) (all_cons (.tail _ (.tail _ (.tail _ (.tail _ (.tail _ (.tail _ (.head _))))))) (all_cons (.tail _ (.head _)) (all_cons (.head _) all_nil))))))), h1349, h1350, h1351, h1352, h1365, h1355, hw⟩
    · intro i σ H1366 _ hw
      obtain ⟨reader_1359, levels_1360, base_1361, u1362, u1363, u1364, G1374, rfl, eG1375, S1367, h1368, h1369, h1370, h1371, h1372, h1373, hw⟩ := hw
      exact (SqL.of h1373)
    · intro i x σ H1376 hj hw
      obtain ⟨reader_1359, levels_1360, base_1361, u1362, u1363, u1364, G1384, rfl, eG1385, S1377, h1378, h1379, h1380, h1381, h1382, h1383, hw⟩ := hw
      obtain ⟨x1386, hx, rfl⟩ := map_get hj
      have hw := cW_forS hx hw
      have hw : cW (F_get_levels_b1  (reader_1359) (levels_1360) (base_1361) (x1386)) _ EE := hw
      unfold F_get_levels_b1 at hw
      obtain ⟨K1390, hK1391, hw⟩ := cW_name hw
      refine ⟨_, rfl, _, _, _, rfl, h1378, rfl, _, rfl, rfl, rfl, G1384, _, _, _, _, _, _, reader_1359, _, rfl, S1377.sG, (S1377.gno (all_cons (.head _) (all_cons (.tail _ (.head _)) (all_cons (.tail _ (.tail _ (.head _))) (all_cons (.tail _ (.tail _ (.tail _ (.head _)))) all_nil))))), h1378, h1379, h1380, h1381, ne_reader_0, ne_reader_1, cW_callN hw (fun v1393 hw H1394 x1395 h1397 h1398 h1399 h1400  => ?_) trivial⟩
      have S1396 := S1377.mut x1395 (all_cons (.head _) (all_cons (.tail _ (.head _)) (all_cons (.tail _ (.tail _ (.head _))) (all_cons (.tail _ (.tail _ (.tail _ (.head _)))) all_nil)))) (all_cons (some_ne h1397) (all_cons (some_ne h1398) (all_cons (some_ne h1399) (all_cons (some_ne h1400) all_nil))))
      refine ⟨_, _, rfl, rfl, ?_⟩
      have hw := cW_bnd hw
      refine ⟨_, rfl, _, _, _, rfl, h1397, rfl, rfl, rfl, G1384, _, _, _, _, _, _, v1393.2, rfl, S1396.sG, (S1396.gno (all_cons (.head _) (all_cons (.tail _ (.head _)) (all_cons (.tail _ (.tail _ (.head _))) (all_cons (.tail _ (.tail _ (.tail _ (.head _)))) all_nil))))), h1397, h1398, h1399, h1400, ne_reader_0, ne_reader_1, cW_callN hw (fun v1406 hw H1407 x1408 h1410 h1411 h1412 h1413  => ?_) trivial⟩
      have S1409 := S1396.mut x1408 (all_cons (.head _) (all_cons (.tail _ (.head _)) (all_cons (.tail _ (.tail _ (.head _))) (all_cons (.tail _ (.tail _ (.tail _ (.head _)))) all_nil)))) (all_cons (some_ne h1410) (all_cons (some_ne h1411) (all_cons (some_ne h1412) (all_cons (some_ne h1413) all_nil))))
      refine ⟨_, _, rfl, rfl, _, rfl, ?_⟩
      refine iteD (fun c1418 => ?_) (fun c1418 => ?_)
      · have hw := cW_pos c1418 hw
        refine ⟨_, rfl, _, rfl, ?_⟩
        have hw := cW_bnd hw
        refine ⟨_, rfl, rfl, rfl, G1384, _, _, _, rfl, S1409.sG, cW_callN hw (fun v1420 hw => ?_) trivial⟩
        obtain ⟨g1421, hw⟩ := cW_grd hw
        have h1422 := (x1408 _ _ (x1395 _ _ h1382 (ni4 (ne_of_none (e1324 _ _ h_p_reader) n1332).symm (ne_of_none (e1324 _ _ h_p_reader_dec) n1332).symm (ne_of_none (e1324 _ _ h_l_reader_dec_probs) n1332).symm (ne_of_none (e1324 _ _ h_l_reader_dec_octs) n1332).symm)) (ni4 (ne_of_none (e1324 _ _ h_p_reader) n1332).symm (ne_of_none (e1324 _ _ h_p_reader_dec) n1332).symm (ne_of_none (e1324 _ _ h_l_reader_dec_probs) n1332).symm (ne_of_none (e1324 _ _ h_l_reader_dec_octs) n1332).symm))
        refine ⟨_, rfl, _, rfl, _, _, _, _, rfl, rfl, h1422, (ixN_map g1421), ?_⟩
        generalize g1423 : upd H1407 p1331 _ = H1424
        obtain ⟨x1425, h1426⟩ := gen_mut g1423
        have h1427 : H1424 p1331 = some (.lst ((setL (levels_1360) (x1386) (v1420) : (List Int)).map V.int)) := set_map h1426
        have S1428 := S1409.mut1 x1425 (.tail _ (.tail _ (.tail _ (.tail _ (.head _))))) h1427
        have hw := cW_bnd hw
        have h1431 := (x1425 _ _ h1410 (ne_of_none (e1324 _ _ h_p_reader) n1332))
        refine ⟨_, rfl, _, rfl, rfl, rfl, G1384, _, _, rfl, S1428.sG, cW_callN hw (fun v1430 hw => ?_) trivial⟩
        have hw := cW_ok hw
        have hw := hK1391 _ hw
        have h1432 := (x1425 _ _ h1411 (ne_of_none (e1324 _ _ h_p_reader_dec) n1332))
        have h1433 := (x1425 _ _ h1412 (ne_of_none (e1324 _ _ h_l_reader_dec_probs) n1332))
        have h1434 := (x1425 _ _ h1413 (ne_of_none (e1324 _ _ h_l_reader_dec_octs) n1332))
        have h1435 := (x1425 _ _ (x1408 _ _ (x1395 _ _ h1383 (ni4 (ne_of_none h1341 n1354).symm (ne_of_none h1342 n1354).symm (ne_of_none h1343 n1354).symm (ne_of_none h1344 n1354).symm)) (ni4 (ne_of_none h1341 n1354).symm (ne_of_none h1342 n1354).symm (ne_of_none h1343 n1354).symm (ne_of_none h1344 n1354).symm)) (ne_of_none h1337 n1354).symm)
        exact ⟨(v1406.2), (setL (levels_1360) (x1386) (v1420)), (v1430), _, _, _, _, rfl, eG1385, S1428, h1431, h1432, h1433, h1434, h1427, h1435, hw⟩
      · have hw := cW_neg c1418 hw
        refine ⟨_, rfl, _, rfl, rfl, rfl, G1384, _, _, _, rfl, S1409.sG, cW_callN hw (fun v1436 hw => ?_) trivial⟩
        obtain ⟨g1437, hw⟩ := cW_grd hw
        have h1438 := (x1408 _ _ (x1395 _ _ h1382 (ni4 (ne_of_none (e1324 _ _ h_p_reader) n1332).symm (ne_of_none (e1324 _ _ h_p_reader_dec) n1332).symm (ne_of_none (e1324 _ _ h_l_reader_dec_probs) n1332).symm (ne_of_none (e1324 _ _ h_l_reader_dec_octs) n1332).symm)) (ni4 (ne_of_none (e1324 _ _ h_p_reader) n1332).symm (ne_of_none (e1324 _ _ h_p_reader_dec) n1332).symm (ne_of_none (e1324 _ _ h_l_reader_dec_probs) n1332).symm (ne_of_none (e1324 _ _ h_l_reader_dec_octs) n1332).symm))
        refine ⟨_, rfl, _, rfl, _, _, _, _, rfl, rfl, h1438, (ixN_map g1437), ?_⟩
        generalize g1439 : upd H1407 p1331 _ = H1440
        obtain ⟨x1441, h1442⟩ := gen_mut g1439
        have h1443 : H1440 p1331 = some (.lst ((setL (levels_1360) (x1386) (v1436) : (List Int)).map V.int)) := set_map h1442
        have S1444 := S1409.mut1 x1441 (.tail _ (.tail _ (.tail _ (.tail _ (.head _))))) h1443
        have hw := cW_bnd hw
        have h1447 := (x1441 _ _ h1410 (ne_of_none (e1324 _ _ h_p_reader) n1332))
        refine ⟨_, rfl, _, rfl, rfl, rfl, G1384, _, _, rfl, S1444.sG, cW_callN hw (fun v1446 hw => ?_) trivial⟩
        have hw := cW_ok hw
        have hw := hK1391 _ hw
        have h1448 := (x1441 _ _ h1411 (ne_of_none (e1324 _ _ h_p_reader_dec) n1332))
        have h1449 := (x1441 _ _ h1412 (ne_of_none (e1324 _ _ h_l_reader_dec_probs) n1332))
        have h1450 := (x1441 _ _ h1413 (ne_of_none (e1324 _ _ h_l_reader_dec_octs) n1332))
        have h1451 := (x1441 _ _ (x1408 _ _ (x1395 _ _ h1383 (ni4 (ne_of_none h1341 n1354).symm (ne_of_none h1342 n1354).symm (ne_of_none h1343 n1354).symm (ne_of_none h1344 n1354).symm)) (ni4 (ne_of_none h1341 n1354).symm (ne_of_none h1342 n1354).symm (ne_of_none h1343 n1354).symm (ne_of_none h1344 n1354).symm)) (ne_of_none h1337 n1354).symm)
        exact ⟨(v1406.2), (setL (levels_1360) (x1386) (v1436)), (v1446), _, _, _, _, rfl, eG1385, S1444, h1447, h1448, h1449, h1450, h1443, h1451, hw⟩
    · intro σ H1452 hw
      obtain ⟨reader_1359, levels_1360, base_1361, u1362, u1363, u1364, G1460, rfl, eG1461, S1453, h1454, h1455, h1456, h1457, h1458, h1459, hw⟩ := hw
      have hw := hK1358 _ (cW_forS0 (by rw [List.length_map]) hw)
      have hw : cW (F_get_levels_r1  (reader_1359) (levels_1360) (base_1361)) _ EE := hw
      unfold F_get_levels_r1 at hw
      refine ⟨_, rfl, ?_⟩
      have hw := cW_ok hw
      exact hK0 _ hw _ S1453.base h1454 h1455 h1456 h1457 _ fr1338 h1458

abbrev N__law_cell : List Str := ["script", "k"]
theorem sc__law_cell : FnScope N__law_cell ["script", "k"] (defScope s__law_cell) := ⟨rfl, rfl, rfl, by decide +kernel, rfl, by decide +kernel, by decide +kernel⟩
theorem ok__law_cell (D : DefX K mg "_law_cell" s__law_cell ["script", "k"] pats__law_cell) (T : Txt K mg AD)  : CalX P w K mg base 1 "_law_cell" (sp__law_cell K AD) pats__law_cell := by
  refine D.ok sc__law_cell (fun vs H Q E h => ?_) (fun f cdv A_ outer s H vs Q E hr h => ?_)
  · obtain ⟨G, a_script, script', k', rfl, _⟩ := h
    rfl
  · obtain ⟨G, a_script, script', k', rfl, sG, q_script, hw⟩ := h
    refine ⟨_, (pss_cons (ps_if (pt_cmp (pc_lt (pv 1) (pe_callB (call_lenLiK (K := K)) (by rfl) T.b_len (by decide +kernel) (pa_cons (pv 0) pa_nil)))) (pss_one (ps_ret (pe_callB call_abs (by rfl) T.b_abs (by decide +kernel) (pa_cons (pe_callTy call_int1 (by rfl) T.b_int (by decide +kernel) (pa_cons (pe_ix (ix_listK (K := K)) (pv 0) (pv 1) (fun _ _ => rfl)) pa_nil)) pa_nil)))) pss_nil)
      (pss_one (ps_ret pe_int))), ?_⟩
    obtain ⟨KK, EE, hK0, hE, hw⟩ := cW_gen hw
    have S0 := Sep.startG sG
    unfold F__law_cell at hw
    refine ⟨_, rfl, _, rfl, _, _, rfl, (S0.b0.seq q_script), _, _, rfl, rfl, _, rfl, ?_⟩
    refine iteD (fun c1465 => ?_) (fun c1465 => ?_)
    · have hw := cW_pos c1465 hw
      obtain ⟨g1466, hw⟩ := cW_grd hw
      refine ⟨_, rfl, _, rfl, _, _, _, _, rfl, rfl, (S0.b0.seq q_script), (atI_map g1466), .inl ⟨_, rfl, ?_⟩⟩
      refine ⟨_, rfl, ?_⟩
      have hw := cW_ok hw
      exact hK0 _ hw
    · have hw := cW_neg c1465 hw
      have hw := cW_ok hw
      exact hK0 _ hw

abbrev N__law_digits : List Str := ["cell", "base", "most", "digits", "large", "k"]
theorem sc__law_digits : FnScope N__law_digits ["cell", "base", "most"] (defScope s__law_digits) := ⟨rfl, rfl, rfl, by decide +kernel, rfl, by decide +kernel, by decide +kernel⟩
theorem ok__law_digits (D : DefX K mg "_law_digits" s__law_digits ["cell", "base", "most"] pats__law_digits) (T : Txt K mg AD)  : CalX P w K mg base 1 "_law_digits" (sp__law_digits K AD) pats__law_digits := by
  refine D.ok sc__law_digits (fun vs H Q E h => ?_) (fun f cdv A_ outer s H vs Q E hr h => ?_)
  · obtain ⟨G, cell', base', most', rfl, _⟩ := h
    rfl
  · obtain ⟨G, cell', base', most', rfl, sG, hw⟩ := h
    refine ⟨_, (pss_cons (ps_set (i := 3) sc__law_digits.nd rfl (Or.inl rfl) (pe_lst pa_nil))
      (pss_cons (ps_set (i := 4) sc__law_digits.nd rfl (Or.inl rfl) (pe_cmp (pc_ge (pv 0) (pe_op op_pow pe_int pe_int))))
      (pss_cons (ps_for (passes_of rfl) rfl (pi_range1 rfl T.b_range (pa_cons (pv 2) pa_nil)) (pg_name (i := 5) sc__law_digits.nd rfl (Or.inl rfl)) (pss_one (ps_if (pt_val (pv 4)) (pss_cons (ps_expr (pe_bm PySem.F.plainAttrs_list PySem.F.slot_list_append PySem.F.type_list_append mt_append (pv 3) (pa_cons (pe_op op_mod (pe_callTy call_int1 (by rfl) T.b_int (by decide +kernel) (pa_cons (pv 0) pa_nil)) (pv 1)) pa_nil)))
      (pss_one (ps_set (i := 0) sc__law_digits.nd rfl (Or.inl rfl) (pe_op op_fdivW (pv 0) (pv 1))))) (pss_one (ps_expr (pe_bm PySem.F.plainAttrs_list PySem.F.slot_list_append PySem.F.type_list_append mt_append (pv 3) (pa_cons (pe_op op_mod (pe_op op_mod (pe_callTy call_int1 (by rfl) T.b_int (by decide +kernel) (pa_cons (pe_op op_add (pe_op op_add (pe_op op_mul (pv 0) pe_int) (pe_op op_mul (pe_op op_mul (pe_op op_add (pv 5) pe_int) (pe_op op_add (pv 5) pe_int)) pe_int)) (pe_op op_mul (pe_op op_fdivW (pv 0) pe_int) (pv 5))) pa_nil)) pe_int) (pv 1)) pa_nil)))))))
      (pss_one (ps_ret (pv 3)))))), ?_⟩
    obtain ⟨KK, EE, hK0, hE, hw⟩ := cW_gen hw
    have S0 := Sep.startG sG
    unfold F__law_digits at hw
    refine ⟨(by show 0 ≤ sizeLine; decide), fun p1467 n1468 => ?_⟩
    generalize g1469 : upd H p1467 _ = H1470
    obtain ⟨e1471, h1472⟩ := gen_new n1468 g1469
    have h1473 : H1470 p1467 = some (.lst ((([] : (List Int)) : (List Int)).map V.int)) := h1472
    have fr1474 := S0.free n1468
    have S1475 := S0.new n1468 e1471 h1473 fr1474
    refine ⟨_, rfl, _, _, rfl, rfl, ⟨by decide, by decide, by decide⟩, _, _, rfl, rfl, ?_⟩
    have hw := cW_bnd hw
    obtain ⟨g1477, hw⟩ := cW_grd hw
    obtain ⟨K1480, hK1481, hw⟩ := cW_push hw
    refine ⟨_, rfl, _, rfl, g1477.1, g1477.2, for_range (lo := 0) (n := Int.toNat (most')) (fun i σ H' => ∃ (cell_1482 : Int) (digits_1483 : (List Int)) (u1484 : Option V) (G' : Hp), σ = [some (V.int cell_1482), some (V.int (base')), some (V.int (most')), some (V.ref p1467), some (V.bl (decide (((10 : Int) ^ Int.toNat 18) ≤ cell'))), u1484] ∧ Same G G' ∧ Sep [] H G G' H' [p1467] ∧ H' p1467 = some (.lst ((digits_1483 : (List Int)).map V.int)) ∧ cW (forS (List.drop i (rng (0) (Int.toNat (most')))) (cell_1482, digits_1483) (fun s x => F__law_digits_b1 (base') (decide (((10 : Int) ^ Int.toNat 18) ≤ cell')) (s.1) (s.2) x)) K1480 EE) ?_ ?_ ?_⟩
    · exact ⟨(cell'), (([] : (List Int))), _, _, rfl, (Same.refl _), S1475, h1473, hw⟩
    · intro i σ H1485 hi hw
      obtain ⟨cell_1482, digits_1483, u1484, G1488, rfl, eG1489, S1486, h1487, hw⟩ := hw
      have hw := cW_forS (rng_get hi) hw
      generalize (0 + (i : Int)) = x1490 at hw ⊢
      have hw : cW (F__law_digits_b1 (base') (decide (((10 : Int) ^ Int.toNat 18) ≤ cell')) (cell_1482) (digits_1483) (x1490)) _ EE := hw
      unfold F__law_digits_b1 at hw
      obtain ⟨K1493, hK1494, hw⟩ := cW_name hw
      refine ⟨_, rfl, _, rfl, ?_⟩
      refine iteB (fun c1496 => ?_) (fun c1496 => ?_)
      · have hw := cW_pos c1496 hw
        refine ⟨_, rfl, (.inl ⟨rfl, _, SqL.of h1487⟩), _, rfl, .inl ⟨_, rfl, ?_⟩⟩
        obtain ⟨g1497, hw⟩ := cW_grd hw
        obtain ⟨g1498, hw⟩ := cW_grd hw
        refine ⟨_, rfl, _, _, rfl, rfl, g1497, _, _, _, rfl, rfl, h1487, (app_lenM g1498), ?_⟩
        generalize g1499 : upd H1485 p1467 _ = H1500
        obtain ⟨x1501, h1502⟩ := gen_mut g1499
        have h1503 : H1500 p1467 = some (.lst (((digits_1483) ++ [(cell_1482 % base')] : (List Int)).map V.int)) := snoc_map h1502
        have S1504 := S1486.mut1 x1501 (.head _) h1503
        have hw := cW_bnd hw
        obtain ⟨g1506, hw⟩ := cW_grd hw
        refine ⟨_, rfl, _, rfl, _, _, rfl, rfl, (divW_small g1506.1 g1506.2), ?_⟩
        have hw := cW_bnd hw
        have hw := cW_ok hw
        have hw := hK1494 _ hw
        exact ⟨((cell_1482 / base')), ((digits_1483) ++ [(cell_1482 % base')]), _, _, rfl, eG1489, S1504, h1503, hw⟩
      · have hw := cW_negB c1496 hw
        obtain ⟨g1508, hw⟩ := cW_grd hw
        obtain ⟨g1509, hw⟩ := cW_grd hw
        refine ⟨_, rfl, (.inl ⟨rfl, _, SqL.of h1487⟩), _, rfl, _, _, rfl, rfl, (.inr ⟨by decide, by decide⟩), _, rfl, _, _, rfl, rfl, _, rfl, _, _, rfl, rfl, _, _, rfl, rfl, g1508, _, _, rfl, rfl, (.inr ⟨by decide, by decide⟩), _, _, rfl, rfl, _, rfl, _, _, rfl, rfl, (divW_lit (by decide) (by decide)), _, rfl, _, _, rfl, rfl, g1509, _, _, rfl, rfl, .inl ⟨_, rfl, ?_⟩⟩
        obtain ⟨g1510, hw⟩ := cW_grd hw
        obtain ⟨g1511, hw⟩ := cW_grd hw
        refine ⟨_, _, rfl, rfl, (show (0 : Int) < 2147483647 by decide), _, rfl, _, _, rfl, rfl, g1510, _, _, _, rfl, rfl, h1487, (app_lenM g1511), ?_⟩
        generalize g1512 : upd H1485 p1467 _ = H1513
        obtain ⟨x1514, h1515⟩ := gen_mut g1512
        have h1516 : H1513 p1467 = some (.lst (((digits_1483) ++ [(((((cell_1482 * 48271) + (((x1490 + 1) * (x1490 + 5)) * 69621)) + ((cell_1482 / 97) * x1490)) % 2147483647) % base')] : (List Int)).map V.int)) := snoc_map h1515
        have S1517 := S1486.mut1 x1514 (.head _) h1516
        have hw := cW_bnd hw
        have hw := cW_ok hw
        have hw := hK1494 _ hw
        exact ⟨(cell_1482), ((digits_1483) ++ [(((((cell_1482 * 48271) + (((x1490 + 1) * (x1490 + 5)) * 69621)) + ((cell_1482 / 97) * x1490)) % 2147483647) % base')]), _, _, rfl, eG1489, S1517, h1516, hw⟩
    · intro σ H1519 hw
      obtain ⟨cell_1482, digits_1483, u1484, G1522, rfl, eG1523, S1520, h1521, hw⟩ := hw
      have hw := hK1481 _ (cW_forS0 (rng_len _ _).symm hw)
      have hw : cW (F__law_digits_r1  (cell_1482) (digits_1483)) _ EE := hw
      unfold F__law_digits_r1 at hw
      refine ⟨_, rfl, ?_⟩
      have hw := cW_ok hw
      exact hK0 _ hw _ _ fr1474 S1520.b0 h1521

abbrev N__law_block : List Str := ["cell", "count", "digits", "share", "levels", "k", "worth", "level"]
theorem sc__law_block : FnScope N__law_block ["cell", "count"] (defScope s__law_block) := ⟨rfl, rfl, rfl, by decide +kernel, rfl, by decide +kernel, by decide +kernel⟩
theorem ok__law_block (D : DefX K mg "_law_block" s__law_block ["cell", "count"] pats__law_block) (T : Txt K mg AD) (c__law_digits : CalX P w K mg base 1 "_law_digits" (sp__law_digits K AD) pats__law_digits) : CalX P w K mg base 2 "_law_block" (sp__law_block K AD) pats__law_block := by
  refine D.ok sc__law_block (fun vs H Q E h => ?_) (fun f cdv A_ outer s H vs Q E hr h => ?_)
  · obtain ⟨G, cell', count', rfl, _⟩ := h
    rfl
  · obtain ⟨G, cell', count', rfl, sG, hw⟩ := h
    refine ⟨_, (pss_cons (ps_set (i := 2) sc__law_block.nd rfl (Or.inl rfl) (vx_callX c__law_digits pat__law_digits_0 (.head _) hr (by decide) (takes_of rfl rfl rfl rfl) rfl (pa_cons (pv 0) (pa_cons pe_int (pa_cons (pv 1) pa_nil))) pk_nil))
      (pss_cons (ps_set (i := 3) sc__law_block.nd rfl (Or.inl rfl) (pe_op op_add pe_int (pe_op op_mod (pe_op op_fdivW (pv 0) pe_int) pe_int)))
      (pss_cons (ps_set (i := 4) sc__law_block.nd rfl (Or.inl rfl) (pe_lst pa_nil))
      (pss_cons (ps_for (passes_of rfl) rfl (pi_range1 rfl T.b_range (pa_cons (pv 1) pa_nil)) (pg_name (i := 5) sc__law_block.nd rfl (Or.inl rfl)) (pss_cons (ps_set (i := 6) sc__law_block.nd rfl (Or.inl rfl) (pe_op op_fdivW (pe_ix (ix_listK (K := K)) (pv 2) (pv 5) (fun _ _ => rfl)) pe_int))
      (C8.pss_cut (ps_if (pt_cmp (pc_eqI (pe_op op_mod (pe_ix (ix_listK (K := K)) (pv 2) (pv 5) (fun _ _ => rfl)) pe_int) pe_int)) (pss_one (ps_set (i := 6) sc__law_block.nd rfl (Or.inl rfl) (pe_op op_sub (pv 6) pe_int))) (pss_one (ps_if (pt_cmp (pc_lt (pe_op op_mod (pe_ix (ix_listK (K := K)) (pv 2) (pv 5) (fun _ _ => rfl)) pe_int) pe_int)) (pss_one (ps_set (i := 6) sc__law_block.nd rfl (Or.inl rfl) (pe_op op_sub (pe_op op_mod (pv 6) pe_int) pe_int))) (pss_one (ps_set (i := 6) sc__law_block.nd rfl (Or.inl rfl) (pe_op op_sub (pe_op op_mod (pv 6) pe_int) pe_int))))))
      (C8.pss_cut (ps_if (pt_cmp (pc_lt (pe_op op_mod (pe_op op_fdivW (pe_ix (ix_listK (K := K)) (pv 2) (pv 5) (fun _ _ => rfl)) pe_int) pe_int) (pv 3))) (pss_one (ps_set (i := 6) sc__law_block.nd rfl (Or.inl rfl) pe_int)) pss_nil)
      (pss_one (ps_expr (pe_bm PySem.F.plainAttrs_list PySem.F.slot_list_append PySem.F.type_list_append mt_append (pv 4) (pa_cons (pv 6) pa_nil))))))))
      (C8.pss_cut (ps_if (pt_cmp (pc_eqI (pe_op op_mod (pe_op op_fdivW (pv 0) pe_int) pe_int) pe_int)) (pss_one (ps_asg (pe_op op_add (pe_un un_neg pe_int) (pe_op op_mod (pe_op op_fdivW (pv 0) pe_int) pe_int)) (pg_sub (pv 4) (pe_op op_sub (pv 1) pe_int) set_list))) pss_nil)
      (C8.pss_cut (ps_if (pt_cmp (pc_eqI (pe_op op_mod (pe_op op_fdivW (pv 0) pe_int) pe_int) pe_int)) (pss_cons (ps_set (i := 4) sc__law_block.nd rfl (Or.inl rfl) (pe_op op_rep (pe_lst (pa_cons pe_int pa_nil)) (pv 1)))
      (pss_one (ps_asg (pe_op op_sub pe_int (pe_op op_mod (pe_op op_fdivW (pv 0) pe_int) pe_int)) (pg_sub (pv 4) (pe_op op_mod (pe_op op_fdivW (pv 0) pe_int) (pv 1)) set_list)))) pss_nil)
      (C8.pss_cut (ps_if (pt_not (pt_val (pe_callB (cr_anyK (K := K) rfl) (by rfl) T.b_any (by decide +kernel) (pa_cons (pe_lc (own := [("level", 7)]) (g := gName 7) (by rfl) sc__law_block.nd (pi_listK (K := K) (pv 4)) (blkOk_by (own := [("level", 7)]) (N := N__law_block) (sc := defScope s__law_block) (by decide +kernel)) (fun _ _ _ _ _ => (pg_name (i := 7) sc__law_block.nd rfl (Or.inl rfl))) (fun _ _ _ _ _ => pts_nil) (fun _ _ _ _ _ => (pe_cmp (pc_neI (pv 7) pe_int)))) pa_nil)))) (pss_one (ps_asg pe_int (pg_sub (pv 4) (pe_op op_mod (pe_op op_fdivW (pv 0) pe_int) (pv 1)) set_list))) pss_nil)
      (pss_one (ps_ret (pv 4)))))))))), ?_⟩
    obtain ⟨KK, EE, hK0, hE, hw⟩ := cW_gen hw
    have S0 := Sep.startG sG
    unfold F__law_block at hw
    refine ⟨_, rfl, _, rfl, rfl, rfl, G, _, _, _, rfl, S0.sG, cW_call hw (fun v1526 hw p1529 H1527 n1530 e1528 h1531 => ?_) (fun e he H2 e2 => hE e he H2 (Same.trans S0.b0 e2))⟩
    have h1532 : H1527 p1529 = some (.lst ((v1526 : (List Int)).map V.int)) := h1531
    have fr1533 := S0.free n1530
    have S1534 := S0.new n1530 e1528 h1532 fr1533
    refine ⟨_, rfl, _, _, rfl, rfl, (divW_lit (by decide) (by decide)), _, _, rfl, rfl, (show (0 : Int) < 9 by decide), _, _, rfl, rfl, ?_⟩
    have hw := cW_bnd hw
    refine ⟨(by show 0 ≤ sizeLine; decide), fun p1536 n1537 => ?_⟩
    generalize g1538 : upd H1527 p1536 _ = H1539
    obtain ⟨e1540, h1541⟩ := gen_new n1537 g1538
    have h1542 : H1539 p1536 = some (.lst ((([] : (List Int)) : (List Int)).map V.int)) := h1541
    have fr1543 := S1534.free n1537
    have S1544 := S1534.new n1537 e1540 h1542 fr1543
    obtain ⟨g1545, hw⟩ := cW_grd hw
    obtain ⟨K1550, hK1551, hw⟩ := cW_push hw
    refine ⟨_, rfl, _, rfl, g1545.1, g1545.2, for_range (lo := 0) (n := Int.toNat (count')) (fun i σ H' => ∃ (levels_1552 : (List Int)) (u1553 : Option V) (u1554 : Option V) (G' : Hp), σ = [some (V.int (cell')), some (V.int (count')), some (V.ref p1529), some (V.int ((1 + ((cell' / 19) % 9)))), some (V.ref p1536), u1553, u1554, none] ∧ Same G G' ∧ Sep [] H G G' H' [p1529, p1536] ∧ H' p1529 = some (.lst ((v1526 : (List Int)).map V.int)) ∧ H' p1536 = some (.lst ((levels_1552 : (List Int)).map V.int)) ∧ cW (forS (List.drop i (rng (0) (Int.toNat (count')))) levels_1552 (fun s x => F__law_block_b1 (v1526) ((1 + ((cell' / 19) % 9))) s x)) K1550 EE) ?_ ?_ ?_⟩
    · have h1555 := (e1540 _ _ h1532)
      exact ⟨(([] : (List Int))), _, _, _, rfl, (Same.refl _), (S1544.sub (all_cons (.tail _ (.head _)) (all_cons (.head _) all_nil))), h1555, h1542, hw⟩
    · intro i σ H1556 hi hw
      obtain ⟨levels_1552, u1553, u1554, G1560, rfl, eG1561, S1557, h1558, h1559, hw⟩ := hw
      have hw := cW_forS (rng_get hi) hw
      generalize (0 + (i : Int)) = x1562 at hw ⊢
      have hw : cW (F__law_block_b1 (v1526) ((1 + ((cell' / 19) % 9))) (levels_1552) (x1562)) _ EE := hw
      unfold F__law_block_b1 at hw
      obtain ⟨K1564, hK1565, hw⟩ := cW_name hw
      obtain ⟨g1567, hw⟩ := cW_grd hw
      refine ⟨_, rfl, _, rfl, _, _, _, _, rfl, rfl, (SqL.of h1558), (atI_map g1567), _, _, rfl, rfl, (divW_lit (by decide) (by decide)), ?_⟩
      have hw := cW_bnd hw
      refine ⟨fun σ H' => ∃ (worth_1574 : Int) (G' : Hp), σ = [some (V.int (cell')), some (V.int (count')), some (V.ref p1529), some (V.int ((1 + ((cell' / 19) % 9)))), some (V.ref p1536), some (V.int (x1562)), some (V.int worth_1574), none] ∧ Same G1560 G' ∧ Sep [] H G G' H' [p1529, p1536] ∧ H' p1529 = some (.lst ((v1526 : (List Int)).map V.int)) ∧ H' p1536 = some (.lst ((levels_1552 : (List Int)).map V.int)) ∧ cW (F__law_block_k2 (v1526) ((1 + ((cell' / 19) % 9))) (levels_1552) (x1562) worth_1574) K1564 EE, ?_, ?_⟩
      · obtain ⟨K1575, hK1576, hw⟩ := cW_push hw
        obtain ⟨g1577, hw⟩ := cW_grd hw
        refine ⟨_, rfl, _, rfl, _, _, _, _, rfl, rfl, (SqL.of h1558), (atI_map g1577), _, _, rfl, rfl, (show (0 : Int) < 8 by decide), _, _, rfl, rfl, _, rfl, ?_⟩
        refine iteD (fun c1578 => ?_) (fun c1578 => ?_)
        · have hw := cW_pos c1578 hw
          refine ⟨_, rfl, _, _, rfl, rfl, ?_⟩
          have hw := cW_bnd hw
          have hw := cW_ok hw
          have hw := hK1576 _ hw
          exact ⟨((((itD (v1526) (x1562)) / 8) - 524288)), _, rfl, (Same.refl _), S1557, h1558, h1559, hw⟩
        · have hw := cW_neg c1578 hw
          obtain ⟨g1580, hw⟩ := cW_grd hw
          refine ⟨_, rfl, _, rfl, _, _, _, _, rfl, rfl, (SqL.of h1558), (atI_map g1580), _, _, rfl, rfl, (show (0 : Int) < 8 by decide), _, _, rfl, rfl, _, rfl, ?_⟩
          refine iteD (fun c1581 => ?_) (fun c1581 => ?_)
          · have hw := cW_pos c1581 hw
            refine ⟨_, rfl, _, _, rfl, rfl, (show (0 : Int) < 3 by decide), _, _, rfl, rfl, ?_⟩
            have hw := cW_bnd hw
            have hw := cW_ok hw
            have hw := hK1576 _ hw
            exact ⟨(((((itD (v1526) (x1562)) / 8) % 3) - 1)), _, rfl, (Same.refl _), S1557, h1558, h1559, hw⟩
          · have hw := cW_neg c1581 hw
            refine ⟨_, rfl, _, _, rfl, rfl, (show (0 : Int) < 61 by decide), _, _, rfl, rfl, ?_⟩
            have hw := cW_bnd hw
            have hw := cW_ok hw
            have hw := hK1576 _ hw
            exact ⟨(((((itD (v1526) (x1562)) / 8) % 61) - 30)), _, rfl, (Same.refl _), S1557, h1558, h1559, hw⟩
      · intro σ H1584 hw
        obtain ⟨worth_1574, G1588, rfl, eG1589, S1585, h1586, h1587, hw⟩ := hw
        unfold F__law_block_k2 at hw
        refine ⟨fun σ H' => ∃ (worth_1592 : Int) (G' : Hp), σ = [some (V.int (cell')), some (V.int (count')), some (V.ref p1529), some (V.int ((1 + ((cell' / 19) % 9)))), some (V.ref p1536), some (V.int (x1562)), some (V.int worth_1592), none] ∧ Same G1588 G' ∧ Sep [] H G G' H' [p1529, p1536] ∧ H' p1529 = some (.lst ((v1526 : (List Int)).map V.int)) ∧ H' p1536 = some (.lst ((levels_1552 : (List Int)).map V.int)) ∧ cW (F__law_block_k3 (levels_1552) worth_1592) K1564 EE, ?_, ?_⟩
        · obtain ⟨K1593, hK1594, hw⟩ := cW_push hw
          obtain ⟨g1595, hw⟩ := cW_grd hw
          refine ⟨_, rfl, _, rfl, _, _, _, _, rfl, rfl, (SqL.of h1586), (atI_map g1595), _, _, rfl, rfl, (divW_lit (by decide) (by decide)), _, _, rfl, rfl, (show (0 : Int) < 10 by decide), _, rfl, _, _, rfl, rfl, _, rfl, ?_⟩
          refine iteD (fun c1596 => ?_) (fun c1596 => ?_)
          · have hw := cW_pos c1596 hw
            have hw := cW_ok hw
            have hw := hK1594 _ hw
            exact ⟨(0), _, rfl, (Same.refl _), S1585, h1586, h1587, hw⟩
          · have hw := cW_neg c1596 hw
            have hw := cW_ok hw
            have hw := hK1594 _ hw
            exact ⟨(worth_1574), _, rfl, (Same.refl _), S1585, h1586, h1587, hw⟩
        · intro σ H1597 hw
          obtain ⟨worth_1592, G1601, rfl, eG1602, S1598, h1599, h1600, hw⟩ := hw
          unfold F__law_block_k3 at hw
          obtain ⟨g1603, hw⟩ := cW_grd hw
          refine ⟨_, rfl, (.inl ⟨rfl, _, SqL.of h1600⟩), _, rfl, _, _, _, rfl, rfl, h1600, (app_lenM g1603), ?_⟩
          generalize g1604 : upd H1597 p1536 _ = H1605
          obtain ⟨x1606, h1607⟩ := gen_mut g1604
          have h1608 : H1605 p1536 = some (.lst (((levels_1552) ++ [worth_1592] : (List Int)).map V.int)) := snoc_map h1607
          have S1609 := S1598.mut1 x1606 (.tail _ (.head _)) h1608
          have hw := cW_bnd hw
          have hw := cW_ok hw
          have hw := hK1565 _ hw
          have h1611 := (x1606 _ _ h1599 (ne_of_none h1532 n1537))
          exact ⟨((levels_1552) ++ [worth_1592]), _, _, _, rfl, (Same.trans (Same.trans eG1561 eG1589) eG1602), S1609, h1611, h1608, hw⟩
    · intro σ H1612 hw
      obtain ⟨levels_1552, u1553, u1554, G1616, rfl, eG1617, S1613, h1614, h1615, hw⟩ := hw
      have hw := hK1551 _ (cW_forS0 (rng_len _ _).symm hw)
      have hw : cW (F__law_block_r1 (cell') (count') (levels_1552)) _ EE := hw
      unfold F__law_block_r1 at hw
      refine ⟨fun σ H' => ∃ (levels_1622 : (List Int)) (G' : Hp), σ = [some (V.int (cell')), some (V.int (count')), some (V.ref p1529), some (V.int ((1 + ((cell' / 19) % 9)))), some (V.ref p1536), u1553, u1554, none] ∧ Same G1616 G' ∧ Sep [] H G G' H' [p1529, p1536] ∧ H' p1529 = some (.lst ((v1526 : (List Int)).map V.int)) ∧ H' p1536 = some (.lst ((levels_1622 : (List Int)).map V.int)) ∧ cW (F__law_block_k4 (cell') (count') levels_1622) KK EE, ?_, ?_⟩
      · obtain ⟨K1623, hK1624, hw⟩ := cW_push hw
        refine ⟨_, rfl, _, _, rfl, rfl, (divW_lit (by decide) (by decide)), _, _, rfl, rfl, (show (0 : Int) < 5 by decide), _, _, rfl, rfl, _, rfl, ?_⟩
        refine iteD (fun c1625 => ?_) (fun c1625 => ?_)
        · have hw := cW_pos c1625 hw
          obtain ⟨g1626, hw⟩ := cW_grd hw
          refine ⟨_, rfl, _, rfl, _, _, rfl, rfl, (divW_lit (by decide) (by decide)), _, _, rfl, rfl, (show (0 : Int) < 1048576 by decide), _, _, rfl, rfl, _, rfl, _, rfl, _, _, rfl, rfl, _, _, _, _, rfl, rfl, h1615, (ixN_map g1626), ?_⟩
          generalize g1627 : upd H1612 p1536 _ = H1628
          obtain ⟨x1629, h1630⟩ := gen_mut g1627
          have h1631 : H1628 p1536 = some (.lst ((setL (levels_1552) ((count' - 1)) (((-524288) + ((cell' / 7) % 1048576))) : (List Int)).map V.int)) := set_map h1630
          have S1632 := S1613.mut1 x1629 (.tail _ (.head _)) h1631
          have hw := cW_bnd hw
          have hw := cW_ok hw
          have hw := hK1624 _ hw
          have h1634 := (x1629 _ _ h1614 (ne_of_none h1532 n1537))
          exact ⟨(setL (levels_1552) ((count' - 1)) (((-524288) + ((cell' / 7) % 1048576)))), _, rfl, (Same.refl _), S1632, h1634, h1631, hw⟩
        · have hw := cW_neg c1625 hw
          have hw := cW_ok hw
          have hw := hK1624 _ hw
          exact ⟨(levels_1552), _, rfl, (Same.refl _), S1613, h1614, h1615, hw⟩
      · intro σ H1635 hw
        obtain ⟨levels_1622, G1639, rfl, eG1640, S1636, h1637, h1638, hw⟩ := hw
        unfold F__law_block_k4 at hw
        refine ⟨fun σ H' => ∃ (p1645 : Addr) (levels_1644 : (List Int)) (G' : Hp), σ = [some (V.int (cell')), some (V.int (count')), some (V.ref p1529), some (V.int ((1 + ((cell' / 19) % 9)))), some (V.ref p1645), u1553, u1554, none] ∧ Same G1639 G' ∧ Sep [] H G G' H' [p1529, p1645] ∧ H' p1529 = some (.lst ((v1526 : (List Int)).map V.int)) ∧ H' p1645 = some (.lst ((levels_1644 : (List Int)).map V.int)) ∧ H p1645 = none ∧ p1645 ≠ p1529 ∧ cW (F__law_block_k5 (cell') (count') levels_1644) KK EE, ?_, ?_⟩
        · obtain ⟨K1646, hK1647, hw⟩ := cW_push hw
          refine ⟨_, rfl, _, _, rfl, rfl, (divW_lit (by decide) (by decide)), _, _, rfl, rfl, (show (0 : Int) < 5 by decide), _, _, rfl, rfl, _, rfl, ?_⟩
          refine iteD (fun c1648 => ?_) (fun c1648 => ?_)
          · have hw := cW_pos c1648 hw
            refine ⟨(by show 1 ≤ sizeLine; decide), fun p1649 n1650 => ?_⟩
            generalize g1651 : upd H1635 p1649 _ = H1652
            obtain ⟨e1653, h1654⟩ := gen_new n1650 g1651
            have h1655 : H1652 p1649 = some (.lst (([0] : (List Int)).map V.int)) := h1654
            have fr1656 := S1636.free n1650
            have S1657 := S1636.new n1650 e1653 h1655 fr1656
            obtain ⟨g1658, hw⟩ := cW_grd hw
            refine ⟨_, rfl, _, _, _, rfl, rfl, h1655, g1658.1, g1658.2.1, (rep_lenM g1658.2.2), fun p1659 n1660 => ?_⟩
            generalize g1661 : upd H1652 p1659 _ = H1662
            obtain ⟨e1663, h1664⟩ := gen_new n1660 g1661
            have h1665 : H1662 p1659 = some (.lst ((repL ([0]) (count') : (List Int)).map V.int)) := rep_map h1664
            have fr1666 := S1657.free n1660
            have S1667 := S1657.new n1660 e1663 h1665 fr1666
            obtain ⟨g1668, hw⟩ := cW_grd hw
            obtain ⟨g1669, hw⟩ := cW_grd hw
            refine ⟨_, rfl, _, _, rfl, rfl, (divW_lit (by decide) (by decide)), _, _, rfl, rfl, (show (0 : Int) < 1048576 by decide), _, _, rfl, rfl, _, rfl, _, rfl, _, _, rfl, rfl, (divW_lit (by decide) (by decide)), _, rfl, _, _, rfl, rfl, g1668, _, _, _, _, rfl, rfl, h1665, (ixN_map g1669), ?_⟩
            generalize g1670 : upd H1662 p1659 _ = H1671
            obtain ⟨x1672, h1673⟩ := gen_mut g1670
            have h1674 : H1671 p1659 = some (.lst ((setL (repL ([0]) (count')) (((cell' / 31) % count')) ((524287 - ((cell' / 5) % 1048576))) : (List Int)).map V.int)) := set_map h1673
            have S1675 := S1667.mut1 x1672 (.head _) h1674
            have hw := cW_bnd hw
            have hw := cW_ok hw
            have hw := hK1647 _ hw
            have h1677 := (x1672 _ _ (e1663 _ _ (e1653 _ _ h1637)) (ne_of_none (e1653 _ _ h1637) n1660))
            exact ⟨_, (setL (repL ([0]) (count')) (((cell' / 31) % count')) ((524287 - ((cell' / 5) % 1048576)))), _, rfl, (Same.refl _), (S1675.sub (all_cons (.tail _ (.tail _ (.head _))) (all_cons (.head _) all_nil))), h1677, h1674, fr1666, (ne_of_none (e1653 _ _ h1637) n1660).symm, hw⟩
          · have hw := cW_neg c1648 hw
            have hw := cW_ok hw
            have hw := hK1647 _ hw
            exact ⟨_, (levels_1622), _, rfl, (Same.refl _), S1636, h1637, h1638, fr1543, (ne_of_none h1532 n1537).symm, hw⟩
        · intro σ H1678 hw
          obtain ⟨p1645, levels_1644, G1684, rfl, eG1685, S1679, h1680, h1681, fr1682, ne1683, hw⟩ := hw
          unfold F__law_block_k5 at hw
          refine ⟨fun σ H' => ∃ (levels_1687 : (List Int)) (G' : Hp), σ = [some (V.int (cell')), some (V.int (count')), some (V.ref p1529), some (V.int ((1 + ((cell' / 19) % 9)))), some (V.ref p1645), u1553, u1554, none] ∧ Same G1684 G' ∧ Sep [] H G G' H' [p1529, p1645] ∧ H' p1529 = some (.lst ((v1526 : (List Int)).map V.int)) ∧ H' p1645 = some (.lst ((levels_1687 : (List Int)).map V.int)) ∧ cW (F__law_block_k6  levels_1687) KK EE, ?_, ?_⟩
          · obtain ⟨K1688, hK1689, hw⟩ := cW_push hw
            obtain ⟨K1691, hK1692, hw⟩ := cW_push hw
            refine ⟨_, rfl, _, rfl, ⟨_, (SqL.of h1681)⟩, fun D1693 n1694 => lc_list (K := K) (a := p1645) (xs := (levels_1644 : (List Int)).map V.int) (fun i H' => ∃ (G' : Hp) (acc1696 : (List Bool)), Same G1684 G' ∧ Sep [] H G G' H' [D1693, p1529, p1645] ∧ H' p1529 = some (.lst ((v1526 : (List Int)).map V.int)) ∧ H' p1645 = some (.lst ((levels_1644 : (List Int)).map V.int)) ∧ H' D1693 = some (.lst ((acc1696 : (List Bool)).map V.bl)) ∧ Same H1678 H' ∧ cW (mapA (List.drop i (levels_1644)) acc1696 (fun x => noEr (F__law_block_c7  x))) K1691 EE) ?_ ?_ ?_ ?_⟩
            · generalize g1698 : upd H1678 D1693 _ = H1699
              obtain ⟨e1700, h1701⟩ := gen_new n1694 g1698
              have fr1702 := S1679.free n1694
              have S1703 := S1679.new n1694 e1700 h1701 fr1702
              have h1704 := (e1700 _ _ h1680)
              have h1705 := (e1700 _ _ h1681)
              exact ⟨_, [], Same.refl _, S1703, h1704, h1705, h1701, e1700, hw⟩
            · intro i H1706 _ hw
              obtain ⟨G1709, acc1711, eG1710, S1707, h1718, h1719, h1708, eo1717, hw⟩ := hw
              exact (SqL.of h1719)
            · intro i x H1720 hj hw
              obtain ⟨G1723, acc1725, eG1724, S1721, h1732, h1733, h1722, eo1731, hw⟩ := hw
              obtain ⟨x1734, hx, rfl⟩ := map_get hj
              obtain ⟨z1735, hw⟩ := cW_mapA hx hw
              have hw := cW_noEr hw
              have hw : cW (F__law_block_c7  (x1734)) _ (fun _ => False) := hw
              unfold F__law_block_c7 at hw
              refine ⟨rfl, ?_⟩
              refine tyes_go ?_
              refine ⟨_, rfl, _, _, rfl, rfl, _, h1722, (app_lenM z1735), ?_⟩
              generalize g1737 : upd H1720 D1693 _ = H1738
              obtain ⟨x1739, h1740⟩ := gen_mut g1737
              have S1741 := S1721.mut1 x1739 (.head _) h1740
              have hw := cW_ok hw
              have h1742 := (x1739 _ _ h1732 (ne_of_none h1680 n1694))
              have h1743 := (x1739 _ _ h1733 (ne_of_none h1681 n1694))
              exact ⟨_, (acc1725 ++ [(!decide ((x1734 : Int) = 0))]), eG1724, S1741, h1742, h1743, (snoc_map h1740), (same_mut eo1731 x1739 n1694), hw⟩
            intro H1744 hw
            obtain ⟨G1747, acc1749, eG1748, S1745, h1756, h1757, h1746, eo1755, hw⟩ := hw
            have hw := hK1692 _ (cW_mapA0 (by rw [List.length_map]) hw)
            have fr1758 := S1679.free n1694
            refine ⟨_, _, rfl, (SqL.of h1746), _, rfl, ?_⟩
            refine iteBN (fun c1759 => ?_) (fun c1759 => ?_)
            · have hw := cW_negB c1759 hw
              obtain ⟨g1760, hw⟩ := cW_grd hw
              obtain ⟨g1761, hw⟩ := cW_grd hw
              refine ⟨_, rfl, _, rfl, _, _, rfl, rfl, (divW_lit (by decide) (by decide)), _, rfl, _, _, rfl, rfl, g1760, _, _, _, _, rfl, rfl, h1757, (ixN_map g1761), ?_⟩
              generalize g1762 : upd H1744 p1645 _ = H1763
              obtain ⟨x1764, h1765⟩ := gen_mut g1762
              have h1766 : H1763 p1645 = some (.lst ((setL (levels_1644) (((cell' / 37) % count')) (1) : (List Int)).map V.int)) := set_map h1765
              have S1767 := S1745.mut1 x1764 (.tail _ (.tail _ (.head _))) h1766
              have hw := cW_bnd hw
              have hw := cW_ok hw
              have hw := hK1689 _ hw
              have h1769 := (x1764 _ _ h1756 (ne1683).symm)
              exact ⟨(setL (levels_1644) (((cell' / 37) % count')) (1)), _, rfl, eG1748, (S1767.sub (all_cons (.tail _ (.head _)) (all_cons (.tail _ (.tail _ (.head _))) all_nil))), h1769, h1766, hw⟩
            · have hw := cW_pos c1759 hw
              have hw := cW_ok hw
              have hw := hK1689 _ hw
              exact ⟨(levels_1644), _, rfl, eG1748, (S1745.sub (all_cons (.tail _ (.head _)) (all_cons (.tail _ (.tail _ (.head _))) all_nil))), h1756, h1757, hw⟩
          · intro σ H1770 hw
            obtain ⟨levels_1687, G1774, rfl, eG1775, S1771, h1772, h1773, hw⟩ := hw
            unfold F__law_block_k6 at hw
            refine ⟨_, rfl, ?_⟩
            have hw := cW_ok hw
            exact hK0 _ hw _ _ fr1682 S1771.b0 h1773

abbrev N__law_is_integers : List Str := ["actual", "count", "item"]
theorem sc__law_is_integers : FnScope N__law_is_integers ["actual", "count"] (defScope s__law_is_integers) := ⟨rfl, rfl, rfl, by decide +kernel, rfl, by decide +kernel, by decide +kernel⟩
theorem ok__law_is_integers (D : DefX K mg "_law_is_integers" s__law_is_integers ["actual", "count"] pats__law_is_integers) (T : Txt K mg AD)  : CalX P w K mg base 1 "_law_is_integers" (sp__law_is_integers K AD) pats__law_is_integers := by
  refine D.ok sc__law_is_integers (fun vs H Q E h => ?_) (fun f cdv A_ outer s H vs Q E hr h => ?_)
  · obtain ⟨G, a_actual, actual', count', rfl, _⟩ := h
    rfl
  · obtain ⟨G, a_actual, actual', count', rfl, sG, q_actual, hw⟩ := h
    refine ⟨_, (pss_cons (ps_if (PW.pt (pw_or (pt_not (pt_val (pe_callB call_isi (by rfl) T.b_isinstance (by decide +kernel) (pa_cons (pv 0) (pa_cons (pe_bltn (v := V.ty "list") (u := Value.type "list") (by rfl) T.b_list (by decide +kernel) rfl) pa_nil))))) (pw_or1 (pt_cmp (pc_neI (pe_callB (call_lenLiK (K := K)) (by rfl) T.b_len (by decide +kernel) (pa_cons (pv 0) pa_nil)) (pv 1)))))) (pss_one (ps_ret pe_bl)) pss_nil)
      (pss_cons (ps_for (passes_of rfl) rfl (pi_listK (K := K) (pv 0)) (pg_name (i := 2) sc__law_is_integers.nd rfl (Or.inl rfl)) (pss_one (ps_if (PW.pt (pw_or (pt_not (pt_val (pe_callB call_isi (by rfl) T.b_isinstance (by decide +kernel) (pa_cons (pv 2) (pa_cons (pe_bltn (v := V.ty "int") (u := Value.type "int") (by rfl) T.b_int (by decide +kernel) rfl) pa_nil))))) (pw_or1 (pt_val (pe_callB call_isi (by rfl) T.b_isinstance (by decide +kernel) (pa_cons (pv 2) (pa_cons (pe_bltn (v := V.ty "bool") (u := Value.type "bool") (by rfl) T.b_bool (by decide +kernel) rfl) pa_nil))))))) (pss_one (ps_ret pe_bl)) pss_nil)))
      (pss_one (ps_ret pe_bl)))), ?_⟩
    obtain ⟨KK, EE, hK0, hE, hw⟩ := cW_gen hw
    have S0 := Sep.startG sG
    unfold F__law_is_integers at hw
    refine ⟨_, rfl, _, _, _, _, _, rfl, (.ty _), (.base (.lst (S0.bM _ _ q_actual))), rfl, _, rfl, ?_⟩
    refine iteF ?_
    refine ⟨_, rfl, _, _, rfl, (SqL.of (S0.bM _ _ q_actual)), _, rfl, _, _, rfl, rfl, _, rfl, ?_⟩
    refine iteN (fun c1776 => ?_) (fun c1776 => ?_)
    · have hw := cW_neg c1776 hw
      have hw := cW_ok hw
      exact hK0 _ hw _ S0.b0
    · have hw := cW_pos c1776 hw
      obtain ⟨K1777, hK1778, hw⟩ := cW_push hw
      refine ⟨_, rfl, _, rfl, ⟨_, (SqL.of (S0.bM _ _ q_actual))⟩, for_list (K := K) (a := a_actual) (xs := (actual' : List Int).map V.int) (fun i σ H' => ∃ (u1779 : Option V) (G' : Hp), σ = [some (V.ref a_actual), some (V.int (count')), u1779] ∧ Same G G' ∧ Sep [] H G G' H' [] ∧ cW (forR (List.drop i (actual')) () (fun s x => F__law_is_integers_b1   x)) K1777 EE) ?_ ?_ ?_ ?_⟩
      · exact ⟨_, _, rfl, (Same.refl _), S0, hw⟩
      · intro i σ H1780 _ hw
        obtain ⟨u1779, G1782, rfl, eG1783, S1781, hw⟩ := hw
        exact (SqL.of (S1781.bM _ _ q_actual))
      · intro i x σ H1784 hj hw
        obtain ⟨u1779, G1786, rfl, eG1787, S1785, hw⟩ := hw
        obtain ⟨x1788, hx, rfl⟩ := map_get hj
        have hw := cW_forR hx hw
        have hw : cW (F__law_is_integers_b1   (x1788)) _ EE := hw
        unfold F__law_is_integers_b1 at hw
        obtain ⟨K1789, hK1790, hw⟩ := cW_name hw
        refine ⟨_, rfl, _, _, _, _, _, rfl, (.ty _), (.base (.int _)), rfl, _, rfl, ?_⟩
        refine iteF ?_
        refine ⟨_, rfl, _, _, _, _, _, rfl, (.ty _), (.base (.int _)), rfl, _, rfl, ?_⟩
        refine iteF ?_
        have hw := cW_ok hw
        have hw := hK1790 _ hw
        exact ⟨_, _, rfl, eG1787, S1785, hw⟩
      · intro σ H1792 hw
        obtain ⟨u1779, G1794, rfl, eG1795, S1793, hw⟩ := hw
        have hw := cW_aftgo (hK1778 _ (cW_forR0 (by rw [List.length_map]) hw))
        have hw : cW (F__law_is_integers_r1  ) _ EE := hw
        unfold F__law_is_integers_r1 at hw
        have hw := cW_ok hw
        exact hK0 _ hw _ S1793.b0

abbrev N_law : List Str := ["script", "encoder", "writer", "blocks", "k", "cell", "count", "told", "octets", "reader", "found", "size", "levels"]
theorem sc_law : FnScope N_law ["script"] (defScope s_law) := ⟨rfl, rfl, rfl, by decide +kernel, rfl, by decide +kernel, by decide +kernel⟩
theorem ok_law {f : Addr} {fd : FuncData} (F : FunD K "law" "law" (defArgs s_law) (defBody s_law) (defScope s_law) [] [] f fd) (T : Txt K mg AD) (c_Encoder___init__ : MakX P w K mg base 1 "Encoder" AD.c_Encoder (sp_Encoder___init__ K AD) pats_Encoder___init__) (c_SymbolWriter___init__ : MakX P w K mg base 1 "SymbolWriter" AD.c_SymbolWriter (sp_SymbolWriter___init__ K AD) pats_SymbolWriter___init__) (c__law_cell : CalX P w K mg base 1 "_law_cell" (sp__law_cell K AD) pats__law_cell) (c__law_block : CalX P w K mg base 2 "_law_block" (sp__law_block K AD) pats__law_block) (c_put_levels : CalX P w K mg base 6 "put_levels" (sp_put_levels K AD) pats_put_levels) (c_SymbolWriter_flag : MetX P w K mg base 4 AD.c_SymbolWriter "flag" (sp_SymbolWriter_flag K AD) pats_SymbolWriter_flag) (c_Encoder_octets : MetX P w K mg base 1 AD.c_Encoder "octets" (sp_Encoder_octets K AD) pats_Encoder_octets) (c_SymbolReader___init__ : MakX P w K mg base 1 "SymbolReader" AD.c_SymbolReader (sp_SymbolReader___init__ K AD) pats_SymbolReader___init__) (c_Decoder___init__ : MakX P w K mg base 2 "Decoder" AD.c_Decoder (sp_Decoder___init__ K AD) pats_Decoder___init__) (c_get_levels : CalX P w K mg base 6 "get_levels" (sp_get_levels K AD) pats_get_levels) (c__law_is_integers : CalX P w K mg base 1 "_law_is_integers" (sp__law_is_integers K AD) pats__law_is_integers) (c_SymbolReader_flag : MetX P w K mg base 4 AD.c_SymbolReader "flag" (sp_SymbolReader_flag K AD) pats_SymbolReader_flag) : FnG P w K mg base CX0 7 f fd ["script"] (sp_law K AD) := by
  refine FnG.bodyN F sc_law (fun vs H Q E h => ?_) (fun cdv A_ outer s H vs Q E hr h => ?_)
  · obtain ⟨a_script, script, rfl, _⟩ := h
    rfl
  · obtain ⟨a_script, script', rfl, q_script, hw, k⟩ := h
    refine ⟨_, (pss_cons (ps_set (i := 1) sc_law.nd rfl (Or.inl rfl) (vx_makeX0 c_Encoder___init__ pat_Encoder___init___0 (.head _) hr (by decide) takes0 rfl))
      (pss_cons (ps_set (i := 2) sc_law.nd rfl (Or.inl rfl) (vx_makeX c_SymbolWriter___init__ pat_SymbolWriter___init___0 (.head _) hr (by decide) takes0 rfl (pa_cons (pv 1) pa_nil) pk_nil))
      (pss_cons (ps_set (i := 3) sc_law.nd rfl (Or.inl rfl) (pe_lst pa_nil))
      (pss_cons (ps_for PassesOwn.never rfl (pi_range1 rfl T.b_range (pa_cons (pe_callB (call_min2 rfl) (by rfl) T.b_min (by decide +kernel) (pa_cons (pe_op op_add pe_int (pe_callB (call_lenLiK (K := K)) (by rfl) T.b_len (by decide +kernel) (pa_cons (pv 0) pa_nil))) (pa_cons pe_int pa_nil))) pa_nil)) (pg_name (i := 4) sc_law.nd rfl (Or.inl rfl)) (pss_cons (ps_set (i := 5) sc_law.nd rfl (Or.inl rfl) (pe_op op_add (vx_callX c__law_cell pat__law_cell_0 (.head _) hr (by decide) takes0 rfl (pa_cons (pv 0) (pa_cons (pv 4) pa_nil)) pk_nil) (pv 4)))
      (pss_cons (ps_set (i := 6) sc_law.nd rfl (Or.inl rfl) pe_int)
      (C8.pss_cut (ps_if (pt_cmp (pc_eqI (pe_op op_mod (pv 5) pe_int) pe_int)) (pss_one (ps_set (i := 6) sc_law.nd rfl (Or.inl rfl) pe_int)) pss_nil)
      (pss_cons (ps_expr (pe_bm PySem.F.plainAttrs_list PySem.F.slot_list_append PySem.F.type_list_append mt_append (pv 3) (pa_cons (vx_callX c__law_block pat__law_block_0 (.head _) hr (by decide) takes0 rfl (pa_cons (pe_op op_fdivW (pv 5) pe_int) (pa_cons (pv 6) pa_nil)) pk_nil) pa_nil)))
      (pss_cons (ps_set (i := 7) sc_law.nd rfl (Or.inl rfl) (pe_callTy (call_listLK (K := K)) (by rfl) T.b_list (by decide +kernel) (pa_cons (pe_ix (ix_listK (K := K)) (pv 3) (pv 4) (fun _ _ => rfl)) pa_nil)))
      (pss_cons (ps_expr (vx_callX c_put_levels pat_put_levels_0 (.head _) hr (by decide) takes0 rfl (pa_cons (pv 2) (pa_cons (pe_ix (ix_listK (K := K)) (pv 3) (pv 4) (fun _ _ => rfl)) pa_nil)) pk_nil))
      (pss_cons (ps_if (pt_cmpR (op_neT (encOk_L encOk_int) hr.units) (pe_ix (ix_listK (K := K)) (pv 3) (pv 4) (fun _ _ => rfl)) (pv 7) (nomark _)) (pss_one (ps_ret pe_bl)) pss_nil)
      (pss_one (ps_expr (vx_methX c_SymbolWriter_flag pat_SymbolWriter_flag_0 (.head _) hr (by decide) takes0 (pv 2) (pa_cons (pe_op op_mod (pe_op op_fdivW (pv 5) pe_int) pe_int) (pa_cons (pe_cmp (pc_eqI (pe_op op_mod (pe_op op_fdivW (pv 5) pe_int) pe_int) pe_int)) pa_nil)) pk_nil)))))))))))
      (pss_cons (ps_set (i := 8) sc_law.nd rfl (Or.inl rfl) (vx_methX0 c_Encoder_octets pat_Encoder_octets_0 (.head _) hr (by decide) takes0 (pv 1)))
      (pss_cons (ps_set (i := 9) sc_law.nd rfl (Or.inl rfl) (vx_makeX c_SymbolReader___init__ pat_SymbolReader___init___0 (.head _) hr (by decide) takes0 rfl (pa_cons (vx_makeX c_Decoder___init__ pat_Decoder___init___0 (.head _) hr (by decide) takes0 rfl (pa_cons (pv 8) pa_nil) pk_nil) pa_nil) pk_nil))
      (pss_cons (ps_set (i := 10) sc_law.nd rfl (Or.inl rfl) (pe_lst pa_nil))
      (pss_cons (ps_for PassesOwn.never rfl (pi_range1 rfl T.b_range (pa_cons (pe_callB (call_lenLK (K := K)) (by rfl) T.b_len (by decide +kernel) (pa_cons (pv 3) pa_nil)) pa_nil)) (pg_name (i := 4) sc_law.nd rfl (Or.inl rfl)) (pss_cons (ps_set (i := 5) sc_law.nd rfl (Or.inl rfl) (pe_op op_add (vx_callX c__law_cell pat__law_cell_0 (.head _) hr (by decide) takes0 rfl (pa_cons (pv 0) (pa_cons (pv 4) pa_nil)) pk_nil) (pv 4)))
      (pss_cons (ps_set (i := 11) sc_law.nd rfl (Or.inl rfl) pe_int)
      (C8.pss_cut (ps_if (pt_cmp (pc_eqI (pe_op op_mod (pv 5) pe_int) pe_int)) (pss_one (ps_set (i := 11) sc_law.nd rfl (Or.inl rfl) pe_int)) pss_nil)
      (pss_cons (ps_set (i := 12) sc_law.nd rfl (Or.inl rfl) (vx_callX c_get_levels pat_get_levels_0 (.head _) hr (by decide) takes0 rfl (pa_cons (pv 9) (pa_cons (pv 11) pa_nil)) pk_nil))
      (pss_cons (ps_if (PW.pt (pw_or (pt_not (pt_val (vx_callX c__law_is_integers pat__law_is_integers_0 (.head _) hr (by decide) takes0 rfl (pa_cons (pv 12) (pa_cons (pe_op op_mul (pv 11) (pv 11)) pa_nil)) pk_nil))) (pw_or1 (pt_cmpR (op_neT (encOk_L encOk_int) hr.units) (pv 12) (pe_ix (ix_listK (K := K)) (pv 3) (pv 4) (fun _ _ => rfl)) (nomark _))))) (pss_one (ps_ret pe_bl)) pss_nil)
      (pss_cons (ps_expr (pe_bm PySem.F.plainAttrs_list PySem.F.slot_list_append PySem.F.type_list_append mt_append (pv 10) (pa_cons (pv 12) pa_nil)))
      (pss_cons (ps_set (i := 7) sc_law.nd rfl (Or.inl rfl) (vx_methX c_SymbolReader_flag pat_SymbolReader_flag_0 (.head _) hr (by decide) takes0 (pv 9) (pa_cons (pe_op op_mod (pe_op op_fdivW (pv 5) pe_int) pe_int) pa_nil) pk_nil))
      (pss_one (ps_if (PW.pt (pw_or (pt_not (pt_val (pe_callB call_isi (by rfl) T.b_isinstance (by decide +kernel) (pa_cons (pv 7) (pa_cons (pe_bltn (v := V.ty "bool") (u := Value.type "bool") (by rfl) T.b_bool (by decide +kernel) rfl) pa_nil))))) (pw_or1 (pt_cmpR op_ne (pv 7) (pe_cmp (pc_eqI (pe_op op_mod (pe_op op_fdivW (pv 5) pe_int) pe_int) pe_int)) (nomark _))))) (pss_one (ps_ret pe_bl)) pss_nil))))))))))
      (pss_one (ps_ret (pe_cmpR (op_eqT (encOk_L (encOk_L encOk_int)) hr.units) (pv 10) (pv 3) (nomark _)))))))))))), ?_⟩
    obtain ⟨KK, EE, hK0, hE, hw⟩ := cW_gen hw
    have S0 := Sep.start0 H
    unfold F_law at hw
    refine ⟨rfl, rfl, fun x1796 dx1797 n1798 n1799 n1800 => ?_⟩
    generalize g1801 : upd (upd H dx1797 _) x1796 _ = H1802
    obtain ⟨e1803, h1804⟩ := gen_obj n1798 n1799 n1800 g1801
    have fr1805 := S0.free n1798
    have S1806 := S0.new n1798 e1803 h1804 fr1805
    refine ⟨H, _, _, rfl, S1806.sG, (S1806.gno (all_cons (.head _) all_nil)), h1804, cW_call hw (fun v1807 hw H1810 l1808 l1809 x1811 n1816 n1817 ne1818 h1812 h1814 h1815 => ⟨rfl, ?_⟩) (fun e he => (hE e he).elim)⟩
    have fr1819 := S1806.free n1816
    have fr1820 := S1806.free n1817
    have S1813 : Sep _ _ _ _ H1810 [l1808, l1809, x1796] := Sep.init S1806 x1811 (.head _) h1812 [l1808, l1809] (all_cons ⟨n1816, some_ne h1814, fr1819⟩ (all_cons ⟨n1817, some_ne h1815, fr1820⟩ all_nil))
    refine ⟨_, rfl, rfl, rfl, fun x1821 dx1822 n1823 n1824 n1825 => ?_⟩
    generalize g1826 : upd (upd H1810 dx1822 _) x1821 _ = H1827
    obtain ⟨e1828, h1829⟩ := gen_obj n1823 n1824 n1825 g1826
    have fr1830 := S1813.free n1823
    have S1831 := S1813.new n1823 e1828 h1829 fr1830
    have h1832 := (e1828 _ _ h1812)
    have h1833 := (e1828 _ _ h1814)
    have h1834 := (e1828 _ _ h1815)
    refine ⟨H, _, _, _, _, _, _, v1807, rfl, S1831.sG, (S1831.gno (all_cons (.head _) all_nil)), h1829, ((hideL_out (ni1 (ne_of_none h1812 n1823))).trans h1832), ((hideL_out (ni1 (ne_of_none h1814 n1823))).trans h1833), ((hideL_out (ni1 (ne_of_none h1815 n1823))).trans h1834), cW_call hw (fun v1835 hw H1836 x1837 h1838 => ⟨rfl, ?_⟩) (fun e he => (hE e he).elim)⟩
    have S1839 : Sep _ _ _ _ H1836 [x1821, l1808, l1809, x1796] := Sep.init S1831 x1837 (.head _) h1838 [] all_nil
    refine ⟨(by show 0 ≤ sizeLine; decide), fun p1840 n1841 => ?_⟩
    generalize g1842 : upd H1836 p1840 _ = H1843
    obtain ⟨e1844, h1845⟩ := gen_new n1841 g1842
    have h1846 : H1843 p1840 = some (.lst ([])) := h1845
    have fr1847 := S1839.free n1841
    have S1848 := S1839.new n1841 e1844 h1846 fr1847
    have d1849 : RpAll H ([]) ((([] : (List (List Int))) : (List (List Int))).map (encL PyData.int)) := RpAll.nil
    obtain ⟨g1850, hw⟩ := cW_grd hw
    obtain ⟨K1853, hK1854, hw⟩ := cW_push hw
    refine ⟨_, rfl, _, _, rfl, (S1848.b0.seq q_script), _, _, rfl, rfl, _, _, rfl, _, rfl, g1850.1, g1850.2, for_range (lo := 0) (n := Int.toNat ((if 12 < (1 + (((script') : (List Int)).length : Int)) then 12 else (1 + (((script') : (List Int)).length : Int))))) (fun i σ H' => ∃ (writer_1855 : St_SymbolWriter) (blocks_1856 : (List (List Int))) (vs1857 : List V) (u1858 : Option V) (u1859 : Option V) (u1860 : Option V) (u1861 : Option V) (G' : Hp), σ = [some (V.ref a_script), some (V.ref x1796), some (V.ref x1821), some (V.ref p1840), u1858, u1859, u1860, u1861, none, none, none, none, none] ∧ Same H G' ∧ Sep [] H H G' H' [x1796, l1808, l1809, x1821, p1840] ∧ H' x1796 = some (.ins AD.c_Encoder dx1797 [("_probabilities", V.ref l1808), ("_front", V.ref l1809), ("_low", V.int (writer_1855.enc.low)), ("_span", V.int (writer_1855.enc.span))]) ∧ H' l1808 = some (.lst ((writer_1855.enc.probs : (List Int)).map V.int)) ∧ H' l1809 = some (.lst ((writer_1855.enc.front : (List Int)).map V.int)) ∧ H' x1821 = some (.ins AD.c_SymbolWriter dx1822 [("_encoder", V.ref x1796)]) ∧ H' p1840 = some (.lst (vs1857)) ∧ RpAll G' (vs1857) ((blocks_1856 : (List (List Int))).map (encL PyData.int)) ∧ cW (forR (List.drop i (rng (0) (Int.toNat ((if 12 < (1 + (((script') : (List Int)).length : Int)) then 12 else (1 + (((script') : (List Int)).length : Int))))))) (writer_1855, blocks_1856) (fun s x => F_law_b1 (script') (s.1) (s.2) x)) K1853 EE) ?_ ?_ ?_⟩
    · have h1862 := (e1844 _ _ ((SameXs.of x1837) _ _ h1832 (ni1 (ne_of_none h1812 n1823))))
      have h1863 := (e1844 _ _ ((SameXs.of x1837) _ _ h1833 (ni1 (ne_of_none h1814 n1823))))
      have h1864 := (e1844 _ _ ((SameXs.of x1837) _ _ h1834 (ni1 (ne_of_none h1815 n1823))))
      have h1865 := (e1844 _ _ h1838)
      exact ⟨((⟨v1807⟩ : St_SymbolWriter)), (([] : (List (List Int)))), _, _, _, _, _, _, rfl, (Same.refl _), (S1848.sub (all_cons (.tail _ (.tail _ (.tail _ (.tail _ (.head _))))) (all_cons (.tail _ (.tail _ (.head _))) (all_cons (.tail _ (.tail _ (.tail _ (.head _)))) (all_cons (.tail _ (.head _)) (all_cons (.head _) all_nil)))))), h1862, h1863, h1864, h1865, h1846, d1849, hw⟩
    · intro i σ H1866 hi hw
      obtain ⟨writer_1855, blocks_1856, vs1857, u1858, u1859, u1860, u1861, G1874, rfl, eG1875, S1867, h1868, h1869, h1870, h1871, h1872, d1873, hw⟩ := hw
      have hw := cW_forR (rng_get hi) hw
      generalize (0 + (i : Int)) = x1876 at hw ⊢
      have hw : cW (F_law_b1 (script') (writer_1855) (blocks_1856) (x1876)) _ EE := hw
      unfold F_law_b1 at hw
      obtain ⟨K1879, hK1880, hw⟩ := cW_name hw
      refine ⟨_, rfl, _, rfl, rfl, rfl, G1874, _, _, _, rfl, S1867.sG, (S1867.b0.seq q_script), cW_call hw (fun v1882 hw => ?_) (fun e he => (hE e he).elim)⟩
      refine ⟨_, rfl, _, _, rfl, rfl, ?_⟩
      have hw := cW_bnd hw
      refine ⟨fun σ H' => ∃ (count_1889 : Int) (G' : Hp), σ = [some (V.ref a_script), some (V.ref x1796), some (V.ref x1821), some (V.ref p1840), some (V.int (x1876)), some (V.int ((v1882 + x1876))), some (V.int count_1889), u1861, none, none, none, none, none] ∧ Same G1874 G' ∧ Sep [] H H G' H' [x1796, l1808, l1809, x1821, p1840] ∧ H' x1796 = some (.ins AD.c_Encoder dx1797 [("_probabilities", V.ref l1808), ("_front", V.ref l1809), ("_low", V.int (writer_1855.enc.low)), ("_span", V.int (writer_1855.enc.span))]) ∧ H' l1808 = some (.lst ((writer_1855.enc.probs : (List Int)).map V.int)) ∧ H' l1809 = some (.lst ((writer_1855.enc.front : (List Int)).map V.int)) ∧ H' x1821 = some (.ins AD.c_SymbolWriter dx1822 [("_encoder", V.ref x1796)]) ∧ H' p1840 = some (.lst (vs1857)) ∧ cW (F_law_k2 (writer_1855) (blocks_1856) (x1876) ((v1882 + x1876)) count_1889) K1879 EE, ?_, ?_⟩
      · obtain ⟨K1890, hK1891, hw⟩ := cW_push hw
        refine ⟨_, rfl, _, _, rfl, rfl, (show (0 : Int) < 2 by decide), _, _, rfl, rfl, _, rfl, ?_⟩
        refine iteD (fun c1892 => ?_) (fun c1892 => ?_)
        · have hw := cW_pos c1892 hw
          have hw := cW_ok hw
          have hw := hK1891 _ hw
          exact ⟨(64), _, rfl, (Same.refl _), S1867, h1868, h1869, h1870, h1871, h1872, hw⟩
        · have hw := cW_neg c1892 hw
          have hw := cW_ok hw
          have hw := hK1891 _ hw
          exact ⟨(16), _, rfl, (Same.refl _), S1867, h1868, h1869, h1870, h1871, h1872, hw⟩
      · intro σ H1893 hw
        obtain ⟨count_1889, G1900, rfl, eG1901, S1894, h1895, h1896, h1897, h1898, h1899, hw⟩ := hw
        unfold F_law_k2 at hw
        refine ⟨_, rfl, (.inl ⟨rfl, _, SqL.of h1899⟩), _, rfl, _, _, rfl, rfl, (divW_lit (by decide) (by decide)), _, rfl, rfl, rfl, G1900, _, _, rfl, S1894.sG, cW_call hw (fun v1902 hw p1905 H1903 n1906 e1904 h1907 => ?_) (fun e he => (hE e he).elim)⟩
        have h1908 : H1903 p1905 = some (.lst ((v1902 : (List Int)).map V.int)) := h1907
        have fr1909 := S1894.free n1906
        have S1910 := S1894.new n1906 e1904 h1908 fr1909
        obtain ⟨g1911, hw⟩ := cW_grd hw
        have h1912 := (e1904 _ _ h1899)
        obtain ⟨G1913, eG1914, hg1915, S1916⟩ := Sep.freeze (O' := [x1796, l1808, l1809, x1821, p1840]) S1910 (.head _) h1908 fr1909 ((all_cons ⟨(.tail _ (.head _)), (ne_of_none h1895 n1906)⟩ (all_cons ⟨(.tail _ (.tail _ (.head _))), (ne_of_none h1896 n1906)⟩ (all_cons ⟨(.tail _ (.tail _ (.tail _ (.head _)))), (ne_of_none h1897 n1906)⟩ (all_cons ⟨(.tail _ (.tail _ (.tail _ (.tail _ (.head _))))), (ne_of_none h1898 n1906)⟩ (all_cons ⟨(.tail _ (.tail _ (.tail _ (.tail _ (.tail _ (.head _)))))), (ne_of_none h1899 n1906)⟩ all_nil))))))
        refine ⟨_, _, _, rfl, rfl, h1912, (app_len (RpAll.mono eG1914 (RpAll.mono eG1901 d1873)) g1911), ?_⟩
        generalize g1917 : upd H1903 p1840 _ = H1918
        obtain ⟨x1919, h1920⟩ := gen_mut g1917
        have h1921 : H1918 p1840 = some (.lst (vs1857 ++ [V.ref p1905])) := h1920
        have S1922 := S1916.mut1 x1919 (.tail _ (.tail _ (.tail _ (.tail _ (.head _))))) h1921
        have d1923 : RpAll G1913 (vs1857 ++ [V.ref p1905]) (((blocks_1856) ++ [v1902] : (List (List Int))).map (encL PyData.int)) := app_map (RpAll.mono eG1914 (RpAll.mono eG1901 d1873)) (RpAll.one (rp_mk_ints hg1915))
        have hw := cW_bnd hw
        obtain ⟨g1925, hw⟩ := cW_grd hw
        obtain ⟨v1926, a1927, r1928⟩ := RpAll.ixD (k := x1876) d1923 g1925
        obtain ⟨a1929, rfl, h1930⟩ := rp_ints r1928
        refine ⟨_, rfl, _, rfl, _, _, _, _, rfl, rfl, (SqL.of h1921), a1927, _, _, rfl, (SqL.of (S1922.sG _ _ h1930)), fun p1931 n1932 => ?_⟩
        generalize g1933 : upd H1918 p1931 _ = H1934
        obtain ⟨e1935, h1936⟩ := gen_new n1932 g1933
        have h1937 : H1934 p1931 = some (.lst (((itD ((blocks_1856) ++ [v1902]) (x1876)) : (List Int)).map V.int)) := h1936
        have fr1938 := S1922.free n1932
        have S1939 := S1922.new n1932 e1935 h1937 fr1938
        obtain ⟨g1940, hw⟩ := cW_grd hw
        obtain ⟨v1941, a1942, r1943⟩ := RpAll.ixD (k := x1876) d1923 g1940
        have h1944 := (e1935 _ _ h1921)
        obtain ⟨a1945, rfl, h1946⟩ := rp_ints r1943
        have h1947 := (e1935 _ _ (x1919 _ _ (e1904 _ _ h1898) (ne_of_none h1838 n1841)))
        have h1948 := (e1935 _ _ (x1919 _ _ (e1904 _ _ h1895) (ne_of_none ((SameXs.of x1837) _ _ h1832 (ni1 (ne_of_none h1812 n1823))) n1841)))
        have h1949 := (e1935 _ _ (x1919 _ _ (e1904 _ _ h1896) (ne_of_none ((SameXs.of x1837) _ _ h1833 (ni1 (ne_of_none h1814 n1823))) n1841)))
        have h1950 := (e1935 _ _ (x1919 _ _ (e1904 _ _ h1897) (ne_of_none ((SameXs.of x1837) _ _ h1834 (ni1 (ne_of_none h1815 n1823))) n1841)))
        refine ⟨_, rfl, _, rfl, _, rfl, _, _, _, _, rfl, rfl, (SqL.of h1944), a1942, rfl, rfl, G1913, _, _, _, _, _, _, writer_1855, _, _, rfl, S1939.sG, (S1939.gno (all_cons (.tail _ (.tail _ (.tail _ (.tail _ (.head _))))) (all_cons (.tail _ (.head _)) (all_cons (.tail _ (.tail _ (.head _))) (all_cons (.tail _ (.tail _ (.tail _ (.head _)))) all_nil))))), h1947, h1948, h1949, h1950, ne1818, (ne_of_none h1812 n1823).symm, (S1939.hid (all_cons (.tail _ (.tail _ (.tail _ (.tail _ (.head _))))) (all_cons (.tail _ (.head _)) (all_cons (.tail _ (.tail _ (.head _))) (all_cons (.tail _ (.tail _ (.tail _ (.head _)))) all_nil)))) _ _ h1946), cW_call hw (fun v1951 hw H1952 x1953 h1955 h1956 h1957 h1958  => ?_) (fun e he => (hE e he).elim)⟩
        have S1954 := S1939.mut x1953 (all_cons (.tail _ (.tail _ (.tail _ (.tail _ (.head _))))) (all_cons (.tail _ (.head _)) (all_cons (.tail _ (.tail _ (.head _))) (all_cons (.tail _ (.tail _ (.tail _ (.head _)))) all_nil)))) (all_cons (some_ne h1955) (all_cons (some_ne h1956) (all_cons (some_ne h1957) (all_cons (some_ne h1958) all_nil))))
        obtain ⟨g1963, hw⟩ := cW_grd hw
        obtain ⟨v1964, a1965, r1966⟩ := RpAll.ixD (k := x1876) d1923 g1963
        have h1967 := (x1953 _ _ h1944 (ni4 (ne_of_none h1838 n1841).symm (ne_of_none ((SameXs.of x1837) _ _ h1832 (ni1 (ne_of_none h1812 n1823))) n1841).symm (ne_of_none ((SameXs.of x1837) _ _ h1833 (ni1 (ne_of_none h1814 n1823))) n1841).symm (ne_of_none ((SameXs.of x1837) _ _ h1834 (ni1 (ne_of_none h1815 n1823))) n1841).symm))
        obtain ⟨a1968, rfl, h1969⟩ := rp_ints r1966
        have h1970 := (x1953 _ _ h1937 (ni4 (ne_of_none (x1919 _ _ (e1904 _ _ h1898) (ne_of_none h1838 n1841)) n1932).symm (ne_of_none (x1919 _ _ (e1904 _ _ h1895) (ne_of_none ((SameXs.of x1837) _ _ h1832 (ni1 (ne_of_none h1812 n1823))) n1841)) n1932).symm (ne_of_none (x1919 _ _ (e1904 _ _ h1896) (ne_of_none ((SameXs.of x1837) _ _ h1833 (ni1 (ne_of_none h1814 n1823))) n1841)) n1932).symm (ne_of_none (x1919 _ _ (e1904 _ _ h1897) (ne_of_none ((SameXs.of x1837) _ _ h1834 (ni1 (ne_of_none h1815 n1823))) n1841)) n1932).symm))
        refine ⟨_, rfl, _, rfl, _, _, _, _, rfl, rfl, (SqL.of h1967), a1965, _, rfl, _, _, (rp_mk_ints (S1954.sG _ _ h1969)), (rp_mk_ints h1970), _, rfl, ?_⟩
        refine iteN (fun c1971 => ?_) (fun c1971 => ?_)
        · have hw := cW_neg c1971 hw
          have hw := cW_ok hw
          have hw := hK1880 (.rt _) hw
          have hw := hK1854 (.rt _) hw
          have hw := cW_ok hw
          exact eq_bl (k _) (hK0 _ hw).symm
        · have hw := cW_pos c1971 hw
          refine ⟨_, rfl, _, _, _, rfl, h1955, rfl, _, rfl, _, _, rfl, rfl, (divW_lit (by decide) (by decide)), _, _, rfl, rfl, (show (0 : Int) < 256 by decide), _, rfl, _, _, rfl, rfl, (divW_lit (by decide) (by decide)), _, _, rfl, rfl, (show (0 : Int) < 2 by decide), _, _, rfl, rfl, rfl, rfl, G1913, _, _, _, _, _, _, v1951, _, _, rfl, S1954.sG, (S1954.gno (all_cons (.tail _ (.tail _ (.tail _ (.tail _ (.head _))))) (all_cons (.tail _ (.head _)) (all_cons (.tail _ (.tail _ (.head _))) (all_cons (.tail _ (.tail _ (.tail _ (.head _)))) all_nil))))), h1955, h1956, h1957, h1958, ne1818, (ne_of_none h1812 n1823).symm, cW_call hw (fun v1972 hw H1973 x1974 h1976 h1977 h1978 h1979  => ?_) (fun e he => (hE e he).elim)⟩
          have S1975 := S1954.mut x1974 (all_cons (.tail _ (.tail _ (.tail _ (.tail _ (.head _))))) (all_cons (.tail _ (.head _)) (all_cons (.tail _ (.tail _ (.head _))) (all_cons (.tail _ (.tail _ (.tail _ (.head _)))) all_nil)))) (all_cons (some_ne h1976) (all_cons (some_ne h1977) (all_cons (some_ne h1978) (all_cons (some_ne h1979) all_nil))))
          have hw := cW_ok hw
          have hw := hK1880 _ hw
          have h1984 := (x1974 _ _ h1967 (ni4 (ne_of_none h1838 n1841).symm (ne_of_none ((SameXs.of x1837) _ _ h1832 (ni1 (ne_of_none h1812 n1823))) n1841).symm (ne_of_none ((SameXs.of x1837) _ _ h1833 (ni1 (ne_of_none h1814 n1823))) n1841).symm (ne_of_none ((SameXs.of x1837) _ _ h1834 (ni1 (ne_of_none h1815 n1823))) n1841).symm))
          exact ⟨(v1972), ((blocks_1856) ++ [v1902]), _, _, _, _, _, _, rfl, (Same.trans (Same.trans eG1875 eG1901) eG1914), (S1975.sub (all_cons (.tail _ (.head _)) (all_cons (.tail _ (.tail _ (.head _))) (all_cons (.tail _ (.tail _ (.tail _ (.head _)))) (all_cons (.tail _ (.tail _ (.tail _ (.tail _ (.head _))))) (all_cons (.tail _ (.tail _ (.tail _ (.tail _ (.tail _ (.head _)))))) all_nil)))))), h1977, h1978, h1979, h1976, h1984, d1923, hw⟩
    · intro σ H1985 hw
      obtain ⟨writer_1855, blocks_1856, vs1857, u1858, u1859, u1860, u1861, G1993, rfl, eG1994, S1986, h1987, h1988, h1989, h1990, h1991, d1992, hw⟩ := hw
      have hw := cW_aftgo (hK1854 _ (cW_forR0 (rng_len _ _).symm hw))
      have hw : cW (F_law_r1 (script') (writer_1855) (blocks_1856)) _ EE := hw
      unfold F_law_r1 at hw
      refine ⟨_, rfl, _, _, _, rfl, h1987, rfl, rfl, rfl, G1993, _, _, _, _, writer_1855.enc, rfl, S1986.sG, (hide_nil h1987), (hide_nil h1988), (hide_nil h1989), cW_call hw (fun v1997 hw p2000 H1998 n2001 e1999 h2002 => ?_) (fun e he => (hE e he).elim)⟩
      have h2003 : H1998 p2000 = some (.lst ((v1997 : (List Int)).map V.int)) := h2002
      have fr2004 := S1986.free n2001
      have S2005 := S1986.new n2001 e1999 h2003 fr2004
      refine ⟨_, rfl, rfl, rfl, fun x2006 dx2007 n2008 n2009 n2010 => ?_⟩
      generalize g2011 : upd (upd H1998 dx2007 _) x2006 _ = H2012
      obtain ⟨e2013, h2014⟩ := gen_obj n2008 n2009 n2010 g2011
      have fr2015 := S2005.free n2008
      have S2016 := S2005.new n2008 e2013 h2014 fr2015
      have h2017 := (e2013 _ _ h2003)
      refine ⟨G1993, _, _, _, _, rfl, S2016.sG, (S2016.gno (all_cons (.head _) all_nil)), h2014, ((hideL_out (ni1 (ne_of_none h2003 n2008))).trans h2017), cW_call hw (fun v2018 hw H2021 l2019 l2020 x2022 n2027 n2028 ne2029 h2023 h2025 h2026 => ⟨rfl, ?_⟩) (fun e he => (hE e he).elim)⟩
      have fr2030 := S2016.free n2027
      have fr2031 := S2016.free n2028
      have S2024 : Sep _ _ _ _ H2021 [l2019, l2020, x2006, p2000, x1796, l1808, l1809, x1821, p1840] := Sep.init S2016 x2022 (.head _) h2023 [l2019, l2020] (all_cons ⟨n2027, some_ne h2025, fr2030⟩ (all_cons ⟨n2028, some_ne h2026, fr2031⟩ all_nil))
      refine ⟨rfl, rfl, fun x2032 dx2033 n2034 n2035 n2036 => ?_⟩
      generalize g2037 : upd (upd H2021 dx2033 _) x2032 _ = H2038
      obtain ⟨e2039, h2040⟩ := gen_obj n2034 n2035 n2036 g2037
      have fr2041 := S2024.free n2034
      have S2042 := S2024.new n2034 e2039 h2040 fr2041
      have h2043 := (e2039 _ _ h2023)
      have h2044 := (e2039 _ _ h2025)
      have h2045 := (e2039 _ _ h2026)
      refine ⟨G1993, _, _, _, _, _, _, v2018, rfl, S2042.sG, (S2042.gno (all_cons (.head _) all_nil)), h2040, ((hideL_out (ni1 (ne_of_none h2023 n2034))).trans h2043), ((hideL_out (ni1 (ne_of_none h2025 n2034))).trans h2044), ((hideL_out (ni1 (ne_of_none h2026 n2034))).trans h2045), cW_call hw (fun v2046 hw H2047 x2048 h2049 => ⟨rfl, ?_⟩) (fun e he => (hE e he).elim)⟩
      have S2050 : Sep _ _ _ _ H2047 [x2032, l2019, l2020, x2006, p2000, x1796, l1808, l1809, x1821, p1840] := Sep.init S2042 x2048 (.head _) h2049 [] all_nil
      refine ⟨(by show 0 ≤ sizeLine; decide), fun p2051 n2052 => ?_⟩
      generalize g2053 : upd H2047 p2051 _ = H2054
      obtain ⟨e2055, h2056⟩ := gen_new n2052 g2053
      have h2057 : H2054 p2051 = some (.lst ([])) := h2056
      have fr2058 := S2050.free n2052
      have S2059 := S2050.new n2052 e2055 h2057 fr2058
      have d2060 : RpAll G1993 ([]) ((([] : (List (List Int))) : (List (List Int))).map (encL PyData.int)) := RpAll.nil
      have h2061 := (e2055 _ _ ((SameXs.of x2048) _ _ (e2039 _ _ ((SameXs.of x2022) _ _ (e2013 _ _ (e1999 _ _ h1991)) (ni1 (ne_of_none (e1999 _ _ h1991) n2008)))) (ni1 (ne_of_none ((SameXs.of x2022) _ _ (e2013 _ _ (e1999 _ _ h1991)) (ni1 (ne_of_none (e1999 _ _ h1991) n2008))) n2034))))
      obtain ⟨g2062, hw⟩ := cW_grd hw
      obtain ⟨K2066, hK2067, hw⟩ := cW_push hw
      refine ⟨_, rfl, _, _, _, rfl, (SqL.of h2061), (by rw [d1992.len, List.length_map]), _, rfl, g2062.1, g2062.2, for_range (lo := 0) (n := Int.toNat ((((blocks_1856) : (List (List Int))).length : Int))) (fun i σ H' => ∃ (u2068 : Option V) (u2069 : Option V) (u2070 : Option V) (reader_2071 : St_SymbolReader) (found_2072 : (List (List Int))) (vs2073 : List V) (u2074 : Option V) (u2075 : Option V) (G' : Hp), σ = [some (V.ref a_script), some (V.ref x1796), some (V.ref x1821), some (V.ref p1840), u2068, u2069, u1860, u2070, some (V.ref p2000), some (V.ref x2032), some (V.ref p2051), u2074, u2075] ∧ Same G1993 G' ∧ Sep [] H H G' H' [x1796, l1808, l1809, x1821, p1840, p2000, x2032, x2006, l2019, l2020, p2051] ∧ H' x1796 = some (.ins AD.c_Encoder dx1797 [("_probabilities", V.ref l1808), ("_front", V.ref l1809), ("_low", V.int (writer_1855.enc.low)), ("_span", V.int (writer_1855.enc.span))]) ∧ H' l1808 = some (.lst ((writer_1855.enc.probs : (List Int)).map V.int)) ∧ H' l1809 = some (.lst ((writer_1855.enc.front : (List Int)).map V.int)) ∧ H' x1821 = some (.ins AD.c_SymbolWriter dx1822 [("_encoder", V.ref x1796)]) ∧ H' p1840 = some (.lst (vs1857)) ∧ H' p2000 = some (.lst ((v1997 : (List Int)).map V.int)) ∧ H' x2032 = some (.ins AD.c_SymbolReader dx2033 [("_decoder", V.ref x2006)]) ∧ H' x2006 = some (.ins AD.c_Decoder dx2007 [("_probabilities", V.ref l2019), ("_octets", V.ref l2020), ("_place", V.int (reader_2071.dec.place)), ("_span", V.int (reader_2071.dec.span)), ("_value", V.int (reader_2071.dec.value))]) ∧ H' l2019 = some (.lst ((reader_2071.dec.probs : (List Int)).map V.int)) ∧ H' l2020 = some (.lst ((reader_2071.dec.octs : (List Int)).map V.int)) ∧ H' p2051 = some (.lst (vs2073)) ∧ RpAll G' (vs2073) ((found_2072 : (List (List Int))).map (encL PyData.int)) ∧ cW (forR (List.drop i (rng (0) (Int.toNat ((((blocks_1856) : (List (List Int))).length : Int))))) (reader_2071, found_2072) (fun s x => F_law_b3 (script') (blocks_1856) (s.1) (s.2) x)) K2066 EE) ?_ ?_ ?_⟩
      · have h2076 := (e2055 _ _ ((SameXs.of x2048) _ _ (e2039 _ _ ((SameXs.of x2022) _ _ (e2013 _ _ (e1999 _ _ h1987)) (ni1 (ne_of_none (e1999 _ _ h1987) n2008)))) (ni1 (ne_of_none ((SameXs.of x2022) _ _ (e2013 _ _ (e1999 _ _ h1987)) (ni1 (ne_of_none (e1999 _ _ h1987) n2008))) n2034))))
        have h2077 := (e2055 _ _ ((SameXs.of x2048) _ _ (e2039 _ _ ((SameXs.of x2022) _ _ (e2013 _ _ (e1999 _ _ h1988)) (ni1 (ne_of_none (e1999 _ _ h1988) n2008)))) (ni1 (ne_of_none ((SameXs.of x2022) _ _ (e2013 _ _ (e1999 _ _ h1988)) (ni1 (ne_of_none (e1999 _ _ h1988) n2008))) n2034))))
        have h2078 := (e2055 _ _ ((SameXs.of x2048) _ _ (e2039 _ _ ((SameXs.of x2022) _ _ (e2013 _ _ (e1999 _ _ h1989)) (ni1 (ne_of_none (e1999 _ _ h1989) n2008)))) (ni1 (ne_of_none ((SameXs.of x2022) _ _ (e2013 _ _ (e1999 _ _ h1989)) (ni1 (ne_of_none (e1999 _ _ h1989) n2008))) n2034))))
        have h2079 := (e2055 _ _ ((SameXs.of x2048) _ _ (e2039 _ _ ((SameXs.of x2022) _ _ (e2013 _ _ (e1999 _ _ h1990)) (ni1 (ne_of_none (e1999 _ _ h1990) n2008)))) (ni1 (ne_of_none ((SameXs.of x2022) _ _ (e2013 _ _ (e1999 _ _ h1990)) (ni1 (ne_of_none (e1999 _ _ h1990) n2008))) n2034))))
        have h2080 := (e2055 _ _ ((SameXs.of x2048) _ _ (e2039 _ _ ((SameXs.of x2022) _ _ h2017 (ni1 (ne_of_none h2003 n2008)))) (ni1 (ne_of_none ((SameXs.of x2022) _ _ h2017 (ni1 (ne_of_none h2003 n2008))) n2034))))
        have h2081 := (e2055 _ _ h2049)
        have h2082 := (e2055 _ _ ((SameXs.of x2048) _ _ h2043 (ni1 (ne_of_none h2023 n2034))))
        have h2083 := (e2055 _ _ ((SameXs.of x2048) _ _ h2044 (ni1 (ne_of_none h2025 n2034))))
        have h2084 := (e2055 _ _ ((SameXs.of x2048) _ _ h2045 (ni1 (ne_of_none h2026 n2034))))
        exact ⟨_, _, _, ((⟨v2018⟩ : St_SymbolReader)), (([] : (List (List Int)))), _, _, _, _, rfl, (Same.refl _), (S2059.sub (all_cons (.tail _ (.tail _ (.tail _ (.tail _ (.tail _ (.tail _ (.head _))))))) (all_cons (.tail _ (.tail _ (.tail _ (.tail _ (.tail _ (.tail _ (.tail _ (.head _)))))))) (all_cons (.tail _ (.tail _ (.tail _ (.tail _ (.tail _ (.tail _ (.tail _ (.tail _ (.head _))))))))) (all_cons (.tail _ (.tail _ (.tail _ (.tail _ (.tail _ (.tail _ (.tail _ (.tail _ (.tail _ (.head _)))))))))) (all_cons (.tail _ (.tail _ (.tail _ (.tail _ (.tail _ (.tail _ (.tail _ (.tail _ (.tail _ (.tail _ (.head _))))))))))) (all_cons (.tail _ (.tail _ (.tail _ (.tail _ (.tail _ (.head _)))))) (all_cons (.tail _ (.head _)) (all_cons (.tail _ (.tail _ (.tail _ (.tail _ (.head _))))) (all_cons (.tail _ (.tail _ (.head _))) (all_cons (.tail _ (.tail _ (.tail _ (.head _)))) (all_cons (.head _) all_nil)))))))))))), h2076, h2077, h2078, h2079, h2061, h2080, h2081, h2082, h2083, h2084, h2057, d2060, hw⟩
      · intro i σ H2085 hi hw
        obtain ⟨u2068, u2069, u2070, reader_2071, found_2072, vs2073, u2074, u2075, G2099, rfl, eG2100, S2086, h2087, h2088, h2089, h2090, h2091, h2092, h2093, h2094, h2095, h2096, h2097, d2098, hw⟩ := hw
        have hw := cW_forR (rng_get hi) hw
        generalize (0 + (i : Int)) = x2101 at hw ⊢
        have hw : cW (F_law_b3 (script') (blocks_1856) (reader_2071) (found_2072) (x2101)) _ EE := hw
        unfold F_law_b3 at hw
        obtain ⟨K2104, hK2105, hw⟩ := cW_name hw
        refine ⟨_, rfl, _, rfl, rfl, rfl, G2099, _, _, _, rfl, S2086.sG, (S2086.b0.seq q_script), cW_call hw (fun v2107 hw => ?_) (fun e he => (hE e he).elim)⟩
        refine ⟨_, rfl, _, _, rfl, rfl, ?_⟩
        have hw := cW_bnd hw
        refine ⟨fun σ H' => ∃ (size_2115 : Int) (G' : Hp), σ = [some (V.ref a_script), some (V.ref x1796), some (V.ref x1821), some (V.ref p1840), some (V.int (x2101)), some (V.int ((v2107 + x2101))), u1860, u2070, some (V.ref p2000), some (V.ref x2032), some (V.ref p2051), some (V.int size_2115), u2075] ∧ Same G2099 G' ∧ Sep [] H H G' H' [x1796, l1808, l1809, x1821, p1840, p2000, x2032, x2006, l2019, l2020, p2051] ∧ H' x1796 = some (.ins AD.c_Encoder dx1797 [("_probabilities", V.ref l1808), ("_front", V.ref l1809), ("_low", V.int (writer_1855.enc.low)), ("_span", V.int (writer_1855.enc.span))]) ∧ H' l1808 = some (.lst ((writer_1855.enc.probs : (List Int)).map V.int)) ∧ H' l1809 = some (.lst ((writer_1855.enc.front : (List Int)).map V.int)) ∧ H' x1821 = some (.ins AD.c_SymbolWriter dx1822 [("_encoder", V.ref x1796)]) ∧ H' p1840 = some (.lst (vs1857)) ∧ H' p2000 = some (.lst ((v1997 : (List Int)).map V.int)) ∧ H' x2032 = some (.ins AD.c_SymbolReader dx2033 [("_decoder", V.ref x2006)]) ∧ H' x2006 = some (.ins AD.c_Decoder dx2007 [("_probabilities", V.ref l2019), ("_octets", V.ref l2020), ("_place", V.int (reader_2071.dec.place)), ("_span", V.int (reader_2071.dec.span)), ("_value", V.int (reader_2071.dec.value))]) ∧ H' l2019 = some (.lst ((reader_2071.dec.probs : (List Int)).map V.int)) ∧ H' l2020 = some (.lst ((reader_2071.dec.octs : (List Int)).map V.int)) ∧ H' p2051 = some (.lst (vs2073)) ∧ cW (F_law_k4 (blocks_1856) (x2101) ((v2107 + x2101)) (reader_2071) (found_2072) size_2115) K2104 EE, ?_, ?_⟩
        · obtain ⟨K2116, hK2117, hw⟩ := cW_push hw
          refine ⟨_, rfl, _, _, rfl, rfl, (show (0 : Int) < 2 by decide), _, _, rfl, rfl, _, rfl, ?_⟩
          refine iteD (fun c2118 => ?_) (fun c2118 => ?_)
          · have hw := cW_pos c2118 hw
            have hw := cW_ok hw
            have hw := hK2117 _ hw
            exact ⟨(8), _, rfl, (Same.refl _), S2086, h2087, h2088, h2089, h2090, h2091, h2092, h2093, h2094, h2095, h2096, h2097, hw⟩
          · have hw := cW_neg c2118 hw
            have hw := cW_ok hw
            have hw := hK2117 _ hw
            exact ⟨(4), _, rfl, (Same.refl _), S2086, h2087, h2088, h2089, h2090, h2091, h2092, h2093, h2094, h2095, h2096, h2097, hw⟩
        · intro σ H2119 hw
          obtain ⟨size_2115, G2132, rfl, eG2133, S2120, h2121, h2122, h2123, h2124, h2125, h2126, h2127, h2128, h2129, h2130, h2131, hw⟩ := hw
          unfold F_law_k4 at hw
          refine ⟨_, rfl, _, rfl, rfl, rfl, G2132, _, _, _, _, _, _, reader_2071, _, rfl, S2120.sG, (S2120.gno (all_cons (.tail _ (.tail _ (.tail _ (.tail _ (.tail _ (.tail _ (.head _))))))) (all_cons (.tail _ (.tail _ (.tail _ (.tail _ (.tail _ (.tail _ (.tail _ (.head _)))))))) (all_cons (.tail _ (.tail _ (.tail _ (.tail _ (.tail _ (.tail _ (.tail _ (.tail _ (.head _))))))))) (all_cons (.tail _ (.tail _ (.tail _ (.tail _ (.tail _ (.tail _ (.tail _ (.tail _ (.tail _ (.head _)))))))))) all_nil))))), h2127, h2128, h2129, h2130, ne2029, (ne_of_none h2023 n2034).symm, cW_call hw (fun v2134 hw H2135 x2136 h2138 h2139 h2140 h2141 p2142 n2143 h2144 => ?_) (fun e he => (hE e he).elim)⟩
          have fr2145 := S2120.free n2143
          have S2137 := S2120.mutnew x2136 (all_cons (.tail _ (.tail _ (.tail _ (.tail _ (.tail _ (.tail _ (.head _))))))) (all_cons (.tail _ (.tail _ (.tail _ (.tail _ (.tail _ (.tail _ (.tail _ (.head _)))))))) (all_cons (.tail _ (.tail _ (.tail _ (.tail _ (.tail _ (.tail _ (.tail _ (.tail _ (.head _))))))))) (all_cons (.tail _ (.tail _ (.tail _ (.tail _ (.tail _ (.tail _ (.tail _ (.tail _ (.tail _ (.head _)))))))))) all_nil)))) (all_cons (some_ne h2138) (all_cons (some_ne h2139) (all_cons (some_ne h2140) (all_cons (some_ne h2141) all_nil)))) n2143 (some_ne h2144) fr2145
          obtain ⟨g2146, hw⟩ := cW_grd hw
          refine ⟨_, rfl, _, rfl, _, rfl, _, _, rfl, rfl, g2146, rfl, rfl, G2132, _, _, _, rfl, S2137.sG, (hide_nil h2144), cW_call hw (fun v2147 hw H2148 e2149 => ?_) (fun e he => (hE e he).elim)⟩
          have S2150 := S2137.same e2149
          refine ⟨_, rfl, ?_⟩
          refine iteBN (fun c2151 => ?_) (fun c2151 => ?_)
          · have hw := cW_negB c2151 hw
            refine iteT ?_
            have hw := cW_ok hw
            have hw := hK2105 (.rt _) hw
            have hw := hK2067 (.rt _) hw
            have hw := cW_ok hw
            exact eq_bl (k _) (hK0 _ hw).symm
          · have hw := cW_pos c2151 hw
            obtain ⟨g2152, hw⟩ := cW_grd hw
            obtain ⟨v2153, a2154, r2155⟩ := RpAll.ixD (k := x2101) (RpAll.mono eG2133 (RpAll.mono eG2100 d1992)) g2152
            have h2156 := (e2149 _ _ (x2136 _ _ h2125 (ni4 (ne_of_none ((SameXs.of x2022) _ _ (e2013 _ _ (e1999 _ _ h1991)) (ni1 (ne_of_none (e1999 _ _ h1991) n2008))) n2034) (ne_of_none (e1999 _ _ h1991) n2008) (ne_of_none (e2013 _ _ (e1999 _ _ h1991)) n2027) (ne_of_none (e2013 _ _ (e1999 _ _ h1991)) n2028))))
            obtain ⟨a2157, rfl, h2158⟩ := rp_ints r2155
            have h2159 := (e2149 _ _ h2144)
            refine ⟨_, rfl, _, rfl, _, rfl, _, _, _, _, rfl, rfl, (SqL.of h2156), a2154, _, _, (rp_mk_ints h2159), (rp_mk_ints (S2150.sG _ _ h2158)), _, rfl, ?_⟩
            refine iteN (fun c2160 => ?_) (fun c2160 => ?_)
            · have hw := cW_neg c2160 hw
              have hw := cW_ok hw
              have hw := hK2105 (.rt _) hw
              have hw := hK2067 (.rt _) hw
              have hw := cW_ok hw
              exact eq_bl (k _) (hK0 _ hw).symm
            · have hw := cW_pos c2160 hw
              have h2161 := (e2149 _ _ (x2136 _ _ h2131 (ni4 (ne_of_none h2049 n2052).symm (ne_of_none ((SameXs.of x2048) _ _ h2043 (ni1 (ne_of_none h2023 n2034))) n2052).symm (ne_of_none ((SameXs.of x2048) _ _ h2044 (ni1 (ne_of_none h2025 n2034))) n2052).symm (ne_of_none ((SameXs.of x2048) _ _ h2045 (ni1 (ne_of_none h2026 n2034))) n2052).symm)))
              obtain ⟨g2162, hw⟩ := cW_grd hw
              refine ⟨_, rfl, (.inl ⟨rfl, _, SqL.of h2161⟩), _, rfl, ?_⟩
              obtain ⟨G2163, eG2164, hg2165, S2166⟩ := Sep.freeze (O' := [x1796, l1808, l1809, x1821, p1840, p2000, x2032, x2006, l2019, l2020, p2051]) S2150 (.head _) h2159 fr2145 ((all_cons ⟨(.tail _ (.head _)), (ne_of_none h2121 n2143)⟩ (all_cons ⟨(.tail _ (.tail _ (.head _))), (ne_of_none h2122 n2143)⟩ (all_cons ⟨(.tail _ (.tail _ (.tail _ (.head _)))), (ne_of_none h2123 n2143)⟩ (all_cons ⟨(.tail _ (.tail _ (.tail _ (.tail _ (.head _))))), (ne_of_none h2124 n2143)⟩ (all_cons ⟨(.tail _ (.tail _ (.tail _ (.tail _ (.tail _ (.head _)))))), (ne_of_none h2125 n2143)⟩ (all_cons ⟨(.tail _ (.tail _ (.tail _ (.tail _ (.tail _ (.tail _ (.head _))))))), (ne_of_none h2126 n2143)⟩ (all_cons ⟨(.tail _ (.tail _ (.tail _ (.tail _ (.tail _ (.tail _ (.tail _ (.head _)))))))), (ne_of_none h2127 n2143)⟩ (all_cons ⟨(.tail _ (.tail _ (.tail _ (.tail _ (.tail _ (.tail _ (.tail _ (.tail _ (.head _))))))))), (ne_of_none h2128 n2143)⟩ (all_cons ⟨(.tail _ (.tail _ (.tail _ (.tail _ (.tail _ (.tail _ (.tail _ (.tail _ (.tail _ (.head _)))))))))), (ne_of_none h2129 n2143)⟩ (all_cons ⟨(.tail _ (.tail _ (.tail _ (.tail _ (.tail _ (.tail _ (.tail _ (.tail _ (.tail _ (.tail _ (.head _))))))))))), (ne_of_none h2130 n2143)⟩ (all_cons ⟨(.tail _ (.tail _ (.tail _ (.tail _ (.tail _ (.tail _ (.tail _ (.tail _ (.tail _ (.tail _ (.tail _ (.head _)))))))))))), (ne_of_none h2131 n2143)⟩ all_nil))))))))))))
              refine ⟨_, _, _, rfl, rfl, h2161, (app_len (RpAll.mono eG2164 (RpAll.mono eG2133 d2098)) g2162), ?_⟩
              generalize g2167 : upd H2148 p2051 _ = H2168
              obtain ⟨x2169, h2170⟩ := gen_mut g2167
              have h2171 : H2168 p2051 = some (.lst (vs2073 ++ [V.ref p2142])) := h2170
              have S2172 := S2166.mut1 x2169 (.tail _ (.tail _ (.tail _ (.tail _ (.tail _ (.tail _ (.tail _ (.tail _ (.tail _ (.tail _ (.head _))))))))))) h2171
              have d2173 : RpAll G2163 (vs2073 ++ [V.ref p2142]) (((found_2072) ++ [v2134.1] : (List (List Int))).map (encL PyData.int)) := app_map (RpAll.mono eG2164 (RpAll.mono eG2133 d2098)) (RpAll.one (rp_mk_ints hg2165))
              have hw := cW_bnd hw
              have h2175 := (x2169 _ _ (e2149 _ _ h2138) (ne_of_none h2049 n2052))
              have h2176 := (x2169 _ _ (e2149 _ _ h2139) (ne_of_none ((SameXs.of x2048) _ _ h2043 (ni1 (ne_of_none h2023 n2034))) n2052))
              have h2177 := (x2169 _ _ (e2149 _ _ h2140) (ne_of_none ((SameXs.of x2048) _ _ h2044 (ni1 (ne_of_none h2025 n2034))) n2052))
              have h2178 := (x2169 _ _ (e2149 _ _ h2141) (ne_of_none ((SameXs.of x2048) _ _ h2045 (ni1 (ne_of_none h2026 n2034))) n2052))
              refine ⟨_, rfl, _, _, _, rfl, h2175, rfl, _, rfl, _, _, rfl, rfl, (divW_lit (by decide) (by decide)), _, _, rfl, rfl, (show (0 : Int) < 256 by decide), rfl, rfl, G2163, _, _, _, _, _, _, v2134.2, _, rfl, S2172.sG, (S2172.gno (all_cons (.tail _ (.tail _ (.tail _ (.tail _ (.tail _ (.tail _ (.head _))))))) (all_cons (.tail _ (.tail _ (.tail _ (.tail _ (.tail _ (.tail _ (.tail _ (.head _)))))))) (all_cons (.tail _ (.tail _ (.tail _ (.tail _ (.tail _ (.tail _ (.tail _ (.tail _ (.head _))))))))) (all_cons (.tail _ (.tail _ (.tail _ (.tail _ (.tail _ (.tail _ (.tail _ (.tail _ (.tail _ (.head _)))))))))) all_nil))))), h2175, h2176, h2177, h2178, ne2029, (ne_of_none h2023 n2034).symm, cW_call hw (fun v2179 hw H2180 x2181 h2183 h2184 h2185 h2186  => ?_) (fun e he => (hE e he).elim)⟩
              have S2182 := S2172.mut x2181 (all_cons (.tail _ (.tail _ (.tail _ (.tail _ (.tail _ (.tail _ (.head _))))))) (all_cons (.tail _ (.tail _ (.tail _ (.tail _ (.tail _ (.tail _ (.tail _ (.head _)))))))) (all_cons (.tail _ (.tail _ (.tail _ (.tail _ (.tail _ (.tail _ (.tail _ (.tail _ (.head _))))))))) (all_cons (.tail _ (.tail _ (.tail _ (.tail _ (.tail _ (.tail _ (.tail _ (.tail _ (.tail _ (.head _)))))))))) all_nil)))) (all_cons (some_ne h2183) (all_cons (some_ne h2184) (all_cons (some_ne h2185) (all_cons (some_ne h2186) all_nil))))
              refine ⟨_, rfl, _, _, _, _, _, rfl, (.ty _), (.base (.bl _)), rfl, _, rfl, ?_⟩
              refine iteF ?_
              refine ⟨_, rfl, _, rfl, _, _, rfl, rfl, (divW_lit (by decide) (by decide)), _, _, rfl, rfl, (show (0 : Int) < 2 by decide), _, _, rfl, rfl, rfl, _, rfl, ?_⟩
              refine iteN (fun c2191 => ?_) (fun c2191 => ?_)
              · have hw := cW_neg c2191 hw
                have hw := cW_ok hw
                have hw := hK2105 (.rt _) hw
                have hw := hK2067 (.rt _) hw
                have hw := cW_ok hw
                exact eq_bl (k _) (hK0 _ hw).symm
              · have hw := cW_pos c2191 hw
                have hw := cW_ok hw
                have hw := hK2105 _ hw
                have h2192 := (x2181 _ _ (x2169 _ _ (e2149 _ _ (x2136 _ _ h2121 (ni4 (ne_of_none ((SameXs.of x2022) _ _ (e2013 _ _ (e1999 _ _ h1987)) (ni1 (ne_of_none (e1999 _ _ h1987) n2008))) n2034) (ne_of_none (e1999 _ _ h1987) n2008) (ne_of_none (e2013 _ _ (e1999 _ _ h1987)) n2027) (ne_of_none (e2013 _ _ (e1999 _ _ h1987)) n2028)))) (ne_of_none ((SameXs.of x2048) _ _ (e2039 _ _ ((SameXs.of x2022) _ _ (e2013 _ _ (e1999 _ _ h1987)) (ni1 (ne_of_none (e1999 _ _ h1987) n2008)))) (ni1 (ne_of_none ((SameXs.of x2022) _ _ (e2013 _ _ (e1999 _ _ h1987)) (ni1 (ne_of_none (e1999 _ _ h1987) n2008))) n2034))) n2052)) (ni4 (ne_of_none ((SameXs.of x2022) _ _ (e2013 _ _ (e1999 _ _ h1987)) (ni1 (ne_of_none (e1999 _ _ h1987) n2008))) n2034) (ne_of_none (e1999 _ _ h1987) n2008) (ne_of_none (e2013 _ _ (e1999 _ _ h1987)) n2027) (ne_of_none (e2013 _ _ (e1999 _ _ h1987)) n2028)))
                have h2193 := (x2181 _ _ (x2169 _ _ (e2149 _ _ (x2136 _ _ h2122 (ni4 (ne_of_none ((SameXs.of x2022) _ _ (e2013 _ _ (e1999 _ _ h1988)) (ni1 (ne_of_none (e1999 _ _ h1988) n2008))) n2034) (ne_of_none (e1999 _ _ h1988) n2008) (ne_of_none (e2013 _ _ (e1999 _ _ h1988)) n2027) (ne_of_none (e2013 _ _ (e1999 _ _ h1988)) n2028)))) (ne_of_none ((SameXs.of x2048) _ _ (e2039 _ _ ((SameXs.of x2022) _ _ (e2013 _ _ (e1999 _ _ h1988)) (ni1 (ne_of_none (e1999 _ _ h1988) n2008)))) (ni1 (ne_of_none ((SameXs.of x2022) _ _ (e2013 _ _ (e1999 _ _ h1988)) (ni1 (ne_of_none (e1999 _ _ h1988) n2008))) n2034))) n2052)) (ni4 (ne_of_none ((SameXs.of x2022) _ _ (e2013 _ _ (e1999 _ _ h1988)) (ni1 (ne_of_none (e1999 _ _ h1988) n2008))) n2034) (ne_of_none (e1999 _ _ h1988) n2008) (ne_of_none (e2013 _ _ (e1999 _ _ h1988)) n2027) (ne_of_none (e2013 _ _ (e1999 _ _ h1988)) n2028)))
                have h2194 := (x2181 _ _ (x2169 _ _ (e2149 _ _ (x2136 _ _ h2123 (ni4 (ne_of_none ((SameXs.of x2022) _ _ (e2013 _ _ (e1999 _ _ h1989)) (ni1 (ne_of_none (e1999 _ _ h1989) n2008))) n2034) (ne_of_none (e1999 _ _ h1989) n2008) (ne_of_none (e2013 _ _ (e1999 _ _ h1989)) n2027) (ne_of_none (e2013 _ _ (e1999 _ _ h1989)) n2028)))) (ne_of_none ((SameXs.of x2048) _ _ (e2039 _ _ ((SameXs.of x2022) _ _ (e2013 _ _ (e1999 _ _ h1989)) (ni1 (ne_of_none (e1999 _ _ h1989) n2008)))) (ni1 (ne_of_none ((SameXs.of x2022) _ _ (e2013 _ _ (e1999 _ _ h1989)) (ni1 (ne_of_none (e1999 _ _ h1989) n2008))) n2034))) n2052)) (ni4 (ne_of_none ((SameXs.of x2022) _ _ (e2013 _ _ (e1999 _ _ h1989)) (ni1 (ne_of_none (e1999 _ _ h1989) n2008))) n2034) (ne_of_none (e1999 _ _ h1989) n2008) (ne_of_none (e2013 _ _ (e1999 _ _ h1989)) n2027) (ne_of_none (e2013 _ _ (e1999 _ _ h1989)) n2028)))
                have h2195 := (x2181 _ _ (x2169 _ _ (e2149 _ _ (x2136 _ _ h2124 (ni4 (ne_of_none ((SameXs.of x2022) _ _ (e2013 _ _ (e1999 _ _ h1990)) (ni1 (ne_of_none (e1999 _ _ h1990) n2008))) n2034) (ne_of_none (e1999 _ _ h1990) n2008) (ne_of_none (e2013 _ _ (e1999 _ _ h1990)) n2027) (ne_of_none (e2013 _ _ (e1999 _ _ h1990)) n2028)))) (ne_of_none ((SameXs.of x2048) _ _ (e2039 _ _ ((SameXs.of x2022) _ _ (e2013 _ _ (e1999 _ _ h1990)) (ni1 (ne_of_none (e1999 _ _ h1990) n2008)))) (ni1 (ne_of_none ((SameXs.of x2022) _ _ (e2013 _ _ (e1999 _ _ h1990)) (ni1 (ne_of_none (e1999 _ _ h1990) n2008))) n2034))) n2052)) (ni4 (ne_of_none ((SameXs.of x2022) _ _ (e2013 _ _ (e1999 _ _ h1990)) (ni1 (ne_of_none (e1999 _ _ h1990) n2008))) n2034) (ne_of_none (e1999 _ _ h1990) n2008) (ne_of_none (e2013 _ _ (e1999 _ _ h1990)) n2027) (ne_of_none (e2013 _ _ (e1999 _ _ h1990)) n2028)))
                have h2196 := (x2181 _ _ (x2169 _ _ h2156 (ne_of_none ((SameXs.of x2048) _ _ (e2039 _ _ ((SameXs.of x2022) _ _ (e2013 _ _ (e1999 _ _ h1991)) (ni1 (ne_of_none (e1999 _ _ h1991) n2008)))) (ni1 (ne_of_none ((SameXs.of x2022) _ _ (e2013 _ _ (e1999 _ _ h1991)) (ni1 (ne_of_none (e1999 _ _ h1991) n2008))) n2034))) n2052)) (ni4 (ne_of_none ((SameXs.of x2022) _ _ (e2013 _ _ (e1999 _ _ h1991)) (ni1 (ne_of_none (e1999 _ _ h1991) n2008))) n2034) (ne_of_none (e1999 _ _ h1991) n2008) (ne_of_none (e2013 _ _ (e1999 _ _ h1991)) n2027) (ne_of_none (e2013 _ _ (e1999 _ _ h1991)) n2028)))
                have h2197 := (x2181 _ _ (x2169 _ _ (e2149 _ _ (x2136 _ _ h2126 (ni4 (ne_of_none ((SameXs.of x2022) _ _ h2017 (ni1 (ne_of_none h2003 n2008))) n2034) (ne_of_none h2003 n2008) (ne_of_none h2017 n2027) (ne_of_none h2017 n2028)))) (ne_of_none ((SameXs.of x2048) _ _ (e2039 _ _ ((SameXs.of x2022) _ _ h2017 (ni1 (ne_of_none h2003 n2008)))) (ni1 (ne_of_none ((SameXs.of x2022) _ _ h2017 (ni1 (ne_of_none h2003 n2008))) n2034))) n2052)) (ni4 (ne_of_none ((SameXs.of x2022) _ _ h2017 (ni1 (ne_of_none h2003 n2008))) n2034) (ne_of_none h2003 n2008) (ne_of_none h2017 n2027) (ne_of_none h2017 n2028)))
                have h2198 := (x2181 _ _ h2171 (ni4 (ne_of_none h2049 n2052).symm (ne_of_none ((SameXs.of x2048) _ _ h2043 (ni1 (ne_of_none h2023 n2034))) n2052).symm (ne_of_none ((SameXs.of x2048) _ _ h2044 (ni1 (ne_of_none h2025 n2034))) n2052).symm (ne_of_none ((SameXs.of x2048) _ _ h2045 (ni1 (ne_of_none h2026 n2034))) n2052).symm))
                exact ⟨_, _, _, (v2179.2), ((found_2072) ++ [v2134.1]), _, _, _, _, rfl, (Same.trans (Same.trans eG2100 eG2133) eG2164), S2182, h2192, h2193, h2194, h2195, h2196, h2197, h2183, h2184, h2185, h2186, h2198, d2173, hw⟩
      · intro σ H2199 hw
        obtain ⟨u2068, u2069, u2070, reader_2071, found_2072, vs2073, u2074, u2075, G2213, rfl, eG2214, S2200, h2201, h2202, h2203, h2204, h2205, h2206, h2207, h2208, h2209, h2210, h2211, d2212, hw⟩ := hw
        have hw := cW_aftgo (hK2067 _ (cW_forR0 (rng_len _ _).symm hw))
        have hw : cW (F_law_r3 (blocks_1856) (reader_2071) (found_2072)) _ EE := hw
        unfold F_law_r3 at hw
        refine ⟨_, rfl, _, rfl, _, _, (rp_mk_list h2211 (RpAll.mono S2200.sG d2212)), (rp_mk_list h2205 (RpAll.mono S2200.sG (RpAll.mono eG2214 d1992))), ?_⟩
        have hw := cW_ok hw
        exact eq_bl (k _) (hK0 _ hw).symm
end
def spL (K : PySem.W.Frag) : Sp := fun vs H Q _ => ∃ (a_script : Addr) (script : List Int), vs = [.ref a_script] ∧ SqL K H a_script (script.map V.int) ∧ script.length ≤ 63 ∧ ∀ H', Q (.bl true) H'
theorem all_mk {l : PySem.W.OpenLaw} {w : World} {K : PySem.W.Frag} {h : Heap} {mg : Str → Option Value} {fa : Addr} (X : K.In h) (G : h.Ns mainGlobals mg) (hfa : mg "law" = some (.ref fa))
    {f0 f1 f2 f3 f4 f5 f6 f7 f8 f9 f10 f11 f12 f13 f14 f15 f16 f17 f18 f19 f20 f21 f22 f23 f24 f25 f26 f27 f28 f29 f30 f31 f32 f33 f34 f35 f36 f37 f38 f39 CEncoder CSymbolWriter CDecoder CSymbolReader XOutOfRange XBadData : Addr} {od0 an0 od1 an1 od2 an2 od3 an3 od4 an4 od5 an5 od6 an6 od7 an7 od8 an8 od9 an9 od10 an10 od11 an11 od12 an12 od13 an13 od14 an14 od15 an15 od16 an16 od17 an17 od18 an18 od19 an19 od20 an20 od21 an21 od22 an22 od23 an23 od24 an24 od25 an25 od26 an26 od27 an27 od28 an28 od29 an29 od30 an30 od31 an31 od32 an32 od33 an33 od34 an34 od35 an35 od36 an36 od37 an37 od38 an38 od39 an39 : Option Addr} {sl0 sl1 sl2 sl3 sl4 sl5 sl6 sl7 sl8 sl9 sl10 sl11 sl12 sl13 sl14 sl15 sl16 sl17 sl18 sl19 sl20 sl21 sl22 sl23 sl24 sl25 sl26 sl27 sl28 sl29 sl30 sl31 sl32 sl33 sl34 sl35 sl36 sl37 sl38 sl39 : Array (Option Value)} {oc0 kV0 dc0 pm0 cd0 ct0 oc1 kV1 dc1 pm1 cd1 ct1 oc2 kV2 dc2 pm2 cd2 ct2 oc3 kV3 dc3 pm3 cd3 ct3 oc4 kV4 dc4 pm4 cd4 ct4 oc5 kV5 dc5 pm5 cd5 ct5 oc6 kV6 dc6 pm6 cd6 ct6 oc7 kV7 dc7 pm7 cd7 ct7 oc8 kV8 dc8 pm8 cd8 ct8 oc9 kV9 dc9 pm9 cd9 ct9 oc10 kV10 dc10 pm10 cd10 ct10 oc11 kV11 dc11 pm11 cd11 ct11 oc12 kV12 dc12 pm12 cd12 ct12 oc13 kV13 dc13 pm13 cd13 ct13 oc14 kV14 dc14 pm14 cd14 ct14 oc15 kV15 dc15 pm15 cd15 ct15 oc16 kV16 dc16 pm16 cd16 ct16 oc17 kV17 dc17 pm17 cd17 ct17 oc18 kV18 dc18 pm18 cd18 ct18 oc19 kV19 dc19 pm19 cd19 ct19 oc20 kV20 dc20 pm20 cd20 ct20 oc21 kV21 dc21 pm21 cd21 ct21 oc22 kV22 dc22 pm22 cd22 ct22 oc23 kV23 dc23 pm23 cd23 ct23 oc24 kV24 dc24 pm24 cd24 ct24 oc25 kV25 dc25 pm25 cd25 ct25 oc26 kV26 dc26 pm26 cd26 ct26 oc27 kV27 dc27 pm27 cd27 ct27 oc28 kV28 dc28 pm28 cd28 ct28 oc29 kV29 dc29 pm29 cd29 ct29 oc30 kV30 dc30 pm30 cd30 ct30 oc31 kV31 dc31 pm31 cd31 ct31 oc32 kV32 dc32 pm32 cd32 ct32 oc33 kV33 dc33 pm33 cd33 ct33 oc34 kV34 dc34 pm34 cd34 ct34 oc35 kV35 dc35 pm35 cd35 ct35 oc36 kV36 dc36 pm36 cd36 ct36 oc37 kV37 dc37 pm37 cd37 ct37 oc38 kV38 dc38 pm38 cd38 ct38 oc39 kV39 dc39 pm39 cd39 ct39 : Value} {TG_SIZES_BY_COUNT : Addr} {tn4 : Nat} {tk4_0 tk4_1 tk4_2 tk4_3 : Tok} {TG_SIZES : Addr} {td29 : Option Addr} {tn29 : Nat} {tsl29 : Array (Option Value)} {tk29_0 tk29_1 : Tok} {tk0 tk1 tk2 tk6 tk8 tk10 tk11 tk12 tk13 tk14 tk15 tk16 tk17 tk19 tk20 tk21 tk22 tk23 tk24 : Tok}
    (wEncoder : PySem.W.nsIn K mainGlobals "Encoder" = some (some (.ref CEncoder))) (wSymbolWriter : PySem.W.nsIn K mainGlobals "SymbolWriter" = some (some (.ref CSymbolWriter))) (wDecoder : PySem.W.nsIn K mainGlobals "Decoder" = some (some (.ref CDecoder))) (wSymbolReader : PySem.W.nsIn K mainGlobals "SymbolReader" = some (some (.ref CSymbolReader))) (vOutOfRange : PySem.W.nsIn K mainGlobals "OutOfRange" = some (some (.ref XOutOfRange))) (vBadData : PySem.W.nsIn K mainGlobals "BadData" = some (some (.ref XBadData))) (a0 : PySem.W.findIn K (.ref CEncoder) "__init__" = some (some (.ref f0))) (b0 : PySem.W.isFn K (.ref f0) = true) (d0 : PySem.W.makesIn K CEncoder = true) (e0 : PySem.W.keepIn K (.ref CEncoder) = true) (l0 : K.lookup f0 = some ⟨oc0, od0, .func (PySem.W.fnOf "__init__" "Encoder.__init__" (defArgs s_Encoder___init__) (defBody s_Encoder___init__) (defScope s_Encoder___init__) .none kV0 dc0 pm0 an0 cd0 ct0), sl0⟩) (c0 : PySem.W.codeIn K cd0 "Encoder.__init__" = true) (k0 : PySem.W.keepIn K (.ref f0) = true) (a1 : PySem.W.findIn K (.ref CSymbolWriter) "__init__" = some (some (.ref f1))) (b1 : PySem.W.isFn K (.ref f1) = true) (d1 : PySem.W.makesIn K CSymbolWriter = true) (e1 : PySem.W.keepIn K (.ref CSymbolWriter) = true) (l1 : K.lookup f1 = some ⟨oc1, od1, .func (PySem.W.fnOf "__init__" "SymbolWriter.__init__" (defArgs s_SymbolWriter___init__) (defBody s_SymbolWriter___init__) (defScope s_SymbolWriter___init__) .none kV1 dc1 pm1 an1 cd1 ct1), sl1⟩) (c1 : PySem.W.codeIn K cd1 "SymbolWriter.__init__" = true) (k1 : PySem.W.keepIn K (.ref f1) = true) (a2 : PySem.W.findIn K (.ref CSymbolReader) "__init__" = some (some (.ref f2))) (b2 : PySem.W.isFn K (.ref f2) = true) (d2 : PySem.W.makesIn K CSymbolReader = true) (e2 : PySem.W.keepIn K (.ref CSymbolReader) = true) (l2 : K.lookup f2 = some ⟨oc2, od2, .func (PySem.W.fnOf "__init__" "SymbolReader.__init__" (defArgs s_SymbolReader___init__) (defBody s_SymbolReader___init__) (defScope s_SymbolReader___init__) .none kV2 dc2 pm2 an2 cd2 ct2), sl2⟩) (c2 : PySem.W.codeIn K cd2 "SymbolReader.__init__" = true) (k2 : PySem.W.keepIn K (.ref f2) = true) (a3 : PySem.W.nsIn K mainGlobals "_check_levels" = some (some (.ref f3))) (l3 : K.lookup f3 = some ⟨oc3, od3, .func (PySem.W.fnOf "_check_levels" "_check_levels" (defArgs s__check_levels) (defBody s__check_levels) (defScope s__check_levels) .none kV3 dc3 pm3 an3 cd3 ct3), sl3⟩) (c3 : PySem.W.codeIn K cd3 "_check_levels" = true) (k3 : PySem.W.keepIn K (.ref f3) = true) (a4 : PySem.W.nsIn K mainGlobals "_check_contexts" = some (some (.ref f4))) (l4 : K.lookup f4 = some ⟨oc4, od4, .func (PySem.W.fnOf "_check_contexts" "_check_contexts" (defArgs s__check_contexts) (defBody s__check_contexts) (defScope s__check_contexts) .none kV4 dc4 pm4 an4 cd4 ct4), sl4⟩) (c4 : PySem.W.codeIn K cd4 "_check_contexts" = true) (k4 : PySem.W.keepIn K (.ref f4) = true) (a5 : PySem.W.nsIn K mainGlobals "_check_context" = some (some (.ref f5))) (l5 : K.lookup f5 = some ⟨oc5, od5, .func (PySem.W.fnOf "_check_context" "_check_context" (defArgs s__check_context) (defBody s__check_context) (defScope s__check_context) .none kV5 dc5 pm5 an5 cd5 ct5), sl5⟩) (c5 : PySem.W.codeIn K cd5 "_check_context" = true) (k5 : PySem.W.keepIn K (.ref f5) = true) (a6 : PySem.W.nsIn K mainGlobals "_check_decision" = some (some (.ref f6))) (l6 : K.lookup f6 = some ⟨oc6, od6, .func (PySem.W.fnOf "_check_decision" "_check_decision" (defArgs s__check_decision) (defBody s__check_decision) (defScope s__check_decision) .none kV6 dc6 pm6 an6 cd6 ct6), sl6⟩) (c6 : PySem.W.codeIn K cd6 "_check_decision" = true) (k6 : PySem.W.keepIn K (.ref f6) = true) (a7 : PySem.W.nsIn K mainGlobals "_adapted" = some (some (.ref f7))) (l7 : K.lookup f7 = some ⟨oc7, od7, .func (PySem.W.fnOf "_adapted" "_adapted" (defArgs s__adapted) (defBody s__adapted) (defScope s__adapted) .none kV7 dc7 pm7 an7 cd7 ct7), sl7⟩) (c7 : PySem.W.codeIn K cd7 "_adapted" = true) (k7 : PySem.W.keepIn K (.ref f7) = true) (a8 : PySem.W.findIn K (.ref CEncoder) "_carry" = some (some (.ref f8))) (b8 : PySem.W.isFn K (.ref f8) = true) (l8 : K.lookup f8 = some ⟨oc8, od8, .func (PySem.W.fnOf "_carry" "Encoder._carry" (defArgs s_Encoder__carry) (defBody s_Encoder__carry) (defScope s_Encoder__carry) .none kV8 dc8 pm8 an8 cd8 ct8), sl8⟩) (c8 : PySem.W.codeIn K cd8 "Encoder._carry" = true) (k8 : PySem.W.keepIn K (.ref f8) = true) (a9 : PySem.W.findIn K (.ref CEncoder) "_narrow" = some (some (.ref f9))) (b9 : PySem.W.isFn K (.ref f9) = true) (l9 : K.lookup f9 = some ⟨oc9, od9, .func (PySem.W.fnOf "_narrow" "Encoder._narrow" (defArgs s_Encoder__narrow) (defBody s_Encoder__narrow) (defScope s_Encoder__narrow) .none kV9 dc9 pm9 an9 cd9 ct9), sl9⟩) (c9 : PySem.W.codeIn K cd9 "Encoder._narrow" = true) (k9 : PySem.W.keepIn K (.ref f9) = true) (a10 : PySem.W.findIn K (.ref CEncoder) "code" = some (some (.ref f10))) (b10 : PySem.W.isFn K (.ref f10) = true) (l10 : K.lookup f10 = some ⟨oc10, od10, .func (PySem.W.fnOf "code" "Encoder.code" (defArgs s_Encoder_code) (defBody s_Encoder_code) (defScope s_Encoder_code) .none kV10 dc10 pm10 an10 cd10 ct10), sl10⟩) (c10 : PySem.W.codeIn K cd10 "Encoder.code" = true) (k10 : PySem.W.keepIn K (.ref f10) = true) (a11 : PySem.W.findIn K (.ref CSymbolWriter) "flag" = some (some (.ref f11))) (b11 : PySem.W.isFn K (.ref f11) = true) (l11 : K.lookup f11 = some ⟨oc11, od11, .func (PySem.W.fnOf "flag" "SymbolWriter.flag" (defArgs s_SymbolWriter_flag) (defBody s_SymbolWriter_flag) (defScope s_SymbolWriter_flag) .none kV11 dc11 pm11 an11 cd11 ct11), sl11⟩) (c11 : PySem.W.codeIn K cd11 "SymbolWriter.flag" = true) (k11 : PySem.W.keepIn K (.ref f11) = true) (a12 : PySem.W.findIn K (.ref CDecoder) "_shift" = some (some (.ref f12))) (b12 : PySem.W.isFn K (.ref f12) = true) (l12 : K.lookup f12 = some ⟨oc12, od12, .func (PySem.W.fnOf "_shift" "Decoder._shift" (defArgs s_Decoder__shift) (defBody s_Decoder__shift) (defScope s_Decoder__shift) .none kV12 dc12 pm12 an12 cd12 ct12), sl12⟩) (c12 : PySem.W.codeIn K cd12 "Decoder._shift" = true) (k12 : PySem.W.keepIn K (.ref f12) = true) (a13 : PySem.W.findIn K (.ref CDecoder) "_decide" = some (some (.ref f13))) (b13 : PySem.W.isFn K (.ref f13) = true) (l13 : K.lookup f13 = some ⟨oc13, od13, .func (PySem.W.fnOf "_decide" "Decoder._decide" (defArgs s_Decoder__decide) (defBody s_Decoder__decide) (defScope s_Decoder__decide) .none kV13 dc13 pm13 an13 cd13 ct13), sl13⟩) (c13 : PySem.W.codeIn K cd13 "Decoder._decide" = true) (k13 : PySem.W.keepIn K (.ref f13) = true) (a14 : PySem.W.findIn K (.ref CDecoder) "read" = some (some (.ref f14))) (b14 : PySem.W.isFn K (.ref f14) = true) (l14 : K.lookup f14 = some ⟨oc14, od14, .func (PySem.W.fnOf "read" "Decoder.read" (defArgs s_Decoder_read) (defBody s_Decoder_read) (defScope s_Decoder_read) .none kV14 dc14 pm14 an14 cd14 ct14), sl14⟩) (c14 : PySem.W.codeIn K cd14 "Decoder.read" = true) (k14 : PySem.W.keepIn K (.ref f14) = true) (a15 : PySem.W.findIn K (.ref CSymbolReader) "flag" = some (some (.ref f15))) (b15 : PySem.W.isFn K (.ref f15) = true) (l15 : K.lookup f15 = some ⟨oc15, od15, .func (PySem.W.fnOf "flag" "SymbolReader.flag" (defArgs s_SymbolReader_flag) (defBody s_SymbolReader_flag) (defScope s_SymbolReader_flag) .none kV15 dc15 pm15 an15 cd15 ct15), sl15⟩) (c15 : PySem.W.codeIn K cd15 "SymbolReader.flag" = true) (k15 : PySem.W.keepIn K (.ref f15) = true) (a16 : PySem.W.nsIn K mainGlobals "_put_places" = some (some (.ref f16))) (l16 : K.lookup f16 = some ⟨oc16, od16, .func (PySem.W.fnOf "_put_places" "_put_places" (defArgs s__put_places) (defBody s__put_places) (defScope s__put_places) .none kV16 dc16 pm16 an16 cd16 ct16), sl16⟩) (c16 : PySem.W.codeIn K cd16 "_put_places" = true) (k16 : PySem.W.keepIn K (.ref f16) = true) (a17 : PySem.W.nsIn K mainGlobals "_base_after" = some (some (.ref f17))) (l17 : K.lookup f17 = some ⟨oc17, od17, .func (PySem.W.fnOf "_base_after" "_base_after" (defArgs s__base_after) (defBody s__base_after) (defScope s__base_after) .none kV17 dc17 pm17 an17 cd17 ct17), sl17⟩) (c17 : PySem.W.codeIn K cd17 "_base_after" = true) (k17 : PySem.W.keepIn K (.ref f17) = true) (a18 : PySem.W.nsIn K mainGlobals "_check_unary" = some (some (.ref f18))) (l18 : K.lookup f18 = some ⟨oc18, od18, .func (PySem.W.fnOf "_check_unary" "_check_unary" (defArgs s__check_unary) (defBody s__check_unary) (defScope s__check_unary) .none kV18 dc18 pm18 an18 cd18 ct18), sl18⟩) (c18 : PySem.W.codeIn K cd18 "_check_unary" = true) (k18 : PySem.W.keepIn K (.ref f18) = true) (a19 : PySem.W.findIn K (.ref CSymbolWriter) "unary" = some (some (.ref f19))) (b19 : PySem.W.isFn K (.ref f19) = true) (l19 : K.lookup f19 = some ⟨oc19, od19, .func (PySem.W.fnOf "unary" "SymbolWriter.unary" (defArgs s_SymbolWriter_unary) (defBody s_SymbolWriter_unary) (defScope s_SymbolWriter_unary) .none kV19 dc19 pm19 an19 cd19 ct19), sl19⟩) (c19 : PySem.W.codeIn K cd19 "SymbolWriter.unary" = true) (k19 : PySem.W.keepIn K (.ref f19) = true) (a20 : PySem.W.findIn K (.ref CSymbolReader) "unary" = some (some (.ref f20))) (b20 : PySem.W.isFn K (.ref f20) = true) (l20 : K.lookup f20 = some ⟨oc20, od20, .func (PySem.W.fnOf "unary" "SymbolReader.unary" (defArgs s_SymbolReader_unary) (defBody s_SymbolReader_unary) (defScope s_SymbolReader_unary) .none kV20 dc20 pm20 an20 cd20 ct20), sl20⟩) (c20 : PySem.W.codeIn K cd20 "SymbolReader.unary" = true) (k20 : PySem.W.keepIn K (.ref f20) = true) (a21 : PySem.W.nsIn K mainGlobals "_digit_context" = some (some (.ref f21))) (l21 : K.lookup f21 = some ⟨oc21, od21, .func (PySem.W.fnOf "_digit_context" "_digit_context" (defArgs s__digit_context) (defBody s__digit_context) (defScope s__digit_context) .none kV21 dc21 pm21 an21 cd21 ct21), sl21⟩) (c21 : PySem.W.codeIn K cd21 "_digit_context" = true) (k21 : PySem.W.keepIn K (.ref f21) = true) (a22 : PySem.W.findIn K (.ref CEncoder) "code_even" = some (some (.ref f22))) (b22 : PySem.W.isFn K (.ref f22) = true) (l22 : K.lookup f22 = some ⟨oc22, od22, .func (PySem.W.fnOf "code_even" "Encoder.code_even" (defArgs s_Encoder_code_even) (defBody s_Encoder_code_even) (defScope s_Encoder_code_even) .none kV22 dc22 pm22 an22 cd22 ct22), sl22⟩) (c22 : PySem.W.codeIn K cd22 "Encoder.code_even" = true) (k22 : PySem.W.keepIn K (.ref f22) = true) (a23 : PySem.W.findIn K (.ref CSymbolWriter) "number" = some (some (.ref f23))) (b23 : PySem.W.isFn K (.ref f23) = true) (l23 : K.lookup f23 = some ⟨oc23, od23, .func (PySem.W.fnOf "number" "SymbolWriter.number" (defArgs s_SymbolWriter_number) (defBody s_SymbolWriter_number) (defScope s_SymbolWriter_number) .none kV23 dc23 pm23 an23 cd23 ct23), sl23⟩) (c23 : PySem.W.codeIn K cd23 "SymbolWriter.number" = true) (k23 : PySem.W.keepIn K (.ref f23) = true) (a24 : PySem.W.findIn K (.ref CDecoder) "read_even" = some (some (.ref f24))) (b24 : PySem.W.isFn K (.ref f24) = true) (l24 : K.lookup f24 = some ⟨oc24, od24, .func (PySem.W.fnOf "read_even" "Decoder.read_even" (defArgs s_Decoder_read_even) (defBody s_Decoder_read_even) (defScope s_Decoder_read_even) .none kV24 dc24 pm24 an24 cd24 ct24), sl24⟩) (c24 : PySem.W.codeIn K cd24 "Decoder.read_even" = true) (k24 : PySem.W.keepIn K (.ref f24) = true) (a25 : PySem.W.findIn K (.ref CSymbolReader) "number" = some (some (.ref f25))) (b25 : PySem.W.isFn K (.ref f25) = true) (l25 : K.lookup f25 = some ⟨oc25, od25, .func (PySem.W.fnOf "number" "SymbolReader.number" (defArgs s_SymbolReader_number) (defBody s_SymbolReader_number) (defScope s_SymbolReader_number) .none kV25 dc25 pm25 an25 cd25 ct25), sl25⟩) (c25 : PySem.W.codeIn K cd25 "SymbolReader.number" = true) (k25 : PySem.W.keepIn K (.ref f25) = true) (a26 : PySem.W.findIn K (.ref CSymbolWriter) "even" = some (some (.ref f26))) (b26 : PySem.W.isFn K (.ref f26) = true) (l26 : K.lookup f26 = some ⟨oc26, od26, .func (PySem.W.fnOf "even" "SymbolWriter.even" (defArgs s_SymbolWriter_even) (defBody s_SymbolWriter_even) (defScope s_SymbolWriter_even) .none kV26 dc26 pm26 an26 cd26 ct26), sl26⟩) (c26 : PySem.W.codeIn K cd26 "SymbolWriter.even" = true) (k26 : PySem.W.keepIn K (.ref f26) = true) (a27 : PySem.W.findIn K (.ref CSymbolReader) "even" = some (some (.ref f27))) (b27 : PySem.W.isFn K (.ref f27) = true) (l27 : K.lookup f27 = some ⟨oc27, od27, .func (PySem.W.fnOf "even" "SymbolReader.even" (defArgs s_SymbolReader_even) (defBody s_SymbolReader_even) (defScope s_SymbolReader_even) .none kV27 dc27 pm27 an27 cd27 ct27), sl27⟩) (c27 : PySem.W.codeIn K cd27 "SymbolReader.even" = true) (k27 : PySem.W.keepIn K (.ref f27) = true) (a28 : PySem.W.nsIn K mainGlobals "put_levels" = some (some (.ref f28))) (l28 : K.lookup f28 = some ⟨oc28, od28, .func (PySem.W.fnOf "put_levels" "put_levels" (defArgs s_put_levels) (defBody s_put_levels) (defScope s_put_levels) .none kV28 dc28 pm28 an28 cd28 ct28), sl28⟩) (c28 : PySem.W.codeIn K cd28 "put_levels" = true) (k28 : PySem.W.keepIn K (.ref f28) = true) (a29 : PySem.W.findIn K (.ref CEncoder) "octets" = some (some (.ref f29))) (b29 : PySem.W.isFn K (.ref f29) = true) (l29 : K.lookup f29 = some ⟨oc29, od29, .func (PySem.W.fnOf "octets" "Encoder.octets" (defArgs s_Encoder_octets) (defBody s_Encoder_octets) (defScope s_Encoder_octets) .none kV29 dc29 pm29 an29 cd29 ct29), sl29⟩) (c29 : PySem.W.codeIn K cd29 "Encoder.octets" = true) (k29 : PySem.W.keepIn K (.ref f29) = true) (a30 : PySem.W.findIn K (.ref CDecoder) "__init__" = some (some (.ref f30))) (b30 : PySem.W.isFn K (.ref f30) = true) (d30 : PySem.W.makesIn K CDecoder = true) (e30 : PySem.W.keepIn K (.ref CDecoder) = true) (l30 : K.lookup f30 = some ⟨oc30, od30, .func (PySem.W.fnOf "__init__" "Decoder.__init__" (defArgs s_Decoder___init__) (defBody s_Decoder___init__) (defScope s_Decoder___init__) .none kV30 dc30 pm30 an30 cd30 ct30), sl30⟩) (c30 : PySem.W.codeIn K cd30 "Decoder.__init__" = true) (k30 : PySem.W.keepIn K (.ref f30) = true) (a31 : PySem.W.nsIn K mainGlobals "check_size" = some (some (.ref f31))) (l31 : K.lookup f31 = some ⟨oc31, od31, .func (PySem.W.fnOf "check_size" "check_size" (defArgs s_check_size) (defBody s_check_size) (defScope s_check_size) .none kV31 dc31 pm31 an31 cd31 ct31), sl31⟩) (c31 : PySem.W.codeIn K cd31 "check_size" = true) (k31 : PySem.W.keepIn K (.ref f31) = true) (a32 : PySem.W.nsIn K mainGlobals "_get_places" = some (some (.ref f32))) (l32 : K.lookup f32 = some ⟨oc32, od32, .func (PySem.W.fnOf "_get_places" "_get_places" (defArgs s__get_places) (defBody s__get_places) (defScope s__get_places) .none kV32 dc32 pm32 an32 cd32 ct32), sl32⟩) (c32 : PySem.W.codeIn K cd32 "_get_places" = true) (k32 : PySem.W.keepIn K (.ref f32) = true) (a33 : PySem.W.nsIn K mainGlobals "clip" = some (some (.ref f33))) (l33 : K.lookup f33 = some ⟨oc33, od33, .func (PySem.W.fnOf "clip" "clip" (defArgs s_clip) (defBody s_clip) (defScope s_clip) .none kV33 dc33 pm33 an33 cd33 ct33), sl33⟩) (c33 : PySem.W.codeIn K cd33 "clip" = true) (k33 : PySem.W.keepIn K (.ref f33) = true) (a34 : PySem.W.nsIn K mainGlobals "get_levels" = some (some (.ref f34))) (l34 : K.lookup f34 = some ⟨oc34, od34, .func (PySem.W.fnOf "get_levels" "get_levels" (defArgs s_get_levels) (defBody s_get_levels) (defScope s_get_levels) .none kV34 dc34 pm34 an34 cd34 ct34), sl34⟩) (c34 : PySem.W.codeIn K cd34 "get_levels" = true) (k34 : PySem.W.keepIn K (.ref f34) = true) (a35 : PySem.W.nsIn K mainGlobals "_law_cell" = some (some (.ref f35))) (l35 : K.lookup f35 = some ⟨oc35, od35, .func (PySem.W.fnOf "_law_cell" "_law_cell" (defArgs s__law_cell) (defBody s__law_cell) (defScope s__law_cell) .none kV35 dc35 pm35 an35 cd35 ct35), sl35⟩) (c35 : PySem.W.codeIn K cd35 "_law_cell" = true) (k35 : PySem.W.keepIn K (.ref f35) = true) (a36 : PySem.W.nsIn K mainGlobals "_law_digits" = some (some (.ref f36))) (l36 : K.lookup f36 = some ⟨oc36, od36, .func (PySem.W.fnOf "_law_digits" "_law_digits" (defArgs s__law_digits) (defBody s__law_digits) (defScope s__law_digits) .none kV36 dc36 pm36 an36 cd36 ct36), sl36⟩) (c36 : PySem.W.codeIn K cd36 "_law_digits" = true) (k36 : PySem.W.keepIn K (.ref f36) = true) (a37 : PySem.W.nsIn K mainGlobals "_law_block" = some (some (.ref f37))) (l37 : K.lookup f37 = some ⟨oc37, od37, .func (PySem.W.fnOf "_law_block" "_law_block" (defArgs s__law_block) (defBody s__law_block) (defScope s__law_block) .none kV37 dc37 pm37 an37 cd37 ct37), sl37⟩) (c37 : PySem.W.codeIn K cd37 "_law_block" = true) (k37 : PySem.W.keepIn K (.ref f37) = true) (a38 : PySem.W.nsIn K mainGlobals "_law_is_integers" = some (some (.ref f38))) (l38 : K.lookup f38 = some ⟨oc38, od38, .func (PySem.W.fnOf "_law_is_integers" "_law_is_integers" (defArgs s__law_is_integers) (defBody s__law_is_integers) (defScope s__law_is_integers) .none kV38 dc38 pm38 an38 cd38 ct38), sl38⟩) (c38 : PySem.W.codeIn K cd38 "_law_is_integers" = true) (k38 : PySem.W.keepIn K (.ref f38) = true) (a39 : PySem.W.nsIn K mainGlobals "law" = some (some (.ref f39))) (l39 : K.lookup f39 = some ⟨oc39, od39, .func (PySem.W.fnOf "law" "law" (defArgs s_law) (defBody s_law) (defScope s_law) .none kV39 dc39 pm39 an39 cd39 ct39), sl39⟩) (c39 : PySem.W.codeIn K cd39 "law" = true) (k39 : PySem.W.keepIn K (.ref f39) = true)
    (z0 : PySem.W.nsIn K mainGlobals "EVEN" = some (some (.int 2048 tk0))) (z1 : PySem.W.nsIn K mainGlobals "CONTEXTS_coder" = some (some (.int 256 tk1))) (z2 : PySem.W.nsIn K mainGlobals "WORD" = some (some (.int 4294967296 tk2))) (z3 : PySem.W.nsIn K mainGlobals "len" = some none) (z4 : PySem.W.nsIn K mainGlobals "SIZES_BY_COUNT" = some (some (.ref TG_SIZES_BY_COUNT))) (y4 : K.lookup TG_SIZES_BY_COUNT = some ⟨.type "dict", none, .dict #[⟨hashInt 16, .int 16 tk4_0, .int 4 tk4_1⟩, ⟨hashInt 64, .int 64 tk4_2, .int 8 tk4_3⟩] tn4, #[]⟩) (u4 : (TG_SIZES_BY_COUNT == sysModules) = false) (z5 : PySem.W.nsIn K mainGlobals "max" = some none) (z6 : PySem.W.nsIn K mainGlobals "GREATEST_LEVEL" = some (some (.int 524287 tk6))) (z7 : PySem.W.nsIn K mainGlobals "min" = some none) (z8 : PySem.W.nsIn K mainGlobals "LEAST_LEVEL" = some (some (.int (-524288) tk8))) (z9 : PySem.W.nsIn K mainGlobals "any" = some none) (z10 : PySem.W.nsIn K mainGlobals "CONTEXTS_symbols" = some (some (.int 256 tk10))) (z11 : PySem.W.nsIn K mainGlobals "SCALE" = some (some (.int 4096 tk11))) (z12 : PySem.W.nsIn K mainGlobals "RATE" = some (some (.int 5 tk12))) (z13 : PySem.W.nsIn K mainGlobals "SCALE_BITS" = some (some (.int 12 tk13))) (z14 : PySem.W.nsIn K mainGlobals "LEAST_SPAN" = some (some (.int 16777216 tk14))) (z15 : PySem.W.nsIn K mainGlobals "CLASSES" = some (some (.int 64 tk15))) (z16 : PySem.W.nsIn K mainGlobals "SIGNIFICANT" = some (some (.int 64 tk16))) (z17 : PySem.W.nsIn K mainGlobals "LAST" = some (some (.int 128 tk17))) (z18 : PySem.W.nsIn K mainGlobals "range" = some none) (z19 : PySem.W.nsIn K mainGlobals "LEVEL" = some (some (.int 192 tk19))) (z20 : PySem.W.nsIn K mainGlobals "VALUE_CONTEXTS" = some (some (.int 16 tk20))) (z21 : PySem.W.nsIn K mainGlobals "GREATEST_UNARY" = some (some (.int 64 tk21))) (z22 : PySem.W.nsIn K mainGlobals "SHARED" = some (some (.int 8 tk22))) (z23 : PySem.W.nsIn K mainGlobals "GREATEST_NUMBER" = some (some (.int 1048576 tk23))) (z24 : PySem.W.nsIn K mainGlobals "MOST_DIGITS" = some (some (.int 20 tk24))) (z25 : PySem.W.nsIn K mainGlobals "enumerate" = some none) (z26 : PySem.W.nsIn K mainGlobals "abs" = some none) (z27 : PySem.W.nsIn K mainGlobals "reversed" = some none) (z28 : PySem.W.nsIn K mainGlobals "list" = some none) (z29 : PySem.W.nsIn K mainGlobals "SIZES" = some (some (.ref TG_SIZES))) (y29 : K.lookup TG_SIZES = some ⟨.type "tuple", td29, .seq #[.int 4 tk29_0, .int 8 tk29_1] tn29, tsl29⟩) (z30 : PySem.W.nsIn K mainGlobals "int" = some none) (z31 : PySem.W.nsIn K mainGlobals "isinstance" = some none) (z32 : PySem.W.nsIn K mainGlobals "bool" = some none) (yEncoder0 : PySem.W.plainGet K CEncoder Str.empty = true) (yEncoder1 : PySem.W.hasDictIn K CEncoder = true) (yEncoder2 : PySem.W.plainOver K CEncoder = true) (yEncoder3 : PySem.W.findIn K (.ref CEncoder) "__setattr__" = some (some (.builtin "object.__setattr__"))) (xEncoder0 : PySem.W.findIn K (.ref CEncoder) "_probabilities" = some none) (xEncoder1 : PySem.W.findIn K (.ref CEncoder) "_front" = some none) (xEncoder2 : PySem.W.findIn K (.ref CEncoder) "_low" = some none) (xEncoder3 : PySem.W.findIn K (.ref CEncoder) "_span" = some none) (ySymbolWriter0 : PySem.W.plainGet K CSymbolWriter Str.empty = true) (ySymbolWriter1 : PySem.W.hasDictIn K CSymbolWriter = true) (ySymbolWriter2 : PySem.W.plainOver K CSymbolWriter = true) (ySymbolWriter3 : PySem.W.findIn K (.ref CSymbolWriter) "__setattr__" = some (some (.builtin "object.__setattr__"))) (xSymbolWriter0 : PySem.W.findIn K (.ref CSymbolWriter) "_encoder" = some none) (ySymbolReader0 : PySem.W.plainGet K CSymbolReader Str.empty = true) (ySymbolReader1 : PySem.W.hasDictIn K CSymbolReader = true) (ySymbolReader2 : PySem.W.plainOver K CSymbolReader = true) (ySymbolReader3 : PySem.W.findIn K (.ref CSymbolReader) "__setattr__" = some (some (.builtin "object.__setattr__"))) (xSymbolReader0 : PySem.W.findIn K (.ref CSymbolReader) "_decoder" = some none) (yDecoder0 : PySem.W.plainGet K CDecoder Str.empty = true) (yDecoder1 : PySem.W.hasDictIn K CDecoder = true) (yDecoder2 : PySem.W.plainOver K CDecoder = true) (yDecoder3 : PySem.W.findIn K (.ref CDecoder) "__setattr__" = some (some (.builtin "object.__setattr__"))) (xDecoder0 : PySem.W.findIn K (.ref CDecoder) "_probabilities" = some none) (xDecoder1 : PySem.W.findIn K (.ref CDecoder) "_octets" = some none) (xDecoder2 : PySem.W.findIn K (.ref CDecoder) "_place" = some none) (xDecoder3 : PySem.W.findIn K (.ref CDecoder) "_span" = some none) (xDecoder4 : PySem.W.findIn K (.ref CDecoder) "_value" = some none) (exBadData : PySem.W.excIn K XBadData [.type "ValueError", .type "Exception", .type "BaseException", .type "object"] "ValueError.__new__" = true) (ekBadData : PySem.W.keepIn K (.ref XBadData) = true) (ebBadData : PySem.W.subIn K (.ref XBadData) (.type "BaseException") = some true) (etBadData : PySem.W.typeIn K (.ref XBadData) = some (.type "type")) (exOutOfRange : PySem.W.excIn K XOutOfRange [.type "ValueError", .type "Exception", .type "BaseException", .type "object"] "ValueError.__new__" = true) (ekOutOfRange : PySem.W.keepIn K (.ref XOutOfRange) = true) (ebOutOfRange : PySem.W.subIn K (.ref XOutOfRange) (.type "BaseException") = some true) (etOutOfRange : PySem.W.typeIn K (.ref XOutOfRange) = some (.type "type")) :
    ∃ fd : FuncData, (∀ (s : Shared) (v : Value), BindsTo s fd ⟨[v], []⟩ [("script", v)]) ∧ ∀ base : Heap, K.In base → base.Ns mainGlobals mg → FnG l.prog w K mg base CX0 7 fa fd ["script"] (spL K) := by
  have e := hfa.symm.trans (PySem.W.mg_of X G a39)
  cases e
  have T : Txt K mg ⟨CEncoder, CSymbolWriter, CDecoder, CSymbolReader, fa, XOutOfRange, XBadData, TG_SIZES_BY_COUNT, TG_SIZES, fa⟩ := ⟨⟨_, PySem.W.mg_of X G z0, ⟨_, rfl⟩⟩, ⟨_, PySem.W.mg_of X G z1, ⟨_, rfl⟩⟩, ⟨_, PySem.W.mg_of X G z2, ⟨_, rfl⟩⟩, PySem.W.mg_none_of X G z3, ⟨_, PySem.W.mg_of X G z4, rfl⟩, ⟨_, _, y4, u4, (.cons (.cons .nil))⟩, PySem.W.mg_none_of X G z5, ⟨_, PySem.W.mg_of X G z6, ⟨_, rfl⟩⟩, PySem.W.mg_none_of X G z7, ⟨_, PySem.W.mg_of X G z8, ⟨_, rfl⟩⟩, PySem.W.mg_none_of X G z9, ⟨_, PySem.W.mg_of X G z10, ⟨_, rfl⟩⟩, ⟨_, PySem.W.mg_of X G z11, ⟨_, rfl⟩⟩, ⟨_, PySem.W.mg_of X G z12, ⟨_, rfl⟩⟩, ⟨_, PySem.W.mg_of X G z13, ⟨_, rfl⟩⟩, ⟨_, PySem.W.mg_of X G z14, ⟨_, rfl⟩⟩, ⟨_, PySem.W.mg_of X G z15, ⟨_, rfl⟩⟩, ⟨_, PySem.W.mg_of X G z16, ⟨_, rfl⟩⟩, ⟨_, PySem.W.mg_of X G z17, ⟨_, rfl⟩⟩, PySem.W.mg_none_of X G z18, ⟨_, PySem.W.mg_of X G z19, ⟨_, rfl⟩⟩, ⟨_, PySem.W.mg_of X G z20, ⟨_, rfl⟩⟩, ⟨_, PySem.W.mg_of X G z21, ⟨_, rfl⟩⟩, ⟨_, PySem.W.mg_of X G z22, ⟨_, rfl⟩⟩, ⟨_, PySem.W.mg_of X G z23, ⟨_, rfl⟩⟩, ⟨_, PySem.W.mg_of X G z24, ⟨_, rfl⟩⟩, PySem.W.mg_none_of X G z25, PySem.W.mg_none_of X G z26, PySem.W.mg_none_of X G z27, PySem.W.mg_none_of X G z28, ⟨_, PySem.W.mg_of X G z29, rfl⟩, fun H => .inr ⟨_, _, _, y29, rfl, rfl, (by show 2 ≤ sizeLine; decide), (.cons ⟨_, rfl⟩ (.cons ⟨_, rfl⟩ .nil))⟩, PySem.W.mg_none_of X G z30, PySem.W.mg_none_of X G z31, PySem.W.mg_none_of X G z32, ⟨yEncoder0, yEncoder1, yEncoder2, yEncoder3⟩, xEncoder0, xEncoder1, xEncoder2, xEncoder3, ⟨ySymbolWriter0, ySymbolWriter1, ySymbolWriter2, ySymbolWriter3⟩, xSymbolWriter0, ⟨ySymbolReader0, ySymbolReader1, ySymbolReader2, ySymbolReader3⟩, xSymbolReader0, ⟨yDecoder0, yDecoder1, yDecoder2, yDecoder3⟩, xDecoder0, xDecoder1, xDecoder2, xDecoder3, xDecoder4, PySem.W.mg_of X G vBadData, exBadData, ekBadData, ebBadData, etBadData, PySem.W.mg_of X G vOutOfRange, exOutOfRange, ekOutOfRange, ebOutOfRange, etOutOfRange⟩
  have F0 : FunD K "__init__" "Encoder.__init__" (defArgs s_Encoder___init__) (defBody s_Encoder___init__) (defScope s_Encoder___init__) [] [] f0 _ := ⟨⟨_, _, _, _, _, _, _, _, _, _, rfl, l0, c0, .inl ⟨rfl, rfl⟩, .inl rfl⟩, k0⟩
  have D_0 : InitX K mg CEncoder "Encoder" "Encoder.__init__" s_Encoder___init__ ["self"] pats_Encoder___init__ := ⟨_, _, _, _, F0, ⟨d0, a0, b0, e0⟩, PySem.W.mg_of X G wEncoder, (all_consQ (Bnd.all fun us ws vs zs l1 l2 r rz => by
      obtain ⟨u0, rfl⟩ := len1 (r.length.symm.trans l1)
      obtain rfl := len0 (rz.length.symm.trans l2)
      cases r with | cons r0 r =>
        cases r
        cases rz
        exact ⟨[u0], rfl, (.cons r0 .nil)⟩) all_nilQ)⟩
  have F1 : FunD K "__init__" "SymbolWriter.__init__" (defArgs s_SymbolWriter___init__) (defBody s_SymbolWriter___init__) (defScope s_SymbolWriter___init__) [] [] f1 _ := ⟨⟨_, _, _, _, _, _, _, _, _, _, rfl, l1, c1, .inl ⟨rfl, rfl⟩, .inl rfl⟩, k1⟩
  have D_1 : InitX K mg CSymbolWriter "SymbolWriter" "SymbolWriter.__init__" s_SymbolWriter___init__ ["self", "encoder"] pats_SymbolWriter___init__ := ⟨_, _, _, _, F1, ⟨d1, a1, b1, e1⟩, PySem.W.mg_of X G wSymbolWriter, (all_consQ (Bnd.all fun us ws vs zs l1 l2 r rz => by
      obtain ⟨u0, u1, rfl⟩ := len2 (r.length.symm.trans l1)
      obtain rfl := len0 (rz.length.symm.trans l2)
      cases r with | cons r0 r =>
        cases r with | cons r1 r =>
          cases r
          cases rz
          exact ⟨[u0, u1], rfl, (.cons r0 (.cons r1 .nil))⟩) all_nilQ)⟩
  have F2 : FunD K "__init__" "SymbolReader.__init__" (defArgs s_SymbolReader___init__) (defBody s_SymbolReader___init__) (defScope s_SymbolReader___init__) [] [] f2 _ := ⟨⟨_, _, _, _, _, _, _, _, _, _, rfl, l2, c2, .inl ⟨rfl, rfl⟩, .inl rfl⟩, k2⟩
  have D_2 : InitX K mg CSymbolReader "SymbolReader" "SymbolReader.__init__" s_SymbolReader___init__ ["self", "decoder"] pats_SymbolReader___init__ := ⟨_, _, _, _, F2, ⟨d2, a2, b2, e2⟩, PySem.W.mg_of X G wSymbolReader, (all_consQ (Bnd.all fun us ws vs zs l1 l2 r rz => by
      obtain ⟨u0, u1, rfl⟩ := len2 (r.length.symm.trans l1)
      obtain rfl := len0 (rz.length.symm.trans l2)
      cases r with | cons r0 r =>
        cases r with | cons r1 r =>
          cases r
          cases rz
          exact ⟨[u0, u1], rfl, (.cons r0 (.cons r1 .nil))⟩) all_nilQ)⟩
  have F3 : FunD K "_check_levels" "_check_levels" (defArgs s__check_levels) (defBody s__check_levels) (defScope s__check_levels) [] [] f3 _ := ⟨⟨_, _, _, _, _, _, _, _, _, _, rfl, l3, c3, .inl ⟨rfl, rfl⟩, .inl rfl⟩, k3⟩
  have D_3 : DefX K mg "_check_levels" s__check_levels ["levels"] pats__check_levels := ⟨_, _, _, _, F3, PySem.W.mg_of X G a3, (all_consQ (Bnd.all fun us ws vs zs l1 l2 r rz => by
      obtain ⟨u0, rfl⟩ := len1 (r.length.symm.trans l1)
      obtain rfl := len0 (rz.length.symm.trans l2)
      cases r with | cons r0 r =>
        cases r
        cases rz
        exact ⟨[u0], rfl, (.cons r0 .nil)⟩) all_nilQ)⟩
  have F4 : FunD K "_check_contexts" "_check_contexts" (defArgs s__check_contexts) (defBody s__check_contexts) (defScope s__check_contexts) [] [] f4 _ := ⟨⟨_, _, _, _, _, _, _, _, _, _, rfl, l4, c4, .inl ⟨rfl, rfl⟩, .inl rfl⟩, k4⟩
  have D_4 : DefX K mg "_check_contexts" s__check_contexts ["base", "count"] pats__check_contexts := ⟨_, _, _, _, F4, PySem.W.mg_of X G a4, (all_consQ (Bnd.all fun us ws vs zs l1 l2 r rz => by
      obtain ⟨u0, u1, rfl⟩ := len2 (r.length.symm.trans l1)
      obtain rfl := len0 (rz.length.symm.trans l2)
      cases r with | cons r0 r =>
        cases r with | cons r1 r =>
          cases r
          cases rz
          exact ⟨[u0, u1], rfl, (.cons r0 (.cons r1 .nil))⟩) all_nilQ)⟩
  have F5 : FunD K "_check_context" "_check_context" (defArgs s__check_context) (defBody s__check_context) (defScope s__check_context) [] [] f5 _ := ⟨⟨_, _, _, _, _, _, _, _, _, _, rfl, l5, c5, .inl ⟨rfl, rfl⟩, .inl rfl⟩, k5⟩
  have D_5 : DefX K mg "_check_context" s__check_context ["context"] pats__check_context := ⟨_, _, _, _, F5, PySem.W.mg_of X G a5, (all_consQ (Bnd.all fun us ws vs zs l1 l2 r rz => by
      obtain ⟨u0, rfl⟩ := len1 (r.length.symm.trans l1)
      obtain rfl := len0 (rz.length.symm.trans l2)
      cases r with | cons r0 r =>
        cases r
        cases rz
        exact ⟨[u0], rfl, (.cons r0 .nil)⟩) all_nilQ)⟩
  have F6 : FunD K "_check_decision" "_check_decision" (defArgs s__check_decision) (defBody s__check_decision) (defScope s__check_decision) [] [] f6 _ := ⟨⟨_, _, _, _, _, _, _, _, _, _, rfl, l6, c6, .inl ⟨rfl, rfl⟩, .inl rfl⟩, k6⟩
  have D_6 : DefX K mg "_check_decision" s__check_decision ["decision"] pats__check_decision := ⟨_, _, _, _, F6, PySem.W.mg_of X G a6, (all_consQ (Bnd.all fun us ws vs zs l1 l2 r rz => by
      obtain ⟨u0, rfl⟩ := len1 (r.length.symm.trans l1)
      obtain rfl := len0 (rz.length.symm.trans l2)
      cases r with | cons r0 r =>
        cases r
        cases rz
        exact ⟨[u0], rfl, (.cons r0 .nil)⟩) all_nilQ)⟩
  have F7 : FunD K "_adapted" "_adapted" (defArgs s__adapted) (defBody s__adapted) (defScope s__adapted) [] [] f7 _ := ⟨⟨_, _, _, _, _, _, _, _, _, _, rfl, l7, c7, .inl ⟨rfl, rfl⟩, .inl rfl⟩, k7⟩
  have D_7 : DefX K mg "_adapted" s__adapted ["chance", "decision"] pats__adapted := ⟨_, _, _, _, F7, PySem.W.mg_of X G a7, (all_consQ (Bnd.all fun us ws vs zs l1 l2 r rz => by
      obtain ⟨u0, u1, rfl⟩ := len2 (r.length.symm.trans l1)
      obtain rfl := len0 (rz.length.symm.trans l2)
      cases r with | cons r0 r =>
        cases r with | cons r1 r =>
          cases r
          cases rz
          exact ⟨[u0, u1], rfl, (.cons r0 (.cons r1 .nil))⟩) all_nilQ)⟩
  have F8 : FunD K "_carry" "Encoder._carry" (defArgs s_Encoder__carry) (defBody s_Encoder__carry) (defScope s_Encoder__carry) [] [] f8 _ := ⟨⟨_, _, _, _, _, _, _, _, _, _, rfl, l8, c8, .inl ⟨rfl, rfl⟩, .inl rfl⟩, k8⟩
  have D_8 : MethX K CEncoder "Encoder._carry" "_carry" s_Encoder__carry ["self"] pats_Encoder__carry := ⟨_, _, _, _, F8, ⟨a8, b8, k8⟩, (all_consQ (Bnd.all fun us ws vs zs l1 l2 r rz => by
      obtain ⟨u0, rfl⟩ := len1 (r.length.symm.trans l1)
      obtain rfl := len0 (rz.length.symm.trans l2)
      cases r with | cons r0 r =>
        cases r
        cases rz
        exact ⟨[u0], rfl, (.cons r0 .nil)⟩) all_nilQ)⟩
  have F9 : FunD K "_narrow" "Encoder._narrow" (defArgs s_Encoder__narrow) (defBody s_Encoder__narrow) (defScope s_Encoder__narrow) [] [] f9 _ := ⟨⟨_, _, _, _, _, _, _, _, _, _, rfl, l9, c9, .inl ⟨rfl, rfl⟩, .inl rfl⟩, k9⟩
  have D_9 : MethX K CEncoder "Encoder._narrow" "_narrow" s_Encoder__narrow ["self", "chance", "decision"] pats_Encoder__narrow := ⟨_, _, _, _, F9, ⟨a9, b9, k9⟩, (all_consQ (Bnd.all fun us ws vs zs l1 l2 r rz => by
      obtain ⟨u0, u1, u2, rfl⟩ := len3 (r.length.symm.trans l1)
      obtain rfl := len0 (rz.length.symm.trans l2)
      cases r with | cons r0 r =>
        cases r with | cons r1 r =>
          cases r with | cons r2 r =>
            cases r
            cases rz
            exact ⟨[u0, u1, u2], rfl, (.cons r0 (.cons r1 (.cons r2 .nil)))⟩) all_nilQ)⟩
  have F10 : FunD K "code" "Encoder.code" (defArgs s_Encoder_code) (defBody s_Encoder_code) (defScope s_Encoder_code) [] [] f10 _ := ⟨⟨_, _, _, _, _, _, _, _, _, _, rfl, l10, c10, .inl ⟨rfl, rfl⟩, .inl rfl⟩, k10⟩
  have D_10 : MethX K CEncoder "Encoder.code" "code" s_Encoder_code ["self", "context", "decision"] pats_Encoder_code := ⟨_, _, _, _, F10, ⟨a10, b10, k10⟩, (all_consQ (Bnd.all fun us ws vs zs l1 l2 r rz => by
      obtain ⟨u0, u1, u2, rfl⟩ := len3 (r.length.symm.trans l1)
      obtain rfl := len0 (rz.length.symm.trans l2)
      cases r with | cons r0 r =>
        cases r with | cons r1 r =>
          cases r with | cons r2 r =>
            cases r
            cases rz
            exact ⟨[u0, u1, u2], rfl, (.cons r0 (.cons r1 (.cons r2 .nil)))⟩) all_nilQ)⟩
  have F11 : FunD K "flag" "SymbolWriter.flag" (defArgs s_SymbolWriter_flag) (defBody s_SymbolWriter_flag) (defScope s_SymbolWriter_flag) [] [] f11 _ := ⟨⟨_, _, _, _, _, _, _, _, _, _, rfl, l11, c11, .inl ⟨rfl, rfl⟩, .inl rfl⟩, k11⟩
  have D_11 : MethX K CSymbolWriter "SymbolWriter.flag" "flag" s_SymbolWriter_flag ["self", "base", "value"] pats_SymbolWriter_flag := ⟨_, _, _, _, F11, ⟨a11, b11, k11⟩, (all_consQ (Bnd.all fun us ws vs zs l1 l2 r rz => by
      obtain ⟨u0, u1, u2, rfl⟩ := len3 (r.length.symm.trans l1)
      obtain rfl := len0 (rz.length.symm.trans l2)
      cases r with | cons r0 r =>
        cases r with | cons r1 r =>
          cases r with | cons r2 r =>
            cases r
            cases rz
            exact ⟨[u0, u1, u2], rfl, (.cons r0 (.cons r1 (.cons r2 .nil)))⟩) all_nilQ)⟩
  have F12 : FunD K "_shift" "Decoder._shift" (defArgs s_Decoder__shift) (defBody s_Decoder__shift) (defScope s_Decoder__shift) [] [] f12 _ := ⟨⟨_, _, _, _, _, _, _, _, _, _, rfl, l12, c12, .inl ⟨rfl, rfl⟩, .inl rfl⟩, k12⟩
  have D_12 : MethX K CDecoder "Decoder._shift" "_shift" s_Decoder__shift ["self"] pats_Decoder__shift := ⟨_, _, _, _, F12, ⟨a12, b12, k12⟩, (all_consQ (Bnd.all fun us ws vs zs l1 l2 r rz => by
      obtain ⟨u0, rfl⟩ := len1 (r.length.symm.trans l1)
      obtain rfl := len0 (rz.length.symm.trans l2)
      cases r with | cons r0 r =>
        cases r
        cases rz
        exact ⟨[u0], rfl, (.cons r0 .nil)⟩) all_nilQ)⟩
  have F13 : FunD K "_decide" "Decoder._decide" (defArgs s_Decoder__decide) (defBody s_Decoder__decide) (defScope s_Decoder__decide) [] [] f13 _ := ⟨⟨_, _, _, _, _, _, _, _, _, _, rfl, l13, c13, .inl ⟨rfl, rfl⟩, .inl rfl⟩, k13⟩
  have D_13 : MethX K CDecoder "Decoder._decide" "_decide" s_Decoder__decide ["self", "chance"] pats_Decoder__decide := ⟨_, _, _, _, F13, ⟨a13, b13, k13⟩, (all_consQ (Bnd.all fun us ws vs zs l1 l2 r rz => by
      obtain ⟨u0, u1, rfl⟩ := len2 (r.length.symm.trans l1)
      obtain rfl := len0 (rz.length.symm.trans l2)
      cases r with | cons r0 r =>
        cases r with | cons r1 r =>
          cases r
          cases rz
          exact ⟨[u0, u1], rfl, (.cons r0 (.cons r1 .nil))⟩) all_nilQ)⟩
  have F14 : FunD K "read" "Decoder.read" (defArgs s_Decoder_read) (defBody s_Decoder_read) (defScope s_Decoder_read) [] [] f14 _ := ⟨⟨_, _, _, _, _, _, _, _, _, _, rfl, l14, c14, .inl ⟨rfl, rfl⟩, .inl rfl⟩, k14⟩
  have D_14 : MethX K CDecoder "Decoder.read" "read" s_Decoder_read ["self", "context"] pats_Decoder_read := ⟨_, _, _, _, F14, ⟨a14, b14, k14⟩, (all_consQ (Bnd.all fun us ws vs zs l1 l2 r rz => by
      obtain ⟨u0, u1, rfl⟩ := len2 (r.length.symm.trans l1)
      obtain rfl := len0 (rz.length.symm.trans l2)
      cases r with | cons r0 r =>
        cases r with | cons r1 r =>
          cases r
          cases rz
          exact ⟨[u0, u1], rfl, (.cons r0 (.cons r1 .nil))⟩) all_nilQ)⟩
  have F15 : FunD K "flag" "SymbolReader.flag" (defArgs s_SymbolReader_flag) (defBody s_SymbolReader_flag) (defScope s_SymbolReader_flag) [] [] f15 _ := ⟨⟨_, _, _, _, _, _, _, _, _, _, rfl, l15, c15, .inl ⟨rfl, rfl⟩, .inl rfl⟩, k15⟩
  have D_15 : MethX K CSymbolReader "SymbolReader.flag" "flag" s_SymbolReader_flag ["self", "base"] pats_SymbolReader_flag := ⟨_, _, _, _, F15, ⟨a15, b15, k15⟩, (all_consQ (Bnd.all fun us ws vs zs l1 l2 r rz => by
      obtain ⟨u0, u1, rfl⟩ := len2 (r.length.symm.trans l1)
      obtain rfl := len0 (rz.length.symm.trans l2)
      cases r with | cons r0 r =>
        cases r with | cons r1 r =>
          cases r
          cases rz
          exact ⟨[u0, u1], rfl, (.cons r0 (.cons r1 .nil))⟩) all_nilQ)⟩
  have F16 : FunD K "_put_places" "_put_places" (defArgs s__put_places) (defBody s__put_places) (defScope s__put_places) [] [] f16 _ := ⟨⟨_, _, _, _, _, _, _, _, _, _, rfl, l16, c16, .inl ⟨rfl, rfl⟩, .inl rfl⟩, k16⟩
  have D_16 : DefX K mg "_put_places" s__put_places ["writer", "levels", "last"] pats__put_places := ⟨_, _, _, _, F16, PySem.W.mg_of X G a16, (all_consQ (Bnd.all fun us ws vs zs l1 l2 r rz => by
      obtain ⟨u0, u1, u2, rfl⟩ := len3 (r.length.symm.trans l1)
      obtain rfl := len0 (rz.length.symm.trans l2)
      cases r with | cons r0 r =>
        cases r with | cons r1 r =>
          cases r with | cons r2 r =>
            cases r
            cases rz
            exact ⟨[u0, u1, u2], rfl, (.cons r0 (.cons r1 (.cons r2 .nil)))⟩) all_nilQ)⟩
  have F17 : FunD K "_base_after" "_base_after" (defArgs s__base_after) (defBody s__base_after) (defScope s__base_after) [] [] f17 _ := ⟨⟨_, _, _, _, _, _, _, _, _, _, rfl, l17, c17, .inl ⟨rfl, rfl⟩, .inl rfl⟩, k17⟩
  have D_17 : DefX K mg "_base_after" s__base_after ["base", "worth"] pats__base_after := ⟨_, _, _, _, F17, PySem.W.mg_of X G a17, (all_consQ (Bnd.all fun us ws vs zs l1 l2 r rz => by
      obtain ⟨u0, u1, rfl⟩ := len2 (r.length.symm.trans l1)
      obtain rfl := len0 (rz.length.symm.trans l2)
      cases r with | cons r0 r =>
        cases r with | cons r1 r =>
          cases r
          cases rz
          exact ⟨[u0, u1], rfl, (.cons r0 (.cons r1 .nil))⟩) all_nilQ)⟩
  have F18 : FunD K "_check_unary" "_check_unary" (defArgs s__check_unary) (defBody s__check_unary) (defScope s__check_unary) [] [] f18 _ := ⟨⟨_, _, _, _, _, _, _, _, _, _, rfl, l18, c18, .inl ⟨rfl, rfl⟩, .inl rfl⟩, k18⟩
  have D_18 : DefX K mg "_check_unary" s__check_unary ["base", "most"] pats__check_unary := ⟨_, _, _, _, F18, PySem.W.mg_of X G a18, (all_consQ (Bnd.all fun us ws vs zs l1 l2 r rz => by
      obtain ⟨u0, u1, rfl⟩ := len2 (r.length.symm.trans l1)
      obtain rfl := len0 (rz.length.symm.trans l2)
      cases r with | cons r0 r =>
        cases r with | cons r1 r =>
          cases r
          cases rz
          exact ⟨[u0, u1], rfl, (.cons r0 (.cons r1 .nil))⟩) all_nilQ)⟩
  have F19 : FunD K "unary" "SymbolWriter.unary" (defArgs s_SymbolWriter_unary) (defBody s_SymbolWriter_unary) (defScope s_SymbolWriter_unary) [] [] f19 _ := ⟨⟨_, _, _, _, _, _, _, _, _, _, rfl, l19, c19, .inl ⟨rfl, rfl⟩, .inl rfl⟩, k19⟩
  have D_19 : MethX K CSymbolWriter "SymbolWriter.unary" "unary" s_SymbolWriter_unary ["self", "base", "value", "most"] pats_SymbolWriter_unary := ⟨_, _, _, _, F19, ⟨a19, b19, k19⟩, (all_consQ (Bnd.all fun us ws vs zs l1 l2 r rz => by
      obtain ⟨u0, u1, u2, rfl⟩ := len3 (r.length.symm.trans l1)
      obtain ⟨w0, rfl⟩ := len1 (rz.length.symm.trans l2)
      cases r with | cons r0 r =>
        cases r with | cons r1 r =>
          cases r with | cons r2 r =>
            cases r
            cases rz with | cons q0 rz =>
              cases rz
              exact ⟨[u0, u1, u2, w0], rfl, (.cons r0 (.cons r1 (.cons r2 (.cons q0 .nil))))⟩) all_nilQ)⟩
  have F20 : FunD K "unary" "SymbolReader.unary" (defArgs s_SymbolReader_unary) (defBody s_SymbolReader_unary) (defScope s_SymbolReader_unary) [] [] f20 _ := ⟨⟨_, _, _, _, _, _, _, _, _, _, rfl, l20, c20, .inl ⟨rfl, rfl⟩, .inl rfl⟩, k20⟩
  have D_20 : MethX K CSymbolReader "SymbolReader.unary" "unary" s_SymbolReader_unary ["self", "base", "most"] pats_SymbolReader_unary := ⟨_, _, _, _, F20, ⟨a20, b20, k20⟩, (all_consQ (Bnd.all fun us ws vs zs l1 l2 r rz => by
      obtain ⟨u0, u1, rfl⟩ := len2 (r.length.symm.trans l1)
      obtain ⟨w0, rfl⟩ := len1 (rz.length.symm.trans l2)
      cases r with | cons r0 r =>
        cases r with | cons r1 r =>
          cases r
          cases rz with | cons q0 rz =>
            cases rz
            exact ⟨[u0, u1, w0], rfl, (.cons r0 (.cons r1 (.cons q0 .nil)))⟩) all_nilQ)⟩
  have F21 : FunD K "_digit_context" "_digit_context" (defArgs s__digit_context) (defBody s__digit_context) (defScope s__digit_context) [] [] f21 _ := ⟨⟨_, _, _, _, _, _, _, _, _, _, rfl, l21, c21, .inl ⟨rfl, rfl⟩, .inl rfl⟩, k21⟩
  have D_21 : DefX K mg "_digit_context" s__digit_context ["base", "digits"] pats__digit_context := ⟨_, _, _, _, F21, PySem.W.mg_of X G a21, (all_consQ (Bnd.all fun us ws vs zs l1 l2 r rz => by
      obtain ⟨u0, u1, rfl⟩ := len2 (r.length.symm.trans l1)
      obtain rfl := len0 (rz.length.symm.trans l2)
      cases r with | cons r0 r =>
        cases r with | cons r1 r =>
          cases r
          cases rz
          exact ⟨[u0, u1], rfl, (.cons r0 (.cons r1 .nil))⟩) all_nilQ)⟩
  have F22 : FunD K "code_even" "Encoder.code_even" (defArgs s_Encoder_code_even) (defBody s_Encoder_code_even) (defScope s_Encoder_code_even) [] [] f22 _ := ⟨⟨_, _, _, _, _, _, _, _, _, _, rfl, l22, c22, .inl ⟨rfl, rfl⟩, .inl rfl⟩, k22⟩
  have D_22 : MethX K CEncoder "Encoder.code_even" "code_even" s_Encoder_code_even ["self", "decision"] pats_Encoder_code_even := ⟨_, _, _, _, F22, ⟨a22, b22, k22⟩, (all_consQ (Bnd.all fun us ws vs zs l1 l2 r rz => by
      obtain ⟨u0, u1, rfl⟩ := len2 (r.length.symm.trans l1)
      obtain rfl := len0 (rz.length.symm.trans l2)
      cases r with | cons r0 r =>
        cases r with | cons r1 r =>
          cases r
          cases rz
          exact ⟨[u0, u1], rfl, (.cons r0 (.cons r1 .nil))⟩) all_nilQ)⟩
  have F23 : FunD K "number" "SymbolWriter.number" (defArgs s_SymbolWriter_number) (defBody s_SymbolWriter_number) (defScope s_SymbolWriter_number) [] [] f23 _ := ⟨⟨_, _, _, _, _, _, _, _, _, _, rfl, l23, c23, .inl ⟨rfl, rfl⟩, .inl rfl⟩, k23⟩
  have D_23 : MethX K CSymbolWriter "SymbolWriter.number" "number" s_SymbolWriter_number ["self", "base", "value"] pats_SymbolWriter_number := ⟨_, _, _, _, F23, ⟨a23, b23, k23⟩, (all_consQ (Bnd.all fun us ws vs zs l1 l2 r rz => by
      obtain ⟨u0, u1, u2, rfl⟩ := len3 (r.length.symm.trans l1)
      obtain rfl := len0 (rz.length.symm.trans l2)
      cases r with | cons r0 r =>
        cases r with | cons r1 r =>
          cases r with | cons r2 r =>
            cases r
            cases rz
            exact ⟨[u0, u1, u2], rfl, (.cons r0 (.cons r1 (.cons r2 .nil)))⟩) all_nilQ)⟩
  have F24 : FunD K "read_even" "Decoder.read_even" (defArgs s_Decoder_read_even) (defBody s_Decoder_read_even) (defScope s_Decoder_read_even) [] [] f24 _ := ⟨⟨_, _, _, _, _, _, _, _, _, _, rfl, l24, c24, .inl ⟨rfl, rfl⟩, .inl rfl⟩, k24⟩
  have D_24 : MethX K CDecoder "Decoder.read_even" "read_even" s_Decoder_read_even ["self"] pats_Decoder_read_even := ⟨_, _, _, _, F24, ⟨a24, b24, k24⟩, (all_consQ (Bnd.all fun us ws vs zs l1 l2 r rz => by
      obtain ⟨u0, rfl⟩ := len1 (r.length.symm.trans l1)
      obtain rfl := len0 (rz.length.symm.trans l2)
      cases r with | cons r0 r =>
        cases r
        cases rz
        exact ⟨[u0], rfl, (.cons r0 .nil)⟩) all_nilQ)⟩
  have F25 : FunD K "number" "SymbolReader.number" (defArgs s_SymbolReader_number) (defBody s_SymbolReader_number) (defScope s_SymbolReader_number) [] [] f25 _ := ⟨⟨_, _, _, _, _, _, _, _, _, _, rfl, l25, c25, .inl ⟨rfl, rfl⟩, .inl rfl⟩, k25⟩
  have D_25 : MethX K CSymbolReader "SymbolReader.number" "number" s_SymbolReader_number ["self", "base"] pats_SymbolReader_number := ⟨_, _, _, _, F25, ⟨a25, b25, k25⟩, (all_consQ (Bnd.all fun us ws vs zs l1 l2 r rz => by
      obtain ⟨u0, u1, rfl⟩ := len2 (r.length.symm.trans l1)
      obtain rfl := len0 (rz.length.symm.trans l2)
      cases r with | cons r0 r =>
        cases r with | cons r1 r =>
          cases r
          cases rz
          exact ⟨[u0, u1], rfl, (.cons r0 (.cons r1 .nil))⟩) all_nilQ)⟩
  have F26 : FunD K "even" "SymbolWriter.even" (defArgs s_SymbolWriter_even) (defBody s_SymbolWriter_even) (defScope s_SymbolWriter_even) [] [] f26 _ := ⟨⟨_, _, _, _, _, _, _, _, _, _, rfl, l26, c26, .inl ⟨rfl, rfl⟩, .inl rfl⟩, k26⟩
  have D_26 : MethX K CSymbolWriter "SymbolWriter.even" "even" s_SymbolWriter_even ["self", "decision"] pats_SymbolWriter_even := ⟨_, _, _, _, F26, ⟨a26, b26, k26⟩, (all_consQ (Bnd.all fun us ws vs zs l1 l2 r rz => by
      obtain ⟨u0, u1, rfl⟩ := len2 (r.length.symm.trans l1)
      obtain rfl := len0 (rz.length.symm.trans l2)
      cases r with | cons r0 r =>
        cases r with | cons r1 r =>
          cases r
          cases rz
          exact ⟨[u0, u1], rfl, (.cons r0 (.cons r1 .nil))⟩) all_nilQ)⟩
  have F27 : FunD K "even" "SymbolReader.even" (defArgs s_SymbolReader_even) (defBody s_SymbolReader_even) (defScope s_SymbolReader_even) [] [] f27 _ := ⟨⟨_, _, _, _, _, _, _, _, _, _, rfl, l27, c27, .inl ⟨rfl, rfl⟩, .inl rfl⟩, k27⟩
  have D_27 : MethX K CSymbolReader "SymbolReader.even" "even" s_SymbolReader_even ["self"] pats_SymbolReader_even := ⟨_, _, _, _, F27, ⟨a27, b27, k27⟩, (all_consQ (Bnd.all fun us ws vs zs l1 l2 r rz => by
      obtain ⟨u0, rfl⟩ := len1 (r.length.symm.trans l1)
      obtain rfl := len0 (rz.length.symm.trans l2)
      cases r with | cons r0 r =>
        cases r
        cases rz
        exact ⟨[u0], rfl, (.cons r0 .nil)⟩) all_nilQ)⟩
  have F28 : FunD K "put_levels" "put_levels" (defArgs s_put_levels) (defBody s_put_levels) (defScope s_put_levels) [] [] f28 _ := ⟨⟨_, _, _, _, _, _, _, _, _, _, rfl, l28, c28, .inl ⟨rfl, rfl⟩, .inl rfl⟩, k28⟩
  have D_28 : DefX K mg "put_levels" s_put_levels ["writer", "levels"] pats_put_levels := ⟨_, _, _, _, F28, PySem.W.mg_of X G a28, (all_consQ (Bnd.all fun us ws vs zs l1 l2 r rz => by
      obtain ⟨u0, u1, rfl⟩ := len2 (r.length.symm.trans l1)
      obtain rfl := len0 (rz.length.symm.trans l2)
      cases r with | cons r0 r =>
        cases r with | cons r1 r =>
          cases r
          cases rz
          exact ⟨[u0, u1], rfl, (.cons r0 (.cons r1 .nil))⟩) all_nilQ)⟩
  have F29 : FunD K "octets" "Encoder.octets" (defArgs s_Encoder_octets) (defBody s_Encoder_octets) (defScope s_Encoder_octets) [] [] f29 _ := ⟨⟨_, _, _, _, _, _, _, _, _, _, rfl, l29, c29, .inl ⟨rfl, rfl⟩, .inl rfl⟩, k29⟩
  have D_29 : MethX K CEncoder "Encoder.octets" "octets" s_Encoder_octets ["self"] pats_Encoder_octets := ⟨_, _, _, _, F29, ⟨a29, b29, k29⟩, (all_consQ (Bnd.all fun us ws vs zs l1 l2 r rz => by
      obtain ⟨u0, rfl⟩ := len1 (r.length.symm.trans l1)
      obtain rfl := len0 (rz.length.symm.trans l2)
      cases r with | cons r0 r =>
        cases r
        cases rz
        exact ⟨[u0], rfl, (.cons r0 .nil)⟩) all_nilQ)⟩
  have F30 : FunD K "__init__" "Decoder.__init__" (defArgs s_Decoder___init__) (defBody s_Decoder___init__) (defScope s_Decoder___init__) [] [] f30 _ := ⟨⟨_, _, _, _, _, _, _, _, _, _, rfl, l30, c30, .inl ⟨rfl, rfl⟩, .inl rfl⟩, k30⟩
  have D_30 : InitX K mg CDecoder "Decoder" "Decoder.__init__" s_Decoder___init__ ["self", "octets"] pats_Decoder___init__ := ⟨_, _, _, _, F30, ⟨d30, a30, b30, e30⟩, PySem.W.mg_of X G wDecoder, (all_consQ (Bnd.all fun us ws vs zs l1 l2 r rz => by
      obtain ⟨u0, u1, rfl⟩ := len2 (r.length.symm.trans l1)
      obtain rfl := len0 (rz.length.symm.trans l2)
      cases r with | cons r0 r =>
        cases r with | cons r1 r =>
          cases r
          cases rz
          exact ⟨[u0, u1], rfl, (.cons r0 (.cons r1 .nil))⟩) all_nilQ)⟩
  have F31 : FunD K "check_size" "check_size" (defArgs s_check_size) (defBody s_check_size) (defScope s_check_size) [] [] f31 _ := ⟨⟨_, _, _, _, _, _, _, _, _, _, rfl, l31, c31, .inl ⟨rfl, rfl⟩, .inl rfl⟩, k31⟩
  have D_31 : DefX K mg "check_size" s_check_size ["size"] pats_check_size := ⟨_, _, _, _, F31, PySem.W.mg_of X G a31, (all_consQ (Bnd.all fun us ws vs zs l1 l2 r rz => by
      obtain ⟨u0, rfl⟩ := len1 (r.length.symm.trans l1)
      obtain rfl := len0 (rz.length.symm.trans l2)
      cases r with | cons r0 r =>
        cases r
        cases rz
        exact ⟨[u0], rfl, (.cons r0 .nil)⟩) all_nilQ)⟩
  have F32 : FunD K "_get_places" "_get_places" (defArgs s__get_places) (defBody s__get_places) (defScope s__get_places) [] [] f32 _ := ⟨⟨_, _, _, _, _, _, _, _, _, _, rfl, l32, c32, .inl ⟨rfl, rfl⟩, .inl rfl⟩, k32⟩
  have D_32 : DefX K mg "_get_places" s__get_places ["reader", "count"] pats__get_places := ⟨_, _, _, _, F32, PySem.W.mg_of X G a32, (all_consQ (Bnd.all fun us ws vs zs l1 l2 r rz => by
      obtain ⟨u0, u1, rfl⟩ := len2 (r.length.symm.trans l1)
      obtain rfl := len0 (rz.length.symm.trans l2)
      cases r with | cons r0 r =>
        cases r with | cons r1 r =>
          cases r
          cases rz
          exact ⟨[u0, u1], rfl, (.cons r0 (.cons r1 .nil))⟩) all_nilQ)⟩
  have F33 : FunD K "clip" "clip" (defArgs s_clip) (defBody s_clip) (defScope s_clip) [] [] f33 _ := ⟨⟨_, _, _, _, _, _, _, _, _, _, rfl, l33, c33, .inl ⟨rfl, rfl⟩, .inl rfl⟩, k33⟩
  have D_33 : DefX K mg "clip" s_clip ["value", "low", "high"] pats_clip := ⟨_, _, _, _, F33, PySem.W.mg_of X G a33, (all_consQ (Bnd.all fun us ws vs zs l1 l2 r rz => by
      obtain ⟨u0, u1, u2, rfl⟩ := len3 (r.length.symm.trans l1)
      obtain rfl := len0 (rz.length.symm.trans l2)
      cases r with | cons r0 r =>
        cases r with | cons r1 r =>
          cases r with | cons r2 r =>
            cases r
            cases rz
            exact ⟨[u0, u1, u2], rfl, (.cons r0 (.cons r1 (.cons r2 .nil)))⟩) all_nilQ)⟩
  have F34 : FunD K "get_levels" "get_levels" (defArgs s_get_levels) (defBody s_get_levels) (defScope s_get_levels) [] [] f34 _ := ⟨⟨_, _, _, _, _, _, _, _, _, _, rfl, l34, c34, .inl ⟨rfl, rfl⟩, .inl rfl⟩, k34⟩
  have D_34 : DefX K mg "get_levels" s_get_levels ["reader", "size"] pats_get_levels := ⟨_, _, _, _, F34, PySem.W.mg_of X G a34, (all_consQ (Bnd.all fun us ws vs zs l1 l2 r rz => by
      obtain ⟨u0, u1, rfl⟩ := len2 (r.length.symm.trans l1)
      obtain rfl := len0 (rz.length.symm.trans l2)
      cases r with | cons r0 r =>
        cases r with | cons r1 r =>
          cases r
          cases rz
          exact ⟨[u0, u1], rfl, (.cons r0 (.cons r1 .nil))⟩) all_nilQ)⟩
  have F35 : FunD K "_law_cell" "_law_cell" (defArgs s__law_cell) (defBody s__law_cell) (defScope s__law_cell) [] [] f35 _ := ⟨⟨_, _, _, _, _, _, _, _, _, _, rfl, l35, c35, .inl ⟨rfl, rfl⟩, .inl rfl⟩, k35⟩
  have D_35 : DefX K mg "_law_cell" s__law_cell ["script", "k"] pats__law_cell := ⟨_, _, _, _, F35, PySem.W.mg_of X G a35, (all_consQ (Bnd.all fun us ws vs zs l1 l2 r rz => by
      obtain ⟨u0, u1, rfl⟩ := len2 (r.length.symm.trans l1)
      obtain rfl := len0 (rz.length.symm.trans l2)
      cases r with | cons r0 r =>
        cases r with | cons r1 r =>
          cases r
          cases rz
          exact ⟨[u0, u1], rfl, (.cons r0 (.cons r1 .nil))⟩) all_nilQ)⟩
  have F36 : FunD K "_law_digits" "_law_digits" (defArgs s__law_digits) (defBody s__law_digits) (defScope s__law_digits) [] [] f36 _ := ⟨⟨_, _, _, _, _, _, _, _, _, _, rfl, l36, c36, .inl ⟨rfl, rfl⟩, .inl rfl⟩, k36⟩
  have D_36 : DefX K mg "_law_digits" s__law_digits ["cell", "base", "most"] pats__law_digits := ⟨_, _, _, _, F36, PySem.W.mg_of X G a36, (all_consQ (Bnd.all fun us ws vs zs l1 l2 r rz => by
      obtain ⟨u0, u1, u2, rfl⟩ := len3 (r.length.symm.trans l1)
      obtain rfl := len0 (rz.length.symm.trans l2)
      cases r with | cons r0 r =>
        cases r with | cons r1 r =>
          cases r with | cons r2 r =>
            cases r
            cases rz
            exact ⟨[u0, u1, u2], rfl, (.cons r0 (.cons r1 (.cons r2 .nil)))⟩) all_nilQ)⟩
  have F37 : FunD K "_law_block" "_law_block" (defArgs s__law_block) (defBody s__law_block) (defScope s__law_block) [] [] f37 _ := ⟨⟨_, _, _, _, _, _, _, _, _, _, rfl, l37, c37, .inl ⟨rfl, rfl⟩, .inl rfl⟩, k37⟩
  have D_37 : DefX K mg "_law_block" s__law_block ["cell", "count"] pats__law_block := ⟨_, _, _, _, F37, PySem.W.mg_of X G a37, (all_consQ (Bnd.all fun us ws vs zs l1 l2 r rz => by
      obtain ⟨u0, u1, rfl⟩ := len2 (r.length.symm.trans l1)
      obtain rfl := len0 (rz.length.symm.trans l2)
      cases r with | cons r0 r =>
        cases r with | cons r1 r =>
          cases r
          cases rz
          exact ⟨[u0, u1], rfl, (.cons r0 (.cons r1 .nil))⟩) all_nilQ)⟩
  have F38 : FunD K "_law_is_integers" "_law_is_integers" (defArgs s__law_is_integers) (defBody s__law_is_integers) (defScope s__law_is_integers) [] [] f38 _ := ⟨⟨_, _, _, _, _, _, _, _, _, _, rfl, l38, c38, .inl ⟨rfl, rfl⟩, .inl rfl⟩, k38⟩
  have D_38 : DefX K mg "_law_is_integers" s__law_is_integers ["actual", "count"] pats__law_is_integers := ⟨_, _, _, _, F38, PySem.W.mg_of X G a38, (all_consQ (Bnd.all fun us ws vs zs l1 l2 r rz => by
      obtain ⟨u0, u1, rfl⟩ := len2 (r.length.symm.trans l1)
      obtain rfl := len0 (rz.length.symm.trans l2)
      cases r with | cons r0 r =>
        cases r with | cons r1 r =>
          cases r
          cases rz
          exact ⟨[u0, u1], rfl, (.cons r0 (.cons r1 .nil))⟩) all_nilQ)⟩
  have F39 : FunD K "law" "law" (defArgs s_law) (defBody s_law) (defScope s_law) [] [] _ _ := ⟨⟨_, _, _, _, _, _, _, _, _, _, rfl, l39, c39, .inl ⟨rfl, rfl⟩, .inl rfl⟩, k39⟩
  have R_Encoder___init__ : ∀ base : Heap, MakX l.prog w K mg base 1 "Encoder" (⟨CEncoder, CSymbolWriter, CDecoder, CSymbolReader, fa, XOutOfRange, XBadData, TG_SIZES_BY_COUNT, TG_SIZES, fa⟩ : Ads).c_Encoder (sp_Encoder___init__ K ⟨CEncoder, CSymbolWriter, CDecoder, CSymbolReader, fa, XOutOfRange, XBadData, TG_SIZES_BY_COUNT, TG_SIZES, fa⟩) pats_Encoder___init__ := fun base => ok_Encoder___init__ D_0 T 
  have R_SymbolWriter___init__ : ∀ base : Heap, MakX l.prog w K mg base 1 "SymbolWriter" (⟨CEncoder, CSymbolWriter, CDecoder, CSymbolReader, fa, XOutOfRange, XBadData, TG_SIZES_BY_COUNT, TG_SIZES, fa⟩ : Ads).c_SymbolWriter (sp_SymbolWriter___init__ K ⟨CEncoder, CSymbolWriter, CDecoder, CSymbolReader, fa, XOutOfRange, XBadData, TG_SIZES_BY_COUNT, TG_SIZES, fa⟩) pats_SymbolWriter___init__ := fun base => ok_SymbolWriter___init__ D_1 T 
  have R_SymbolReader___init__ : ∀ base : Heap, MakX l.prog w K mg base 1 "SymbolReader" (⟨CEncoder, CSymbolWriter, CDecoder, CSymbolReader, fa, XOutOfRange, XBadData, TG_SIZES_BY_COUNT, TG_SIZES, fa⟩ : Ads).c_SymbolReader (sp_SymbolReader___init__ K ⟨CEncoder, CSymbolWriter, CDecoder, CSymbolReader, fa, XOutOfRange, XBadData, TG_SIZES_BY_COUNT, TG_SIZES, fa⟩) pats_SymbolReader___init__ := fun base => ok_SymbolReader___init__ D_2 T 
  have R__check_levels : ∀ base : Heap, CalX l.prog w K mg base 1 "_check_levels" (sp__check_levels K ⟨CEncoder, CSymbolWriter, CDecoder, CSymbolReader, fa, XOutOfRange, XBadData, TG_SIZES_BY_COUNT, TG_SIZES, fa⟩) pats__check_levels := fun base => ok__check_levels D_3 T 
  have R__check_contexts : ∀ base : Heap, CalX l.prog w K mg base 1 "_check_contexts" (sp__check_contexts K ⟨CEncoder, CSymbolWriter, CDecoder, CSymbolReader, fa, XOutOfRange, XBadData, TG_SIZES_BY_COUNT, TG_SIZES, fa⟩) pats__check_contexts := fun base => ok__check_contexts D_4 T 
  have R__check_context : ∀ base : Heap, CalX l.prog w K mg base 1 "_check_context" (sp__check_context K ⟨CEncoder, CSymbolWriter, CDecoder, CSymbolReader, fa, XOutOfRange, XBadData, TG_SIZES_BY_COUNT, TG_SIZES, fa⟩) pats__check_context := fun base => ok__check_context D_5 T 
  have R__check_decision : ∀ base : Heap, CalX l.prog w K mg base 1 "_check_decision" (sp__check_decision K ⟨CEncoder, CSymbolWriter, CDecoder, CSymbolReader, fa, XOutOfRange, XBadData, TG_SIZES_BY_COUNT, TG_SIZES, fa⟩) pats__check_decision := fun base => ok__check_decision D_6 T 
  have R__adapted : ∀ base : Heap, CalX l.prog w K mg base 1 "_adapted" (sp__adapted K ⟨CEncoder, CSymbolWriter, CDecoder, CSymbolReader, fa, XOutOfRange, XBadData, TG_SIZES_BY_COUNT, TG_SIZES, fa⟩) pats__adapted := fun base => ok__adapted D_7 T 
  have R_Encoder__carry : ∀ base : Heap, MetX l.prog w K mg base 1 (⟨CEncoder, CSymbolWriter, CDecoder, CSymbolReader, fa, XOutOfRange, XBadData, TG_SIZES_BY_COUNT, TG_SIZES, fa⟩ : Ads).c_Encoder "_carry" (sp_Encoder__carry K ⟨CEncoder, CSymbolWriter, CDecoder, CSymbolReader, fa, XOutOfRange, XBadData, TG_SIZES_BY_COUNT, TG_SIZES, fa⟩) pats_Encoder__carry := fun base => ok_Encoder__carry D_8 T 
  have R_Encoder__narrow : ∀ base : Heap, MetX l.prog w K mg base 2 (⟨CEncoder, CSymbolWriter, CDecoder, CSymbolReader, fa, XOutOfRange, XBadData, TG_SIZES_BY_COUNT, TG_SIZES, fa⟩ : Ads).c_Encoder "_narrow" (sp_Encoder__narrow K ⟨CEncoder, CSymbolWriter, CDecoder, CSymbolReader, fa, XOutOfRange, XBadData, TG_SIZES_BY_COUNT, TG_SIZES, fa⟩) pats_Encoder__narrow := fun base => ok_Encoder__narrow D_9 T (R_Encoder__carry base)
  have R_Encoder_code : ∀ base : Heap, MetX l.prog w K mg base 3 (⟨CEncoder, CSymbolWriter, CDecoder, CSymbolReader, fa, XOutOfRange, XBadData, TG_SIZES_BY_COUNT, TG_SIZES, fa⟩ : Ads).c_Encoder "code" (sp_Encoder_code K ⟨CEncoder, CSymbolWriter, CDecoder, CSymbolReader, fa, XOutOfRange, XBadData, TG_SIZES_BY_COUNT, TG_SIZES, fa⟩) pats_Encoder_code := fun base => ok_Encoder_code D_10 T (R__check_context base) (R__check_decision base) (R_Encoder__narrow base) (R__adapted base)
  have R_SymbolWriter_flag : ∀ base : Heap, MetX l.prog w K mg base 4 (⟨CEncoder, CSymbolWriter, CDecoder, CSymbolReader, fa, XOutOfRange, XBadData, TG_SIZES_BY_COUNT, TG_SIZES, fa⟩ : Ads).c_SymbolWriter "flag" (sp_SymbolWriter_flag K ⟨CEncoder, CSymbolWriter, CDecoder, CSymbolReader, fa, XOutOfRange, XBadData, TG_SIZES_BY_COUNT, TG_SIZES, fa⟩) pats_SymbolWriter_flag := fun base => ok_SymbolWriter_flag D_11 T (R__check_contexts base) (R_Encoder_code base)
  have R_Decoder__shift : ∀ base : Heap, MetX l.prog w K mg base 1 (⟨CEncoder, CSymbolWriter, CDecoder, CSymbolReader, fa, XOutOfRange, XBadData, TG_SIZES_BY_COUNT, TG_SIZES, fa⟩ : Ads).c_Decoder "_shift" (sp_Decoder__shift K ⟨CEncoder, CSymbolWriter, CDecoder, CSymbolReader, fa, XOutOfRange, XBadData, TG_SIZES_BY_COUNT, TG_SIZES, fa⟩) pats_Decoder__shift := fun base => ok_Decoder__shift D_12 T 
  have R_Decoder__decide : ∀ base : Heap, MetX l.prog w K mg base 2 (⟨CEncoder, CSymbolWriter, CDecoder, CSymbolReader, fa, XOutOfRange, XBadData, TG_SIZES_BY_COUNT, TG_SIZES, fa⟩ : Ads).c_Decoder "_decide" (sp_Decoder__decide K ⟨CEncoder, CSymbolWriter, CDecoder, CSymbolReader, fa, XOutOfRange, XBadData, TG_SIZES_BY_COUNT, TG_SIZES, fa⟩) pats_Decoder__decide := fun base => ok_Decoder__decide D_13 T (R_Decoder__shift base)
  have R_Decoder_read : ∀ base : Heap, MetX l.prog w K mg base 3 (⟨CEncoder, CSymbolWriter, CDecoder, CSymbolReader, fa, XOutOfRange, XBadData, TG_SIZES_BY_COUNT, TG_SIZES, fa⟩ : Ads).c_Decoder "read" (sp_Decoder_read K ⟨CEncoder, CSymbolWriter, CDecoder, CSymbolReader, fa, XOutOfRange, XBadData, TG_SIZES_BY_COUNT, TG_SIZES, fa⟩) pats_Decoder_read := fun base => ok_Decoder_read D_14 T (R__check_context base) (R_Decoder__decide base) (R__adapted base)
  have R_SymbolReader_flag : ∀ base : Heap, MetX l.prog w K mg base 4 (⟨CEncoder, CSymbolWriter, CDecoder, CSymbolReader, fa, XOutOfRange, XBadData, TG_SIZES_BY_COUNT, TG_SIZES, fa⟩ : Ads).c_SymbolReader "flag" (sp_SymbolReader_flag K ⟨CEncoder, CSymbolWriter, CDecoder, CSymbolReader, fa, XOutOfRange, XBadData, TG_SIZES_BY_COUNT, TG_SIZES, fa⟩) pats_SymbolReader_flag := fun base => ok_SymbolReader_flag D_15 T (R__check_contexts base) (R_Decoder_read base)
  have R__put_places : ∀ base : Heap, CalX l.prog w K mg base 5 "_put_places" (sp__put_places K ⟨CEncoder, CSymbolWriter, CDecoder, CSymbolReader, fa, XOutOfRange, XBadData, TG_SIZES_BY_COUNT, TG_SIZES, fa⟩) pats__put_places := fun base => ok__put_places D_16 T (R_SymbolWriter_flag base)
  have R__base_after : ∀ base : Heap, CalX l.prog w K mg base 1 "_base_after" (sp__base_after K ⟨CEncoder, CSymbolWriter, CDecoder, CSymbolReader, fa, XOutOfRange, XBadData, TG_SIZES_BY_COUNT, TG_SIZES, fa⟩) pats__base_after := fun base => ok__base_after D_17 T 
  have R__check_unary : ∀ base : Heap, CalX l.prog w K mg base 2 "_check_unary" (sp__check_unary K ⟨CEncoder, CSymbolWriter, CDecoder, CSymbolReader, fa, XOutOfRange, XBadData, TG_SIZES_BY_COUNT, TG_SIZES, fa⟩) pats__check_unary := fun base => ok__check_unary D_18 T (R__check_contexts base)
  have R_SymbolWriter_unary : ∀ base : Heap, MetX l.prog w K mg base 4 (⟨CEncoder, CSymbolWriter, CDecoder, CSymbolReader, fa, XOutOfRange, XBadData, TG_SIZES_BY_COUNT, TG_SIZES, fa⟩ : Ads).c_SymbolWriter "unary" (sp_SymbolWriter_unary K ⟨CEncoder, CSymbolWriter, CDecoder, CSymbolReader, fa, XOutOfRange, XBadData, TG_SIZES_BY_COUNT, TG_SIZES, fa⟩) pats_SymbolWriter_unary := fun base => ok_SymbolWriter_unary D_19 T (R__check_unary base) (R_Encoder_code base)
  have R_SymbolReader_unary : ∀ base : Heap, MetX l.prog w K mg base 4 (⟨CEncoder, CSymbolWriter, CDecoder, CSymbolReader, fa, XOutOfRange, XBadData, TG_SIZES_BY_COUNT, TG_SIZES, fa⟩ : Ads).c_SymbolReader "unary" (sp_SymbolReader_unary K ⟨CEncoder, CSymbolWriter, CDecoder, CSymbolReader, fa, XOutOfRange, XBadData, TG_SIZES_BY_COUNT, TG_SIZES, fa⟩) pats_SymbolReader_unary := fun base => ok_SymbolReader_unary D_20 T (R__check_unary base) (R_Decoder_read base)
  have R__digit_context : ∀ base : Heap, CalX l.prog w K mg base 1 "_digit_context" (sp__digit_context K ⟨CEncoder, CSymbolWriter, CDecoder, CSymbolReader, fa, XOutOfRange, XBadData, TG_SIZES_BY_COUNT, TG_SIZES, fa⟩) pats__digit_context := fun base => ok__digit_context D_21 T 
  have R_Encoder_code_even : ∀ base : Heap, MetX l.prog w K mg base 3 (⟨CEncoder, CSymbolWriter, CDecoder, CSymbolReader, fa, XOutOfRange, XBadData, TG_SIZES_BY_COUNT, TG_SIZES, fa⟩ : Ads).c_Encoder "code_even" (sp_Encoder_code_even K ⟨CEncoder, CSymbolWriter, CDecoder, CSymbolReader, fa, XOutOfRange, XBadData, TG_SIZES_BY_COUNT, TG_SIZES, fa⟩) pats_Encoder_code_even := fun base => ok_Encoder_code_even D_22 T (R__check_decision base) (R_Encoder__narrow base)
  have R_SymbolWriter_number : ∀ base : Heap, MetX l.prog w K mg base 5 (⟨CEncoder, CSymbolWriter, CDecoder, CSymbolReader, fa, XOutOfRange, XBadData, TG_SIZES_BY_COUNT, TG_SIZES, fa⟩ : Ads).c_SymbolWriter "number" (sp_SymbolWriter_number K ⟨CEncoder, CSymbolWriter, CDecoder, CSymbolReader, fa, XOutOfRange, XBadData, TG_SIZES_BY_COUNT, TG_SIZES, fa⟩) pats_SymbolWriter_number := fun base => ok_SymbolWriter_number D_23 T (R__check_contexts base) (R_SymbolWriter_unary base) (R_Encoder_code base) (R__digit_context base) (R_Encoder_code_even base)
  have R_Decoder_read_even : ∀ base : Heap, MetX l.prog w K mg base 3 (⟨CEncoder, CSymbolWriter, CDecoder, CSymbolReader, fa, XOutOfRange, XBadData, TG_SIZES_BY_COUNT, TG_SIZES, fa⟩ : Ads).c_Decoder "read_even" (sp_Decoder_read_even K ⟨CEncoder, CSymbolWriter, CDecoder, CSymbolReader, fa, XOutOfRange, XBadData, TG_SIZES_BY_COUNT, TG_SIZES, fa⟩) pats_Decoder_read_even := fun base => ok_Decoder_read_even D_24 T (R_Decoder__decide base)
  have R_SymbolReader_number : ∀ base : Heap, MetX l.prog w K mg base 5 (⟨CEncoder, CSymbolWriter, CDecoder, CSymbolReader, fa, XOutOfRange, XBadData, TG_SIZES_BY_COUNT, TG_SIZES, fa⟩ : Ads).c_SymbolReader "number" (sp_SymbolReader_number K ⟨CEncoder, CSymbolWriter, CDecoder, CSymbolReader, fa, XOutOfRange, XBadData, TG_SIZES_BY_COUNT, TG_SIZES, fa⟩) pats_SymbolReader_number := fun base => ok_SymbolReader_number D_25 T (R__check_contexts base) (R_SymbolReader_unary base) (R_Decoder_read base) (R__digit_context base) (R_Decoder_read_even base)
  have R_SymbolWriter_even : ∀ base : Heap, MetX l.prog w K mg base 4 (⟨CEncoder, CSymbolWriter, CDecoder, CSymbolReader, fa, XOutOfRange, XBadData, TG_SIZES_BY_COUNT, TG_SIZES, fa⟩ : Ads).c_SymbolWriter "even" (sp_SymbolWriter_even K ⟨CEncoder, CSymbolWriter, CDecoder, CSymbolReader, fa, XOutOfRange, XBadData, TG_SIZES_BY_COUNT, TG_SIZES, fa⟩) pats_SymbolWriter_even := fun base => ok_SymbolWriter_even D_26 T (R_Encoder_code_even base)
  have R_SymbolReader_even : ∀ base : Heap, MetX l.prog w K mg base 4 (⟨CEncoder, CSymbolWriter, CDecoder, CSymbolReader, fa, XOutOfRange, XBadData, TG_SIZES_BY_COUNT, TG_SIZES, fa⟩ : Ads).c_SymbolReader "even" (sp_SymbolReader_even K ⟨CEncoder, CSymbolWriter, CDecoder, CSymbolReader, fa, XOutOfRange, XBadData, TG_SIZES_BY_COUNT, TG_SIZES, fa⟩) pats_SymbolReader_even := fun base => ok_SymbolReader_even D_27 T (R_Decoder_read_even base)
  have R_put_levels : ∀ base : Heap, CalX l.prog w K mg base 6 "put_levels" (sp_put_levels K ⟨CEncoder, CSymbolWriter, CDecoder, CSymbolReader, fa, XOutOfRange, XBadData, TG_SIZES_BY_COUNT, TG_SIZES, fa⟩) pats_put_levels := fun base => ok_put_levels D_28 T (R__check_levels base) (R__put_places base) (R_SymbolWriter_number base) (R_SymbolWriter_even base) (R__base_after base)
  have R_Encoder_octets : ∀ base : Heap, MetX l.prog w K mg base 1 (⟨CEncoder, CSymbolWriter, CDecoder, CSymbolReader, fa, XOutOfRange, XBadData, TG_SIZES_BY_COUNT, TG_SIZES, fa⟩ : Ads).c_Encoder "octets" (sp_Encoder_octets K ⟨CEncoder, CSymbolWriter, CDecoder, CSymbolReader, fa, XOutOfRange, XBadData, TG_SIZES_BY_COUNT, TG_SIZES, fa⟩) pats_Encoder_octets := fun base => ok_Encoder_octets D_29 T 
  have R_Decoder___init__ : ∀ base : Heap, MakX l.prog w K mg base 2 "Decoder" (⟨CEncoder, CSymbolWriter, CDecoder, CSymbolReader, fa, XOutOfRange, XBadData, TG_SIZES_BY_COUNT, TG_SIZES, fa⟩ : Ads).c_Decoder (sp_Decoder___init__ K ⟨CEncoder, CSymbolWriter, CDecoder, CSymbolReader, fa, XOutOfRange, XBadData, TG_SIZES_BY_COUNT, TG_SIZES, fa⟩) pats_Decoder___init__ := fun base => ok_Decoder___init__ D_30 T (R_Decoder__shift base)
  have R_check_size : ∀ base : Heap, CalX l.prog w K mg base 1 "check_size" (sp_check_size K ⟨CEncoder, CSymbolWriter, CDecoder, CSymbolReader, fa, XOutOfRange, XBadData, TG_SIZES_BY_COUNT, TG_SIZES, fa⟩) pats_check_size := fun base => ok_check_size D_31 T 
  have R__get_places : ∀ base : Heap, CalX l.prog w K mg base 5 "_get_places" (sp__get_places K ⟨CEncoder, CSymbolWriter, CDecoder, CSymbolReader, fa, XOutOfRange, XBadData, TG_SIZES_BY_COUNT, TG_SIZES, fa⟩) pats__get_places := fun base => ok__get_places D_32 T (R_SymbolReader_flag base)
  have R_clip : ∀ base : Heap, CalX l.prog w K mg base 1 "clip" (sp_clip K ⟨CEncoder, CSymbolWriter, CDecoder, CSymbolReader, fa, XOutOfRange, XBadData, TG_SIZES_BY_COUNT, TG_SIZES, fa⟩) pats_clip := fun base => ok_clip D_33 T 
  have R_get_levels : ∀ base : Heap, CalX l.prog w K mg base 6 "get_levels" (sp_get_levels K ⟨CEncoder, CSymbolWriter, CDecoder, CSymbolReader, fa, XOutOfRange, XBadData, TG_SIZES_BY_COUNT, TG_SIZES, fa⟩) pats_get_levels := fun base => ok_get_levels D_34 T (R_check_size base) (R__get_places base) (R_SymbolReader_number base) (R_SymbolReader_even base) (R_clip base) (R__base_after base)
  have R__law_cell : ∀ base : Heap, CalX l.prog w K mg base 1 "_law_cell" (sp__law_cell K ⟨CEncoder, CSymbolWriter, CDecoder, CSymbolReader, fa, XOutOfRange, XBadData, TG_SIZES_BY_COUNT, TG_SIZES, fa⟩) pats__law_cell := fun base => ok__law_cell D_35 T 
  have R__law_digits : ∀ base : Heap, CalX l.prog w K mg base 1 "_law_digits" (sp__law_digits K ⟨CEncoder, CSymbolWriter, CDecoder, CSymbolReader, fa, XOutOfRange, XBadData, TG_SIZES_BY_COUNT, TG_SIZES, fa⟩) pats__law_digits := fun base => ok__law_digits D_36 T 
  have R__law_block : ∀ base : Heap, CalX l.prog w K mg base 2 "_law_block" (sp__law_block K ⟨CEncoder, CSymbolWriter, CDecoder, CSymbolReader, fa, XOutOfRange, XBadData, TG_SIZES_BY_COUNT, TG_SIZES, fa⟩) pats__law_block := fun base => ok__law_block D_37 T (R__law_digits base)
  have R__law_is_integers : ∀ base : Heap, CalX l.prog w K mg base 1 "_law_is_integers" (sp__law_is_integers K ⟨CEncoder, CSymbolWriter, CDecoder, CSymbolReader, fa, XOutOfRange, XBadData, TG_SIZES_BY_COUNT, TG_SIZES, fa⟩) pats__law_is_integers := fun base => ok__law_is_integers D_38 T 

  refine ⟨PySem.W.fnOf "law" "law" (defArgs s_law) (defBody s_law) (defScope s_law) .none kV39 dc39 pm39 an39 cd39 ct39, fun s v => .of_eq rfl, fun base _ _ => (ok_law (AD := ⟨CEncoder, CSymbolWriter, CDecoder, CSymbolReader, fa, XOutOfRange, XBadData, TG_SIZES_BY_COUNT, TG_SIZES, fa⟩) F39 T (R_Encoder___init__ base) (R_SymbolWriter___init__ base) (R__law_cell base) (R__law_block base) (R_put_levels base) (R_SymbolWriter_flag base) (R_Encoder_octets base) (R_SymbolReader___init__ base) (R_Decoder___init__ base) (R_get_levels base) (R__law_is_integers base) (R_SymbolReader_flag base)).imp ?_⟩
  rintro vs H Q E ⟨a, xs, rfl, hs, hl, q⟩
  exact ⟨a, xs, rfl, hs, by rw [law_true xs hl]; exact cW_mk rfl, q⟩
end Vx
open PySem PySem.W PyProof.Rows
set_option maxRecDepth 100000 in
set_option maxHeartbeats 0 in
theorem PySem.Challenge.cw_thaumatrope_k47_whole_transform_blocks_r_holds : PySem.Challenge.rw_thaumatrope_k47_whole_transform_blocks_r.Holds := by
  w_on; o_law; k_head; (case hw => w_witness2)
  k_fill
  refine Vx.walkG (l := PySem.Challenge.rw_thaumatrope_k47_whole_transform_blocks_r) (n := 63) (k := 7) (x := "script") rfl (by decide) rfl ⟨rfl, by decide, by decide⟩ (fun w h Y => PySem.W.kIn_of Y) ?F
  case F =>
    intro w mg fa h KX G hmg
    refine' Vx.all_mk KX G hmg ?wEncoder ?wSymbolWriter ?wDecoder ?wSymbolReader ?vOutOfRange ?vBadData ?a0 ?b0 ?d0 ?e0 ?l0 ?c0 ?k0 ?a1 ?b1 ?d1 ?e1 ?l1 ?c1 ?k1 ?a2 ?b2 ?d2 ?e2 ?l2 ?c2 ?k2 ?a3 ?l3 ?c3 ?k3 ?a4 ?l4 ?c4 ?k4 ?a5 ?l5 ?c5 ?k5 ?a6 ?l6 ?c6 ?k6 ?a7 ?l7 ?c7 ?k7 ?a8 ?b8 ?l8 ?c8 ?k8 ?a9 ?b9 ?l9 ?c9 ?k9 ?a10 ?b10 ?l10 ?c10 ?k10 ?a11 ?b11 ?l11 ?c11 ?k11 ?a12 ?b12 ?l12 ?c12 ?k12 ?a13 ?b13 ?l13 ?c13 ?k13 ?a14 ?b14 ?l14 ?c14 ?k14 ?a15 ?b15 ?l15 ?c15 ?k15 ?a16 ?l16 ?c16 ?k16 ?a17 ?l17 ?c17 ?k17 ?a18 ?l18 ?c18 ?k18 ?a19 ?b19 ?l19 ?c19 ?k19 ?a20 ?b20 ?l20 ?c20 ?k20 ?a21 ?l21 ?c21 ?k21 ?a22 ?b22 ?l22 ?c22 ?k22 ?a23 ?b23 ?l23 ?c23 ?k23 ?a24 ?b24 ?l24 ?c24 ?k24 ?a25 ?b25 ?l25 ?c25 ?k25 ?a26 ?b26 ?l26 ?c26 ?k26 ?a27 ?b27 ?l27 ?c27 ?k27 ?a28 ?l28 ?c28 ?k28 ?a29 ?b29 ?l29 ?c29 ?k29 ?a30 ?b30 ?d30 ?e30 ?l30 ?c30 ?k30 ?a31 ?l31 ?c31 ?k31 ?a32 ?l32 ?c32 ?k32 ?a33 ?l33 ?c33 ?k33 ?a34 ?l34 ?c34 ?k34 ?a35 ?l35 ?c35 ?k35 ?a36 ?l36 ?c36 ?k36 ?a37 ?l37 ?c37 ?k37 ?a38 ?l38 ?c38 ?k38 ?a39 ?l39 ?c39 ?k39 ?z0 ?z1 ?z2 ?z3 ?z4 ?y4 ?u4 ?z5 ?z6 ?z7 ?z8 ?z9 ?z10 ?z11 ?z12 ?z13 ?z14 ?z15 ?z16 ?z17 ?z18 ?z19 ?z20 ?z21 ?z22 ?z23 ?z24 ?z25 ?z26 ?z27 ?z28 ?z29 ?y29 ?z30 ?z31 ?z32 ?yEncoder0 ?yEncoder1 ?yEncoder2 ?yEncoder3 ?xEncoder0 ?xEncoder1 ?xEncoder2 ?xEncoder3 ?ySymbolWriter0 ?ySymbolWriter1 ?ySymbolWriter2 ?ySymbolWriter3 ?xSymbolWriter0 ?ySymbolReader0 ?ySymbolReader1 ?ySymbolReader2 ?ySymbolReader3 ?xSymbolReader0 ?yDecoder0 ?yDecoder1 ?yDecoder2 ?yDecoder3 ?xDecoder0 ?xDecoder1 ?xDecoder2 ?xDecoder3 ?xDecoder4 ?exBadData ?ekBadData ?ebBadData ?etBadData ?exOutOfRange ?ekOutOfRange ?ebOutOfRange ?etOutOfRange
    (case wEncoder => k_is)
    (case wSymbolWriter => k_is)
    (case wDecoder => k_is)
    (case wSymbolReader => k_is)
    (case vOutOfRange => k_is)
    (case vBadData => k_is)
    (case a0 => k_is)
    (case b0 => k_is)
    (case d0 => k_is)
    (case e0 => k_is)
    (case l0 => k_is)
    (case c0 => k_is)
    (case k0 => k_is)
    (case a1 => k_is)
    (case b1 => k_is)
    (case d1 => k_is)
    (case e1 => k_is)
    (case l1 => k_is)
    (case c1 => k_is)
    (case k1 => k_is)
    (case a2 => k_is)
    (case b2 => k_is)
    (case d2 => k_is)
    (case e2 => k_is)
    (case l2 => k_is)
    (case c2 => k_is)
    (case k2 => k_is)
    (case a3 => k_is)
    (case l3 => k_is)
    (case c3 => k_is)
    (case k3 => k_is)
    (case a4 => k_is)
    (case l4 => k_is)
    (case c4 => k_is)
    (case k4 => k_is)
    (case a5 => k_is)
    (case l5 => k_is)
    (case c5 => k_is)
    (case k5 => k_is)
    (case a6 => k_is)
    (case l6 => k_is)
    (case c6 => k_is)
    (case k6 => k_is)
    (case a7 => k_is)
    (case l7 => k_is)
    (case c7 => k_is)
    (case k7 => k_is)
    (case a8 => k_is)
    (case b8 => k_is)
    (case l8 => k_is)
    (case c8 => k_is)
    (case k8 => k_is)
    (case a9 => k_is)
    (case b9 => k_is)
    (case l9 => k_is)
    (case c9 => k_is)
    (case k9 => k_is)
    (case a10 => k_is)
    (case b10 => k_is)
    (case l10 => k_is)
    (case c10 => k_is)
    (case k10 => k_is)
    (case a11 => k_is)
    (case b11 => k_is)
    (case l11 => k_is)
    (case c11 => k_is)
    (case k11 => k_is)
    (case a12 => k_is)
    (case b12 => k_is)
    (case l12 => k_is)
    (case c12 => k_is)
    (case k12 => k_is)
    (case a13 => k_is)
    (case b13 => k_is)
    (case l13 => k_is)
    (case c13 => k_is)
    (case k13 => k_is)
    (case a14 => k_is)
    (case b14 => k_is)
    (case l14 => k_is)
    (case c14 => k_is)
    (case k14 => k_is)
    (case a15 => k_is)
    (case b15 => k_is)
    (case l15 => k_is)
    (case c15 => k_is)
    (case k15 => k_is)
    (case a16 => k_is)
    (case l16 => k_is)
    (case c16 => k_is)
    (case k16 => k_is)
    (case a17 => k_is)
    (case l17 => k_is)
    (case c17 => k_is)
    (case k17 => k_is)
    (case a18 => k_is)
    (case l18 => k_is)
    (case c18 => k_is)
    (case k18 => k_is)
    (case a19 => k_is)
    (case b19 => k_is)
    (case l19 => k_is)
    (case c19 => k_is)
    (case k19 => k_is)
    (case a20 => k_is)
    (case b20 => k_is)
    (case l20 => k_is)
    (case c20 => k_is)
    (case k20 => k_is)
    (case a21 => k_is)
    (case l21 => k_is)
    (case c21 => k_is)
    (case k21 => k_is)
    (case a22 => k_is)
    (case b22 => k_is)
    (case l22 => k_is)
    (case c22 => k_is)
    (case k22 => k_is)
    (case a23 => k_is)
    (case b23 => k_is)
    (case l23 => k_is)
    (case c23 => k_is)
    (case k23 => k_is)
    (case a24 => k_is)
    (case b24 => k_is)
    (case l24 => k_is)
    (case c24 => k_is)
    (case k24 => k_is)
    (case a25 => k_is)
    (case b25 => k_is)
    (case l25 => k_is)
    (case c25 => k_is)
    (case k25 => k_is)
    (case a26 => k_is)
    (case b26 => k_is)
    (case l26 => k_is)
    (case c26 => k_is)
    (case k26 => k_is)
    (case a27 => k_is)
    (case b27 => k_is)
    (case l27 => k_is)
    (case c27 => k_is)
    (case k27 => k_is)
    (case a28 => k_is)
    (case l28 => k_is)
    (case c28 => k_is)
    (case k28 => k_is)
    (case a29 => k_is)
    (case b29 => k_is)
    (case l29 => k_is)
    (case c29 => k_is)
    (case k29 => k_is)
    (case a30 => k_is)
    (case b30 => k_is)
    (case d30 => k_is)
    (case e30 => k_is)
    (case l30 => k_is)
    (case c30 => k_is)
    (case k30 => k_is)
    (case a31 => k_is)
    (case l31 => k_is)
    (case c31 => k_is)
    (case k31 => k_is)
    (case a32 => k_is)
    (case l32 => k_is)
    (case c32 => k_is)
    (case k32 => k_is)
    (case a33 => k_is)
    (case l33 => k_is)
    (case c33 => k_is)
    (case k33 => k_is)
    (case a34 => k_is)
    (case l34 => k_is)
    (case c34 => k_is)
    (case k34 => k_is)
    (case a35 => k_is)
    (case l35 => k_is)
    (case c35 => k_is)
    (case k35 => k_is)
    (case a36 => k_is)
    (case l36 => k_is)
    (case c36 => k_is)
    (case k36 => k_is)
    (case a37 => k_is)
    (case l37 => k_is)
    (case c37 => k_is)
    (case k37 => k_is)
    (case a38 => k_is)
    (case l38 => k_is)
    (case c38 => k_is)
    (case k38 => k_is)
    (case a39 => k_is)
    (case l39 => k_is)
    (case c39 => k_is)
    (case k39 => k_is)
    (case z0 => k_is)
    (case z1 => k_is)
    (case z2 => k_is)
    (case z3 => k_is)
    (case z4 => k_is)
    (case y4 => k_is)
    (case u4 => rfl)
    (case z5 => k_is)
    (case z6 => k_is)
    (case z7 => k_is)
    (case z8 => k_is)
    (case z9 => k_is)
    (case z10 => k_is)
    (case z11 => k_is)
    (case z12 => k_is)
    (case z13 => k_is)
    (case z14 => k_is)
    (case z15 => k_is)
    (case z16 => k_is)
    (case z17 => k_is)
    (case z18 => k_is)
    (case z19 => k_is)
    (case z20 => k_is)
    (case z21 => k_is)
    (case z22 => k_is)
    (case z23 => k_is)
    (case z24 => k_is)
    (case z25 => k_is)
    (case z26 => k_is)
    (case z27 => k_is)
    (case z28 => k_is)
    (case z29 => k_is)
    (case y29 => k_is)
    (case z30 => k_is)
    (case z31 => k_is)
    (case z32 => k_is)
    (case yEncoder0 => k_is)
    (case yEncoder1 => k_is)
    (case yEncoder2 => k_is)
    (case yEncoder3 => k_is)
    (case xEncoder0 => k_is)
    (case xEncoder1 => k_is)
    (case xEncoder2 => k_is)
    (case xEncoder3 => k_is)
    (case ySymbolWriter0 => k_is)
    (case ySymbolWriter1 => k_is)
    (case ySymbolWriter2 => k_is)
    (case ySymbolWriter3 => k_is)
    (case xSymbolWriter0 => k_is)
    (case ySymbolReader0 => k_is)
    (case ySymbolReader1 => k_is)
    (case ySymbolReader2 => k_is)
    (case ySymbolReader3 => k_is)
    (case xSymbolReader0 => k_is)
    (case yDecoder0 => k_is)
    (case yDecoder1 => k_is)
    (case yDecoder2 => k_is)
    (case yDecoder3 => k_is)
    (case xDecoder0 => k_is)
    (case xDecoder1 => k_is)
    (case xDecoder2 => k_is)
    (case xDecoder3 => k_is)
    (case xDecoder4 => k_is)
    (case exBadData => k_exc)
    (case ekBadData => k_is)
    (case ebBadData => k_is)
    (case etBadData => k_is)
    (case exOutOfRange => k_exc)
    (case ekOutOfRange => k_is)
    (case ebOutOfRange => k_is)
    (case etOutOfRange => k_is)
