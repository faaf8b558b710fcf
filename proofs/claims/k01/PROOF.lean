import PyProof.Rows.All
import Wide.All
import OpenK.AllK
import Wide.FinOn
import HandS.ForMost
import HandS.Codes
import HandS.Steps
import HandS.IsInst
import HandS.Property
import HandS.Wide
import HandS.WideBits
import HandS.Exc
import HandS.Defaults
import HandS.ExcOwn
import HandS.TryOnly
import HandS.WordsExc
import HandS.ExcIs
import HandS.MakeKwOnly
import HandS.RaiseMore
import HandS.Style
import HandS.Zip
import HandS.Iter
import PySem.Challenge.RW_thaumatrope_k01_sizes_of_formats
set_option Elab.async false
set_option linter.all false
set_option maxRecDepth 100000
set_option maxHeartbeats 8000000
namespace Vx
open PySem PySem.Spec PyProof.Rows L2

/-! ### heaps -/
def SameX (m : Addr) (H H' : Hp) : Prop := ∀ b o, H b = some o → b ≠ m → H' b = some o
theorem gen_new {H H' : Hp} {p : Addr} {o : HO} (n : H p = none) (h : upd H p o = H') : Same H H' ∧ H' p = some o := by
  subst h
  exact ⟨fun b u e => by rw [upd_ne (ne_of_none e n)]; exact e, upd_same⟩
theorem gen_mut {H H' : Hp} {m : Addr} {o : HO} (h : upd H m o = H') : SameX m H H' ∧ H' m = some o := by
  subst h
  exact ⟨fun b u e n => by rw [upd_ne n]; exact e, upd_same⟩
theorem same_mut {H0 H H' : Hp} {m : Addr} (B : Same H0 H) (x : SameX m H H') (f : H0 m = none) : Same H0 H' :=
  fun b o e => x b o (B b o e) (ne_of_none e f)
theorem map_get {xs : List Int} {i : Nat} {x : V} (h : (xs.map V.int)[i]? = some x) : ∃ o, xs[i]? = some o ∧ x = .int o := by
  rw [List.getElem?_map] at h
  cases e : xs[i]? with
  | none => rw [e] at h; cases h
  | some z => rw [e] at h; exact ⟨z, rfl, (Option.some.inj h).symm⟩
theorem get_len {α : Type} {xs : List α} {i : Nat} {x : α} (h : xs[i]? = some x) : i < xs.length := (List.getElem?_eq_some_iff.mp h).1
theorem eq_int {Q : VK} {H : Hp} {a b : Int} (h : Q (.int a) H) (e : a = b) : Q (.int b) H := e ▸ h
theorem eq_bl {Q : VK} {H : Hp} {a b : Bool} (h : Q (.bl a) H) (e : a = b) : Q (.bl b) H := e ▸ h
theorem small {n : Nat} (h : n ≤ 1000000) : n < sizeLine := Nat.lt_of_le_of_lt h (by decide)
theorem smallE {n : Nat} (h : n ≤ 1000000) : n ≤ sizeLine := Nat.le_of_lt (small h)
theorem snoc_int {xs : List Int} {y : Int} {H : Hp} {p : Addr} (h : H p = some (.lst (xs.map V.int ++ [V.int y]))) : H p = some (.lst ((xs ++ [y]).map V.int)) := by
  rw [List.map_append]; exact h
theorem cat_int {xs ys : List Int} {H : Hp} {p : Addr} (h : H p = some (.lst (xs.map V.int ++ ys.map V.int))) : H p = some (.lst ((xs ++ ys).map V.int)) := by
  rw [List.map_append]; exact h
theorem cast_lst {xs ys : List Int} {H : Hp} {p : Addr} (h : H p = some (.lst (xs.map V.int))) (e : xs = ys) : H p = some (.lst (ys.map V.int)) := e ▸ h

/-! ### tests -/
theorem dT {p : Prop} [Decidable p] (h : decide p = true) : p := of_decide_eq_true h
theorem dF {p : Prop} [Decidable p] (h : ¬ decide p = true) : ¬ p := fun x => h (decide_eq_true x)
theorem iteD {p A B : Prop} [Decidable p] (h1 : p → A) (h2 : ¬ p → B) : if decide p = true then A else B := by
  by_cases h : p
  · rw [if_pos (decide_eq_true h)]; exact h1 h
  · rw [if_neg (fun x => h (of_decide_eq_true x))]; exact h2 h
theorem iteN {p A B : Prop} [Decidable p] (h1 : ¬ p → A) (h2 : p → B) : if (!decide p) = true then A else B := by
  by_cases h : p
  · rw [decide_eq_true h]; exact iteF (h2 h)
  · rw [decide_eq_false h]; exact iteT (h1 h)
theorem iteB {b : Bool} {A B : Prop} (h1 : b = true → A) (h2 : b = false → B) : if b = true then A else B := by
  cases b with
  | true => exact iteT (h1 rfl)
  | false => exact iteF (h2 rfl)
theorem iteBN {b : Bool} {A B : Prop} (h1 : b = false → A) (h2 : b = true → B) : if (!b) = true then A else B := by
  cases b with
  | true => exact iteF (h2 rfl)
  | false => exact iteT (h1 rfl)
theorem iteDT {p A B : Prop} [Decidable p] (h : p) (k : A) : if decide p = true then A else B := by
  rw [if_pos (decide_eq_true h)]; exact k
theorem iteDF {p A B : Prop} [Decidable p] (h : ¬ p) (k : B) : if decide p = true then A else B := by
  rw [if_neg (fun x => h (of_decide_eq_true x))]; exact k
theorem iteNT {p A B : Prop} [Decidable p] (h : ¬ p) (k : A) : if (!decide p) = true then A else B := iteN (fun _ => k) (fun x => (h x).elim)
theorem iteNF {p A B : Prop} [Decidable p] (h : p) (k : B) : if (!decide p) = true then A else B := iteN (fun x => (x h).elim) (fun _ => k)

/-! ### equality of lists of ints -/
theorem eqvAll_ints : ∀ xs ys : List Int, PyData.eqvAll (xs.map PyData.int) (ys.map PyData.int) = decide (xs = ys)
  | [], [] => by simp [PyData.eqvAll]
  | [], y :: ys => by simp [PyData.eqvAll]
  | x :: xs, [] => by simp [PyData.eqvAll]
  | x :: xs, y :: ys => by
    have ih := eqvAll_ints xs ys
    simp only [List.map_cons, PyData.eqvAll, PyData.eqv, ih]
    by_cases h : x = y <;> by_cases h2 : xs = ys <;> simp [h, h2]
end Vx

namespace Vx
open PySem PySem.Spec PyProof.Rows L2
section
variable {X : Cx}
def rEqLi (K : PySem.W.Frag) : R2 := fun x y H Q => ∃ (a b : Addr) (xs ys : List Int), x = .ref a ∧ y = .ref b ∧ SqL K H a (xs.map V.int) ∧ SqL K H b (ys.map V.int) ∧ Q (.bl (decide (xs = ys))) H
def rNeLi (K : PySem.W.Frag) : R2 := fun x y H Q => ∃ (a b : Addr) (xs ys : List Int), x = .ref a ∧ y = .ref b ∧ SqL K H a (xs.map V.int) ∧ SqL K H b (ys.map V.int) ∧ Q (.bl (!decide (xs = ys))) H
theorem dpAll_ints {K : PySem.W.Frag} {H : Hp} : ∀ xs : List Int, DpAll K H (xs.map V.int) (xs.map PyData.int)
  | [] => .nil
  | x :: xs => .cons (.int x) (dpAll_ints xs)
theorem dp_ints {K : PySem.W.Frag} {H : Hp} {a : Addr} {xs : List Int} (h : SqL K H a (xs.map V.int)) : Dp K H (.ref a) (.list (xs.map PyData.int)) := .lst h (dpAll_ints xs)
theorem canLay_ints : ∀ xs : List Int, PyData.canLayAll0 (xs.map PyData.int) = true
  | [] => by simp [PyData.canLayAll0]
  | x :: xs => by simp [PyData.canLayAll0, PyData.canLay0, canLay_ints xs]
theorem depth_ints : ∀ xs : List Int, PyData.depthAll (xs.map PyData.int) = 0
  | [] => by simp [PyData.depthAll]
  | x :: xs => by simp [PyData.depthAll, PyData.depth, depth_ints xs]
theorem shaped_ints (xs : List Int) : SeqAt.shaped (.list (xs.map PyData.int)) = true := by
  unfold SeqAt.shaped
  simp [PyData.canLay0, canLay_ints, PyData.depth, depth_ints]
theorem eqv_ints (xs ys : List Int) : PyData.eqv (.list (xs.map PyData.int)) (.list (ys.map PyData.int)) = decide (xs = ys) := by
  simp only [PyData.eqv]
  exact eqvAll_ints xs ys
theorem op_eqLi (hu : X.A.units + 64 < cLine) : OpR X (compareOp .Eq) (rEqLi X.K) := by
  intro pins s σ H x y v u Q I rx ry h
  obtain ⟨a, b, xs, ys, rfl, rfl, h1, h2, q⟩ := h
  exact op_eqD hu pins s σ H _ _ v u Q I rx ry ⟨_, _, dp_ints h1, dp_ints h2, shaped_ints xs, shaped_ints ys, by rw [eqv_ints]; exact q⟩
theorem op_neLi (hu : X.A.units + 64 < cLine) : OpR X (compareOp .NotEq) (rNeLi X.K) := by
  intro pins s σ H x y v u Q I rx ry h
  obtain ⟨a, b, xs, ys, rfl, rfl, h1, h2, q⟩ := h
  exact op_neD hu pins s σ H _ _ v u Q I rx ry ⟨_, _, dp_ints h1, dp_ints h2, shaped_ints xs, shaped_ints ys, by rw [eqv_ints]; exact q⟩

/-! ### items, slices, repetition, comprehensions of ints -/
def itI (xs : List Int) (i : Int) : Int := (atI xs i).getD 0
theorem atI_int {xs : List Int} {i : Int} (h : -(xs.length : Int) ≤ i ∧ i < xs.length) : atI (xs.map V.int) i = some (.int (itI xs i)) := by
  unfold itI atI
  rw [List.length_map]
  have hk : ∃ j, ixN xs.length i = some j ∧ j < xs.length := by
    unfold ixN
    by_cases h0 : 0 ≤ i
    · refine ⟨i.toNat, ?_, by omega⟩
      rw [if_pos h0, if_pos h.2]
    · refine ⟨(i + xs.length).toNat, ?_, by omega⟩
      rw [if_neg h0, if_pos h.1]
  obtain ⟨j, e, hj⟩ := hk
  rw [e]
  show (xs.map V.int)[j]? = some (V.int ((xs[j]?).getD 0))
  rw [List.getElem?_map, List.getElem?_eq_getElem hj] <;> rfl
def cutI (xs : List Int) (lo hi : Option Int) : List Int := (xs.drop (HT.sIx xs.length 0 lo)).take (HT.sIx xs.length xs.length hi - HT.sIx xs.length 0 lo)
theorem cut_int {xs : List Int} {lo hi : Option Int} {H : Hp} {p : Addr} (h : H p = some (.lst (cutV (xs.map V.int) lo hi))) : H p = some (.lst ((cutI xs lo hi).map V.int)) := by
  rw [h]
  unfold cutV cutI
  rw [List.length_map, List.map_take, List.map_drop]
def rep (xs : List Int) (k : Int) : List Int := (List.replicate k.toNat xs).flatten
theorem rep_int {xs : List Int} {k : Int} {H : Hp} {p : Addr} (h : H p = some (.lst (List.replicate k.toNat (xs.map V.int)).flatten)) : H p = some (.lst ((rep xs k).map V.int)) := by
  rw [h]
  unfold rep
  rw [List.map_flatten, List.map_replicate]
theorem divW_lit {i j : Int} (h : 0 < j) (h2 : j.natAbs.log2 < 9000) : CDivW i j := ⟨h, h2⟩
theorem divW_small {i j : Int} (h : 0 < j) (h2 : j < 2 ^ 128) : CDivW i j := wide_div h (show j.natAbs < 2 ^ 128 by omega) (by decide) (by decide)
theorem comp_list {xs : List Int} {i : Nat} {x y : Int} {f : Int → Int} {H : Hp} {D : Addr} (hi : xs[i]? = some x) (h : H D = some (.lst (((xs.take i).map f).map V.int ++ [V.int y]))) (e : f x = y) : H D = some (.lst (((xs.take (i + 1)).map f).map V.int)) := by
  rw [h, ← e, List.take_succ, hi, List.map_append, List.map_append] <;> rfl
theorem comp_done {xs : List Int} {f : Int → Int} {H : Hp} {D : Addr} (h : H D = some (.lst (((xs.take (xs.map V.int).length).map f).map V.int))) : H D = some (.lst ((xs.map f).map V.int)) := by
  rw [List.length_map, List.take_length] at h
  exact h
theorem comp_range {i : Nat} {y : Int} {f : Nat → Int} {H : Hp} {D : Addr} (h : H D = some (.lst (((List.range i).map f).map V.int ++ [V.int y]))) (e : f i = y) : H D = some (.lst (((List.range (i + 1)).map f).map V.int)) := by
  rw [h, ← e, List.range_succ, List.map_append, List.map_append] <;> rfl
theorem iteBT {b : Bool} {A B : Prop} (h : b = true) (k : A) : if b = true then A else B := by rw [if_pos h]; exact k
theorem iteBF {b : Bool} {A B : Prop} (h : b = false) (k : B) : if b = true then A else B := by rw [if_neg (by rw [h]; decide)]; exact k
theorem take_succ_get {α : Type} {xs : List α} {i : Nat} {x : α} (hi : xs[i]? = some x) : xs.take (i + 1) = xs.take i ++ [x] := by rw [List.take_succ, hi] <;> rfl
end

/-! ### defs of the module, as callers see them -/
section
variable {P : Program} {w : World} {K : PySem.W.Frag} {mg : Str → Option Value} {base : Heap}
structure DefIn (K : PySem.W.Frag) (mg : Str → Option Value) (x : Str) (st : Stmt) (ps : List Str) : Prop where
  ex : ∃ (f : Addr) (fd : FuncData), Fun K x x st f fd ∧ mg x = some (.ref f) ∧ Binds K fd ps []
structure Cal (P : Program) (w : World) (K : PySem.W.Frag) (mg : Str → Option Value) (base : Heap) (k : Nat) (x : Str) (sp : Sp) : Prop where
  ex : ∃ (f : Addr) (fd : FuncData) (ps : List Str), FnOk P w K mg base CX0 k f fd ps sp ∧ mg x = some (.ref f) ∧ PySem.W.keepIn K (.ref f) = true ∧ Binds K fd ps []
theorem DefIn.ok {x : Str} {st : Stmt} {N ps : List Str} {k : Nat} {sp : Sp} (D : DefIn K mg x st ps) (S : FnScope N ps (defScope st)) (len : ∀ vs H Q E, sp vs H Q E → vs.length = ps.length)
    (hbody : ∀ (f : Addr) (cdv : Value) (A : Around) (outer : List Env) (s : Shared) (H : Hp) (vs : List V) (Q : VK) (E : XK), Room k (A.deeper (envOfC x (defScope st) s.heap.objs.size f cdv)) → sp vs H Q E →
      ∃ t, PSs (cxOf CX0 P w K mg base N x (defScope st) f cdv A outer s H E).nox (defBody st) t ∧ t { nx := fun _ H' => Q .non H', rt := Q } (start N vs) H) : Cal P w K mg base (k + 1) x sp := by
  obtain ⟨f, fd, F, hm, b⟩ := D.ex
  exact ⟨f, fd, ps, F.ok S len (fun cdv A outer s H vs Q E hr h => hbody f cdv A outer s H vs Q E hr h), hm, F.kp, b⟩
end
section
variable {X : Cx} {k j : Nat} {x : Str} {sp : Sp} {p pos : Pos} {e : Expr} {es : List Expr} {t : TA}
theorem vx_call (c : Cal X.prog X.w X.K X.mg X.base k x sp) (hr : Room j X.A) (hk : k ≤ j) (hg : Gl X x) (ha : PA X (e :: es) t)
    (hdb : (x == ("__debug__" : Str)) = false := by decide) (he : starEach (e :: es) X.env = (false, eval e X.env) :: starEach es X.env := by rfl) (hpl : (backTo pos (starEach es X.env)).any (·.1) = false := by rfl) :
    PE X (.Call (.Name x p) (e :: es) [] pos) (tCall sp [] E0 t) := by
  obtain ⟨f, fd, ps, F, hm, kp, b⟩ := c.ex
  exact pe_call F (hr.mono hk) hg hm kp b .nil pass0 ha hdb he hpl
end
end Vx

namespace Vx
open PySem PySem.Spec PyProof.Rows L2
section
variable {σ : L2.St} {H : Hp} {ta tb : TE} {x y z : V} {t : TT}
theorem vv_and {a b : Bool} (h1 : Val ta σ H (.bl a)) (h2 : Val tb σ H (.bl b)) : Val (tAndV ta tb) σ H (.bl (a && b)) := fun Q q => h1 _ ⟨a, rfl, by
  cases a with
  | true => exact iteT (h2 Q q)
  | false => exact iteF q⟩
theorem vv_or {a b : Bool} (h1 : Val ta σ H (.bl a)) (h2 : Val tb σ H (.bl b)) : Val (tOrV ta tb) σ H (.bl (a || b)) := fun Q q => h1 _ ⟨a, rfl, by
  cases a with
  | true => exact iteT q
  | false => exact iteF (h2 Q q)⟩
theorem vv_not {a : Bool} (h1 : Val ta σ H (.bl a)) : Val (tNotV ta) σ H (.bl (!a)) := fun Q q => h1 _ ⟨a, rfl, q⟩
theorem vv_un {r : V → Hp → VK → Prop} (ha : Val ta σ H x) (hr : ∀ Q : VK, Q z H → r x H Q) : Val (tUn r ta) σ H z := fun Q q => ha _ (hr Q q)
theorem vv_cmp {p : Int → Int → Bool} (ha : Val ta σ H x) (hb : Val tb σ H y) (hr : ∀ Q : VK, Q z H → ∃ i j, x = .int i ∧ y = .int j ∧ Q (.bl (p i j)) H) : Val (tCmp p ta tb) σ H z := fun Q q => ha _ (hb _ (hr Q q))
theorem vv_call1 {r : List V → Hp → VK → Prop} (ha : Val ta σ H x) (hr : ∀ Q : VK, Q z H → r [x] H Q) : Val (tCB r (tCons ta tNil)) σ H z := fun Q q => ha _ (hr Q q)
theorem vt_cmp {b : Bool} (h : Val ta σ H (.bl b)) : Ans (tB ta) σ H b := fun Q q => h _ ⟨b, rfl, q⟩
theorem vt_val {b : Bool} (h : Val ta σ H (.bl b)) : Ans (tB ta) σ H b := fun Q q => h _ ⟨b, rfl, q⟩
theorem vt_int {i : Int} {K : PySem.W.Frag} (h : Val ta σ H (.int i)) : Ans (fun σ H Q => ta σ H fun x H' => ∃ k, TruV K x H' k ∧ Q k H') σ H (i != 0) := fun Q q => h _ ⟨_, rfl, q⟩
theorem vv_if {p : Prop} [Decidable p] {a b : Int} (ht : Ans t σ H (decide p)) (hx : Val ta σ H (.int a)) (hy : Val tb σ H (.int b)) : Val (tIf t ta tb) σ H (.int (if p then a else b)) := fun Q q => ht _ (by
  by_cases h : p
  · rw [if_pos h] at q; exact iteDT h (hx Q q)
  · rw [if_neg h] at q; exact iteDF h (hy Q q))
theorem vv_ifb {c : Bool} {a b : Int} (ht : Ans t σ H c) (hx : Val ta σ H (.int a)) (hy : Val tb σ H (.int b)) : Val (tIf t ta tb) σ H (.int (if c = true then a else b)) := fun Q q => ht _ (by
  cases c with
  | true => exact iteT (hx Q q)
  | false => exact iteF (hy Q q))
end
end Vx

namespace Vx
open PySem PySem.Spec PyProof.Rows L2
def rLenLi (K : PySem.W.Frag) : List V → Hp → VK → Prop := fun xs H Q => ∃ (p : Addr) (ns : List Int), xs = [.ref p] ∧ SqL K H p (ns.map V.int) ∧ Q (.int (ns.length : Int)) H
theorem call_lenLi {X : Cx} : CallR X (.builtin "len") (rLenLi X.K) := by
  intro pins s σ H xs us Q I r h
  obtain ⟨p, ns, rfl, hs, q⟩ := h
  exact call_len_seq pins s σ H _ us Q I r ⟨p, _, rfl, Or.inl hs, by rw [List.length_map]; exact q⟩
end Vx

namespace Vx
open PySem PySem.Spec PyProof.Rows L2
section
variable {X : Cx} {K : PySem.W.Frag}
theorem ix_listK (hK : X.K = K := by rfl) : IxR X (rIxL K) := hK ▸ ix_list
theorem sl_listK (hK : X.K = K := by rfl) : SlR X (rSlL K) := hK ▸ sl_list
theorem call_lenLiK (hK : X.K = K := by rfl) : CallR X (.builtin "len") (rLenLi K) := hK ▸ call_lenLi
theorem op_eqLiK (hu : X.A.units + 64 < cLine) (hK : X.K = K := by rfl) : OpR X (compareOp .Eq) (rEqLi K) := hK ▸ op_eqLi hu
theorem op_neLiK (hu : X.A.units + 64 < cLine) (hK : X.K = K := by rfl) : OpR X (compareOp .NotEq) (rNeLi K) := hK ▸ op_neLi hu
theorem pi_listK {tg l : Expr} {tl : TE} (hl : PE X l tl) (hK : X.K = K := by rfl) : PI X tg l (iList K tl) := hK ▸ pi_list hl
theorem cr_sumK (hc : X.calm = true) (hK : X.K = K := by rfl) : CallR X (.builtin "sum") (rSum K) := hK ▸ cr_sum hc
theorem cr_maxK (hc : X.calm = true) (hK : X.K = K := by rfl) : CallR X (.builtin "max") (rMax K) := hK ▸ cr_max hc
theorem cr_minK (hc : X.calm = true) (hK : X.K = K := by rfl) : CallR X (.builtin "min") (rMin K) := hK ▸ cr_min hc
end
end Vx

namespace Vx
open PySem PySem.Spec PyProof.Rows L2
theorem tyes_go {σ : L2.St} {H : Hp} {f g : Hp → Prop} (h : f H) : tYes σ H (fun b H3 => if b = true then f H3 else g H3) := by
  show if true = true then f H else g H
  exact iteT h
end Vx

/-! # second part: data of any depth, the stable heap G, the owned addresses O -/
namespace Vx
open PySem PySem.Spec PyProof.Rows L2
mutual
inductive Rp (H : Hp) : V → PyData → Prop
  | non : Rp H .non .none
  | bl (b : Bool) : Rp H (.bl b) (.bool b)
  | int (i : Int) : Rp H (.int i) (.int i)
  | str (x : Str) : Rp H (.str x) (.str x)
  | lst {a : Addr} {xs : List V} {ds : List PyData} : H a = some (.lst xs) → RpAll H xs ds → Rp H (.ref a) (.list ds)
  | tup {a : Addr} {xs : List V} {ds : List PyData} : H a = some (.tup xs) → RpAll H xs ds → Rp H (.ref a) (.tuple ds)
inductive RpAll (H : Hp) : List V → List PyData → Prop
  | nil : RpAll H [] []
  | cons {v : V} {vs : List V} {d : PyData} {ds : List PyData} : Rp H v d → RpAll H vs ds → RpAll H (v :: vs) (d :: ds)
end
mutual
theorem Rp.mono {H H' : Hp} (e : Same H H') : ∀ {v : V} {d : PyData}, Rp H v d → Rp H' v d
  | _, _, .non => .non
  | _, _, .bl b => .bl b
  | _, _, .int i => .int i
  | _, _, .str x => .str x
  | _, _, .lst h r => .lst (e _ _ h) (RpAll.mono e r)
  | _, _, .tup h r => .tup (e _ _ h) (RpAll.mono e r)
theorem RpAll.mono {H H' : Hp} (e : Same H H') : ∀ {vs : List V} {ds : List PyData}, RpAll H vs ds → RpAll H' vs ds
  | _, _, .nil => .nil
  | _, _, .cons a b => .cons (Rp.mono e a) (RpAll.mono e b)
end
mutual
theorem Rp.dp {K : PySem.W.Frag} {H : Hp} : ∀ {v : V} {d : PyData}, Rp H v d → Dp K H v d
  | _, _, .non => .non
  | _, _, .bl b => .bl b
  | _, _, .int i => .int i
  | _, _, .str x => .str x
  | _, _, .lst h r => .lst (SqL.of h) (RpAll.dp r)
  | _, _, .tup h r => .tup (SqT.of h) (RpAll.dp r)
theorem RpAll.dp {K : PySem.W.Frag} {H : Hp} : ∀ {vs : List V} {ds : List PyData}, RpAll H vs ds → DpAll K H vs ds
  | _, _, .nil => .nil
  | _, _, .cons a b => .cons (Rp.dp a) (RpAll.dp b)
end
theorem RpAll.append {H : Hp} : ∀ {xs ys : List V} {ds es : List PyData}, RpAll H xs ds → RpAll H ys es → RpAll H (xs ++ ys) (ds ++ es)
  | _, _, _, _, .nil, s => s
  | _, _, _, _, .cons r t, s => .cons r (RpAll.append t s)
theorem RpAll.ints {H : Hp} : ∀ xs : List Int, RpAll H (xs.map V.int) (xs.map PyData.int)
  | [] => .nil
  | x :: xs => .cons (.int x) (RpAll.ints xs)
theorem RpAll.bls {H : Hp} : ∀ xs : List Bool, RpAll H (xs.map V.bl) (xs.map PyData.bool)
  | [] => .nil
  | x :: xs => .cons (.bl x) (RpAll.bls xs)
theorem RpAll.one {H : Hp} {v : V} {d : PyData} (h : Rp H v d) : RpAll H [v] [d] := .cons h .nil
theorem RpAll.len {H : Hp} : ∀ {vs : List V} {ds : List PyData}, RpAll H vs ds → vs.length = ds.length
  | _, _, .nil => rfl
  | _, _, .cons _ t => by rw [List.length_cons, List.length_cons, RpAll.len t]
theorem RpAll.at {H : Hp} : ∀ {vs : List V} {ds : List PyData} {i : Nat} {v : V}, RpAll H vs ds → vs[i]? = some v → ∃ d, ds[i]? = some d ∧ Rp H v d
  | _, _, _, _, .nil, h => by simp at h
  | _, _, 0, _, .cons r _, h => by
    simp at h
    subst h
    exact ⟨_, rfl, r⟩
  | _, _, i + 1, _, .cons _ t, h => by
    obtain ⟨d, h1, h2⟩ := RpAll.at (i := i) t (by simpa using h)
    exact ⟨d, by simpa using h1, h2⟩
theorem RpAll.at' {H : Hp} : ∀ {vs : List V} {ds : List PyData} {i : Nat} {d : PyData}, RpAll H vs ds → ds[i]? = some d → ∃ v, vs[i]? = some v ∧ Rp H v d
  | _, _, _, _, .nil, h => by simp at h
  | _, _, 0, _, .cons r _, h => by
    simp at h
    subst h
    exact ⟨_, rfl, r⟩
  | _, _, i + 1, _, .cons _ t, h => by
    obtain ⟨v, h1, h2⟩ := RpAll.at' (i := i) t (by simpa using h)
    exact ⟨v, by simpa using h1, h2⟩
theorem RpAll.take {H : Hp} : ∀ (n : Nat) {vs : List V} {ds : List PyData}, RpAll H vs ds → RpAll H (vs.take n) (ds.take n)
  | 0, _, _, _ => by simpa using RpAll.nil
  | n + 1, _, _, .nil => by simpa using RpAll.nil
  | n + 1, _, _, .cons r t => .cons r (RpAll.take n t)
theorem RpAll.drop {H : Hp} : ∀ (n : Nat) {vs : List V} {ds : List PyData}, RpAll H vs ds → RpAll H (vs.drop n) (ds.drop n)
  | 0, _, _, r => r
  | n + 1, _, _, .nil => by simpa using RpAll.nil
  | n + 1, _, _, .cons r t => RpAll.drop n t
theorem RpAll.set {H : Hp} {v : V} {d : PyData} (h : Rp H v d) : ∀ (n : Nat) {vs : List V} {ds : List PyData}, RpAll H vs ds → RpAll H (vs.set n v) (ds.set n d)
  | _, _, _, .nil => .nil
  | 0, _, _, .cons _ t => .cons h t
  | n + 1, _, _, .cons r t => .cons r (RpAll.set h n t)
theorem RpAll.rep {H : Hp} {vs : List V} {ds : List PyData} (h : RpAll H vs ds) : ∀ n : Nat, RpAll H (List.replicate n vs).flatten (List.replicate n ds).flatten
  | 0 => by simpa using RpAll.nil
  | n + 1 => by
    rw [List.replicate_succ, List.flatten_cons, List.replicate_succ, List.flatten_cons]
    exact RpAll.append h (RpAll.rep h n)
theorem RpAll.get {α : Type} {f : α → PyData} {H : Hp} {vs : List V} {xs : List α} {i : Nat} {v : V} (r : RpAll H vs (xs.map f)) (h : vs[i]? = some v) : ∃ x, xs[i]? = some x ∧ Rp H v (f x) := by
  obtain ⟨d, h1, h2⟩ := RpAll.at r h
  rw [List.getElem?_map] at h1
  cases e : xs[i]? with
  | none => rw [e] at h1; cases h1
  | some x =>
    rw [e] at h1
    have : f x = d := Option.some.inj h1
    exact ⟨x, rfl, this ▸ h2⟩
/-- the item at an index, data -/
theorem RpAll.ix {α : Type} {f : α → PyData} {H : Hp} {vs : List V} {xs : List α} {k : Int} (r : RpAll H vs (xs.map f)) (h : -(xs.length : Int) ≤ k ∧ k < xs.length) : ∃ v x, atI vs k = some v ∧ atI xs k = some x ∧ Rp H v (f x) := by
  have hl : vs.length = xs.length := by rw [r.len, List.length_map]
  have hk : ∃ j, ixN xs.length k = some j ∧ j < xs.length := by
    unfold ixN
    by_cases h0 : 0 ≤ k
    · refine ⟨k.toNat, ?_, by omega⟩
      rw [if_pos h0, if_pos h.2]
    · refine ⟨(k + xs.length).toNat, ?_, by omega⟩
      rw [if_neg h0, if_pos h.1]
  obtain ⟨j, e, hj⟩ := hk
  have hx := List.getElem?_eq_getElem hj
  obtain ⟨v, h1, h2⟩ := RpAll.at' (i := j) (d := f xs[j]) r (by rw [List.getElem?_map, hx] <;> rfl)
  refine ⟨v, xs[j], ?_, ?_, h2⟩
  · unfold atI
    rw [hl, e]
    exact h1
  · unfold atI
    rw [e]
    exact hx

/-! ### types -/
def encL {α : Type} (f : α → PyData) (xs : List α) : PyData := .list (xs.map f)
def encT2 {α β : Type} (f : α → PyData) (g : β → PyData) (p : α × β) : PyData := .tuple [f p.1, g p.2]
def encT3 {α β γ : Type} (f : α → PyData) (g : β → PyData) (h : γ → PyData) (p : α × β × γ) : PyData := .tuple [f p.1, g p.2.1, h p.2.2]
def encT4 {α β γ δ : Type} (f : α → PyData) (g : β → PyData) (h : γ → PyData) (i : δ → PyData) (p : α × β × γ × δ) : PyData := .tuple [f p.1, g p.2.1, h p.2.2.1, i p.2.2.2]
structure EncOk {α : Type} [DecidableEq α] (n : Nat) (f : α → PyData) : Prop where
  lay : ∀ x, PyData.canLay0 (f x) = true
  dep : ∀ x, PyData.depth (f x) ≤ n
  eqv : ∀ x y, PyData.eqv (f x) (f y) = decide (x = y)
theorem encOk_int : EncOk 0 PyData.int := ⟨fun _ => by simp [PyData.canLay0], fun _ => by simp [PyData.depth], fun x y => by simp [PyData.eqv]; by_cases h : x = y <;> simp [h]⟩
theorem encOk_bool : EncOk 0 PyData.bool := ⟨fun _ => by simp [PyData.canLay0], fun _ => by simp [PyData.depth], fun x y => by cases x <;> cases y <;> simp [PyData.eqv]⟩
section
variable {α β γ δ : Type} [DecidableEq α] [DecidableEq β] [DecidableEq γ] [DecidableEq δ] {n m l o : Nat} {f : α → PyData} {g : β → PyData} {h : γ → PyData} {i : δ → PyData}
theorem lay_map (ok : EncOk n f) : ∀ xs : List α, PyData.canLayAll0 (xs.map f) = true
  | [] => by simp [PyData.canLayAll0]
  | x :: xs => by simp [PyData.canLayAll0, ok.lay x, lay_map ok xs]
theorem dep_map (ok : EncOk n f) : ∀ xs : List α, PyData.depthAll (xs.map f) ≤ n
  | [] => by simp [PyData.depthAll]
  | x :: xs => by
    have h1 := ok.dep x
    have h2 := dep_map ok xs
    simp only [List.map_cons, PyData.depthAll]
    omega
theorem eqv_map (ok : EncOk n f) : ∀ xs ys : List α, PyData.eqvAll (xs.map f) (ys.map f) = decide (xs = ys)
  | [], [] => by simp [PyData.eqvAll]
  | [], y :: ys => by simp [PyData.eqvAll]
  | x :: xs, [] => by simp [PyData.eqvAll]
  | x :: xs, y :: ys => by
    have ih := eqv_map ok xs ys
    simp only [List.map_cons, PyData.eqvAll, ok.eqv, ih]
    by_cases h : x = y <;> by_cases h2 : xs = ys <;> simp [h, h2]
theorem encOk_L (ok : EncOk n f) : EncOk (n + 1) (encL f) := ⟨fun xs => by simp [encL, PyData.canLay0, lay_map ok], fun xs => by
  have := dep_map ok xs
  simp only [encL, PyData.depth]
  omega, fun xs ys => by simp only [encL, PyData.eqv]; exact eqv_map ok xs ys⟩
theorem encOk_T2 (ok : EncOk n f) (ok2 : EncOk m g) : EncOk (max n m + 1) (encT2 f g) := ⟨fun x => by simp [encT2, PyData.canLay0, PyData.canLayAll0, ok.lay, ok2.lay], fun x => by
  have h1 := ok.dep x.1
  have h2 := ok2.dep x.2
  simp only [encT2, PyData.depth, PyData.depthAll]
  omega, fun x y => by
  obtain ⟨a, b⟩ := x
  obtain ⟨c, d⟩ := y
  simp only [encT2, PyData.eqv, PyData.eqvAll, ok.eqv, ok2.eqv, Prod.mk.injEq]
  by_cases h1 : a = c <;> by_cases h2 : b = d <;> simp [h1, h2]⟩
theorem encOk_T3 (ok : EncOk n f) (ok2 : EncOk m g) (ok3 : EncOk l h) : EncOk (max n (max m l) + 1) (encT3 f g h) := ⟨fun x => by simp [encT3, PyData.canLay0, PyData.canLayAll0, ok.lay, ok2.lay, ok3.lay], fun x => by
  have h1 := ok.dep x.1
  have h2 := ok2.dep x.2.1
  have h3 := ok3.dep x.2.2
  simp only [encT3, PyData.depth, PyData.depthAll]
  omega, fun x y => by
  obtain ⟨a, b, e⟩ := x
  obtain ⟨c, d, e'⟩ := y
  simp only [encT3, PyData.eqv, PyData.eqvAll, ok.eqv, ok2.eqv, ok3.eqv, Prod.mk.injEq]
  by_cases h1 : a = c <;> by_cases h2 : b = d <;> by_cases h3 : e = e' <;> simp [h1, h2, h3]⟩
theorem encOk_T4 (ok : EncOk n f) (ok2 : EncOk m g) (ok3 : EncOk l h) (ok4 : EncOk o i) : EncOk (max n (max m (max l o)) + 1) (encT4 f g h i) := ⟨fun x => by simp [encT4, PyData.canLay0, PyData.canLayAll0, ok.lay, ok2.lay, ok3.lay, ok4.lay], fun x => by
  have h1 := ok.dep x.1
  have h2 := ok2.dep x.2.1
  have h3 := ok3.dep x.2.2.1
  have h4 := ok4.dep x.2.2.2
  simp only [encT4, PyData.depth, PyData.depthAll]
  omega, fun x y => by
  obtain ⟨a, b, e, u⟩ := x
  obtain ⟨c, d, e', u'⟩ := y
  simp only [encT4, PyData.eqv, PyData.eqvAll, ok.eqv, ok2.eqv, ok3.eqv, ok4.eqv, Prod.mk.injEq]
  by_cases h1 : a = c <;> by_cases h2 : b = d <;> by_cases h3 : e = e' <;> by_cases h4 : u = u' <;> simp [h1, h2, h3, h4]⟩
end
section
variable {X : Cx} {α : Type} [DecidableEq α] {n : Nat} {f : α → PyData}
def rEqT (f : α → PyData) : R2 := fun x y H Q => ∃ (a b : α), Rp H x (f a) ∧ Rp H y (f b) ∧ Q (.bl (decide (a = b))) H
def rNeT (f : α → PyData) : R2 := fun x y H Q => ∃ (a b : α), Rp H x (f a) ∧ Rp H y (f b) ∧ Q (.bl (!decide (a = b))) H
theorem shaped_of (ok : EncOk n f) (hn : n ≤ 64) (a : α) : SeqAt.shaped (f a) = true := by
  unfold SeqAt.shaped
  have h := ok.dep a
  rw [ok.lay]
  simp
  omega
theorem op_eqT (ok : EncOk n f) (hu : X.A.units + 64 < cLine) (hn : n ≤ 64 := by decide) : OpR X (compareOp .Eq) (rEqT f) := by
  intro pins s σ H x y v u Q I rx ry h
  obtain ⟨a, b, h1, h2, q⟩ := h
  exact op_eqD hu pins s σ H _ _ v u Q I rx ry ⟨_, _, h1.dp, h2.dp, shaped_of ok hn a, shaped_of ok hn b, by rw [ok.eqv]; exact q⟩
theorem op_neT (ok : EncOk n f) (hu : X.A.units + 64 < cLine) (hn : n ≤ 64 := by decide) : OpR X (compareOp .NotEq) (rNeT f) := by
  intro pins s σ H x y v u Q I rx ry h
  obtain ⟨a, b, h1, h2, q⟩ := h
  exact op_neD hu pins s σ H _ _ v u Q I rx ry ⟨_, _, h1.dp, h2.dp, shaped_of ok hn a, shaped_of ok hn b, by rw [ok.eqv]; exact q⟩
end
section
variable {H : Hp} {v : V} {α β γ δ : Type} {f : α → PyData} {g : β → PyData} {h : γ → PyData} {i : δ → PyData}
theorem rp_int {x : Int} (r : Rp H v (.int x)) : v = .int x := by cases r; rfl
theorem rp_bool {x : Bool} (r : Rp H v (.bool x)) : v = .bl x := by cases r; rfl
theorem rp_str {x : Str} (r : Rp H v (.str x)) : v = .str x := by cases r; rfl
theorem rp_list {xs : List α} (r : Rp H v (encL f xs)) : ∃ a vs, v = .ref a ∧ H a = some (.lst vs) ∧ RpAll H vs (xs.map f) := by
  unfold encL at r
  cases r with
  | lst h1 h2 => exact ⟨_, _, rfl, h1, h2⟩
theorem rpAll_ints : ∀ {vs : List V} {xs : List Int}, RpAll H vs (xs.map PyData.int) → vs = xs.map V.int
  | _, [], .nil => rfl
  | _, x :: xs, .cons r t => by rw [rp_int r, rpAll_ints t] <;> rfl
theorem rp_ints {xs : List Int} (r : Rp H v (encL PyData.int xs)) : ∃ a, v = .ref a ∧ H a = some (.lst (xs.map V.int)) := by
  obtain ⟨a, vs, e, h1, h2⟩ := rp_list r
  rw [rpAll_ints h2] at h1
  exact ⟨a, e, h1⟩
theorem rp_tup2 {x : α × β} (r : Rp H v (encT2 f g x)) : ∃ a v1 v2, v = .ref a ∧ H a = some (.tup [v1, v2]) ∧ Rp H v1 (f x.1) ∧ Rp H v2 (g x.2) := by
  unfold encT2 at r
  cases r with
  | tup h1 h2 =>
    cases h2 with
    | cons a b =>
      cases b with
      | cons b c =>
        cases c
        exact ⟨_, _, _, rfl, h1, a, b⟩
theorem rp_tup3 {x : α × β × γ} (r : Rp H v (encT3 f g h x)) : ∃ a v1 v2 v3, v = .ref a ∧ H a = some (.tup [v1, v2, v3]) ∧ Rp H v1 (f x.1) ∧ Rp H v2 (g x.2.1) ∧ Rp H v3 (h x.2.2) := by
  unfold encT3 at r
  cases r with
  | tup h1 h2 =>
    cases h2 with
    | cons a b =>
      cases b with
      | cons b c =>
        cases c with
        | cons c d =>
          cases d
          exact ⟨_, _, _, _, rfl, h1, a, b, c⟩
theorem rp_mk_list {a : Addr} {vs : List V} {xs : List α} (h1 : H a = some (.lst vs)) (h2 : RpAll H vs (xs.map f)) : Rp H (.ref a) (encL f xs) := .lst h1 h2
theorem rp_mk_ints {a : Addr} {xs : List Int} (h1 : H a = some (.lst (xs.map V.int))) : Rp H (.ref a) (encL PyData.int xs) := .lst h1 (RpAll.ints xs)
theorem rp_mk2 {a : Addr} {v1 v2 : V} {x : α} {y : β} (h1 : H a = some (.tup [v1, v2])) (r1 : Rp H v1 (f x)) (r2 : Rp H v2 (g y)) : Rp H (.ref a) (encT2 f g (x, y)) := .tup h1 (.cons r1 (.cons r2 .nil))
theorem rp_mk3 {a : Addr} {v1 v2 v3 : V} {x : α} {y : β} {z : γ} (h1 : H a = some (.tup [v1, v2, v3])) (r1 : Rp H v1 (f x)) (r2 : Rp H v2 (g y)) (r3 : Rp H v3 (h z)) : Rp H (.ref a) (encT3 f g h (x, y, z)) := .tup h1 (.cons r1 (.cons r2 (.cons r3 .nil)))
end

/-! ### the two heaps -/
def SameXs (L : List Addr) (H H' : Hp) : Prop := ∀ b o, H b = some o → b ∉ L → H' b = some o
theorem SameXs.of {H H' : Hp} {m : Addr} (x : SameX m H H') : SameXs [m] H H' := fun b o e n => x b o e (fun z => n (by rw [z]; exact List.mem_cons_self))
theorem ni1 {b m : Addr} (h : b ≠ m) : b ∉ [m] := by simpa using h
theorem ni2 {b m n : Addr} (h : b ≠ m) (h2 : b ≠ n) : b ∉ [m, n] := by simp [h, h2]
theorem ni3 {b m n o : Addr} (h : b ≠ m) (h2 : b ≠ n) (h3 : b ≠ o) : b ∉ [m, n, o] := by simp [h, h2, h3]
theorem ni4 {b m n o p : Addr} (h : b ≠ m) (h2 : b ≠ n) (h3 : b ≠ o) (h4 : b ≠ p) : b ∉ [m, n, o, p] := by simp [h, h2, h3, h4]
def hideL (L : List Addr) (H : Hp) : Hp := fun b => if b ∈ L then none else H b
theorem hideL_same (L : List Addr) (H : Hp) : Same (hideL L H) H := fun b o e => by
  unfold hideL at e
  split at e
  · cases e
  · exact e
theorem hideL_in {L : List Addr} {H : Hp} {b : Addr} (h : b ∈ L) : hideL L H b = none := if_pos h
theorem hideL_out {L : List Addr} {H : Hp} {b : Addr} (h : b ∉ L) : hideL L H b = H b := if_neg h
/-- M: owned from outside; H0, G0: at the entry; G: what stays as it is; O: what may change -/
structure Sep (M : List Addr) (H0 G0 G H : Hp) (O : List Addr) : Prop where
  base : SameXs M H0 H
  pm : ∀ a ∈ M, H a ≠ none
  sG : Same G H
  g0 : Same G0 G
  gn : ∀ b, H0 b ≠ none → G0 b = none → G b = none
  ow : ∀ a ∈ O, G a = none ∧ H a ≠ none ∧ (a ∈ M ∨ H0 a = none)
theorem all_nil {P : Addr → Prop} : ∀ x ∈ ([] : List Addr), P x := fun x h => by cases h
theorem all_cons {P : Addr → Prop} {a : Addr} {l : List Addr} (h : P a) (t : ∀ x ∈ l, P x) : ∀ x ∈ a :: l, P x := fun x hx => by
  cases hx with
  | head => exact h
  | tail _ hx => exact t x hx
theorem some_ne {H : Hp} {a : Addr} {o : HO} (h : H a = some o) : H a ≠ none := by
  rw [h]
  exact fun z => nomatch z
theorem same_ne {H H' : Hp} {a : Addr} (e : Same H H') (h : H a ≠ none) : H' a ≠ none := by
  cases q : H a with
  | none => exact absurd q h
  | some o => exact some_ne (e a o q)
section
variable {M : List Addr} {H0 G0 G H H' : Hp} {O : List Addr} {p m : Addr} {o : HO}
theorem Sep.start (M : List Addr) (H : Hp) (hM : ∀ a ∈ M, H a ≠ none) : Sep M H (hideL M H) (hideL M H) H M :=
  ⟨fun _ _ e _ => e, hM, hideL_same M H, Same.refl _, fun _ _ e => e, fun a ha => ⟨hideL_in ha, hM a ha, .inl ha⟩⟩
theorem Sep.startG {G H : Hp} (e : Same G H) : Sep [] H G G H [] := ⟨fun _ _ e _ => e, all_nil, e, Same.refl _, fun _ _ e => e, fun a ha => by cases ha⟩
theorem Sep.start0 (H : Hp) : Sep [] H H H H [] := Sep.startG (Same.refl H)
theorem Sep.b0 (S : Sep [] H0 G0 G H O) : Same H0 H := fun b o e => S.base b o e List.not_mem_nil
theorem Sep.free (S : Sep M H0 G0 G H O) {q : Addr} (n : H q = none) : H0 q = none := by
  cases e : H0 q with
  | none => rfl
  | some o =>
    by_cases h : q ∈ M
    · exact absurd n (S.pm q h)
    · rw [S.base q o e h] at n
      cases n
theorem Sep.same (S : Sep M H0 G0 G H O) (e : Same H H') : Sep M H0 G0 G H' O :=
  ⟨fun b o h n => e b o (S.base b o h n), fun a ha => same_ne e (S.pm a ha), S.sG.trans e, S.g0, S.gn, fun a ha => ⟨(S.ow a ha).1, same_ne e (S.ow a ha).2.1, (S.ow a ha).2.2⟩⟩
theorem Sep.gfree (S : Sep M H0 G0 G H O) {q : Addr} (n : H q = none) : G q = none := by
  cases e : G q with
  | none => rfl
  | some o => rw [S.sG q o e] at n; cases n
theorem Sep.new (S : Sep M H0 G0 G H O) (n : H p = none) (e : Same H H') (h : H' p = some o) (hm : H0 p = none) : Sep M H0 G0 G H' (p :: O) := by
  have S1 := S.same e
  refine ⟨S1.base, S1.pm, S1.sG, S1.g0, S1.gn, fun a ha => ?_⟩
  cases ha with
  | head => exact ⟨S.gfree n, some_ne h, .inr hm⟩
  | tail _ ha => exact S1.ow a ha
theorem Sep.grow (S : Sep M H0 G0 G H O) (n : H p = none) (e : Same H H') (h : H' p = some o) (hm : H0 p = none) : ∃ G', Same G G' ∧ G' p = some o ∧ Sep M H0 G0 G' H' O := by
  have S1 := S.same e
  have ng := S.gfree n
  refine ⟨upd G p o, fun b u q => by rw [upd_ne (ne_of_none q ng)]; exact q, upd_same, S1.base, S1.pm, fun b u q => ?_, fun b u q => ?_, fun b hb gb => ?_, fun a ha => ?_⟩
  · by_cases z : b = p
    · subst z
      rw [upd_same] at q
      exact q ▸ h
    · rw [upd_ne z] at q
      exact S1.sG b u q
  · have := S.g0 b u q
    rw [upd_ne (ne_of_none this ng)]
    exact this
  · by_cases z : b = p
    · subst z
      exact absurd hm hb
    · rw [upd_ne z]
      exact S.gn b hb gb
  · have hne : a ≠ p := fun z => (S.ow a ha).2.1 (by rw [z]; exact n)
    rw [upd_ne hne]
    exact S1.ow a ha
theorem Sep.mut (S : Sep M H0 G0 G H O) {L : List Addr} (x : SameXs L H H') (hL : ∀ a ∈ L, a ∈ O) (hs : ∀ a ∈ L, H' a ≠ none) : Sep M H0 G0 G H' O := by
  have keep : ∀ a, H a ≠ none → H' a ≠ none := fun a h => by
    by_cases hb : a ∈ L
    · exact hs a hb
    · cases q : H a with
      | none => exact absurd q h
      | some o => exact some_ne (x a o q hb)
  refine ⟨fun b o e n => ?_, fun a ha => keep a (S.pm a ha), fun b o e => ?_, S.g0, S.gn, fun a ha => ⟨(S.ow a ha).1, keep a (S.ow a ha).2.1, (S.ow a ha).2.2⟩⟩
  · refine x b o (S.base b o e n) fun hb => ?_
    rcases (S.ow b (hL b hb)).2.2 with z | z
    · exact n z
    · rw [e] at z; cases z
  · refine x b o (S.sG b o e) fun hb => ?_
    have := (S.ow b (hL b hb)).1
    rw [e] at this
    cases this
theorem Sep.mut1 (S : Sep M H0 G0 G H O) (x : SameX m H H') (hm : m ∈ O) (h : H' m = some o) : Sep M H0 G0 G H' O :=
  S.mut (SameXs.of x) (all_cons hm all_nil) (all_cons (some_ne h) all_nil)
theorem Sep.sub (S : Sep M H0 G0 G H O) {O' : List Addr} (h : ∀ a ∈ O', a ∈ O) : Sep M H0 G0 G H O' := ⟨S.base, S.pm, S.sG, S.g0, S.gn, fun a ha => S.ow a (h a ha)⟩
/-- what was owned and is to stay as it is from now on -/
theorem Sep.freeze (S : Sep M H0 G0 G H O) {O' : List Addr} (hp : p ∈ O) (h : H p = some o) (hm : H0 p = none) (hO : ∀ a ∈ O', a ∈ O ∧ a ≠ p) : ∃ G', Same G G' ∧ G' p = some o ∧ Sep M H0 G0 G' H O' := by
  have ng := (S.ow p hp).1
  refine ⟨upd G p o, fun b u q => by rw [upd_ne (ne_of_none q ng)]; exact q, upd_same, S.base, S.pm, fun b u q => ?_, fun b u q => ?_, fun b hb gb => ?_, fun a ha => ?_⟩
  · by_cases z : b = p
    · subst z
      rw [upd_same] at q
      exact q ▸ h
    · rw [upd_ne z] at q
      exact S.sG b u q
  · have := S.g0 b u q
    rw [upd_ne (ne_of_none this ng)]
    exact this
  · by_cases z : b = p
    · subst z
      exact absurd hm hb
    · rw [upd_ne z]
      exact S.gn b hb gb
  · rw [upd_ne (hO a ha).2]
    exact S.ow a (hO a ha).1
/-- a callee that hands on data in a stable heap of its own -/
theorem Sep.step (S : Sep M H0 G0 G H O) {G' : Hp} (e : Same H H') (eG : Same G G') (sG : Same G' H') (hn : ∀ b, H b ≠ none → G b = none → G' b = none) : Sep M H0 G0 G' H' O := by
  have S1 := S.same e
  refine ⟨S1.base, S1.pm, sG, S.g0.trans eG, fun b hb gb => ?_, fun a ha => ⟨hn a (S.ow a ha).2.1 (S.ow a ha).1, (S1.ow a ha).2⟩⟩
  refine hn b (fun z => ?_) (S.gn b hb gb)
  exact hb (S.free z)
theorem Sep.hid (S : Sep M H0 G0 G H O) {L : List Addr} (h : ∀ a ∈ L, a ∈ O) : Same G (hideL L H) := fun b o e => by
  rw [hideL_out fun z => by
    have := (S.ow b (h b z)).1
    rw [e] at this
    cases this]
  exact S.sG b o e
end
end Vx

namespace Vx
open PySem PySem.Spec PyProof.Rows L2
/-! ### lists of plain things (f : V.int, V.bl, V.str) -/
section
variable {α : Type} {f : α → V} {H : Hp} {p : Addr}
theorem cat_map {xs ys : List α} (h : H p = some (.lst (xs.map f ++ ys.map f))) : H p = some (.lst ((xs ++ ys).map f)) := by
  rw [List.map_append]; exact h
theorem snoc_map {xs : List α} {y : α} (h : H p = some (.lst (xs.map f ++ [f y]))) : H p = some (.lst ((xs ++ [y]).map f)) := by
  rw [List.map_append]; exact h
def repL (xs : List α) (k : Int) : List α := (List.replicate k.toNat xs).flatten
theorem rep_map {xs : List α} {k : Int} (h : H p = some (.lst (List.replicate k.toNat (xs.map f)).flatten)) : H p = some (.lst ((repL xs k).map f)) := by
  rw [h]
  unfold repL
  rw [List.map_flatten, List.map_replicate]
def cutL (xs : List α) (lo hi : Option Int) : List α := (xs.drop (HT.sIx xs.length 0 lo)).take (HT.sIx xs.length xs.length hi - HT.sIx xs.length 0 lo)
theorem cut_map {xs : List α} {lo hi : Option Int} (h : H p = some (.lst (cutV (xs.map f) lo hi))) : H p = some (.lst ((cutL xs lo hi).map f)) := by
  rw [h]
  unfold cutV cutL
  rw [List.length_map, List.map_take, List.map_drop]
theorem cast_map {xs ys : List α} (h : H p = some (.lst (xs.map f))) (e : xs = ys) : H p = some (.lst (ys.map f)) := e ▸ h
theorem drop_map {xs : List α} (h : H p = some (.lst (xs.map f).dropLast)) : H p = some (.lst (xs.dropLast.map f)) := by
  rw [h, List.map_dropLast]
theorem ixN_some {n : Nat} {k : Int} (h : -(n : Int) ≤ k ∧ k < n) : ∃ j, ixN n k = some j ∧ j < n := by
  unfold ixN
  by_cases h0 : 0 ≤ k
  · exact ⟨k.toNat, by rw [if_pos h0, if_pos h.2], by omega⟩
  · exact ⟨(k + n).toNat, by rw [if_neg h0, if_pos h.1], by omega⟩
def itD [Inhabited α] (xs : List α) (k : Int) : α := (atI xs k).getD default
theorem atI_map [Inhabited α] {xs : List α} {k : Int} (h : -(xs.length : Int) ≤ k ∧ k < xs.length) : atI (xs.map f) k = some (f (itD xs k)) := by
  obtain ⟨j, e, hj⟩ := ixN_some h
  unfold itD atI
  rw [List.length_map, e]
  show (xs.map f)[j]? = some (f ((xs[j]?).getD default))
  rw [List.getElem?_map, List.getElem?_eq_getElem hj] <;> rfl
def setL (xs : List α) (k : Int) (y : α) : List α := xs.set ((ixN xs.length k).getD 0) y
theorem ixN_map {xs : List α} {k : Int} (h : -(xs.length : Int) ≤ k ∧ k < xs.length) : ixN (xs.map f).length k = some ((ixN xs.length k).getD 0) := by
  obtain ⟨j, e, hj⟩ := ixN_some h
  rw [List.length_map, e] <;> rfl
theorem set_map {xs : List α} {k : Int} {y : α} (h : H p = some (.lst ((xs.map f).set ((ixN xs.length k).getD 0) (f y)))) : H p = some (.lst ((setL xs k y).map f)) := by
  rw [h]
  unfold setL
  rw [List.map_set]
def lastD [Inhabited α] (xs : List α) : α := xs.getLastD default
theorem pop_map [Inhabited α] {xs : List α} (h : xs ≠ []) : (xs.map f)[(xs.map f).length - 1]? = some (f (lastD xs)) := by
  rw [← List.getLast?_eq_getElem?, List.getLast?_map]
  unfold lastD
  cases e : xs.getLast? with
  | none => exact absurd (List.getLast?_eq_none_iff.mp e) h
  | some y =>
    rw [List.getLastD_eq_getLast?, e] <;> rfl
end
/-! ### lists of data -/
section
variable {α β : Type} {f : α → PyData} {g : β → PyData} {G : Hp} {vs ws : List V} {xs ys : List α}
theorem app_map (a : RpAll G vs (xs.map f)) (b : RpAll G ws (ys.map f)) : RpAll G (vs ++ ws) ((xs ++ ys).map f) := by
  rw [List.map_append]; exact a.append b
theorem one_map {v : V} {y : α} (a : RpAll G vs (xs.map f)) (b : Rp G v (f y)) : RpAll G (vs ++ [v]) ((xs ++ [y]).map f) := by
  rw [List.map_append]; exact a.append (.one b)
theorem rep_all (k : Int) (a : RpAll G vs (xs.map f)) : RpAll G (List.replicate k.toNat vs).flatten ((repL xs k).map f) := by
  unfold repL
  rw [List.map_flatten, List.map_replicate]
  exact a.rep _
theorem cut_all (lo hi : Option Int) (a : RpAll G vs (xs.map f)) : RpAll G (cutV vs lo hi) ((cutL xs lo hi).map f) := by
  unfold cutV cutL
  rw [a.len, List.length_map, List.map_take, List.map_drop]
  exact (a.drop _).take _
theorem rp_cast {v : V} {d e : PyData} (r : Rp G v d) (h : d = e) : Rp G v e := h ▸ r
theorem comp_listD {i : Nat} {x : α} {y : β} {v : V} {h : α → β} (hi : xs[i]? = some x) (a : RpAll G vs (((xs.take i).map h).map g)) (r : Rp G v (g y)) (e : h x = y) : RpAll G (vs ++ [v]) (((xs.take (i + 1)).map h).map g) := by
  rw [take_succ_get hi, List.map_append, List.map_append]
  exact a.append (.one (e ▸ r))
theorem comp_rangeD {i : Nat} {y : β} {v : V} {h : Nat → β} (a : RpAll G vs (((List.range i).map h).map g)) (r : Rp G v (g y)) (e : h i = y) : RpAll G (vs ++ [v]) (((List.range (i + 1)).map h).map g) := by
  rw [List.range_succ, List.map_append, List.map_append]
  exact a.append (.one (e ▸ r))
theorem comp_doneD {n : Nat} {h : List α → List β} (hl : n = xs.length) (a : RpAll G vs ((h (xs.take n)).map g)) : RpAll G vs ((h xs).map g) := by
  rw [hl, List.take_length] at a
  exact a
theorem comp_listFD {i : Nat} {x : α} {y : β} {v : V} {h : α → β} {q : α → Bool} (hi : xs[i]? = some x) (hq : q x = true) (a : RpAll G vs ((((xs.take i).filter q).map h).map g)) (r : Rp G v (g y)) (e : h x = y) : RpAll G (vs ++ [v]) ((((xs.take (i + 1)).filter q).map h).map g) := by
  rw [take_succ_get hi, List.filter_append, List.filter_cons, if_pos hq, List.map_append, List.map_append]
  exact a.append (.one (e ▸ r))
theorem skip_listD {i : Nat} {x : α} {h : α → β} {q : α → Bool} (hi : xs[i]? = some x) (hq : q x = false) (a : RpAll G vs ((((xs.take i).filter q).map h).map g)) : RpAll G vs ((((xs.take (i + 1)).filter q).map h).map g) := by
  rw [take_succ_get hi, List.filter_append, List.filter_cons, if_neg (by rw [hq]; decide), List.filter_nil, List.append_nil]
  exact a
end
section
variable {α β : Type} {f : β → V} {H : Hp} {D : Addr} {xs : List α}
theorem compM_list {i : Nat} {x : α} {y : β} {h : α → β} (hi : xs[i]? = some x) (a : H D = some (.lst (((xs.take i).map h).map f ++ [f y]))) (e : h x = y) : H D = some (.lst (((xs.take (i + 1)).map h).map f)) := by
  rw [a, ← e, take_succ_get hi, List.map_append, List.map_append] <;> rfl
theorem compM_range {i : Nat} {y : β} {h : Nat → β} (a : H D = some (.lst (((List.range i).map h).map f ++ [f y]))) (e : h i = y) : H D = some (.lst (((List.range (i + 1)).map h).map f)) := by
  rw [a, ← e, List.range_succ, List.map_append, List.map_append] <;> rfl
theorem compM_done {n : Nat} {h : List α → List β} (hl : n = xs.length) (a : H D = some (.lst ((h (xs.take n)).map f))) : H D = some (.lst ((h xs).map f)) := by
  rw [hl, List.take_length] at a
  exact a
theorem compM_listF {i : Nat} {x : α} {y : β} {h : α → β} {q : α → Bool} (hi : xs[i]? = some x) (hq : q x = true) (a : H D = some (.lst ((((xs.take i).filter q).map h).map f ++ [f y]))) (e : h x = y) : H D = some (.lst ((((xs.take (i + 1)).filter q).map h).map f)) := by
  rw [a, ← e, take_succ_get hi, List.filter_append, List.filter_cons, if_pos hq, List.map_append, List.map_append] <;> rfl
theorem skipM_list {i : Nat} {x : α} {h : α → β} {q : α → Bool} (hi : xs[i]? = some x) (hq : q x = false) (a : H D = some (.lst ((((xs.take i).filter q).map h).map f))) : H D = some (.lst ((((xs.take (i + 1)).filter q).map h).map f)) := by
  rw [a, take_succ_get hi, List.filter_append, List.filter_cons, if_neg (by rw [hq]; decide), List.filter_nil, List.append_nil]
theorem compM_rangeF {i : Nat} {y : β} {h : Nat → β} {q : Nat → Bool} (hq : q i = true) (a : H D = some (.lst ((((List.range i).filter q).map h).map f ++ [f y]))) (e : h i = y) : H D = some (.lst ((((List.range (i + 1)).filter q).map h).map f)) := by
  rw [a, ← e, List.range_succ, List.filter_append, List.filter_cons, if_pos hq, List.map_append, List.map_append] <;> rfl
theorem skipM_range {i : Nat} {h : Nat → β} {q : Nat → Bool} (hq : q i = false) (a : H D = some (.lst ((((List.range i).filter q).map h).map f))) : H D = some (.lst ((((List.range (i + 1)).filter q).map h).map f)) := by
  rw [a, List.range_succ, List.filter_append, List.filter_cons, if_neg (by rw [hq]; decide), List.filter_nil, List.append_nil]
end
/-! ### more rules -/
section
variable {X : Cx} {K : PySem.W.Frag}
theorem ix_tupK (hK : X.K = K := by rfl) : IxR X (rIxT K) := hK ▸ ix_tup
def rLenLK (K : PySem.W.Frag) : List V → Hp → VK → Prop := fun xs H Q => ∃ (p : Addr) (vs : List V) (n : Nat), xs = [.ref p] ∧ SqL K H p vs ∧ vs.length = n ∧ Q (.int (n : Int)) H
theorem call_lenLK (hK : X.K = K := by rfl) : CallR X (.builtin "len") (rLenLK K) := by
  subst hK
  intro pins s σ H xs us Q I r h
  obtain ⟨p, vs, n, rfl, hs, hn, q⟩ := h
  exact call_len_seq pins s σ H _ us Q I r ⟨p, _, rfl, Or.inl hs, by rw [hn]; exact q⟩
def rListLK (K : PySem.W.Frag) : List V → Hp → VK → Prop := fun xs H Q => ∃ (p : Addr) (vs : List V), xs = [.ref p] ∧ SqL K H p vs ∧ ∀ l, H l = none → Q (.ref l) (upd H l (.lst vs))
theorem call_listLK (hK : X.K = K := by rfl) : CallR X (.type "list") (rListLK K) := by
  subst hK
  intro pins s σ H xs us Q I r h
  obtain ⟨p, vs, rfl, hs, q⟩ := h
  exact call_list_of pins s σ H _ us Q I r ⟨p, _, rfl, Or.inl hs, q⟩
theorem cr_anyK (hc : X.calm = true) (hK : X.K = K := by rfl) : CallR X (.builtin "any") (rAny K) := hK ▸ cr_any hc
theorem cr_allK (hc : X.calm = true) (hK : X.K = K := by rfl) : CallR X (.builtin "all") (rAll K) := hK ▸ cr_all hc
theorem pi_tupK {tg l : Expr} {tl : TE} (hl : PE X l tl) (hK : X.K = K := by rfl) : PI X tg l (iTup K tl) := hK ▸ pi_tup hl
theorem pip {op : Operator} {r : R2} (h : OpR X (inplaceOp op) r) : PIp X op r := fun pins s σ H x y v u Q I rx ry q => h pins s σ H x y v u Q I rx ry q
/-- an item at a place from 0 on, by itself (ahead of o[i] op= e) -/
def rIxP (K : PySem.W.Frag) : R2 := fun x y H Q => ∃ (p : Addr) (xs : List V) (k : Int) (v : V), x = .ref p ∧ y = .int k ∧ SqL K H p xs ∧ 0 ≤ k ∧ k < 2 ^ 62 ∧ atI xs k = some v ∧ Q v H
theorem pget_list (hK : X.K = K := by rfl) : PGet X (rIxP K) := by
  subst hK
  intro pins s σ H o i ov iv Q I ro ri h
  obtain ⟨p, xs, k, v, rfl, rfl, hq, h0, h62, ha, q⟩ := h
  cases ro
  obtain ⟨t, rfl⟩ := ri
  obtain ⟨its, r, pl, hz⟩ := I.list hq
  obtain ⟨j, h1, h2, h3, h4, h5⟩ := atI_get ha
  obtain ⟨w, ew, rw'⟩ := r.get h2
  have hj : k.toNat = j := by
    rw [seqIndex_of h0 h5] at h1
    exact Option.some.inj h1
  exact getItem_listL pl.isList h0 (by omega) (by rw [hj]; simpa using ew) ⟨v, H, I, rw', q⟩
theorem tru_map {α : Type} [DecidableEq α] {f : α → V} {xs : List α} : (!decide (xs = [])) = !(xs.map f).isEmpty := by
  cases xs <;> simp
end
end Vx

namespace Vx
open PySem PySem.Spec PyProof.Rows L2
/-! ### objects -/
section
variable {M : List Addr} {H0 G0 G H H' : Hp} {O : List Addr} {p m : Addr} {o : HO}
theorem gen_obj {x dx : Addr} {o1 o2 : HO} (nx : H x = none) (nd : H dx = none) (ne : dx ≠ x) (h : upd (upd H dx o1) x o2 = H') : Same H H' ∧ H' x = some o2 := by
  subst h
  exact ⟨fun b u e => by rw [upd_ne (ne_of_none e nx), upd_ne (ne_of_none e nd)]; exact e, upd_same⟩
theorem sameX_of {m : Addr} (x : SameXs [m] H H') : SameX m H H' := fun b o e n => x b o e (by simpa using n)
theorem g_ne {a b : Addr} (h : G a = some o) (S : Sep M H0 G0 G H O) (hb : b ∈ O) : a ≠ b := fun z => by
  have := (S.ow b hb).1
  rw [← z, h] at this
  cases this
/-- an object whose making has laid some lists -/
theorem Sep.mutnew (S : Sep M H0 G0 G H O) {L : List Addr} (x : SameXs L H H') (hL : ∀ a ∈ L, a ∈ O) (hs : ∀ a ∈ L, H' a ≠ none) (hn : H p = none) (hp : H' p ≠ none) (h0 : H0 p = none) : Sep M H0 G0 G H' (p :: O) := by
  have S1 := S.mut x hL hs
  refine ⟨S1.base, S1.pm, S1.sG, S1.g0, S1.gn, all_cons ⟨S.gfree hn, hp, .inr h0⟩ S1.ow⟩
theorem Sep.init (S : Sep M H0 G0 G H O) (x : SameX m H H') (hm : m ∈ O) (h : H' m = some o) (L : List Addr) (hL : ∀ a ∈ L, H a = none ∧ H' a ≠ none ∧ H0 a = none) : Sep M H0 G0 G H' (L ++ O) := by
  have S1 := S.mut1 x hm h
  refine ⟨S1.base, S1.pm, S1.sG, S1.g0, S1.gn, fun a ha => ?_⟩
  rcases List.mem_append.mp ha with z | z
  · obtain ⟨h1, h2, h3⟩ := hL a z
    exact ⟨S.gfree h1, h2, .inr h3⟩
  · exact S1.ow a z
end
section
variable {P : Program} {w : World} {K : PySem.W.Frag} {mg : Str → Option Value} {base : Heap}
structure MethIn (K : PySem.W.Frag) (C : Addr) (q m : Str) (st : Stmt) (ps : List Str) : Prop where
  ex : ∃ (f : Addr) (fd : FuncData), Fun K m q st f fd ∧ Meth K C m f ∧ Binds K fd ps []
structure PropIn (K : PySem.W.Frag) (C : Addr) (q m : Str) (st : Stmt) (ps : List Str) : Prop where
  ex : ∃ (r f : Addr) (fd : FuncData), Fun K m q st f fd ∧ PropOf K C m r f ∧ Binds K fd ps []
structure InitIn (K : PySem.W.Frag) (mg : Str → Option Value) (C : Addr) (cn q : Str) (st : Stmt) (ps : List Str) : Prop where
  ex : ∃ (f : Addr) (fd : FuncData), Fun K "__init__" q st f fd ∧ Mk K C f ∧ mg cn = some (.ref C) ∧ Binds K fd ps []
structure MetC (P : Program) (w : World) (K : PySem.W.Frag) (mg : Str → Option Value) (base : Heap) (k : Nat) (C : Addr) (m : Str) (sp : Sp) : Prop where
  ex : ∃ (f : Addr) (fd : FuncData) (ps : List Str), Cls K C ∧ Meth K C m f ∧ FnOk P w K mg base CX0 k f fd ps sp ∧ Binds K fd ps []
structure PropC (P : Program) (w : World) (K : PySem.W.Frag) (mg : Str → Option Value) (base : Heap) (k : Nat) (C : Addr) (m : Str) (sp : Sp) : Prop where
  ex : ∃ (q f : Addr) (fd : FuncData) (ps : List Str), Cls K C ∧ PropOf K C m q f ∧ FnOk P w K mg base CX0 k f fd ps sp ∧ Binds K fd ps []
structure MakC (P : Program) (w : World) (K : PySem.W.Frag) (mg : Str → Option Value) (base : Heap) (k : Nat) (cn : Str) (C : Addr) (sp : Sp) : Prop where
  ex : ∃ (f : Addr) (fd : FuncData) (ps : List Str), Mk K C f ∧ FnOk P w K mg base CX0 k f fd ps sp ∧ mg cn = some (.ref C) ∧ Binds K fd ps []
abbrev Body (P : Program) (w : World) (K : PySem.W.Frag) (mg : Str → Option Value) (base : Heap) (x : Str) (st : Stmt) (N : List Str) (k : Nat) (sp : Sp) : Prop :=
  ∀ (f : Addr) (cdv : Value) (A : Around) (outer : List Env) (s : Shared) (H : Hp) (vs : List V) (Q : VK) (E : XK), Room k (A.deeper (envOfC x (defScope st) s.heap.objs.size f cdv)) → sp vs H Q E →
    ∃ t, PSs (cxOf CX0 P w K mg base N x (defScope st) f cdv A outer s H E).nox (defBody st) t ∧ t { nx := fun _ H' => Q .non H', rt := Q } (start N vs) H
theorem MethIn.ok {C : Addr} {q m : Str} {st : Stmt} {N ps : List Str} {k : Nat} {sp : Sp} (D : MethIn K C q m st ps) (c : Cls K C) (S : FnScope N ps (defScope st)) (len : ∀ vs H Q E, sp vs H Q E → vs.length = ps.length)
    (hbody : Body P w K mg base q st N k sp) : MetC P w K mg base (k + 1) C m sp := by
  obtain ⟨f, fd, F, me, b⟩ := D.ex
  exact ⟨f, fd, ps, c, me, F.ok S len (fun cdv A outer s H vs Q E hr h => hbody f cdv A outer s H vs Q E hr h), b⟩
theorem PropIn.ok {C : Addr} {q m : Str} {st : Stmt} {N ps : List Str} {k : Nat} {sp : Sp} (D : PropIn K C q m st ps) (c : Cls K C) (S : FnScope N ps (defScope st)) (len : ∀ vs H Q E, sp vs H Q E → vs.length = ps.length)
    (hbody : Body P w K mg base q st N k sp) : PropC P w K mg base (k + 1) C m sp := by
  obtain ⟨r, f, fd, F, me, b⟩ := D.ex
  exact ⟨r, f, fd, ps, c, me, F.ok S len (fun cdv A outer s H vs Q E hr h => hbody f cdv A outer s H vs Q E hr h), b⟩
theorem InitIn.ok {C : Addr} {cn q : Str} {st : Stmt} {N ps : List Str} {k : Nat} {sp : Sp} (D : InitIn K mg C cn q st ps) (S : FnScope N ps (defScope st)) (len : ∀ vs H Q E, sp vs H Q E → vs.length = ps.length)
    (hbody : Body P w K mg base q st N k sp) : MakC P w K mg base (k + 1) cn C sp := by
  obtain ⟨f, fd, F, me, hm, b⟩ := D.ex
  exact ⟨f, fd, ps, me, F.ok S len (fun cdv A outer s H vs Q E hr h => hbody f cdv A outer s H vs Q E hr h), hm, b⟩
end
section
variable {X : Cx} {k j : Nat} {C : Addr} {x m : Str} {sp : Sp} {p pos apos : Pos} {e o : Expr} {es : List Expr} {ta : TE} {t : TA}
theorem vx_call0 (c : Cal X.prog X.w X.K X.mg X.base k x sp) (hr : Room j X.A) (hk : k ≤ j) (hg : Gl X x) (hdb : (x == ("__debug__" : Str)) = false := by decide) : PE X (.Call (.Name x p) [] [] pos) (tCall sp [] E0 tNil) := by
  obtain ⟨f, fd, ps, F, hm, kp, b⟩ := c.ex
  exact pe_call0 F (hr.mono hk) hg hm kp b .nil pass0 hdb
theorem vx_make (c : MakC X.prog X.w X.K X.mg X.base k x C sp) (hr : Room j X.A) (hk : k + 1 ≤ j) (hg : Gl X x) (ha : PA X (e :: es) t)
    (hdb : (x == ("__debug__" : Str)) = false := by decide) (he : starEach (e :: es) X.env = (false, eval e X.env) :: starEach es X.env := by rfl) (hpl : (backTo pos (starEach es X.env)).any (·.1) = false := by rfl) :
    PE X (.Call (.Name x p) (e :: es) [] pos) (tMake C sp [] E0 t) := by
  obtain ⟨f, fd, ps, M, F, hm, b⟩ := c.ex
  exact pe_make M F (hr.mono hk) hg hm b .nil pass0 ha hdb he hpl
theorem vx_make0 (c : MakC X.prog X.w X.K X.mg X.base k x C sp) (hr : Room j X.A) (hk : k + 1 ≤ j) (hg : Gl X x) (hdb : (x == ("__debug__" : Str)) = false := by decide) :
    PE X (.Call (.Name x p) [] [] pos) (tMake C sp [] E0 tNil) := by
  obtain ⟨f, fd, ps, M, F, hm, b⟩ := c.ex
  exact pe_make0 M F (hr.mono hk) hg hm b .nil pass0 hdb
theorem vx_meth {pl : Sem Bool} (c : MetC X.prog X.w X.K X.mg X.base k C m sp) (hr : Room j X.A) (hk : k ≤ j) (he : PE X o ta) (ha : PA X (e :: es) t)
    (hst : starEach (e :: es) X.env = (false, eval e X.env) :: starEach es X.env := by rfl) (hpl : (backTo pos (starEach es X.env)).any (·.1) = false := by rfl)
    (ht : eval (.Call (.Attribute o m apos) (e :: es) [] pos) X.env = (do
      let ov ← eval o X.env
      standAt apos.atName
      let (f, first) ← holding [ov] (getMethod ov m pl)
      callWith pos f first (backTo pos (starEach (e :: es) X.env)) (backToKw pos (keywordEach [] X.env))) := by rfl) :
    PE X (.Call (.Attribute o m apos) (e :: es) [] pos) (tMeth C m sp [] E0 ta t) := by
  obtain ⟨f, fd, ps, hc, hm, F, b⟩ := c.ex
  exact pe_meth he hc hm F (hr.mono hk) b .nil pass0 ha hst hpl ht
theorem vx_meth0 {pl : Sem Bool} (c : MetC X.prog X.w X.K X.mg X.base k C m sp) (hr : Room j X.A) (hk : k ≤ j) (he : PE X o ta)
    (ht : eval (.Call (.Attribute o m apos) [] [] pos) X.env = (do
      let ov ← eval o X.env
      standAt apos.atName
      let (f, first) ← holding [ov] (getMethod ov m pl)
      callWith pos f first (backTo pos (starEach [] X.env)) (backToKw pos (keywordEach [] X.env))) := by rfl) :
    PE X (.Call (.Attribute o m apos) [] [] pos) (tMeth C m sp [] E0 ta tNil) := by
  obtain ⟨f, fd, ps, hc, hm, F, b⟩ := c.ex
  exact pe_meth0 he hc hm F (hr.mono hk) b .nil pass0 ht
theorem vx_prop (c : PropC X.prog X.w X.K X.mg X.base k C m sp) (hr : Room j X.A) (hk : k + 1 ≤ j) (he : PE X o ta) (hab : attributeBase o m X.env (eval o X.env) = eval o X.env) : PE X (.Attribute o m pos) (tProp C sp [] E0 ta) := by
  obtain ⟨q, f, fd, ps, hc, hp, F, b⟩ := c.ex
  exact pe_prop he hc hp F (hr.mono hk) b .nil pass0 hab
end
theorem iteBNT {b : Bool} {A B : Prop} (h : b = false) (k : A) : if (!b) = true then A else B := by rw [h]; exact iteT k
theorem iteNN {b : Bool} {A B : Prop} (h : if b = true then A else B) : if (!!b) = true then A else B := by rw [Bool.not_not]; exact h
theorem iteBNF {b : Bool} {A B : Prop} (h : b = true) (k : B) : if (!b) = true then A else B := by rw [h]; exact iteF k
theorem shl_side {i j : Int} (h0 : 0 ≤ j) (h1 : j ≤ 4096) (h2 : -(2 ^ 4096) < i) (h3 : i < 2 ^ 4096) : CShl i j := by
  obtain ⟨k, rfl⟩ := Int.eq_ofNat_of_zero_le h0
  exact shl_ok (n := 4096) (by omega) (by omega)
end Vx

namespace Vx
open PySem PySem.Spec PyProof.Rows L2
section
variable {X : Cx} {K : PySem.W.Frag}
theorem fldK {e : Expr} {f : Str} {pos : Pos} {ta : TE} (he : PE X e ta) (hb : attributeBase e f X.env (eval e X.env) = eval e X.env := by rfl) (hK : X.K = K := by rfl) : PE X (.Attribute e f pos) (tFld K ta f) := hK ▸ pe_fld he hb
theorem pg_tupK {es : List Expr} {k : Nat} {t : TGs} {n : Nat} {pos : Pos} (h : PGs X es t) (hc : X.calm = true := by rfl)
    (hn : (assignEach es X.env).length = n := by rfl) (hst : (assignEach es X.env).findIdx? (·.1) = none := by rfl) (hK : X.K = K := by rfl) : PG X (.Tuple es k pos) (gTup K n t) := hK ▸ pg_tup hc h hn hst
end
end Vx

namespace Vx
open PySem PySem.Spec PyProof.Rows L2
section
variable {α β : Type} {f : α → PyData} {g : β → PyData} {fv : α → V} {gv : β → V} {G : Hp} {vs ws : List V} {xs : List α} {ys : List β}
theorem big1 {n : Nat} (h : n ≤ 1000000) : n ≤ sizeLine := smallE h
theorem cat_len (a : RpAll G vs (xs.map f)) (b : RpAll G ws (ys.map g)) (h : xs.length + ys.length ≤ 1000000) : vs.length + ws.length ≤ sizeLine := by
  rw [a.len, b.len, List.length_map, List.length_map]; exact smallE h
theorem cat_lenM (h : xs.length + ys.length ≤ 1000000) : (xs.map fv).length + (ys.map gv).length ≤ sizeLine := by
  rw [List.length_map, List.length_map]; exact smallE h
theorem rep_len {k : Nat} (a : RpAll G vs (xs.map f)) (h : xs.length * k ≤ 1000000) : vs.length * k ≤ sizeLine := by
  rw [a.len, List.length_map]; exact smallE h
theorem rep_lenM {k : Nat} (h : xs.length * k ≤ 1000000) : (xs.map fv).length * k ≤ sizeLine := by
  rw [List.length_map]; exact smallE h
theorem app_len (a : RpAll G vs (xs.map f)) (h : xs.length ≤ 1000000) : vs.length < sizeLine := by
  rw [a.len, List.length_map]; exact small h
theorem app_lenM (h : xs.length ≤ 1000000) : (xs.map fv).length < sizeLine := by
  rw [List.length_map]; exact small h
theorem cutL_len {α : Type} (xs : List α) (lo hi : Option Int) : (cutL xs lo hi).length ≤ xs.length := by
  unfold cutL
  rw [List.length_take, List.length_drop]
  omega
theorem repL_len {α : Type} (xs : List α) (k : Int) : (repL xs k).length = k.toNat * xs.length := by
  unfold repL
  simp
end
end Vx
/-! # promises of defs that know that nothing is being shown (so that repr may be called) -/
namespace Vx
open PySem PySem.Spec PyProof.Rows L2
structure RoomG (k : Nat) (A : Around) : Prop extends Room k A where
  gd : A.guards = some []
theorem RoomG.low {j k : Nat} {A : Around} (r : RoomG k A) (h : j ≤ k) : RoomG j A := ⟨r.toRoom.mono h, r.gd⟩
theorem RoomG.one {k : Nat} {A : Around} (r : RoomG (k + 1) A) : RoomG k A.in1 := ⟨r.toRoom.in1, r.gd⟩
theorem make_gd {A : Around} (C : Addr) (us : List Value) (kw : List (Str × Value)) (h : A.guards = some []) : (A.under (.builtin "type.__call__" ⟨.ref C :: us, kw⟩)).guards = some [] := by
  obtain ⟨hd, d, fr, gs, u⟩ := A
  subst h
  simp [Around.under, Code.guards, Code.isGuard, guardIds, pushGuards]
theorem RoomG.made {k : Nat} {A : Around} (r : RoomG (k + 1) A) (C : Addr) (us : List Value) (kw : List (Str × Value)) : RoomG k (A.under (.builtin "type.__call__" ⟨.ref C :: us, kw⟩)) := ⟨r.toRoom.make C us kw, make_gd C us kw r.gd⟩
structure FnG (P : Program) (w : World) (K : PySem.W.Frag) (mg : Str → Option Value) (base : Heap) (cx : CXT) (k : Nat) (f : Addr) (fd : FuncData) (ps : List Str) (sp : Sp) : Prop where
  len : ∀ vs H Q E, sp vs H Q E → vs.length = ps.length
  run : ∀ (A : Around) (outer : List Env) (s : Shared) (H : Hp) (args : Args) (us : List Value) (vs : List V) (Q : VK) (E : XK), RoomG k A → Env0 P w K mg base A outer s H → BindsTo s fd args (ps.zip us) → Vals vs us → sp vs H Q E → codeAny (model P w) A (.call (.ref f) args) (CR cx outer P w H s Q E) s
section
variable {P : Program} {w : World} {K : PySem.W.Frag} {mg : Str → Option Value} {base : Heap} {cx : CXT} {j k : Nat} {f : Addr} {fd : FuncData} {ps : List Str} {sp sp' : Sp}
theorem FnG.imp (F : FnG P w K mg base cx k f fd ps sp) (h : ∀ vs H Q E, sp' vs H Q E → sp vs H Q E) : FnG P w K mg base cx k f fd ps sp' := ⟨fun vs H Q E q => F.len vs H Q E (h vs H Q E q), fun A o s H a us vs Q E r e b v q => F.run A o s H a us vs Q E r e b v (h vs H Q E q)⟩
/-- the body's promise is the def's -/
theorem FnG.body {x qual : Str} {params : Arguments} {body : List Stmt} {scope : Scope} {dvs : List V} {kws : List (Str × V)} {N : List Str} (F : FunD K x qual params body scope dvs kws f fd) (S : FnScope N ps scope) (len : ∀ vs H Q E, sp vs H Q E → vs.length = ps.length)
    (hb : ∀ (cdv : Value) (A : Around) (outer : List Env) (s : Shared) (H : Hp) (vs : List V) (Q : VK) (E : XK), RoomG k (A.deeper (envOfC qual scope s.heap.objs.size f cdv)) → sp vs H Q E →
      ∃ t, PSs (cxOf cx P w K mg base N qual scope f cdv A outer s H E) body t ∧ t { nx := fun _ H' => Q .non H', rt := Q } (start N vs) H) : FnG P w K mg base cx (k + 1) f fd ps sp := by
  obtain ⟨oc, od, dV, kV, doc, pm, an, cdv, ct, osl, rfl, lk, code, _, _⟩ := F.ex
  constructor
  · exact len
  · intro A outer s H args us vs Q E room env binds vals prom
    have nvs := len vs H Q E prom
    have kin : K.In s.heap := env.mod.kin.keeps fun b o q => (env.bs b o q).1
    have nolim : s.heap.NoLimit := env.mod.nolimit.keeps fun b o q => (env.bs b o q).1
    have kinds : ∀ q ∈ ps.zip us, scope.names.lookup q.1 = some .local ∨ (scope.names.lookup q.1 = some .cell ∧ ((cellsFrom (s.heap.objs.size + 1) scope.names []).lookup q.1).isSome = true) := by
      rintro ⟨n, v⟩ hq
      cases S.par n (List.of_mem_zip hq).1 with
      | inl z => exact .inl z
      | inr z => exact .inr ⟨z, PySem.W.cellsFrom_some _ _ _ (.inl z)⟩
    refine codeAny_call_function room.toRoom.depth (kin _ _ lk) rfl S.co S.gen rfl (PySem.W.codeRec_of kin code) (binds _ _ _ _ ?_)
    refine wpAny_newFunctionEnv_cells S.kind kinds ?_
    rintro _ rfl s1 made
    refine ⟨nolim.keeps made.toInCall.keep, codeAny_func ?_⟩
    obtain ⟨t, pss, start_⟩ := hb cdv A outer s H vs Q E ⟨room.toRoom.deeper _, room.gd⟩ prom
    have inv := inv_start (CX := cx) (E := E) S room.hd env nvs vals made
    have close : ∀ {τ : L2.St} {H2 : Hp} {v : V} {u : Value} {s2 : Shared}, Inv (cxOf cx P w K mg base N qual scope f cdv A outer s H E) [] τ H2 s2 → RelV v u → Q v H2 → CE outer P w H s Q u s2 := fun inv2 rel q => ⟨_, _, inv2.os, inv2.bare, inv2.base, inv2.hok, rel, q⟩
    refine wpAny_mono (pss.run [] s1 (start N vs) H _ inv start_) ?_ fun _ _ z => z
    intro flow s2 out
    cases flow with
    | next =>
      obtain ⟨τ, H2, inv2, q⟩ := out
      exact close (v := .non) (u := .none) inv2 rfl q
    | ret u =>
      obtain ⟨v, τ, H2, inv2, rel, q⟩ := out
      exact close inv2 rel q
    | brk =>
      obtain ⟨_, _, _, q⟩ := out
      exact q.elim
    | cont =>
      obtain ⟨_, _, _, q⟩ := out
      exact q.elim
/-- the same of a body that nothing leaves -/
theorem FnG.bodyN {x qual : Str} {params : Arguments} {body : List Stmt} {scope : Scope} {dvs : List V} {kws : List (Str × V)} {N : List Str} (F : FunD K x qual params body scope dvs kws f fd) (S : FnScope N ps scope) (len : ∀ vs H Q E, sp vs H Q E → vs.length = ps.length)
    (hb : ∀ (cdv : Value) (A : Around) (outer : List Env) (s : Shared) (H : Hp) (vs : List V) (Q : VK) (E : XK), RoomG k (A.deeper (envOfC qual scope s.heap.objs.size f cdv)) → sp vs H Q E →
      ∃ t, PSs (cxOf CX0 P w K mg base N qual scope f cdv A outer s H E).nox body t ∧ t { nx := fun _ H' => Q .non H', rt := Q } (start N vs) H) : FnG P w K mg base CX0 (k + 1) f fd ps sp :=
  FnG.body F S len fun cdv A outer s H vs Q E r p => by
    obtain ⟨t, h, q⟩ := hb cdv A outer s H vs Q E r p
    exact ⟨t, h.nox, q⟩
end
/-- where a law's call begins: an abstract heap that tells the script at most -/
theorem law_start {P : Program} {w : World} {K : PySem.W.Frag} {mg mb : Str → Option Value} {a : Addr} {s : Shared} {vs : List Value} {ns : List Int} (kin : K.In s.heap) (top : s.heap.Ns mainGlobals mg) (blt : s.heap.Ns builtinsNs mb) (boot : ∀ y : Str, y ≠ "__name__" → mb y = bootBuiltins y)
    (lim : s.heap.NoLimit) (gens : s.gens = #[]) (script : s.heap.get? a = some { cls := .type "list", data := .seq vs.toArray }) (whole : IntsAre vs ns) (short : ns.length ≤ sizeLine) :
    ∃ (H : Hp) (base : Heap), SqL K H a (ns.map V.int) ∧ K.In base ∧ base.Ns mainGlobals mg ∧ Env0 P w K mg base callerA [] s H ∧
      ∀ (Z : V → Prop) (u : Value) (s2 : Shared), CE [] P w H s (fun v _ => Z v) u s2 → (∃ v, RelV v u ∧ Z v) ∧ OldK s.heap s2.heap ∧ s2.os = s.os ∧ AllBare s2.gens := by
  have rel := vals_ints whole
  have lenV := whole.length
  -- any H that tells no more than the script, and that only where the written part does not hold it, will do
  have fits : ∀ H : Hp, (∀ b, H b = none ∨ ∃ o xs, H b = some (.frz o (.lst xs))) → SqL K H a (ns.map V.int) → HOk P w H s.heap → (∀ b, b ≠ a → H b = none) → (∀ o, K.lookup a = some o → H a = none) →
      ∃ (H : Hp) (base : Heap), SqL K H a (ns.map V.int) ∧ K.In base ∧ base.Ns mainGlobals mg ∧ Env0 P w K mg base callerA [] s H ∧
        ∀ (Z : V → Prop) (u : Value) (s2 : Shared), CE [] P w H s (fun v _ => Z v) u s2 → (∃ v, RelV v u ∧ Z v) ∧ OldK s.heap s2.heap ∧ s2.os = s.os ∧ AllBare s2.gens := by
    intro H only seq ok else_ apart
    have dictFree : ∀ (b : Addr) (o : Obj) (es : Array DictEntry) (n : Nat), s.heap.get? b = some o → o.data = .dict es n → H b = none := by
      intro b o es n e d
      by_cases z : b = a
      · subst z
        rw [script] at e
        injection e with e
        subst e
        cases d
      · exact else_ b z
    have nsOf : ∀ {b : Addr} {m : Str → Option Value}, s.heap.Ns b m → (hidT s.heap H).Ns b m := by
      rintro b m ⟨o, es, n, e, d, r⟩
      exact ⟨o, es, n, hidT_get e (dictFree b o es n e d), d, r⟩
    have kinB : K.In (hidT s.heap H) := by
      intro b o e
      refine hidT_get (kin b o e) ?_
      by_cases z : b = a
      · subst z
        exact apart o e
      · exact else_ b z
    obtain ⟨mc, lim1, lim2⟩ := lim
    refine ⟨H, hidT s.heap H, seq, kinB, nsOf top, ⟨rfl, ⟨kinB, nsOf top, ⟨mb, nsOf blt, boot⟩, mc, nsOf lim1, lim2⟩, fun b o e => of_hidT e, Nat.le_of_eq (hidT_size _ _), trivial, fun b hb => (nomatch (show b ∈ ([] : List Addr) from hb)), ok, .of_eq gens⟩, ?_⟩
    rintro Z u s2 ⟨v, H2, os, bare, un, ok2, r, z⟩
    refine ⟨⟨v, r, z⟩, OldK.of_keep fun b o e => ?_, os, bare⟩
    rcases only b with n | ⟨o1, xs, n⟩
    · exact un.keep b o e n (fun y => nomatch (show b ∈ ([] : List Addr) from y)) (fun y => nomatch y)
    · obtain ⟨e1, _⟩ := ok b _ n
      obtain ⟨e2, _⟩ := ok2 b _ (un.frzs b o1 _ n)
      rw [e] at e1
      injection e1 with e1
      subst e1
      exact e2
  cases kl : K.lookup a with
  | some o =>
    have e := kin a o kl
    rw [script] at e
    injection e with e
    subst e
    exact fits (fun _ => none) (fun _ => .inl rfl) (.inr ⟨_, vs.toArray, _, kl, rfl, rfl, rfl, by rw [List.size_toArray, lenV]; exact short, by simpa using rel⟩) (fun _ _ z => nomatch z) (fun _ _ => rfl) fun _ _ => rfl
  | none =>
    refine fits (fun b => if b = a then some (.frz { cls := .type "list", data := .seq vs.toArray } (.lst (ns.map V.int))) else none) ?_ (.inl (.inr ⟨_, if_pos rfl⟩)) ?_ (fun b n => if_neg n) fun o z => ?_
    · intro b
      by_cases z : b = a
      · exact .inr ⟨_, _, if_pos z⟩
      · exact .inl (if_neg z)
    · intro b u q
      by_cases z : b = a
      · subst z
        have q := (if_pos rfl).symm.trans q
        injection q with q
        subst q
        exact ⟨script, by rw [List.length_map]; exact short, vs, _, rel, script⟩
      · have q := (if_neg z).symm.trans q
        cases q
    · rw [kl] at z
      cases z
/-- the goal that the head leaves, from the law's promise; the script's numbers have at most 2 ^ 20 bits -/
theorem walkG {l : PySem.W.OpenLaw} {n k : Nat} {q : Program} {loose : List Str} {XP : (Str → Option Value) → Heap → Prop} {YP : World → Heap → Prop} {d : DefRec} {K : Params → PySem.W.Frag} {x : Str} (hn : l.most = some n) (hn2 : n ≤ sizeLine) (hdf : d.params.defaults = []) (room : Room k callerA)
    (hY : ∀ (w : World) (h : Heap), YP w h → (K w.params).In h)
    (F : ∀ (w : World) (mg : Str → Option Value) (fa : Addr) (h : Heap), (K w.params).In h → h.Ns mainGlobals mg → mg d.name = some (.ref fa) →
      ∃ fd : FuncData, (∀ (s : Shared) (u : Value), BindsTo s fd ⟨[u], []⟩ [(x, u)]) ∧ ∀ base : Heap, (K w.params).In base → base.Ns mainGlobals mg → FnG l.prog w (K w.params) mg base CX0 k fa fd [x] (fun vs H Q _ => ∃ (a : Addr) (ns : List Int), vs = [.ref a] ∧ SqL (K w.params) H a (ns.map V.int) ∧ ns.length ≤ n ∧ ∀ H', Q (.bl true) H')) :
    PySem.W.WalkO q loose XP YP l.row.toRowW d [] (fun f vs => PySem.call f vs) := by
  refine Att.attach_call hn hdf ?_
  intro w s₀ s₁ mg mb fa o pm cd doc a vs ns G Y _ _ _ hmg script whole short gens
  have kin := hY w _ Y
  obtain ⟨fd, bind, prom⟩ := F w mg fa _ kin G.T.g hmg
  obtain ⟨H, base, seq, kinB, nsB, env, fin⟩ := law_start (P := l.prog) (w := w) kin G.T.g G.T.b G.T.builtins G.T.nolimit gens script whole (Nat.le_trans short hn2)
  refine codeAny_mono ((prom base kinB nsB).run callerA [] s₁ H ⟨[.ref a], []⟩ [.ref a] [.ref a] (fun v _ => v = .bl true) (fun _ _ _ => False) ⟨room, rfl⟩ env (bind s₁ (.ref a)) (.cons rfl .nil) ⟨a, ns, rfl, seq, short, fun _ => rfl⟩) ?_
  intro r s2 out
  cases r with
  | error e => exact out.elim
  | ok flow =>
    cases flow with
    | ret u =>
      obtain ⟨⟨v, rv, z⟩, h1, h2, h3⟩ := fin (fun v => v = .bl true) u s2 out
      subst z
      obtain rfl : u = Value.bool true := rv
      exact ⟨rfl, h1, h2, h3⟩
    | next => exact out.elim
    | brk => exact out.elim
    | cont => exact out.elim
end Vx
/-! # third part: what a def computes, as a plain function with refusals -/
namespace Vx
open PySem PySem.Spec PyProof.Rows L2
inductive Rx (α : Type) where
  | ok (a : α)
  | er (e : Nat)
  | bad
def Rx.bind {α β : Type} (m : Rx α) (f : α → Rx β) : Rx β :=
  match m with
  | .ok a => f a
  | .er e => .er e
  | .bad => .bad
/-- what is wanted of an outcome -/
@[irreducible] def cW {α : Type} (m : Rx α) (K : α → Prop) (E : Nat → Prop) : Prop :=
  match m with
  | .ok a => K a
  | .er e => E e
  | .bad => False
def grd {α : Type} (p : Prop) [Decidable p] (m : Rx α) : Rx α := if p then m else .bad
/-- within a comprehension nothing may be raised -/
def noEr {α : Type} (m : Rx α) : Rx α :=
  match m with
  | .ok a => .ok a
  | _ => .bad
/-- what the clause does not name may not come -/
def tryR {α β : Type} (m : Rx α) (cs : List Nat) (f : α → Rx β) (h : Nat → Rx β) : Rx β :=
  match m with
  | .ok a => f a
  | .er e => if e ∈ cs then h e else .bad
  | .bad => .bad
def bnd {α β : Type} (a : α) (f : α → Rx β) : Rx β := f a
inductive Lp (σ ρ : Type) where
  | go (s : σ)
  | bk (s : σ)
  | rt (r : ρ)
def Lp.aft {σ ρ τ : Type} (l : Lp σ ρ) (kr : ρ → Rx τ) (k : σ → Rx τ) : Rx τ :=
  match l with
  | .go s => k s
  | .bk s => k s
  | .rt r => kr r
def forS {σ α : Type} : List α → σ → (σ → α → Rx σ) → Rx σ
  | [], s, _ => .ok s
  | x :: r, s, f => (f s x).bind fun s' => forS r s' f
def forR {σ α ρ : Type} : List α → σ → (σ → α → Rx (Lp σ ρ)) → Rx (Lp σ ρ)
  | [], s, _ => .ok (.go s)
  | x :: r, s, f => (f s x).bind fun l =>
    match l with
    | .go s' => forR r s' f
    | .bk s' => .ok (.go s')
    | .rt v => .ok (.rt v)
def whileR {σ ρ : Type} : Nat → σ → (σ → Rx (Lp σ ρ)) → Rx (Lp σ ρ)
  | 0, _, _ => .bad
  | n + 1, s, f => (f s).bind fun l =>
    match l with
    | .go s' => whileR n s' f
    | .bk s' => .ok (.go s')
    | .rt v => .ok (.rt v)
def mapA {α β : Type} : List α → List β → (α → Rx β) → Rx (List β)
  | [], acc, _ => .ok acc
  | x :: r, acc, f => grd (acc.length ≤ 1000000) ((f x).bind fun y => mapA r (acc ++ [y]) f)
def mapF {α β : Type} : List α → List β → (α → Rx (Option β)) → Rx (List β)
  | [], acc, _ => .ok acc
  | x :: r, acc, f => grd (acc.length ≤ 1000000) ((f x).bind fun y =>
    match y with
    | some z => mapF r (acc ++ [z]) f
    | none => mapF r acc f)
section
variable {α β γ σ ρ τ : Type} {K : α → Prop} {E : Nat → Prop}
theorem cW_ok {a : α} (h : cW (.ok a) K E) : K a := by
  unfold cW at h
  exact h
theorem cW_er {e : Nat} (h : cW (.er e : Rx α) K E) : E e := by
  unfold cW at h
  exact h
theorem cW_bad {C : Prop} (h : cW (.bad : Rx α) K E) : C := by
  unfold cW at h
  exact h.elim
theorem cW_mk {a : α} (h : K a) : cW (.ok a) K E := by
  unfold cW
  exact h
theorem cW_mkE {e : Nat} (h : E e) : cW (.er e : Rx α) K E := by
  unfold cW
  exact h
theorem cW_gen {m : Rx α} (h : cW m K E) : ∃ (K' : α → Prop) (E' : Nat → Prop), (∀ v, K' v → K v) ∧ (∀ e, E' e → E e) ∧ cW m K' E' := ⟨K, E, fun _ x => x, fun _ x => x, h⟩
theorem cW_grd {p : Prop} {dp : Decidable p} {m : Rx α} (h : cW (grd p m) K E) : p ∧ cW m K E := by
  unfold grd at h
  split at h
  · exact ⟨‹p›, h⟩
  · exact cW_bad h
theorem cW_pos {p : Prop} {dp : Decidable p} {a b : Rx α} (c : p) (h : cW (if p then a else b) K E) : cW a K E := by rwa [if_pos c] at h
theorem cW_neg {p : Prop} {dp : Decidable p} {a b : Rx α} (c : ¬ p) (h : cW (if p then a else b) K E) : cW b K E := by rwa [if_neg c] at h
theorem cW_call {m : Rx β} {f : β → Rx α} {K2 : β → Prop} {E2 : Nat → Prop} (h : cW (m.bind f) K E) (ho : ∀ v, cW (f v) K E → K2 v) (he : ∀ e, E e → E2 e) : cW m K2 E2 := by
  cases m with
  | ok a => exact cW_mk (ho a h)
  | er e => exact cW_mkE (he e (cW_er (α := α) h))
  | bad => exact cW_bad (α := α) h
theorem cW_push {m : Rx β} {f : β → Rx α} (h : cW (m.bind f) K E) : ∃ K2 : β → Prop, (∀ v, K2 v → cW (f v) K E) ∧ cW m K2 E := ⟨fun v => cW (f v) K E, fun _ x => x, cW_call h (fun _ x => x) fun _ x => x⟩
theorem cW_name {m : Rx α} (h : cW m K E) : ∃ K' : α → Prop, (∀ v, K' v → K v) ∧ cW m K' E := ⟨K, fun _ x => x, h⟩
theorem cW_noEr {m : Rx α} (h : cW (noEr m) K E) : cW m K (fun _ => False) := by
  cases m with
  | ok a => exact cW_mk (cW_ok (α := α) h)
  | er e => exact cW_bad (α := α) h
  | bad => exact cW_bad (α := α) h
theorem cW_try {m : Rx β} {cs : List Nat} {f : β → Rx α} {g : Nat → Rx α} {K2 : β → Prop} {E2 : Nat → Prop} (h : cW (tryR m cs f g) K E) (ho : ∀ v, cW (f v) K E → K2 v) (hc : ∀ e, e ∈ cs → cW (g e) K E → E2 e) : cW m K2 E2 := by
  cases m with
  | ok a => exact cW_mk (ho a h)
  | er e =>
    have h2 : cW (if e ∈ cs then g e else .bad) K E := h
    by_cases q : e ∈ cs
    · exact cW_mkE (hc e q (cW_pos q h2))
    · exact cW_bad (cW_neg q h2)
  | bad => exact cW_bad (α := α) h
theorem cW_bnd {a : β} {f : β → Rx α} (h : cW (bnd a f) K E) : cW (f a) K E := h
theorem cW_negB {b : Bool} {x y : Rx α} (c : b = false) (h : cW (if b = true then x else y) K E) : cW y K E := cW_neg (by rw [c]; decide) h
theorem cW_forS {xs : List β} {i : Nat} {x : β} {s : α} {f : α → β → Rx α} (hx : xs[i]? = some x) (h : cW (forS (xs.drop i) s f) K E) : cW (f s x) (fun s' => cW (forS (xs.drop (i + 1)) s' f) K E) E := by
  rw [List.drop_eq_getElem?_toList_append, hx] at h
  exact cW_call h (fun _ z => z) fun _ z => z
theorem cW_forS0 {xs : List β} {n : Nat} {s : α} {f : α → β → Rx α} (hn : n = xs.length) (h : cW (forS (xs.drop n) s f) K E) : K s := by
  subst hn
  rw [List.drop_length] at h
  exact cW_ok h
theorem cW_forR {K : Lp σ ρ → Prop} {xs : List β} {i : Nat} {x : β} {s : σ} {f : σ → β → Rx (Lp σ ρ)} (hx : xs[i]? = some x) (h : cW (forR (xs.drop i) s f) K E) :
    cW (f s x) (fun l => match l with | .go s' => cW (forR (xs.drop (i + 1)) s' f) K E | .bk s' => K (.go s') | .rt v => K (.rt v)) E := by
  rw [List.drop_eq_getElem?_toList_append, hx] at h
  refine cW_call h (fun l z => ?_) fun _ z => z
  cases l with
  | go s' => exact z
  | bk s' => exact cW_ok (K := K) (a := .go s') z
  | rt v => exact cW_ok (K := K) (a := .rt v) z
theorem cW_forR0 {K : Lp σ ρ → Prop} {xs : List β} {n : Nat} {s : σ} {f : σ → β → Rx (Lp σ ρ)} (hn : n = xs.length) (h : cW (forR (xs.drop n) s f) K E) : K (.go s) := by
  subst hn
  rw [List.drop_length] at h
  exact cW_ok h
theorem cW_whileR {K : Lp σ ρ → Prop} {m : Nat} {s : σ} {f : σ → Rx (Lp σ ρ)} (h : cW (whileR m s f) K E) :
    ∃ n, m = n + 1 ∧ cW (f s) (fun l => match l with | .go s' => cW (whileR n s' f) K E | .bk s' => K (.go s') | .rt v => K (.rt v)) E := by
  cases m with
  | zero => exact cW_bad h
  | succ n =>
    refine ⟨n, rfl, cW_call h (fun l z => ?_) fun _ z => z⟩
    cases l with
    | go s' => exact z
    | bk s' => exact cW_ok (K := K) (a := .go s') z
    | rt v => exact cW_ok (K := K) (a := .rt v) z
theorem cW_mapA {K : List α → Prop} {xs : List β} {acc : List α} {i : Nat} {x : β} {f : β → Rx α} (hx : xs[i]? = some x) (h : cW (mapA (xs.drop i) acc f) K E) :
    acc.length ≤ 1000000 ∧ cW (f x) (fun y => cW (mapA (xs.drop (i + 1)) (acc ++ [y]) f) K E) E := by
  rw [List.drop_eq_getElem?_toList_append, hx] at h
  obtain ⟨z, h⟩ := cW_grd h
  exact ⟨z, cW_call h (fun _ z => z) fun _ z => z⟩
theorem cW_mapA0 {K : List α → Prop} {xs : List β} {acc : List α} {n : Nat} {f : β → Rx α} (hn : n = xs.length) (h : cW (mapA (xs.drop n) acc f) K E) : K acc := by
  subst hn
  rw [List.drop_length] at h
  exact cW_ok h
theorem cW_mapF {K : List α → Prop} {xs : List β} {acc : List α} {i : Nat} {x : β} {f : β → Rx (Option α)} (hx : xs[i]? = some x) (h : cW (mapF (xs.drop i) acc f) K E) :
    acc.length ≤ 1000000 ∧ cW (f x) (fun y => match y with | some z => cW (mapF (xs.drop (i + 1)) (acc ++ [z]) f) K E | none => cW (mapF (xs.drop (i + 1)) acc f) K E) E := by
  rw [List.drop_eq_getElem?_toList_append, hx] at h
  obtain ⟨z, h⟩ := cW_grd h
  refine ⟨z, cW_call h (fun y z => ?_) fun _ z => z⟩
  cases y with
  | none => exact z
  | some w => exact z
theorem cW_mapF0 {K : List α → Prop} {xs : List β} {acc : List α} {n : Nat} {f : β → Rx (Option α)} (hn : n = xs.length) (h : cW (mapF (xs.drop n) acc f) K E) : K acc := by
  subst hn
  rw [List.drop_length] at h
  exact cW_ok h
end
/-- the numbers of a range -/
def rng (lo : Int) (n : Nat) : List Int := (List.range n).map fun (j : Nat) => lo + (j : Int)
theorem rng_get {lo : Int} {n i : Nat} (h : i < n) : (rng lo n)[i]? = some (lo + (i : Int)) := by
  unfold rng
  rw [List.getElem?_map, List.getElem?_range h] <;> rfl
theorem rng_len (lo : Int) (n : Nat) : (rng lo n).length = n := by
  unfold rng
  rw [List.length_map, List.length_range]

def rngD (lo : Int) (n : Nat) : List Int := (List.range n).map fun (j : Nat) => lo + (j : Int) * (-1)
theorem rngD_get {lo : Int} {n i : Nat} (h : i < n) : (rngD lo n)[i]? = some (lo + (i : Int) * (-1)) := by
  unfold rngD
  rw [List.getElem?_map, List.getElem?_range h] <;> rfl
theorem rngD_len (lo : Int) (n : Nat) : (rngD lo n).length = n := by
  unfold rngD
  rw [List.length_map, List.length_range]

/-! ### calls that may raise -/
/-- what a call with n values and keywords ks gives the parameters -/
structure Bnd (K : PySem.W.Frag) (fd : FuncData) (ps : List Str) (n : Nat) (ks : List Str) (g : List V → List V → List V) : Prop where
  to : ∀ (s : Shared) (us ws : List Value) (vs zs : List V), K.In s.heap → vs.length = n → zs.length = ks.length → Vals vs us → Vals zs ws → ∃ vv : List Value, BindsTo s fd ⟨us, ks.zip ws⟩ (ps.zip vv) ∧ Vals (g vs zs) vv
theorem Bnd.of_kbn {K : PySem.W.Frag} {fd : FuncData} {ps ks : List Str} {n : Nat} {g : List Value → List Value → List Value} {gV : List V → List V → List V} (b : KBn K fd ps n ks g gV) : Bnd K fd ps n ks gV :=
  ⟨fun s us ws vs zs X l1 l2 r rz => ⟨g us ws, b.to s us ws X (r.length.symm.trans l1) (rz.length.symm.trans l2), b.rel r rz⟩⟩
theorem Bnd.all {K : PySem.W.Frag} {fd : FuncData} {ps ks : List Str} {n : Nat} {g : List V → List V → List V} (h : ∀ (us ws : List Value) (vs zs : List V), vs.length = n → zs.length = ks.length → Vals vs us → Vals zs ws →
    ∃ vv : List Value, bindArgs fd ⟨us, ks.zip ws⟩ = pure (ps.zip vv) ∧ Vals (g vs zs) vv) : Bnd K fd ps n ks g :=
  ⟨fun s us ws vs zs _ l1 l2 r rz => by
    obtain ⟨vv, e, q⟩ := h us ws vs zs l1 l2 r rz
    exact ⟨vv, BindsTo.of_eq e, q⟩⟩
abbrev Pat := Nat × List Str × (List V → List V → List V)
def Bnd1 (K : PySem.W.Frag) (fd : FuncData) (ps : List Str) (p : Pat) : Prop := Bnd K fd ps p.1 p.2.1 p.2.2
section
variable {P : Program} {w : World} {K : PySem.W.Frag} {mg : Str → Option Value} {base : Heap}
/-- a def of the top, with the ways it is called -/
structure DefX (K : PySem.W.Frag) (mg : Str → Option Value) (x : Str) (st : Stmt) (ps : List Str) (pats : List Pat) : Prop where
  ex : ∃ (f : Addr) (fd : FuncData) (dvs : List V) (kws : List (Str × V)), FunD K x x (defArgs st) (defBody st) (defScope st) dvs kws f fd ∧ mg x = some (.ref f) ∧ ∀ p ∈ pats, Bnd1 K fd ps p
structure CalX (P : Program) (w : World) (K : PySem.W.Frag) (mg : Str → Option Value) (base : Heap) (k : Nat) (x : Str) (sp : Sp) (pats : List Pat) : Prop where
  ex : ∃ (f : Addr) (fd : FuncData) (ps : List Str), FnG P w K mg base (L2.CX P w) k f fd ps sp ∧ mg x = some (.ref f) ∧ PySem.W.keepIn K (.ref f) = true ∧ ∀ p ∈ pats, Bnd1 K fd ps p
abbrev BodyX (P : Program) (w : World) (K : PySem.W.Frag) (mg : Str → Option Value) (base : Heap) (x : Str) (st : Stmt) (N : List Str) (k : Nat) (sp : Sp) : Prop :=
  ∀ (f : Addr) (cdv : Value) (A : Around) (outer : List Env) (s : Shared) (H : Hp) (vs : List V) (Q : VK) (E : XK), RoomG k (A.deeper (envOfC x (defScope st) s.heap.objs.size f cdv)) → sp vs H Q E →
    ∃ t, PSs (cxOf (L2.CX P w) P w K mg base N x (defScope st) f cdv A outer s H E) (defBody st) t ∧ t { nx := fun _ H' => Q .non H', rt := Q } (start N vs) H
theorem DefX.ok {x : Str} {st : Stmt} {N ps : List Str} {pats : List Pat} {k : Nat} {sp : Sp} (D : DefX K mg x st ps pats) (S : FnScope N ps (defScope st)) (len : ∀ vs H Q E, sp vs H Q E → vs.length = ps.length)
    (hbody : BodyX P w K mg base x st N k sp) : CalX P w K mg base (k + 1) x sp pats := by
  obtain ⟨f, fd, dvs, kws, F, hm, b⟩ := D.ex
  exact ⟨f, fd, ps, FnG.body F S len (fun cdv A outer s H vs Q E hr h => hbody f cdv A outer s H vs Q E hr h), hm, F.kp, b⟩
end
section
variable {X : Cx} {k j n : Nat} {f : Addr} {fd : FuncData} {ps ks : List Str} {g : List V → List V → List V} {sp : Sp} {x : Str} {pos p : Pos} {e : Expr} {es : List Expr} {kws : List Keyword} {t tk : TA} {W : WX}
theorem run_X {pins : List (Addr × Obj)} {σ : L2.St} {H : Hp} {s : Shared} {Q : VK} {us ws : List Value} {vs zs : List V} (F : FnG X.prog X.w X.K X.mg X.base (L2.CX X.prog X.w) k f fd ps sp) (hr : RoomG k X.A) (hb : Bnd X.K fd ps n ks g) (tkW : Takes X W)
    (I : Inv X pins σ H s) (r : Vals vs us) (rz : Vals zs ws) (l1 : vs.length = n) (l2 : zs.length = ks.length) (h : sp (g vs zs) H Q (WE W σ)) :
    wpAny (model X.prog X.w) X.A (call (.ref f) us (ks.zip ws)) (EP X pins σ Q) X.xe s := by
  obtain ⟨vv, b, r2⟩ := hb.to s us ws vs zs I.kIn l1 l2 r rz
  refine wpAny_call (codeAny_mono (F.run X.A X.stack s H ⟨us, ks.zip ws⟩ vv (g vs zs) Q (WE W σ) hr I.env0 b r2 h) fun rr s' hq => ?_)
  cases rr with
  | error er => exact passAt tkW σ pins H s er s' I hq
  | ok fl =>
    cases fl with
    | ret u => exact I.after hq
    | next => exact hq.elim
    | brk => exact hq.elim
    | cont => exact hq.elim
/-- f(e, .., k = v, ..) -/
def tCallX (n m : Nat) (sp : Sp) (g : List V → List V → List V) (W : WX) (t tk : TA) : TE := fun σ H Q => t σ H fun vs H1 => tk σ H1 fun zs H2 => vs.length = n ∧ zs.length = m ∧ sp (g vs zs) H2 Q (WE W σ)
theorem vx_callX {pats : List Pat} (c : CalX X.prog X.w X.K X.mg X.base k x sp pats) (pt : Pat) (hpt : pt ∈ pats) (hr : RoomG j X.A) (hk : k ≤ j) (tkW : Takes X W) (hg : Gl X x) (ha : PA X (e :: es) t) (hkw : PK X kws tk)
    (hall : (backToKw pos (keywordEach kws X.env)).all (·.1.isSome) = true := by rfl) (hks : (backToKw pos (keywordEach kws X.env)).filterMap (·.1) = pt.2.1 := by rfl)
    (hdb : (x == ("__debug__" : Str)) = false := by decide) (he : starEach (e :: es) X.env = (false, eval e X.env) :: starEach es X.env := by rfl)
    (hpl : ((backTo pos (starEach (e :: es) X.env)).any (·.1) || (backToKw pos (keywordEach kws X.env)).any (·.1.isNone)) = false := by rfl) :
    PE X (.Call (.Name x p) (e :: es) kws pos) (tCallX pt.1 pt.2.1.length sp pt.2.2 W t tk) := by
  obtain ⟨f, fd, ps, F, hm, kp, b⟩ := c.ex
  refine ⟨fun pins s σ H Q I h => ?_⟩
  refine wpAny_Call_Name_kw (ld_glob I hg hm ?_ hdb)
  refine PySem.W.callWith_KW (h₀ := X.base) I.ok.mod.kin kp hall (thn (ha.run pos pins s σ H _ I h) fun us s1 ⟨vs, H1, I1, r, q⟩ => ?_) hpl he
  refine thn (hkw.run pos pins s1 σ H1 _ I1 q) fun ws s2 ⟨zs, H2, I2, rz, l1, l2, q2⟩ => ⟨I2.kIn, ?_⟩
  rw [hks]
  exact run_X F (hr.low hk) (b pt hpt) tkW I2 r rz l1 l2 q2
theorem vx_callX0 {pats : List Pat} (c : CalX X.prog X.w X.K X.mg X.base k x sp pats) (pt : Pat) (hpt : pt ∈ pats) (hr : RoomG j X.A) (hk : k ≤ j) (tkW : Takes X W) (hg : Gl X x) (hks : pt.2.1 = [] := by rfl)
    (hdb : (x == ("__debug__" : Str)) = false := by decide) : PE X (.Call (.Name x p) [] [] pos) (tCallX pt.1 pt.2.1.length sp pt.2.2 W tNil tNil) := by
  obtain ⟨f, fd, ps, F, hm, kp, b⟩ := c.ex
  refine ⟨fun pins s σ H Q I h => ?_⟩
  refine wpAny_Call_Name_kw (ld_glob I hg hm ?_ hdb)
  obtain ⟨l1, l2, q2⟩ := h
  have hz := run_X (us := []) (ws := []) F (hr.low hk) (b pt hpt) tkW I .nil .nil l1 l2 q2
  rw [hks] at hz
  exact PySem.W.callWith_K0 I.kIn kp hz
end
/-! ### borrowed things -/
theorem Sep.bM {M : List Addr} {H0 G0 G H : Hp} {O : List (Addr)} (S : Sep M H0 G0 G H O) : Same (hideL M H0) H := fun b o e => by
  by_cases h : b ∈ M
  · rw [hideL_in h] at e
    cases e
  · rw [hideL_out h] at e
    exact S.base b o e h
theorem b_ne {M : List Addr} {H0 G0 G H : Hp} {O : List Addr} {a b : Addr} {o : HO} (h : (hideL M H0) a = some o) (S : Sep M H0 G0 G H O) (hb : b ∈ O) : a ≠ b := fun z => by
  subst z
  rcases (S.ow a hb).2.2 with q | q
  · rw [hideL_in q] at h
    cases h
  · by_cases hM : a ∈ M
    · rw [hideL_in hM] at h
      cases h
    · rw [hideL_out hM, q] at h
      cases h
theorem hide0 {H : Hp} : hideL [] H = H := by
  funext b
  unfold hideL
  rw [if_neg List.not_mem_nil]
theorem hide_nil {H : Hp} {a : Addr} {o : HO} (h : H a = some o) : (hideL [] H) a = some o := by
  rw [hide0]
  exact h
theorem Rp.hide_nil {H : Hp} {v : V} {d : PyData} (h : Rp H v d) : Rp (hideL [] H) v d := by
  rw [hide0]
  exact h
theorem Sep.startM {M : List Addr} {G H : Hp} (e : Same G H) (hM : ∀ a ∈ M, H a ≠ none) (hG : ∀ a ∈ M, G a = none) : Sep M H G G H M :=
  ⟨fun _ _ e _ => e, hM, e, Same.refl _, fun _ _ e => e, fun a ha => ⟨hG a ha, hM a ha, .inl ha⟩⟩
theorem Sep.gno {M : List Addr} {H0 G0 G H : Hp} {O L : List Addr} (S : Sep M H0 G0 G H O) (h : ∀ a ∈ L, a ∈ O) : ∀ a ∈ L, G a = none := fun a ha => (S.ow a (h a ha)).1
theorem RpAll.ixD {α : Type} [Inhabited α] {f : α → PyData} {H : Hp} {vs : List V} {xs : List α} {k : Int} (r : RpAll H vs (xs.map f)) (h : -(xs.length : Int) ≤ k ∧ k < xs.length) : ∃ v, atI vs k = some v ∧ Rp H v (f (itD xs k)) := by
  obtain ⟨v, x, h1, h2, h3⟩ := RpAll.ix r h
  refine ⟨v, h1, ?_⟩
  unfold itD
  rw [h2]
  exact h3
theorem tru_all {α : Type} [DecidableEq α] {f : α → PyData} {H : Hp} {vs : List V} {xs : List α} (r : RpAll H vs (xs.map f)) : (!decide (xs = [])) = !vs.isEmpty := by
  have h := r.len
  rw [List.length_map] at h
  cases xs <;> cases vs <;> simp_all
theorem ix_nn {α : Type} {xs : List α} {k : Int} (h0 : 0 ≤ k) (h1 : k < xs.length) : -(xs.length : Int) ≤ k ∧ k < xs.length := ⟨by omega, h1⟩
theorem all_nilQ {α : Type} {P : α → Prop} : ∀ x ∈ ([] : List α), P x := fun x h => by cases h
theorem all_consQ {α : Type} {P : α → Prop} {a : α} {l : List α} (h : P a) (t : ∀ x ∈ l, P x) : ∀ x ∈ a :: l, P x := fun x hx => by
  rcases List.mem_cons.mp hx with rfl | hx
  · exact h
  · exact t x hx
theorem mem_one {a b : Nat} (h : a ∈ [b]) : a = b := by simpa using h
theorem mem_cons2 {a b : Nat} {l : List Nat} (h : a ∈ b :: l) : a = b ∨ a ∈ l := List.mem_cons.mp h
theorem len0 {α : Type} {l : List α} (h : l.length = 0) : l = [] := List.length_eq_zero_iff.mp h
theorem len1 {α : Type} {l : List α} (h : l.length = 1) : ∃ a, l = [a] := List.length_eq_one_iff.mp h
theorem len_s {α : Type} {l : List α} {n : Nat} (h : l.length = n + 1) : ∃ a r, l = a :: r ∧ r.length = n := by
  cases l with
  | nil => cases h
  | cons a r => exact ⟨a, r, rfl, Nat.succ.inj h⟩
theorem len2 {α : Type} {l : List α} (h : l.length = 2) : ∃ a b, l = [a, b] := by
  obtain ⟨a, r, rfl, h2⟩ := len_s h
  obtain ⟨b, rfl⟩ := len1 h2
  exact ⟨a, b, rfl⟩
theorem len3 {α : Type} {l : List α} (h : l.length = 3) : ∃ a b c, l = [a, b, c] := by
  obtain ⟨a, r, rfl, h2⟩ := len_s h
  obtain ⟨b, c, rfl⟩ := len2 h2
  exact ⟨a, b, c, rfl⟩
theorem len4 {α : Type} {l : List α} (h : l.length = 4) : ∃ a b c d, l = [a, b, c, d] := by
  obtain ⟨a, r, rfl, h2⟩ := len_s h
  obtain ⟨b, c, d, rfl⟩ := len3 h2
  exact ⟨a, b, c, d, rfl⟩
theorem len5 {α : Type} {l : List α} (h : l.length = 5) : ∃ a b c d e, l = [a, b, c, d, e] := by
  obtain ⟨a, r, rfl, h2⟩ := len_s h
  obtain ⟨b, c, d, e, rfl⟩ := len4 h2
  exact ⟨a, b, c, d, e, rfl⟩
theorem len6 {α : Type} {l : List α} (h : l.length = 6) : ∃ a b c d e f, l = [a, b, c, d, e, f] := by
  obtain ⟨a, r, rfl, h2⟩ := len_s h
  obtain ⟨b, c, d, e, f, rfl⟩ := len5 h2
  exact ⟨a, b, c, d, e, f, rfl⟩
theorem len7 {α : Type} {l : List α} (h : l.length = 7) : ∃ a b c d e f g, l = [a, b, c, d, e, f, g] := by
  obtain ⟨a, r, rfl, h2⟩ := len_s h
  obtain ⟨b, c, d, e, f, g, rfl⟩ := len6 h2
  exact ⟨a, b, c, d, e, f, g, rfl⟩
def rLenTK (K : PySem.W.Frag) : List V → Hp → VK → Prop := fun xs H Q => ∃ (p : Addr) (vs : List V) (n : Nat), xs = [.ref p] ∧ SqT K H p vs ∧ vs.length = n ∧ Q (.int (n : Int)) H
theorem call_lenTK {X : Cx} {K : PySem.W.Frag} (hK : X.K = K := by rfl) : CallR X (.builtin "len") (rLenTK K) := by
  subst hK
  intro pins s σ H xs us Q I r h
  obtain ⟨p, vs, n, rfl, hs, hn, q⟩ := h
  exact call_len_seq pins s σ H _ us Q I r ⟨p, _, rfl, Or.inr hs, by rw [hn]; exact q⟩
theorem exm_mk {K : PySem.W.Frag} {S C : Addr} (h1 : PySem.W.subIn K (.ref C) (.type "BaseException") = some true) (h2 : PySem.W.isClsIn K C = true) (h3 : PySem.W.typeIn K (.ref C) = some (.type "type")) (h4 : PySem.W.subIn K (.ref S) (.ref C) = some true) :
    PySem.W.exmOne K (.ref S) (.ref C) = some true := by
  unfold PySem.W.isClsIn at h2
  unfold PySem.W.exmOne
  unfold PySem.W.kitCls
  simp only [h1, h2, h3, h4, beq_self_eq_true, Bool.and_self, if_true]
theorem kit_mk {K : PySem.W.Frag} {S C : Addr} (h2 : PySem.W.isClsIn K C = true) (h3 : PySem.W.typeIn K (.ref C) = some (.type "type")) (h4 : PySem.W.subIn K (.ref S) (.ref C) = some true) :
    PySem.W.kitOne K (.ref S) (.ref C) = some true := by
  unfold PySem.W.isClsIn at h2
  unfold PySem.W.kitOne
  split
  · rfl
  · unfold PySem.W.kitCls
    simp only [h2, h3, h4, beq_self_eq_true, Bool.and_self, if_true]
/-- isinstance(e, C) of the exception in hand -/
def rIsX (K : PySem.W.Frag) (a : Addr) (cls : Value) (d : Option Addr) : List V → Hp → VK → Prop := fun xs H Q => ∃ (D C : Addr) (b : Bool), cls = .ref D ∧ d = none ∧ ExcC K D ∧ xs = [.ref a, .ref C] ∧ PySem.W.kitOne K (.ref D) (.ref C) = some b ∧ Q (.bl b) H
theorem call_isX {X : Cx} {K : PySem.W.Frag} {a : Addr} {cls : Value} {d : Option Addr} {oe : Obj} {pn : List (Addr × Obj)} (hz : Zc cls d oe) (hf : ∃ vs, oe.data = .fields vs) (hK : X.K = K := by rfl) : CallR (X.suite a ((a, oe) :: pn)) (.builtin "isinstance") (rIsX K a cls d) := by
  subst hK
  intro pins s σ H xs us Q I r h
  obtain ⟨D, C, b, rfl, rfl, c, rfl, e, q⟩ := h
  exact call_isE c hz hf pins s σ H _ us Q I r ⟨_, _, b, rfl, fun u z => z, e, q⟩
/-! ### unpacking a list -/
section
variable {X : Cx} {K : PySem.W.Frag} {pos : Pos}
theorem pg_seqK {es : List Expr} {k : Nat} {t : TGs} {n : Nat} (h : PGs X es t) (hc : X.calm = true := by rfl) (hK : X.K = K := by rfl)
    (hn : (assignEach es X.env).length = n := by rfl) (hst : (assignEach es X.env).findIdx? (·.1) = none := by rfl) : PG X (.Tuple es k pos) (gLst K n t) := hK ▸ pg_lst hc h hn hst
end
theorem SqL.cast {K : PySem.W.Frag} {H : Hp} {a : Addr} {xs ys : List V} (h : SqL K H a xs) (e : xs = ys) : SqL K H a ys := e ▸ h
section
variable {α : Type} [Inhabited α] {f : α → V}
theorem unp2 {xs : List α} (h : xs.length = 2) : xs.map f = [f (itD xs 0), f (itD xs 1)] := by
  obtain ⟨a, b, rfl⟩ := len2 h
  rfl
theorem unp3 {xs : List α} (h : xs.length = 3) : xs.map f = [f (itD xs 0), f (itD xs 1), f (itD xs 2)] := by
  obtain ⟨a, b, c, rfl⟩ := len3 h
  rfl
theorem unp4 {xs : List α} (h : xs.length = 4) : xs.map f = [f (itD xs 0), f (itD xs 1), f (itD xs 2), f (itD xs 3)] := by
  obtain ⟨a, b, c, d, rfl⟩ := len4 h
  rfl
theorem unp6 {xs : List α} (h : xs.length = 6) : xs.map f = [f (itD xs 0), f (itD xs 1), f (itD xs 2), f (itD xs 3), f (itD xs 4), f (itD xs 5)] := by
  obtain ⟨a, b, c, d, e, g, rfl⟩ := len6 h
  rfl
theorem unp8 {xs : List α} (h : xs.length = 8) : xs.map f = [f (itD xs 0), f (itD xs 1), f (itD xs 2), f (itD xs 3), f (itD xs 4), f (itD xs 5), f (itD xs 6), f (itD xs 7)] := by
  obtain ⟨a, r, rfl, h2⟩ := len_s h
  obtain ⟨b, c, d, e, g, i, j, rfl⟩ := len7 h2
  rfl
end
/-! ### classes -/
section
variable {P : Program} {w : World} {K : PySem.W.Frag} {mg : Str → Option Value} {base : Heap}
structure MethX (K : PySem.W.Frag) (C : Addr) (q m : Str) (st : Stmt) (ps : List Str) (pats : List Pat) : Prop where
  ex : ∃ (f : Addr) (fd : FuncData) (dvs : List V) (kws : List (Str × V)), FunD K m q (defArgs st) (defBody st) (defScope st) dvs kws f fd ∧ Meth K C m f ∧ ∀ p ∈ pats, Bnd1 K fd ps p
structure InitX (K : PySem.W.Frag) (mg : Str → Option Value) (C : Addr) (cn q : Str) (st : Stmt) (ps : List Str) (pats : List Pat) : Prop where
  ex : ∃ (f : Addr) (fd : FuncData) (dvs : List V) (kws : List (Str × V)), FunD K "__init__" q (defArgs st) (defBody st) (defScope st) dvs kws f fd ∧ Mk K C f ∧ mg cn = some (.ref C) ∧ ∀ p ∈ pats, Bnd1 K fd ps p
structure PropX (K : PySem.W.Frag) (C : Addr) (q m : Str) (st : Stmt) (ps : List Str) (pats : List Pat) : Prop where
  ex : ∃ (r f : Addr) (fd : FuncData) (dvs : List V) (kws : List (Str × V)), FunD K m q (defArgs st) (defBody st) (defScope st) dvs kws f fd ∧ PropOf K C m r f ∧ Binds K fd ps []
structure MetX (P : Program) (w : World) (K : PySem.W.Frag) (mg : Str → Option Value) (base : Heap) (k : Nat) (C : Addr) (m : Str) (sp : Sp) (pats : List Pat) : Prop where
  ex : ∃ (f : Addr) (fd : FuncData) (ps : List Str), Cls K C ∧ Meth K C m f ∧ FnG P w K mg base (L2.CX P w) k f fd ps sp ∧ ∀ p ∈ pats, Bnd1 K fd ps p
structure PropY (P : Program) (w : World) (K : PySem.W.Frag) (mg : Str → Option Value) (base : Heap) (k : Nat) (C : Addr) (m : Str) (sp : Sp) (pats : List Pat) : Prop where
  ex : ∃ (q f : Addr) (fd : FuncData) (ps : List Str), Cls K C ∧ PropOf K C m q f ∧ FnG P w K mg base (L2.CX P w) k f fd ps sp ∧ Binds K fd ps []
structure MakX (P : Program) (w : World) (K : PySem.W.Frag) (mg : Str → Option Value) (base : Heap) (k : Nat) (cn : Str) (C : Addr) (sp : Sp) (pats : List Pat) : Prop where
  ex : ∃ (f : Addr) (fd : FuncData) (ps : List Str), Mk K C f ∧ FnG P w K mg base (L2.CX P w) k f fd ps sp ∧ mg cn = some (.ref C) ∧ ∀ p ∈ pats, Bnd1 K fd ps p
theorem MethX.ok {C : Addr} {q m : Str} {st : Stmt} {N ps : List Str} {pats : List Pat} {k : Nat} {sp : Sp} (D : MethX K C q m st ps pats) (c : Cls K C) (S : FnScope N ps (defScope st)) (len : ∀ vs H Q E, sp vs H Q E → vs.length = ps.length)
    (hbody : BodyX P w K mg base q st N k sp) : MetX P w K mg base (k + 1) C m sp pats := by
  obtain ⟨f, fd, dvs, kws, F, me, b⟩ := D.ex
  exact ⟨f, fd, ps, c, me, FnG.body F S len (fun cdv A outer s H vs Q E hr h => hbody f cdv A outer s H vs Q E hr h), b⟩
theorem PropX.ok {C : Addr} {q m : Str} {st : Stmt} {N ps : List Str} {pats : List Pat} {k : Nat} {sp : Sp} (D : PropX K C q m st ps pats) (c : Cls K C) (S : FnScope N ps (defScope st)) (len : ∀ vs H Q E, sp vs H Q E → vs.length = ps.length)
    (hbody : BodyX P w K mg base q st N k sp) : PropY P w K mg base (k + 1) C m sp pats := by
  obtain ⟨r, f, fd, dvs, kws, F, me, b⟩ := D.ex
  exact ⟨r, f, fd, ps, c, me, FnG.body F S len (fun cdv A outer s H vs Q E hr h => hbody f cdv A outer s H vs Q E hr h), b⟩
theorem InitX.ok {C : Addr} {cn q : Str} {st : Stmt} {N ps : List Str} {pats : List Pat} {k : Nat} {sp : Sp} (D : InitX K mg C cn q st ps pats) (S : FnScope N ps (defScope st)) (len : ∀ vs H Q E, sp vs H Q E → vs.length = ps.length)
    (hbody : BodyX P w K mg base q st N k sp) : MakX P w K mg base (k + 1) cn C sp pats := by
  obtain ⟨f, fd, dvs, kws, F, me, hm, b⟩ := D.ex
  exact ⟨f, fd, ps, me, FnG.body F S len (fun cdv A outer s H vs Q E hr h => hbody f cdv A outer s H vs Q E hr h), hm, b⟩
end
theorem cW_callN {α β : Type} {m : Rx β} {f : β → Rx α} {K : α → Prop} {E : Nat → Prop} {K2 : β → Prop} {E2 : Nat → Prop} (h : cW ((noEr m).bind f) K E) (ho : ∀ v, cW (f v) K E → K2 v) (_ : True) : cW m K2 E2 := by
  cases m with
  | ok a => exact cW_mk (ho a h)
  | er e => exact cW_bad (α := α) h
  | bad => exact cW_bad (α := α) h
section
variable {X : Cx} {k j n : Nat} {f C : Addr} {fd : FuncData} {ps ks : List Str} {g : List V → List V → List V} {sp : Sp} {x m : Str} {pos p apos : Pos} {e o : Expr} {es : List Expr} {kws : List Keyword} {ta : TE} {t tk : TA} {W : WX}
theorem run_mkX {pins : List (Addr × Obj)} {σ : L2.St} {H : Hp} {s : Shared} {Q : VK} {us ws : List Value} {vs zs : List V} (M : Mk X.K C f) (F : FnG X.prog X.w X.K X.mg X.base (L2.CX X.prog X.w) k f fd ps sp) (hr : RoomG (k + 1) X.A) (hb : Bnd X.K fd ps n ks g) (tkW : Takes X W)
    (I : Inv X pins σ H s) (r : Vals vs us) (rz : Vals zs ws) (l1 : vs.length + 1 = n) (l2 : zs.length = ks.length)
    (h : ∀ x dx, H x = none → H dx = none → dx ≠ x → sp (g (.ref x :: vs) zs) (upd (upd H dx (.own x)) x (.ins C dx [])) (fun v H2 => v = .non ∧ Q (.ref x) H2) (WE W σ)) :
    wpAny (model X.prog X.w) X.A (call (.ref C) us (ks.zip ws)) (EP X pins σ Q) X.xe s := by
  have hq := h (s.heap.objs.size + 1) s.heap.objs.size (I.hok.fresh (Nat.le_succ _)) (I.hok.fresh (Nat.le_refl _)) (Nat.ne_of_lt (Nat.lt_succ_self _))
  have I2 := Inv.made (C := C) I
  have r1 : Vals (V.ref (s.heap.objs.size + 1) :: vs) (Value.ref (s.heap.objs.size + 1) :: us) := .cons rfl r
  obtain ⟨vv, b, r2⟩ := hb.to _ (Value.ref (s.heap.objs.size + 1) :: us) ws (V.ref (s.heap.objs.size + 1) :: vs) zs I2.kIn (by rw [List.length_cons, l1]) l2 r1 rz
  refine wpAny_call (make_map (f := f) I.kIn M.makes M.init (beq_iff_eq.mp M.fn) (codeAny_mono (F.run _ X.stack _ _ ⟨Value.ref (s.heap.objs.size + 1) :: us, ks.zip ws⟩ vv _ _ (WE W σ) (hr.made C us (ks.zip ws))
    (I2.env0.make C us (ks.zip ws)) b r2 hq) fun r s' hq' => ?_))
  cases r with
  | error e => exact passAt tkW σ pins _ _ e s' I2 hq'
  | ok fl =>
    cases fl with
    | ret u =>
      obtain ⟨v, H', I3, rv, ev, q3⟩ := I2.after hq'
      subst ev
      exact ⟨rv, ⟨V.ref (s.heap.objs.size + 1), H', I3, rfl, q3⟩⟩
    | next => exact False.elim hq'
    | brk => exact False.elim hq'
    | cont => exact False.elim hq'
/-- C(e, .., k = v, ..) -/
def tMakeX (C : Addr) (n m : Nat) (sp : Sp) (g : List V → List V → List V) (W : WX) (t tk : TA) : TE := fun σ H Q => t σ H fun vs H1 => tk σ H1 fun zs H2 => vs.length + 1 = n ∧ zs.length = m ∧ ∀ x dx, H2 x = none → H2 dx = none → dx ≠ x →
  sp (g (.ref x :: vs) zs) (upd (upd H2 dx (.own x)) x (.ins C dx [])) (fun v H3 => v = .non ∧ Q (.ref x) H3) (WE W σ)
theorem vx_makeX {pats : List Pat} (c : MakX X.prog X.w X.K X.mg X.base k x C sp pats) (pt : Pat) (hpt : pt ∈ pats) (hr : RoomG j X.A) (hk : k + 1 ≤ j) (tkW : Takes X W) (hg : Gl X x) (ha : PA X (e :: es) t) (hkw : PK X kws tk)
    (hall : (backToKw pos (keywordEach kws X.env)).all (·.1.isSome) = true := by rfl) (hks : (backToKw pos (keywordEach kws X.env)).filterMap (·.1) = pt.2.1 := by rfl) (hdb : (x == ("__debug__" : Str)) = false := by decide)
    (he : starEach (e :: es) X.env = (false, eval e X.env) :: starEach es X.env := by rfl) (hpl : ((backTo pos (starEach (e :: es) X.env)).any (·.1) || (backToKw pos (keywordEach kws X.env)).any (·.1.isNone)) = false := by rfl) :
    PE X (.Call (.Name x p) (e :: es) kws pos) (tMakeX C pt.1 pt.2.1.length sp pt.2.2 W t tk) := by
  obtain ⟨f, fd, ps, M, F, hm, b⟩ := c.ex
  refine ⟨fun pins s σ H Q I h => ?_⟩
  refine wpAny_Call_Name_kw (ld_glob I hg hm ?_ hdb)
  refine PySem.W.callWith_KW (h₀ := X.base) I.ok.mod.kin M.kp hall (thn (ha.run pos pins s σ H _ I h) fun us s1 ⟨vs, H1, I1, r, q⟩ => ?_) hpl he
  refine thn (hkw.run pos pins s1 σ H1 _ I1 q) fun ws s2 ⟨zs, H2, I2, rz, l1, l2, q2⟩ => ⟨I2.kIn, ?_⟩
  rw [hks]
  exact run_mkX M F (hr.low hk) (b pt hpt) tkW I2 r rz l1 l2 q2
theorem vx_makeX0 {pats : List Pat} (c : MakX X.prog X.w X.K X.mg X.base k x C sp pats) (pt : Pat) (hpt : pt ∈ pats) (hr : RoomG j X.A) (hk : k + 1 ≤ j) (tkW : Takes X W) (hg : Gl X x) (hks : pt.2.1 = [] := by rfl)
    (hdb : (x == ("__debug__" : Str)) = false := by decide) : PE X (.Call (.Name x p) [] [] pos) (tMakeX C pt.1 pt.2.1.length sp pt.2.2 W tNil tNil) := by
  obtain ⟨f, fd, ps, M, F, hm, b⟩ := c.ex
  refine ⟨fun pins s σ H Q I h => ?_⟩
  refine wpAny_Call_Name_kw (ld_glob I hg hm ?_ hdb)
  obtain ⟨l1, l2, q2⟩ := h
  have hz := run_mkX (us := []) (ws := []) M F (hr.low hk) (b pt hpt) tkW I .nil .nil l1 l2 q2
  rw [hks] at hz
  exact PySem.W.callWith_K0 I.kIn M.kp hz
/-- o.m(e, .., k = v, ..) -/
def tMethX (C : Addr) (m : Str) (n mm : Nat) (sp : Sp) (g : List V → List V → List V) (W : WX) (ta : TE) (t tk : TA) : TE := fun σ H Q => ta σ H fun x H1 => ∃ a dx fs, x = .ref a ∧ H1 a = some (.ins C dx fs) ∧ fs.lookup m = none ∧
  t σ H1 fun vs H2 => tk σ H2 fun zs H3 => (x :: vs).length = n ∧ zs.length = mm ∧ sp (g (x :: vs) zs) H3 Q (WE W σ)
theorem vx_methX {pats : List Pat} {pl : Sem Bool} (c : MetX X.prog X.w X.K X.mg X.base k C m sp pats) (pt : Pat) (hpt : pt ∈ pats) (hr : RoomG j X.A) (hk : k ≤ j) (tkW : Takes X W) (he : PE X o ta) (ha : PA X (e :: es) t) (hkw : PK X kws tk)
    (hall : (backToKw pos (keywordEach kws X.env)).all (·.1.isSome) = true := by rfl) (hks : (backToKw pos (keywordEach kws X.env)).filterMap (·.1) = pt.2.1 := by rfl)
    (hst : starEach (e :: es) X.env = (false, eval e X.env) :: starEach es X.env := by rfl) (hpl : ((backTo pos (starEach (e :: es) X.env)).any (·.1) || (backToKw pos (keywordEach kws X.env)).any (·.1.isNone)) = false := by rfl)
    (ht : eval (.Call (.Attribute o m apos) (e :: es) kws pos) X.env = (do
      let ov ← eval o X.env
      standAt apos.atName
      let (f, first) ← holding [ov] (getMethod ov m pl)
      callWith pos f first (backTo pos (starEach (e :: es) X.env)) (backToKw pos (keywordEach kws X.env))) := by rfl) :
    PE X (.Call (.Attribute o m apos) (e :: es) kws pos) (tMethX C m pt.1 pt.2.1.length sp pt.2.2 W ta t tk) := by
  obtain ⟨f, fd, ps, hc, hm, F, b⟩ := c.ex
  refine ⟨fun pins s σ H Q I h => ?_⟩
  refine PySem.W.methodCall_KW (pl := pl) (thn (he.run pins s σ H _ I h) fun u s1 ⟨x, H1, I1, rx, a, dx, fs, ex, ea, l, q⟩ => ?_) ht
  subst ex
  obtain rfl : u = Value.ref a := rx
  refine getmeth_ok I1 ea hc hm l ?_
  refine PySem.W.callWith_KW (first := [.ref a]) (h₀ := X.base) I.ok.mod.kin hm.kp hall (thn (ha.run pos pins s1 σ H1 _ I1 q) fun us s2 ⟨vs, H2, I2, r, q2⟩ => ?_) hpl hst
  refine thn (hkw.run pos pins s2 σ H2 _ I2 q2) fun ws s3 ⟨zs, H3, I3, rz, l1, l2, q3⟩ => ⟨I3.kIn, ?_⟩
  rw [hks]
  exact run_X (us := .ref a :: us) (vs := .ref a :: vs) F (hr.low hk) (b pt hpt) tkW I3 (.cons rfl r) rz l1 l2 q3
theorem vx_methX0 {pats : List Pat} {pl : Sem Bool} (c : MetX X.prog X.w X.K X.mg X.base k C m sp pats) (pt : Pat) (hpt : pt ∈ pats) (hr : RoomG j X.A) (hk : k ≤ j) (tkW : Takes X W) (he : PE X o ta) (hks : pt.2.1 = [] := by rfl)
    (ht : eval (.Call (.Attribute o m apos) [] [] pos) X.env = (do
      let ov ← eval o X.env
      standAt apos.atName
      let (f, first) ← holding [ov] (getMethod ov m pl)
      callWith pos f first (backTo pos (starEach [] X.env)) (backToKw pos (keywordEach [] X.env))) := by rfl) :
    PE X (.Call (.Attribute o m apos) [] [] pos) (tMethX C m pt.1 pt.2.1.length sp pt.2.2 W ta tNil tNil) := by
  obtain ⟨f, fd, ps, hc, hm, F, b⟩ := c.ex
  refine ⟨fun pins s σ H Q I h => ?_⟩
  refine PySem.W.methodCall_KW (pl := pl) (thn (he.run pins s σ H _ I h) fun u s1 ⟨x, H1, I1, rx, a, dx, fs, ex, ea, l, q⟩ => ?_) ht
  subst ex
  obtain rfl : u = Value.ref a := rx
  refine getmeth_ok I1 ea hc hm l ?_
  obtain ⟨l1, l2, q3⟩ := q
  have hz := run_X (us := [.ref a]) (vs := [.ref a]) (ws := []) F (hr.low hk) (b pt hpt) tkW I1 (.cons rfl .nil) .nil l1 l2 q3
  rw [hks] at hz
  exact PySem.W.callWith_K0 (first := [.ref a]) I1.kIn hm.kp hz
theorem vx_propX {pats : List Pat} (c : PropY X.prog X.w X.K X.mg X.base k C m sp pats) (hr : RoomG j X.A) (hk : k + 1 ≤ j) (he : PE X o ta) (hab : attributeBase o m X.env (eval o X.env) = eval o X.env := by rfl) : PE X (.Attribute o m pos) (tProp C sp [] E0 ta) := by
  obtain ⟨q, f, fd, ps, cls, prop, F, bind⟩ := c.ex
  constructor
  intro pins s σ H Q I h
  refine attr_of hab (thn (he.run pins s σ H _ I h) ?_)
  rintro u s1 ⟨x, H1, I1, rx, a, dx, fs, rfl, ea, prom⟩
  cases rx
  obtain ⟨mA, O, _⟩ := ins_get I1.hok ea
  obtain ⟨od, J, _⟩ := O.look
  obtain ⟨rest, rec_⟩ := prop.rec_
  have short : [Value.ref a].length = ps.length := (F.len _ _ _ _ prom).symm ▸ rfl
  have isCls : (PySem.W.clsIn X.K C).isSome = true := by
    obtain ⟨cd, e, _⟩ := PySem.W.any_some cls.hd
    rw [e]
    rfl
  refine PySem.W.get_bind I1.kIn J (PySem.W.plainGet_of (cls.get m)).1 (PySem.W.findObj_data isCls prop.at_ prop.get prop.tak) (PySem.W.plainGet_of (cls.get m)).2 (wpAny_call (PySem.W.prop_get (s := { s1 with toks := s1.toks + 1 }) I1.kIn rec_ ?_))
  have I2 := I1.tok (s1.toks + 1)
  refine codeAny_mono (F.run X.A.in1 X.stack _ H1 ⟨[.ref a], []⟩ [.ref a] [.ref a] Q E0 (hr.low hk).one I2.env0.in1 (by simpa using bind _ [.ref a] I2.kIn (by simpa using short)) (.cons rfl .nil) prom) ?_
  intro r s2 out
  cases r with
  | error er => exact (passL (X := X.nox) pins σ H1 _ er s2 (I2.wish _) out).elim
  | ok flow =>
    cases flow with
    | ret v =>
      obtain ⟨y, H2, I3, ry, qy⟩ := I2.after out
      have given := PySem.W.handedOut_of (handed_of ry)
      show wpAny _ _ (handedOut v) _ _ s2
      rw [given]
      exact wpAny_pure ⟨y, H2, I3, ry, qy⟩
    | next => exact out.elim
    | brk => exact out.elim
    | cont => exact out.elim
end
theorem Sep.news {M : List Addr} {H0 G0 G H H' : Hp} {O : List Addr} (S : Sep M H0 G0 G H O) (e : Same H H') (L : List Addr) (hL : ∀ a ∈ L, H a = none ∧ H' a ≠ none ∧ H0 a = none) : Sep M H0 G0 G H' (L ++ O) := by
  have S2 := S.same e
  refine ⟨S2.base, S2.pm, S2.sG, S2.g0, S2.gn, fun a ha => ?_⟩
  rcases List.mem_append.mp ha with h | h
  · obtain ⟨h1, h2, h3⟩ := hL a h
    exact ⟨S.gfree h1, h2, .inr h3⟩
  · exact S2.ow a h
theorem vv_chain {r r' : R2} {ta tb tc : TE} {σ : L2.St} {H : Hp} {x y z : V} {a b : Bool} (ha : Val ta σ H x) (hb : Val tb σ H y) (hc : Val tc σ H z) (h1 : ∀ Q : VK, Q (.bl a) H → r x y H Q) (h2 : ∀ Q : VK, Q (.bl b) H → r' y z H Q) :
    Val (tChain r r' ta tb tc) σ H (.bl (a && b)) := fun Q q => ha _ (hb _ (h1 _ ⟨a, rfl, by
  cases a with
  | true =>
    rw [if_pos rfl]
    exact hc _ (h2 _ q)
  | false =>
    rw [if_neg Bool.false_ne_true]
    exact q⟩))
/-! ### constants that are tuples, lists backwards, zip -/
theorem inV_ints (x : Int) : ∀ xs : List Int, inV (V.int x) (xs.map V.int) = decide (x ∈ xs)
  | [] => by simp [inV]
  | y :: r => by
    have h := inV_ints x r
    unfold inV at h ⊢
    rw [List.map_cons, List.any_cons, h]
    by_cases c : x = y
    · subst c
      simp [eqV]
    · simp [eqV, c, Ne.symm c]
theorem flat_ints : ∀ xs : List Int, (xs.map V.int).all flatV = true
  | [] => rfl
  | _ :: r => flat_ints r
def rInI (K : PySem.W.Frag) : R2 := fun x y H Q => ∃ (i : Int) (p : Addr) (xs : List Int), x = .int i ∧ y = .ref p ∧ (SqL K H p (xs.map V.int) ∨ SqT K H p (xs.map V.int)) ∧ Q (.bl (decide (i ∈ xs))) H
def rNotInI (K : PySem.W.Frag) : R2 := fun x y H Q => ∃ (i : Int) (p : Addr) (xs : List Int), x = .int i ∧ y = .ref p ∧ (SqL K H p (xs.map V.int) ∨ SqT K H p (xs.map V.int)) ∧ Q (.bl (!decide (i ∈ xs))) H
theorem op_inI {X : Cx} {K : PySem.W.Frag} (hK : X.K = K := by rfl) : OpR X (compareOp .In) (rInI K) := by
  subst hK
  intro pins s σ H x y v u Q I rx ry h
  obtain ⟨i, p, xs, rfl, rfl, hs, q⟩ := h
  refine op_in_seq pins s σ H _ _ v u Q I rx ry ⟨p, _, rfl, hs, rfl, flat_ints xs, ?_⟩
  rw [if_neg Bool.false_ne_true, inV_ints]
  exact q
theorem op_notInI {X : Cx} {K : PySem.W.Frag} (hK : X.K = K := by rfl) : OpR X (compareOp .NotIn) (rNotInI K) := by
  subst hK
  intro pins s σ H x y v u Q I rx ry h
  obtain ⟨i, p, xs, rfl, rfl, hs, q⟩ := h
  refine op_notIn_seq pins s σ H _ _ v u Q I rx ry ⟨p, _, rfl, hs, rfl, flat_ints xs, ?_⟩
  rw [if_pos rfl, inV_ints]
  exact q
theorem pe_revLK {X : Cx} {K : PySem.W.Frag} {e : Expr} {te : TE} {k : Nat} {p1 p2 p3 pos : Pos} (he : PE X e te) (hK : X.K = K := by rfl) : PE X (.Subscript e (.Slice none none (some (.UnaryOp .USub (.Constant (.int 1) k p1) p2)) p3) pos) (tRevL K te) := hK ▸ pe_revL he
theorem rev_map {α : Type} {f : α → V} {xs : List α} {H : Hp} {p : Addr} (h : H p = some (.lst (xs.map f).reverse)) : H p = some (.lst (xs.reverse.map f)) := by
  rw [List.map_reverse]
  exact h
theorem RpAll.rev {G : Hp} : ∀ {vs : List V} {ds : List PyData}, RpAll G vs ds → RpAll G vs.reverse ds.reverse
  | _, _, .nil => .nil
  | _, _, .cons h t => by
    rw [List.reverse_cons, List.reverse_cons]
    exact (RpAll.rev t).append (.one h)
theorem rev_all {α : Type} {f : α → PyData} {xs : List α} {G : Hp} {vs : List V} (a : RpAll G vs (xs.map f)) : RpAll G vs.reverse (xs.reverse.map f) := by
  rw [List.map_reverse]
  exact a.rev
theorem pi_zipK {X : Cx} {K : PySem.W.Frag} {e e2 : Expr} {ta : TA} {p pos tpos : Pos} {elts : List Expr} {kk : Nat} (hg : Gl X "zip") (hm : X.mg "zip" = none) (ha : PA X [e, e2] ta) (hK : X.K = K := by rfl)
    (hs : starEach [e, e2] X.env = (false, eval e X.env) :: starEach [e2] X.env := by rfl) (hpl : (backTo pos (starEach [e2] X.env)).any (·.1) = false := by rfl) :
    PI X (.Tuple elts kk tpos) (.Call (.Name "zip" p) [e, e2] [] pos) (RZ.iZipA K ta) := hK ▸ RZ.pi_zipA hg hm ha hs hpl
/-- a comprehension over zip of two lists of one length -/
theorem lc_zipL {K : PySem.W.Frag} {a b : Addr} {xs ys : List V} {g : TG} {tt : TT} {te : TE} {vs : List Nat} {σ : L2.St} {H1 : Hp} {D : Addr} {Qd : Hp → Prop} (hl : xs.length = ys.length) (Pv : Nat → Hp → Prop) (h0 : Pv 0 (upd H1 D (.lst []))) (hq : ∀ i H, i ≤ xs.length → Pv i H → SqL K H a xs ∧ SqL K H b ys)
    (hs : ∀ (i : Nat) (x y : V) (T : Addr) (H : Hp), xs[i]? = some x → ys[i]? = some y → H T = none → Pv i H → g (.ref T) (wipe σ vs) (upd H T (.tup [x, y])) fun σ2 H2 => wipe σ2 vs = wipe σ vs ∧ tt σ2 H2 fun b H3 =>
      if b = true then te σ2 H3 fun y H4 => ∃ acc, H4 D = some (.lst acc) ∧ acc.length < sizeLine ∧ Pv (i + 1) (upd H4 D (.lst (acc ++ [y]))) else Pv (i + 1) H3) (hd : ∀ H, Pv xs.length H → Qd H) :
    ∃ W : Nat → Nat → Hp → Prop, (∃ m, W 0 m (upd H1 D (.lst []))) ∧ ∀ i m H, W i m H →
      ((Itz K a b).stop i H ∧ Qd H) ∨ ((Itz K a b).go i H ∧ ∃ Nx : Hp → Prop, (∀ H', Nx H' → ∃ m', m' < m ∧ W (i + 1) m' H') ∧ ∀ x H', (Itz K a b).yld i H x H' → g x (wipe σ vs) H' fun σ2 H2 => wipe σ2 vs = wipe σ vs ∧ tt σ2 H2 fun b H3 =>
        if b = true then te σ2 H3 fun y H4 => ∃ acc, H4 D = some (.lst acc) ∧ acc.length < sizeLine ∧ Nx (upd H4 D (.lst (acc ++ [y]))) else Nx H3) := by
  refine ⟨fun i m H => m = xs.length - i ∧ i ≤ xs.length ∧ Pv i H, ⟨xs.length, by simp, Nat.zero_le _, h0⟩, ?_⟩
  rintro i m H ⟨rfl, hi, p⟩
  obtain ⟨qx, qy⟩ := hq i H hi p
  by_cases hlt : i < xs.length
  · have hlt2 : i < ys.length := by omega
    refine .inr ⟨⟨xs, ys, xs[i], ys[i], qx, qy, List.getElem?_eq_getElem hlt, List.getElem?_eq_getElem hlt2⟩, Pv (i + 1), fun H' p' => ⟨xs.length - (i + 1), by omega, rfl, hlt, p'⟩, fun v H' y => ?_⟩
    obtain ⟨T, x', y', rfl, hT, rfl, f1, f2⟩ := y
    exact hs i x' y' T H (f1 xs qx) (f2 ys qy) hT p
  · have e : i = xs.length := by omega
    subst e
    exact .inl ⟨⟨xs, ys, qx, qy, Or.inl (Nat.le_refl _)⟩, hd H p⟩
theorem zip_get {α β : Type} {xs : List α} {ys : List β} {i : Nat} {x : α} {y : β} (h1 : xs[i]? = some x) (h2 : ys[i]? = some y) : (xs.zip ys)[i]? = some (x, y) := by
  rw [List.getElem?_zip_eq_some]
  exact ⟨h1, h2⟩
theorem zip_len {α β : Type} {xs : List α} {ys : List β} {n : Nat} (h : xs.length = ys.length) (e : n = xs.length) : n = (xs.zip ys).length := by
  rw [List.length_zip, ← h, Nat.min_self]
  exact e
theorem zlen {α β : Type} {vs ws : List V} {xs : List α} {ys : List β} (a : vs.length = xs.length) (b : ws.length = ys.length) (h : xs.length = ys.length) : vs.length = ws.length := by rw [a, b, h]
section
variable {t : TT} {ta tb : TE} {σ : L2.St} {H : Hp}
theorem vv_ifP {p : Prop} [Decidable p] {a b : Int} (ht : Ans t σ H (decide p)) (hx : p → Val ta σ H (.int a)) (hy : ¬ p → Val tb σ H (.int b)) : Val (tIf t ta tb) σ H (.int (if p then a else b)) := by
  by_cases h : p
  · have := vv_if (p := p) (a := a) (b := a) ht (hx h) (tb := ta) (hx h)
    intro Q q
    refine ht _ ?_
    rw [decide_eq_true h, if_pos rfl]
    rw [if_pos h] at q
    exact hx h _ q
  · intro Q q
    refine ht _ ?_
    rw [decide_eq_false h, if_neg Bool.false_ne_true]
    rw [if_neg h] at q
    exact hy h _ q
theorem vv_ifQ {c : Bool} {a b : Int} (ht : Ans t σ H c) (hx : c = true → Val ta σ H (.int a)) (hy : c = false → Val tb σ H (.int b)) : Val (tIf t ta tb) σ H (.int (if c = true then a else b)) := by
  intro Q q
  refine ht _ ?_
  cases c with
  | true =>
    rw [if_pos rfl]
    rw [if_pos rfl] at q
    exact hx rfl _ q
  | false =>
    rw [if_neg Bool.false_ne_true]
    rw [if_neg Bool.false_ne_true] at q
    exact hy rfl _ q
end
theorem kit_mk0 {K : PySem.W.Frag} {S C : Addr} (h1 : (Value.ref S == Value.ref C) = false) (h2 : PySem.W.isClsIn K C = true) (h3 : PySem.W.typeIn K (.ref C) = some (.type "type")) (h4 : PySem.W.subIn K (.ref S) (.ref C) = some false) :
    PySem.W.kitOne K (.ref S) (.ref C) = some false := by
  unfold PySem.W.isClsIn at h2
  unfold PySem.W.kitOne
  rw [if_neg (by rw [h1]; exact Bool.false_ne_true)]
  unfold PySem.W.kitCls
  simp only [h2, h3, h4, beq_self_eq_true, Bool.and_self, if_true]
theorem vv_call2 {ta tb : TE} {σ : L2.St} {H : Hp} {x y z : V} {r : List V → Hp → VK → Prop} (ha : Val ta σ H x) (hb : Val tb σ H y) (hr : ∀ Q : VK, Q z H → r [x, y] H Q) : Val (tCB r (tCons ta (tCons tb tNil))) σ H z := fun Q q => ha _ (hb _ (hr Q q))
/-! ### lists of data that the caller owns; values that are a truth value or a number -/
theorem Sep.stepnew {M : List Addr} {H0 G0 G H H' : Hp} {O : List Addr} {p : Addr} {o : HO} (S : Sep M H0 G0 G H O) {G' : Hp} (e : Same H H') (eG : Same G G') (sG : Same G' H') (hn : ∀ b, H b ≠ none → G b = none → G' b = none) (_n : H p = none) (h : H' p = some o) (g : G' p = none) (hm : H0 p = none) : Sep M H0 G0 G' H' (p :: O) := by
  have S2 := S.step e eG sG hn
  refine ⟨S2.base, S2.pm, S2.sG, S2.g0, S2.gn, fun a ha => ?_⟩
  rcases List.mem_cons.mp ha with rfl | ha
  · exact ⟨g, (fun z => by rw [z] at h; cases h), .inr hm⟩
  · exact S2.ow a ha
inductive Bi where
  | b (x : Bool)
  | n (i : Int)
deriving DecidableEq
def biV : Bi → V
  | .b x => .bl x
  | .n i => .int i
def Bi.el {α : Type} (v : Bi) (f : Bool → α) (g : Int → α) : α :=
  match v with
  | .b x => f x
  | .n i => g i
theorem cW_elb {α : Type} {x : Bool} {f : Bool → Rx α} {g : Int → Rx α} {K : α → Prop} {E : Nat → Prop} (h : cW (Bi.el (.b x) f g) K E) : cW (f x) K E := h
theorem cW_eln {α : Type} {x : Int} {f : Bool → Rx α} {g : Int → Rx α} {K : α → Prop} {E : Nat → Prop} (h : cW (Bi.el (.n x) f g) K E) : cW (g x) K E := h
theorem rp_tup4 {α β γ δ : Type} {f : α → PyData} {g : β → PyData} {h : γ → PyData} {i : δ → PyData} {H : Hp} {v : V} {x : α × β × γ × δ} (r : Rp H v (encT4 f g h i x)) : ∃ a v1 v2 v3 v4, v = .ref a ∧ H a = some (.tup [v1, v2, v3, v4]) ∧ Rp H v1 (f x.1) ∧ Rp H v2 (g x.2.1) ∧ Rp H v3 (h x.2.2.1) ∧ Rp H v4 (i x.2.2.2) := by
  unfold encT4 at r
  cases r with
  | tup h1 h2 =>
    cases h2 with
    | cons a b =>
      cases b with
      | cons b c =>
        cases c with
        | cons c d =>
          cases d with
          | cons d e =>
            cases e
            exact ⟨_, _, _, _, _, rfl, h1, a, b, c, d⟩
theorem rp_mk4 {α β γ δ : Type} {f : α → PyData} {g : β → PyData} {h : γ → PyData} {i : δ → PyData} {H : Hp} {a : Addr} {v1 v2 v3 v4 : V} {x : α} {y : β} {z : γ} {w : δ} (h1 : H a = some (.tup [v1, v2, v3, v4])) (r1 : Rp H v1 (f x)) (r2 : Rp H v2 (g y)) (r3 : Rp H v3 (h z)) (r4 : Rp H v4 (i w)) : Rp H (.ref a) (encT4 f g h i (x, y, z, w)) := .tup h1 (.cons r1 (.cons r2 (.cons r3 (.cons r4 .nil))))
theorem Sep.b0M {M : List Addr} {H0 G0 G H : Hp} {O : List Addr} (S : Sep M H0 G0 G H O) (h : ∀ a ∈ M, H a = H0 a) : Same H0 H := fun b o e => by
  by_cases z : b ∈ M
  · rw [h b z]
    exact e
  · exact S.base b o e z
section
variable {X : Cx} {k j n : Nat} {f C : Addr} {fd : FuncData} {ps ks : List Str} {g : List V → List V → List V} {sp : Sp} {x m : Str} {pos p apos : Pos} {e o : Expr} {es : List Expr} {kws : List Keyword} {ta : TE} {t tk : TA} {W : WX}
/-- keywords alone -/
theorem vx_makeXK {pats : List Pat} (c : MakX X.prog X.w X.K X.mg X.base k x C sp pats) (pt : Pat) (hpt : pt ∈ pats) (hr : RoomG j X.A) (hk : k + 1 ≤ j) (tkW : Takes X W) (hg : Gl X x) (hkw : PK X kws tk)
    (hall : (backToKw pos (keywordEach kws X.env)).all (·.1.isSome) = true := by rfl) (hks : (backToKw pos (keywordEach kws X.env)).filterMap (·.1) = pt.2.1 := by rfl) (hdb : (x == ("__debug__" : Str)) = false := by decide)
    (hpl : ((backTo pos (starEach [] X.env)).any (·.1) || (backToKw pos (keywordEach kws X.env)).any (·.1.isNone)) = false := by rfl) :
    PE X (.Call (.Name x p) [] kws pos) (tMakeX C pt.1 pt.2.1.length sp pt.2.2 W tNil tk) := by
  obtain ⟨f, fd, ps, M, F, hm, b⟩ := c.ex
  refine ⟨fun pins s σ H Q I h => ?_⟩
  refine wpAny_Call_Name_kw (ld_glob I hg hm ?_ hdb)
  refine PySem.W.callWith_KW0 (h₀ := X.base) I.ok.mod.kin M.kp hall ?_ hpl
  refine thn (hkw.run pos pins s σ H _ I h) fun ws s2 ⟨zs, H2, I2, rz, l1, l2, q2⟩ => ⟨I2.kIn, ?_⟩
  rw [hks]
  exact run_mkX (us := []) (vs := []) M F (hr.low hk) (b pt hpt) tkW I2 .nil rz l1 l2 q2
theorem vx_callXK {pats : List Pat} (c : CalX X.prog X.w X.K X.mg X.base k x sp pats) (pt : Pat) (hpt : pt ∈ pats) (hr : RoomG j X.A) (hk : k ≤ j) (tkW : Takes X W) (hg : Gl X x) (hkw : PK X kws tk)
    (hall : (backToKw pos (keywordEach kws X.env)).all (·.1.isSome) = true := by rfl) (hks : (backToKw pos (keywordEach kws X.env)).filterMap (·.1) = pt.2.1 := by rfl) (hdb : (x == ("__debug__" : Str)) = false := by decide)
    (hpl : ((backTo pos (starEach [] X.env)).any (·.1) || (backToKw pos (keywordEach kws X.env)).any (·.1.isNone)) = false := by rfl) :
    PE X (.Call (.Name x p) [] kws pos) (tCallX pt.1 pt.2.1.length sp pt.2.2 W tNil tk) := by
  obtain ⟨f, fd, ps, F, hm, kp, b⟩ := c.ex
  refine ⟨fun pins s σ H Q I h => ?_⟩
  refine wpAny_Call_Name_kw (ld_glob I hg hm ?_ hdb)
  refine PySem.W.callWith_KW0 (h₀ := X.base) I.ok.mod.kin kp hall ?_ hpl
  refine thn (hkw.run pos pins s σ H _ I h) fun ws s2 ⟨zs, H2, I2, rz, l1, l2, q2⟩ => ⟨I2.kIn, ?_⟩
  rw [hks]
  exact run_X (us := []) (vs := []) F (hr.low hk) (b pt hpt) tkW I2 .nil rz l1 l2 q2
theorem vx_methXK {pats : List Pat} {pl : Sem Bool} (c : MetX X.prog X.w X.K X.mg X.base k C m sp pats) (pt : Pat) (hpt : pt ∈ pats) (hr : RoomG j X.A) (hk : k ≤ j) (tkW : Takes X W) (he : PE X o ta) (hkw : PK X kws tk)
    (hall : (backToKw pos (keywordEach kws X.env)).all (·.1.isSome) = true := by rfl) (hks : (backToKw pos (keywordEach kws X.env)).filterMap (·.1) = pt.2.1 := by rfl)
    (hpl : ((backTo pos (starEach [] X.env)).any (·.1) || (backToKw pos (keywordEach kws X.env)).any (·.1.isNone)) = false := by rfl)
    (ht : eval (.Call (.Attribute o m apos) [] kws pos) X.env = (do
      let ov ← eval o X.env
      standAt apos.atName
      let (f, first) ← holding [ov] (getMethod ov m pl)
      callWith pos f first (backTo pos (starEach [] X.env)) (backToKw pos (keywordEach kws X.env))) := by rfl) :
    PE X (.Call (.Attribute o m apos) [] kws pos) (tMethX C m pt.1 pt.2.1.length sp pt.2.2 W ta tNil tk) := by
  obtain ⟨f, fd, ps, hc, hm, F, b⟩ := c.ex
  refine ⟨fun pins s σ H Q I h => ?_⟩
  refine PySem.W.methodCall_KW (pl := pl) (thn (he.run pins s σ H _ I h) fun u s1 ⟨x, H1, I1, rx, a, dx, fs, ex, ea, l, q⟩ => ?_) ht
  subst ex
  obtain rfl : u = Value.ref a := rx
  refine getmeth_ok I1 ea hc hm l ?_
  refine PySem.W.callWith_KW0 (first := [.ref a]) (h₀ := X.base) I.ok.mod.kin hm.kp hall ?_ hpl
  refine thn (hkw.run pos pins s1 σ H1 _ I1 q) fun ws s3 ⟨zs, H3, I3, rz, l1, l2, q3⟩ => ⟨I3.kIn, ?_⟩
  rw [hks]
  exact run_X (us := [.ref a]) (vs := [.ref a]) F (hr.low hk) (b pt hpt) tkW I3 (.cons rfl .nil) rz l1 l2 q3
end
end Vx
/-! # lists within lists that are owned as a whole -/
namespace Vx
open PySem PySem.Spec PyProof.Rows L2
inductive Kd where
  | lst
  | tup
  | ins (C dx : Addr) (ns : List Str)
def Kd.ho : Kd → List V → HO
  | .lst, vs => .lst vs
  | .tup, vs => .tup vs
  | .ins C dx ns, vs => .ins C dx (ns.zip vs)
/-- what stands in the heap as a tree: values as they are, data that stay, nodes of its own -/
inductive Dt where
  | val (v : V)
  | frz (d : PyData)
  | nod (k : Kd) (xs : List Dt)
mutual
inductive Ow (G H : Hp) : List Addr → V → Dt → Prop
  | val (v : V) : Ow G H [] v (.val v)
  | frz {v : V} {d : PyData} : Rp G v d → Ow G H [] v (.frz d)
  | nod {a : Addr} {k : Kd} {vs : List V} {ds : List Dt} {L : List Addr} : H a = some (k.ho vs) → OwAll G H L vs ds → a ∉ L → Ow G H (a :: L) (.ref a) (.nod k ds)
inductive OwAll (G H : Hp) : List Addr → List V → List Dt → Prop
  | nil : OwAll G H [] [] []
  | cons {L1 L2 : List Addr} {v : V} {vs : List V} {d : Dt} {ds : List Dt} : Ow G H L1 v d → OwAll G H L2 vs ds → (∀ b ∈ L1, b ∉ L2) → OwAll G H (L1 ++ L2) (v :: vs) (d :: ds)
end
def Keeps (L : List Addr) (H H' : Hp) : Prop := ∀ b ∈ L, ∀ o, H b = some o → H' b = some o
mutual
theorem Ow.mono {G G' H H' : Hp} (e : Same G G') : ∀ {L : List Addr} {v : V} {d : Dt}, Keeps L H H' → Ow G H L v d → Ow G' H' L v d
  | _, _, _, _, .val v => .val v
  | _, _, _, _, .frz r => .frz (r.mono e)
  | _, _, _, k, .nod h r n => .nod (k _ List.mem_cons_self _ h) (OwAll.mono e (fun b hb => k b (List.mem_cons_of_mem _ hb)) r) n
theorem OwAll.mono {G G' H H' : Hp} (e : Same G G') : ∀ {L : List Addr} {vs : List V} {ds : List Dt}, Keeps L H H' → OwAll G H L vs ds → OwAll G' H' L vs ds
  | _, _, _, _, .nil => .nil
  | _, _, _, k, .cons a r d => .cons (Ow.mono e (fun b hb => k b (List.mem_append_left _ hb)) a) (OwAll.mono e (fun b hb => k b (List.mem_append_right _ hb)) r) d
end
mutual
theorem Ow.there {G H : Hp} : ∀ {L : List Addr} {v : V} {d : Dt}, Ow G H L v d → ∀ b ∈ L, H b ≠ none
  | _, _, _, .val _, _, hb => nomatch hb
  | _, _, _, .frz _, _, hb => nomatch hb
  | _, _, _, .nod h r n, b, hb => by
    rcases List.mem_cons.mp hb with rfl | hb
    · exact some_ne h
    · exact OwAll.there r b hb
theorem OwAll.there {G H : Hp} : ∀ {L : List Addr} {vs : List V} {ds : List Dt}, OwAll G H L vs ds → ∀ b ∈ L, H b ≠ none
  | _, _, _, .nil, _, hb => nomatch hb
  | _, _, _, .cons a r d, b, hb => by
    rcases List.mem_append.mp hb with hb | hb
    · exact Ow.there a b hb
    · exact OwAll.there r b hb
end
theorem OwAll.len {G H : Hp} : ∀ {L : List Addr} {vs : List V} {ds : List Dt}, OwAll G H L vs ds → vs.length = ds.length
  | _, _, _, .nil => rfl
  | _, _, _, .cons _ r _ => congrArg Nat.succ r.len
theorem OwAll.snoc {G H : Hp} {L1 : List Addr} {v : V} {d : Dt} (h : Ow G H L1 v d) : ∀ {L : List Addr} {vs : List V} {ds : List Dt}, OwAll G H L vs ds → (∀ b ∈ L, b ∉ L1) → OwAll G H (L ++ L1) (vs ++ [v]) (ds ++ [d])
  | _, _, _, .nil, _ => by
    have z : OwAll G H (L1 ++ []) [v] [d] := .cons h .nil (fun _ _ z => nomatch z)
    rw [List.append_nil] at z
    exact z
  | _, _, _, .cons (L1 := La) (L2 := Lb) a r n, k => by
    have z := OwAll.cons a (OwAll.snoc h r fun b hb => k b (List.mem_append_right _ hb)) (fun b hb q => by
      rcases List.mem_append.mp q with q | q
      · exact n b hb q
      · exact k b (List.mem_append_left _ hb) q)
    rw [← List.append_assoc] at z
    exact z
theorem OwAll.app {G H : Hp} {L2 : List Addr} {ws : List V} {es : List Dt} (h : OwAll G H L2 ws es) : ∀ {L : List Addr} {vs : List V} {ds : List Dt}, OwAll G H L vs ds → (∀ b ∈ L, b ∉ L2) → OwAll G H (L ++ L2) (vs ++ ws) (ds ++ es)
  | _, _, _, .nil, _ => h
  | _, _, _, .cons (L1 := La) (L2 := Lb) a r n, k => by
    have z := OwAll.cons a (OwAll.app h r fun b hb => k b (List.mem_append_right _ hb)) (fun b hb q => by
      rcases List.mem_append.mp q with q | q
      · exact n b hb q
      · exact k b (List.mem_append_left _ hb) q)
    rw [← List.append_assoc] at z
    exact z
/-! ### trees that are data -/
mutual
inductive Dd : Dt → PyData → Prop
  | non : Dd (.val .non) .none
  | bl (b : Bool) : Dd (.val (.bl b)) (.bool b)
  | int (i : Int) : Dd (.val (.int i)) (.int i)
  | str (x : Str) : Dd (.val (.str x)) (.str x)
  | frz (d : PyData) : Dd (.frz d) d
  | lst {xs : List Dt} {ds : List PyData} : DdAll xs ds → Dd (.nod .lst xs) (.list ds)
  | tup {xs : List Dt} {ds : List PyData} : DdAll xs ds → Dd (.nod .tup xs) (.tuple ds)
inductive DdAll : List Dt → List PyData → Prop
  | nil : DdAll [] []
  | cons {x : Dt} {xs : List Dt} {d : PyData} {ds : List PyData} : Dd x d → DdAll xs ds → DdAll (x :: xs) (d :: ds)
end
mutual
/-- read in any heap that holds its nodes -/
theorem Ow.rp {G H I : Hp} (e : Same G I) : ∀ {L : List Addr} {v : V} {d : Dt} {p : PyData}, Keeps L H I → Ow G H L v d → Dd d p → Rp I v p
  | _, _, _, _, _, .val _, .non => .non
  | _, _, _, _, _, .val _, .bl b => .bl b
  | _, _, _, _, _, .val _, .int i => .int i
  | _, _, _, _, _, .val _, .str x => .str x
  | _, _, _, _, _, .frz r, .frz _ => r.mono e
  | _, _, _, _, k, .nod h r _, .lst q => .lst (k _ List.mem_cons_self _ h) (OwAll.rp e (fun b hb => k b (List.mem_cons_of_mem _ hb)) r q)
  | _, _, _, _, k, .nod h r _, .tup q => .tup (k _ List.mem_cons_self _ h) (OwAll.rp e (fun b hb => k b (List.mem_cons_of_mem _ hb)) r q)
theorem OwAll.rp {G H I : Hp} (e : Same G I) : ∀ {L : List Addr} {vs : List V} {ds : List Dt} {ps : List PyData}, Keeps L H I → OwAll G H L vs ds → DdAll ds ps → RpAll I vs ps
  | _, _, _, _, _, .nil, .nil => .nil
  | _, _, _, _, k, .cons a r _, .cons x xs => .cons (Ow.rp e (fun b hb => k b (List.mem_append_left _ hb)) a x) (OwAll.rp e (fun b hb => k b (List.mem_append_right _ hb)) r xs)
end
def oI (i : Int) : Dt := .val (.int i)
def oB (b : Bool) : Dt := .val (.bl b)
def oF {α : Type} (f : α → PyData) (x : α) : Dt := .frz (f x)
def oL {α : Type} (f : α → Dt) (xs : List α) : Dt := .nod .lst (xs.map f)
def EncO {α : Type} (f : α → Dt) (g : α → PyData) : Prop := ∀ x, Dd (f x) (g x)
theorem encO_I : EncO oI PyData.int := fun i => .int i
theorem encO_B : EncO oB PyData.bool := fun i => .bl i
theorem encO_F {α : Type} {f : α → PyData} : EncO (oF f) f := fun _ => .frz _
theorem EncO.all {α : Type} {f : α → Dt} {g : α → PyData} (h : EncO f g) : ∀ xs : List α, DdAll (xs.map f) (xs.map g)
  | [] => .nil
  | x :: xs => .cons (h x) (EncO.all h xs)
theorem encO_L {α : Type} {f : α → Dt} {g : α → PyData} (h : EncO f g) : EncO (oL f) (encL g) := fun xs => .lst (h.all xs)
theorem keeps_same {L : List Addr} {H H' : Hp} (e : Same H H') : Keeps L H H' := fun b _ o q => e b o q
theorem keeps_refl {L : List Addr} {H : Hp} : Keeps L H H := fun _ _ _ q => q
theorem keeps_mut {L : List Addr} {H H' : Hp} {m : Addr} (x : SameX m H H') (n : ∀ b ∈ L, b ≠ m) : Keeps L H H' := fun b hb o q => x b o q (n b hb)
theorem keeps_muts {L M : List Addr} {H H' : Hp} (x : SameXs M H H') (n : ∀ b ∈ L, b ∉ M) : Keeps L H H' := fun b hb o q => x b o q (n b hb)
theorem keeps_hide {L M : List Addr} {H : Hp} (n : ∀ b ∈ L, b ∉ M) : Keeps L H (hideL M H) := fun b hb o q => by
  rw [hideL_out (n b hb)]
  exact q
section
variable {α : Type} {f : α → Dt} {g : α → PyData} {G H I : Hp} {L : List Addr} {vs : List V} {xs : List α}
theorem OwAll.rpA (w : OwAll G H L vs (xs.map f)) (h : EncO f g) (e : Same G H) : RpAll H vs (xs.map g) := OwAll.rp e keeps_refl w (h.all xs)
theorem OwAll.rpH (w : OwAll G H L vs (xs.map f)) (h : EncO f g) (e : Same G I) (k : Keeps L H I) : RpAll I vs (xs.map g) := OwAll.rp e k w (h.all xs)
theorem OwAll.lenM (w : OwAll G H L vs (xs.map f)) : vs.length = xs.length := by rw [w.len, List.length_map]
theorem OwAll.snocM {L1 : List Addr} {v : V} {y : α} (w : OwAll G H L vs (xs.map f)) (h : Ow G H L1 v (f y)) (n : ∀ b ∈ L, b ∉ L1) : OwAll G H (L ++ L1) (vs ++ [v]) ((xs ++ [y]).map f) := by
  rw [List.map_append]
  exact OwAll.snoc h w n
theorem Ow.ints {a : Addr} {ys : List Int} (h : H a = some (.lst (ys.map V.int))) : Ow G H [a] (.ref a) (oL oI ys) := by
  have z : ∀ ys : List Int, OwAll G H [] (ys.map V.int) (ys.map oI) := fun ys => by
    induction ys with
    | nil => exact .nil
    | cons y r ih => exact .cons (L1 := []) (L2 := []) (.val _) ih (fun _ z => nomatch z)
  exact .nod (k := .lst) h (z ys) (fun z => nomatch z)
theorem Ow.list {a : Addr} {xs : List α} {L : List Addr} {vs : List V} (h : H a = some (.lst vs)) (w : OwAll G H L vs (xs.map f)) (n : ∀ b ∈ L, b ≠ a) : Ow G H (a :: L) (.ref a) (oL f xs) := .nod (k := .lst) h w (fun z => n a z rfl)
theorem Ow.toList {v : V} {L : List Addr} {xs : List α} (w : Ow G H L v (oL f xs)) : ∃ a vs L', v = .ref a ∧ L = a :: L' ∧ H a = some (.lst vs) ∧ OwAll G H L' vs (xs.map f) ∧ ∀ b ∈ L', b ≠ a := by
  unfold oL at w
  cases w with
  | nod h r n => exact ⟨_, _, _, rfl, rfl, h, r, fun b hb z => n (z ▸ hb)⟩
theorem OwAll.toInts : ∀ {L : List Addr} {vs : List V} {xs : List Int}, OwAll G H L vs (xs.map oI) → L = [] ∧ vs = xs.map V.int
  | _, _, [], .nil => ⟨rfl, rfl⟩
  | _, _, x :: xs, .cons a r _ => by
    obtain ⟨h1, h2⟩ := OwAll.toInts r
    cases a
    exact ⟨by rw [h1] <;> rfl, by rw [h2] <;> rfl⟩
theorem Ow.toInts {v : V} {L : List Addr} {xs : List Int} (w : Ow G H L v (oL oI xs)) : ∃ a, v = .ref a ∧ L = [a] ∧ H a = some (.lst (xs.map V.int)) := by
  obtain ⟨a, vs, L', rfl, rfl, h, r, _⟩ := w.toList
  obtain ⟨rfl, rfl⟩ := r.toInts
  exact ⟨a, rfl, rfl, h⟩
/-- the part at a place, and how a change of it alone changes the whole -/
theorem OwAll.part : ∀ {L : List Addr} {vs : List V} {ds : List Dt} {i : Nat} {d : Dt}, OwAll G H L vs ds → ds[i]? = some d → ∃ v L1, vs[i]? = some v ∧ Ow G H L1 v d ∧ (∀ b ∈ L1, b ∈ L) ∧
    ∀ H' d', (∀ b ∈ L, b ∉ L1 → ∀ o, H b = some o → H' b = some o) → Ow G H' L1 v d' → OwAll G H' L vs (ds.set i d')
  | _, _, _, _, _, .nil, h => by simp at h
  | _, _, _, 0, _, .cons (L1 := La) (L2 := Lb) a r n, h => by
    simp at h
    subst h
    refine ⟨_, La, rfl, a, fun b hb => List.mem_append_left _ hb, fun H' d' k w => ?_⟩
    exact .cons w (OwAll.mono (Same.refl G) (fun b hb => k b (List.mem_append_right _ hb) fun z => n b z hb) r) n
  | _, _, _, i + 1, _, .cons (L1 := La) (L2 := Lb) a r n, h => by
    obtain ⟨v, L1, h1, h2, h3, h4⟩ := OwAll.part (i := i) r (by simpa using h)
    refine ⟨v, L1, by simpa using h1, h2, fun b hb => List.mem_append_right _ (h3 b hb), fun H' d' k w => ?_⟩
    refine .cons (Ow.mono (Same.refl G) (fun b hb => k b (List.mem_append_left _ hb) fun z => n b hb (h3 b z)) a) (h4 H' d' (fun b hb nb => k b (List.mem_append_right _ hb) nb) w) n
/-- the same, where the part grows: its new footprint is the old one and what is new -/
theorem OwAll.part2 : ∀ {L : List Addr} {vs : List V} {ds : List Dt} {i : Nat} {d : Dt}, OwAll G H L vs ds → ds[i]? = some d → ∃ v L1, vs[i]? = some v ∧ Ow G H L1 v d ∧ (∀ b ∈ L1, b ∈ L) ∧
    (∀ H' d', (∀ b ∈ L, b ∉ L1 → ∀ o, H b = some o → H' b = some o) → Ow G H' L1 v d' → OwAll G H' L vs (ds.set i d')) ∧
    ∀ H' d' Fv L1', (∀ b ∈ L, b ∉ L1 → ∀ o, H b = some o → H' b = some o) → (∀ b ∈ L1', b ∈ L1 ++ Fv) → (∀ b ∈ Fv, b ∉ L) → Ow G H' L1' v d' → ∃ L', (∀ b ∈ L', b ∈ L ++ Fv) ∧ OwAll G H' L' vs (ds.set i d')
  | _, _, _, _, _, .nil, h => by simp at h
  | _, _, _, 0, _, .cons (L1 := La) (L2 := Lb) a r n, h => by
    simp at h
    subst h
    refine ⟨_, La, rfl, a, fun b hb => List.mem_append_left _ hb, fun H' d' k w => ?_, fun H' d' Fv L1' k s nf w => ⟨L1' ++ Lb, fun b hb => ?_, ?_⟩⟩
    · exact .cons w (OwAll.mono (Same.refl G) (fun b hb => k b (List.mem_append_right _ hb) fun z => n b z hb) r) n
    · rcases List.mem_append.mp hb with hb | hb
      · rcases List.mem_append.mp (s b hb) with q | q
        · exact List.mem_append_left _ (List.mem_append_left _ q)
        · exact List.mem_append_right _ q
      · exact List.mem_append_left _ (List.mem_append_right _ hb)
    · refine .cons w (OwAll.mono (Same.refl G) (fun b hb => k b (List.mem_append_right _ hb) fun z => n b z hb) r) fun b hb q => ?_
      rcases List.mem_append.mp (s b hb) with z | z
      · exact n b z q
      · exact nf b z (List.mem_append_right _ q)
  | _, _, _, i + 1, _, .cons (L1 := La) (L2 := Lb) a r n, h => by
    obtain ⟨v, L1, h1, h2, h3, h4, h5⟩ := OwAll.part2 (i := i) r (by simpa using h)
    refine ⟨v, L1, by simpa using h1, h2, fun b hb => List.mem_append_right _ (h3 b hb), fun H' d' k w => ?_, fun H' d' Fv L1' k s nf w => ?_⟩
    · refine .cons (Ow.mono (Same.refl G) (fun b hb => k b (List.mem_append_left _ hb) fun z => n b hb (h3 b z)) a) (h4 H' d' (fun b hb nb => k b (List.mem_append_right _ hb) nb) w) n
    · obtain ⟨L', s2, z⟩ := h5 H' d' Fv L1' (fun b hb nb => k b (List.mem_append_right _ hb) nb) s (fun b hb q => nf b hb (List.mem_append_right _ q)) w
      refine ⟨La ++ L', fun b hb => ?_, .cons (Ow.mono (Same.refl G) (fun b hb => k b (List.mem_append_left _ hb) fun z => n b hb (h3 b z)) a) z fun b hb q => ?_⟩
      · rcases List.mem_append.mp hb with hb | hb
        · exact List.mem_append_left _ (List.mem_append_left _ hb)
        · rcases List.mem_append.mp (s2 b hb) with q | q
          · exact List.mem_append_left _ (List.mem_append_right _ q)
          · exact List.mem_append_right _ q
      · rcases List.mem_append.mp (s2 b q) with y | y
        · exact n b hb y
        · exact nf b y (List.mem_append_left _ hb)
theorem OwAll.partM [Inhabited α] {k : Int} (w : OwAll G H L vs (xs.map f)) (h : -(xs.length : Int) ≤ k ∧ k < xs.length) : ∃ v L1, atI vs k = some v ∧ Ow G H L1 v (f (itD xs k)) ∧ (∀ b ∈ L1, b ∈ L) ∧
    (∀ H' y, (∀ b ∈ L, b ∉ L1 → ∀ o, H b = some o → H' b = some o) → Ow G H' L1 v (f y) → OwAll G H' L vs ((setL xs k y).map f)) ∧
    ∀ H' y Fv L1', (∀ b ∈ L, b ∉ L1 → ∀ o, H b = some o → H' b = some o) → (∀ b ∈ L1', b ∈ L1 ++ Fv) → (∀ b ∈ Fv, b ∉ L) → Ow G H' L1' v (f y) → ∃ L', (∀ b ∈ L', b ∈ L ++ Fv) ∧ OwAll G H' L' vs ((setL xs k y).map f) := by
  obtain ⟨j, e, hj⟩ := ixN_some h
  have hx := List.getElem?_eq_getElem hj
  obtain ⟨v, L1, h1, h2, h3, h4, h5⟩ := OwAll.part2 (i := j) (d := f xs[j]) w (by rw [List.getElem?_map, hx] <;> rfl)
  have ei : itD xs k = xs[j] := by
    unfold itD atI
    rw [e]
    show (xs[j]?).getD default = _
    rw [hx] <;> rfl
  refine ⟨v, L1, ?_, by rw [ei]; exact h2, h3, fun H' y q w2 => ?_, fun H' y Fv L1' q s nf w2 => ?_⟩
  · unfold atI
    rw [w.lenM, e]
    exact h1
  · have z := h4 H' (f y) q w2
    unfold setL
    rw [e, List.map_set]
    exact z
  · obtain ⟨L', s2, z⟩ := h5 H' (f y) Fv L1' q s nf w2
    refine ⟨L', s2, ?_⟩
    unfold setL
    rw [e, List.map_set]
    exact z
theorem grow_keeps {L L1 : List Addr} {m : Addr} {H H1 H2 : Hp} (e : Same H H1) (x : SameX m H1 H2) (hm : m ∈ L1) : ∀ b ∈ L, b ∉ L1 → ∀ o, H b = some o → H2 b = some o := fun b _ n o q => x b o (e b o q) (fun z => n (z ▸ hm))
theorem grow_sub {a : Addr} {L' Lr Fv : List Addr} (h : ∀ b ∈ L', b ∈ Lr ++ Fv) : ∀ b ∈ a :: L', b ∈ (a :: Lr) ++ Fv := fun b hb => by
  rcases List.mem_cons.mp hb with rfl | hb
  · exact List.mem_cons_self
  · exact List.mem_cons_of_mem _ (h b hb)
/-- the item of a turn -/
theorem OwAll.turn {i : Nat} {v : V} (w : OwAll G H L vs (xs.map f)) (h : vs[i]? = some v) : ∃ x L1, xs[i]? = some x ∧ Ow G H L1 v (f x) ∧ ∀ b ∈ L1, b ∈ L := by
  have hl := get_len h
  have e := w.lenM
  have hx := List.getElem?_eq_getElem (show i < xs.length by omega)
  obtain ⟨v2, L1, h1, h2, h3, _⟩ := OwAll.part (i := i) (d := f xs[i]) w (by rw [List.getElem?_map, hx] <;> rfl)
  rw [h] at h1
  cases h1
  exact ⟨_, L1, hx, h2, h3⟩
end
/-! ### what is owned, in pieces -/
theorem all_app {P : Addr → Prop} {L l : List Addr} (h : ∀ x ∈ L, P x) (t : ∀ x ∈ l, P x) : ∀ x ∈ L ++ l, P x := fun x hx => by
  rcases List.mem_append.mp hx with q | q
  · exact h x q
  · exact t x q
theorem nm_nil {a : Addr} : a ∉ ([] : List Addr) := fun z => nomatch z
theorem nm_cons {a m : Addr} {l : List Addr} (h : a ≠ m) (t : a ∉ l) : a ∉ m :: l := fun z => by
  rcases List.mem_cons.mp z with q | q
  · exact h q
  · exact t q
theorem nm_app {a : Addr} {L l : List Addr} (h : a ∉ L) (t : a ∉ l) : a ∉ L ++ l := fun z => by
  rcases List.mem_append.mp z with q | q
  · exact h q
  · exact t q
theorem there_ne {H : Hp} {L : List Addr} {x : Addr} (t : ∀ b ∈ L, H b ≠ none) (n : H x = none) : ∀ b ∈ L, b ≠ x := fun b hb z => t b hb (z ▸ n)
theorem new_ne {H : Hp} {L : List Addr} {x : Addr} {o : HO} (n : ∀ b ∈ L, H b = none) (h : H x = some o) : ∀ b ∈ L, b ≠ x := fun b hb z => by
  have := n b hb
  rw [z, h] at this
  cases this
theorem new_nl {H : Hp} {L L2 : List Addr} (n : ∀ b ∈ L, H b = none) (t : ∀ b ∈ L2, H b ≠ none) : ∀ b ∈ L, b ∉ L2 := fun b hb z => t b z (n b hb)
theorem nl_symm {L L2 : List Addr} (h : ∀ b ∈ L, b ∉ L2) : ∀ b ∈ L2, b ∉ L := fun b hb z => h b z hb
theorem none_of_same {H H' : Hp} {x : Addr} (e : Same H H') (n : H' x = none) : H x = none := by
  cases q : H x with
  | none => rfl
  | some o =>
    rw [e x o q] at n
    cases n
section
variable {M : List Addr} {H0 G0 G H H' : Hp} {O L : List Addr} {p m : Addr} {o : HO}
theorem Sep.h0 (S : Sep M H0 G0 G H O) {b : Addr} (hb : b ∈ O) (hM : b ∉ M) : H0 b = none := (S.ow b hb).2.2.elim (fun z => (hM z).elim) id
theorem g_nl {a : Addr} {o : HO} (h : G a = some o) (S : Sep M H0 G0 G H O) (hL : ∀ b ∈ L, b ∈ O) : ∀ b ∈ L, b ≠ a := fun b hb => (g_ne h S (hL b hb)).symm
theorem b_nl {a : Addr} {o : HO} (h : (hideL M H0) a = some o) (S : Sep M H0 G0 G H O) (hL : ∀ b ∈ L, b ∈ O) : ∀ b ∈ L, b ≠ a := fun b hb => (b_ne h S (hL b hb)).symm
/-- a whole tree that is to stay as it is -/
theorem Sep.freezeL (S : Sep M H0 G0 G H O) {O' : List Addr} (hL : ∀ b ∈ L, b ∈ O) (h0 : ∀ b ∈ L, H0 b = none) (hO : ∀ b ∈ O', b ∈ O ∧ b ∉ L) : ∃ G', Same G G' ∧ Keeps L H G' ∧ Sep M H0 G0 G' H O' := by
  have gn : ∀ b ∈ L, G b = none := fun b hb => (S.ow b (hL b hb)).1
  refine ⟨fun b => if b ∈ L then H b else G b, fun b u q => ?_, fun b hb u q => ?_, S.base, S.pm, fun b u q => ?_, fun b u q => ?_, fun b hb gb => ?_, fun a ha => ?_⟩
  · have n : b ∉ L := fun z => by
      rw [gn b z] at q
      cases q
    show (if b ∈ L then H b else G b) = _
    rw [if_neg n]
    exact q
  · show (if b ∈ L then H b else G b) = _
    rw [if_pos hb]
    exact q
  · by_cases z : b ∈ L
    · exact (if_pos z).symm.trans q
    · exact S.sG b u ((if_neg z).symm.trans q)
  · have z : b ∉ L := fun z => by
      have := S.g0 b u q
      rw [gn b z] at this
      cases this
    show (if b ∈ L then H b else G b) = _
    rw [if_neg z]
    exact S.g0 b u q
  · have z : b ∉ L := fun z => hb (h0 b z)
    show (if b ∈ L then H b else G b) = _
    rw [if_neg z]
    exact S.gn b hb gb
  · obtain ⟨h1, h2⟩ := hO a ha
    refine ⟨?_, (S.ow a h1).2⟩
    show (if a ∈ L then H a else G a) = _
    rw [if_neg h2]
    exact (S.ow a h1).1
/-- a callee hands over a list of lists of its own making -/
theorem Sep.steptree (S : Sep M H0 G0 G H O) {G' : Hp} (e : Same H H') (eG : Same G G') (sG : Same G' H') (hn : ∀ b, H b ≠ none → G b = none → G' b = none) (L : List Addr) (hL : ∀ b ∈ L, H b = none ∧ G' b = none ∧ H' b ≠ none) : Sep M H0 G0 G' H' (L ++ O) := by
  have S2 := S.step e eG sG hn
  refine ⟨S2.base, S2.pm, S2.sG, S2.g0, S2.gn, all_app (fun b hb => ⟨(hL b hb).2.1, (hL b hb).2.2, .inr (S.free (hL b hb).1)⟩) S2.ow⟩
end
theorem Rp.list_of {α : Type} {g : α → PyData} {H : Hp} {a : Addr} {vs : List V} {xs : List α} (h : H a = some (.lst vs)) (r : RpAll H vs (xs.map g)) : Rp H (.ref a) (encL g xs) := .lst h r
/-! ### repr of data -/
mutual
def nodes : PyData → Nat
  | .list xs => 1 + nodesAll xs
  | .tuple xs => 1 + nodesAll xs
  | _ => 1
def nodesAll : List PyData → Nat
  | [] => 0
  | x :: xs => nodes x + nodesAll xs
end
mutual
def smallD : PyData → Bool
  | .none => true
  | .bool _ => true
  | .int i => decide (i.natAbs < 10 ^ 19)
  | .str x => decide ((reprText x).length ≤ 20)
  | .list xs => smallAll xs
  | .tuple xs => smallAll xs
  | _ => false
def smallAll : List PyData → Bool
  | [] => true
  | x :: xs => smallD x && smallAll xs
end
theorem piled_list (ts : List Str) : (listText ts).length ≤ piled ts + 2 := by
  cases ts with
  | nil => exact Nat.le_refl 2
  | cons t r =>
    have e : (listText (t :: r)).length = (textFrom 1 ("[" ++ ("" : String) ++ t) r).length + 1 := by
      show (textFrom 0 "[" (t :: r) ++ "]").length = _
      rw [strLen_append]
      rfl
    rw [e, textFrom_length_pos r 1 _ (by decide), piled_cons, strLen_append, strLen_append]
    have h1 : (("[" : String) : Str).length = 1 := rfl
    have h2 : (("" : String) : Str).length = 0 := rfl
    omega
theorem piled_tup (ts : List Str) : (tupleText ts).length ≤ piled ts + 3 := by
  unfold tupleText
  rw [strLen_append, strLen_append]
  have h1 : (("(" : String) : Str).length = 1 := rfl
  have h2 : (((if ts.length == 1 then ",)" else ")" : String) : Str)).length ≤ 2 := by split <;> decide
  by_cases h : ts = []
  · subst h
    exact Nat.le_of_lt (by decide)
  · have := join_length_add ts h
    omega
mutual
theorem small_shown : ∀ d : PyData, smallD d = true → d.shown.length + 4 ≤ 26 * nodes d ∧ d.showable = true ∧ d.hasDict = false
  | .none, _ => ⟨by simp only [PyData.shown, nodes]; decide, by simp [PyData.showable], by simp [PyData.hasDict]⟩
  | .bool b, _ => ⟨by cases b <;> simp only [PyData.shown, nodes] <;> decide, by simp [PyData.showable], by simp [PyData.hasDict]⟩
  | .int i, h => by
    have h : i.natAbs < 10 ^ 19 := by simpa [smallD] using h
    refine ⟨?_, ?_, by simp [PyData.hasDict]⟩
    · have := int_text_length_le10 (k := 19) (by decide) h
      simp only [PyData.shown, nodes]
      rw [PySem.ofString_length]
      omega
    · simp only [PyData.showable, decide_eq_true_eq]
      have : i.natAbs < 2 ^ 64 := by omega
      rcases Nat.eq_zero_or_pos i.natAbs with z | z
      · rw [z]
        decide
      · have := (Nat.log2_lt (by omega)).mpr this
        omega
  | .str x, h => by
    have h : (reprText x).length ≤ 20 := by simpa [smallD] using h
    refine ⟨by simp only [PyData.shown, nodes]; omega, by simp [PyData.showable], by simp [PyData.hasDict]⟩
  | .list xs, h => by
    obtain ⟨h1, h2, h3⟩ := small_shownAll xs (by simpa [smallD] using h)
    refine ⟨?_, by simpa [PyData.showable] using h2, by simpa [PyData.hasDict] using h3⟩
    have := piled_list (PyData.shownAll xs)
    simp only [PyData.shown, nodes]
    omega
  | .tuple xs, h => by
    obtain ⟨h1, h2, h3⟩ := small_shownAll xs (by simpa [smallD] using h)
    refine ⟨?_, by simpa [PyData.showable] using h2, by simpa [PyData.hasDict] using h3⟩
    have := piled_tup (PyData.shownAll xs)
    simp only [PyData.shown, nodes]
    omega
  | .dict kvs, h => by simp [smallD] at h
theorem small_shownAll : ∀ ds : List PyData, smallAll ds = true → piled (PyData.shownAll ds) ≤ 26 * nodesAll ds ∧ PyData.showableAll ds = true ∧ PyData.hasDictAll ds = false
  | [], _ => ⟨by simp [PyData.shownAll, nodesAll, piled], by simp [PyData.showableAll], by simp [PyData.hasDictAll]⟩
  | d :: ds, h => by
    have h : smallD d = true ∧ smallAll ds = true := by simpa [smallAll] using h
    obtain ⟨a1, a2, a3⟩ := small_shown d h.1
    obtain ⟨b1, b2, b3⟩ := small_shownAll ds h.2
    refine ⟨?_, by simp [PyData.showableAll, a2, b2], by simp [PyData.hasDictAll, a3, b3]⟩
    simp only [PyData.shownAll, nodesAll, piled_cons]
    omega
end
/-- data that repr may show -/
def ShowOk (d : PyData) : Prop := smallD d = true ∧ nodes d ≤ 600000 ∧ d.depth ≤ 60
instance (d : PyData) : Decidable (ShowOk d) := by unfold ShowOk; infer_instance
def rRepr : List V → Hp → VK → Prop := fun xs H Q => ∃ (a : Addr) (d : PyData), xs = [.ref a] ∧ Rp H (.ref a) d ∧ ShowOk d ∧ Q (.str d.shown) H
theorem call_reprD {X : Cx} (hg : X.A.guards = some []) (hu : X.A.units + 64 < cLine) : CallR X (.builtin "repr") rRepr := by
  intro pins s σ H xs us Q I r h
  obtain ⟨a, d, rfl, rp, ⟨ok, nd, dp⟩, q⟩ := h
  obtain ⟨h1, h2, h3⟩ := small_shown d ok
  cases r with
  | cons ra rn =>
    cases rn
    cases ra
    obtain ⟨as, reads⟩ := Dp.reads I d _ _ rp.dp rfl
    refine repr_of_reads' reads h2 (PyData.noDict_hsm h3) hg (by omega) (fun _ _ e => e) (fun h' u tk k => ⟨.str d.shown, H, I.kept k, ⟨u, rfl⟩, q⟩) ?_
    show d.shown.length ≤ 2 ^ 24
    omega
/-- small data: nodes, depth -/
def Sm (n k : Nat) (d : PyData) : Prop := smallD d = true ∧ nodes d ≤ n ∧ d.depth ≤ k
theorem Sm.imp {n k n' k' : Nat} {d : PyData} (h : Sm n k d) (a : n ≤ n') (b : k ≤ k') : Sm n' k' d := ⟨h.1, Nat.le_trans h.2.1 a, Nat.le_trans h.2.2 b⟩
theorem Sm.show {n k : Nat} {d : PyData} (h : Sm n k d) (a : n ≤ 600000 := by decide) (b : k ≤ 60 := by decide) : ShowOk d := h.imp a b
theorem sm_non : Sm 1 0 .none := ⟨by simp [smallD], by simp [nodes], by simp [PyData.depth]⟩
theorem sm_bool (b : Bool) : Sm 1 0 (.bool b) := ⟨by simp [smallD], by simp [nodes], by simp [PyData.depth]⟩
theorem sm_int {i : Int} (h : -10000000000000000000 < i ∧ i < 10000000000000000000) : Sm 1 0 (.int i) := ⟨by simp only [smallD, decide_eq_true_eq]; omega, by simp [nodes], by simp [PyData.depth]⟩
theorem sm_all {α : Type} {f : α → PyData} {n k : Nat} : ∀ {xs : List α}, (∀ x ∈ xs, Sm n k (f x)) → smallAll (xs.map f) = true ∧ nodesAll (xs.map f) ≤ xs.length * n ∧ PyData.depthAll (xs.map f) ≤ k
  | [], _ => ⟨by simp [smallAll], by simp [nodesAll], by simp [PyData.depthAll]⟩
  | x :: xs, h => by
    obtain ⟨a1, a2, a3⟩ := h x List.mem_cons_self
    obtain ⟨b1, b2, b3⟩ := sm_all fun y hy => h y (List.mem_cons_of_mem _ hy)
    refine ⟨by simp [smallAll, a1, b1], ?_, ?_⟩
    · simp only [List.map_cons, nodesAll, List.length_cons, Nat.succ_mul]
      omega
    · simp only [List.map_cons, PyData.depthAll]
      omega
theorem sm_L {α : Type} {f : α → PyData} {n k m : Nat} {xs : List α} (h : ∀ x ∈ xs, Sm n k (f x)) (hm : xs.length ≤ m) : Sm (1 + m * n) (k + 1) (encL f xs) := by
  obtain ⟨a1, a2, a3⟩ := sm_all h
  refine ⟨by simp [encL, smallD, a1], ?_, ?_⟩
  · have := Nat.mul_le_mul_right n hm
    simp only [encL, nodes]
    omega
  · simp only [encL, PyData.depth]
    omega
theorem sm_ints {xs : List Int} {m : Nat} (h : ∀ x ∈ xs, -10000000000000000000 < x ∧ x < 10000000000000000000) (hm : xs.length ≤ m) : Sm (1 + m * 1) 1 (encL PyData.int xs) := sm_L (fun x hx => sm_int (h x hx)) hm
theorem sm_T2 {α β : Type} {f : α → PyData} {g : β → PyData} {n k m j : Nat} {p : α × β} (h1 : Sm n k (f p.1)) (h2 : Sm m j (g p.2)) : Sm (1 + n + m) (max k j + 1) (encT2 f g p) := by
  obtain ⟨a1, a2, a3⟩ := h1
  obtain ⟨b1, b2, b3⟩ := h2
  refine ⟨by simp [encT2, smallD, smallAll, a1, b1], ?_, ?_⟩
  · simp only [encT2, nodes, nodesAll]
    omega
  · simp only [encT2, PyData.depth, PyData.depthAll]
    omega
theorem sm_T3 {α β γ : Type} {f : α → PyData} {g : β → PyData} {h : γ → PyData} {n k m j l i : Nat} {p : α × β × γ} (h1 : Sm n k (f p.1)) (h2 : Sm m j (g p.2.1)) (h3 : Sm l i (h p.2.2)) : Sm (1 + n + m + l) (max k (max j i) + 1) (encT3 f g h p) := by
  obtain ⟨a1, a2, a3⟩ := h1
  obtain ⟨b1, b2, b3⟩ := h2
  obtain ⟨c1, c2, c3⟩ := h3
  refine ⟨by simp [encT3, smallD, smallAll, a1, b1, c1], ?_, ?_⟩
  · simp only [encT3, nodes, nodesAll]
    omega
  · simp only [encT3, PyData.depth, PyData.depthAll]
    omega
end Vx
namespace Vx
open PySem PySem.Spec PyProof.Rows L2
theorem new_ne2 {H : Hp} {L : List Addr} {x : Addr} (n : ∀ b ∈ L, H b = none) (h : H x ≠ none) : ∀ b ∈ L, b ≠ x := fun b hb z => h (z ▸ n b hb)
theorem upd_tree {α : Type} {f : α → Dt} {G H H' : Hp} {L L1 : List Addr} {vs : List V} {xs : List α} {k : Int} {v : V} {m : Addr} {y : α} (up : ∀ H' y, (∀ b ∈ L, b ∉ L1 → ∀ o, H b = some o → H' b = some o) → Ow G H' L1 v (f y) → OwAll G H' L vs ((setL xs k y).map f)) (x : SameX m H H') (hm : m ∈ L1) (w : Ow G H' L1 v (f y)) :
    OwAll G H' L vs ((setL xs k y).map f) := up H' y (fun c _ n o q => x c o q (fun z => n (z ▸ hm))) w
theorem Ow.toFrz {α : Type} {f : α → PyData} {G H : Hp} {L : List Addr} {v : V} {x : α} (w : Ow G H L v (oF f x)) : L = [] ∧ Rp G v (f x) := by
  unfold oF at w
  cases w with
  | frz r => exact ⟨rfl, r⟩
section
variable {α : Type} {f : α → Dt} {G H : Hp} {L : List Addr} {vs : List V} {xs : List α}
theorem OwAll.pin {i : Nat} {v : V} {x : α} (w : OwAll G H L vs (xs.map f)) (h : vs[i]? = some v) (hx : xs[i]? = some x) : ∃ L1, Ow G H L1 v (f x) ∧ ∀ b ∈ L1, b ∈ L := by
  obtain ⟨y, L1, h1, h2, h3⟩ := OwAll.turn w h
  rw [hx] at h1
  cases h1
  exact ⟨L1, h2, h3⟩
theorem OwAll.pinInts {i : Nat} {b : Addr} {xs : List (List Int)} {x : List Int} (w : OwAll G H L vs (xs.map (oL oI))) (h : vs[i]? = some (.ref b)) (hx : xs[i]? = some x) : H b = some (.lst (x.map V.int)) ∧ b ∈ L := by
  obtain ⟨L1, w1, h1⟩ := OwAll.pin w h hx
  obtain ⟨c, e, rfl, h2⟩ := Ow.toInts w1
  cases e
  exact ⟨h2, h1 _ List.mem_cons_self⟩
end
end Vx
namespace Vx
open PySem PySem.Spec PyProof.Rows L2
theorem lookup_relab {c : Str → Bool} {y : Str} : ∀ l : List (Str × NameKind), (l.lookup y = some .cell ∨ l.lookup y = some .free) →
    ((l.map fun (n, k) => if (k == .free && c n) then (n, NameKind.cell) else (n, k)).lookup y = some .cell ∨ (l.map fun (n, k) => if (k == .free && c n) then (n, NameKind.cell) else (n, k)).lookup y = some .free)
  | [], h => by simp at h
  | (n, k) :: r, h => by
    rw [List.map_cons]
    dsimp only
    by_cases e : y == n
    · have hk : k = .cell ∨ k = .free := by
        rw [List.lookup_cons, e] at h
        simpa using h
      by_cases q : (k == .free && c n) = true
      · left
        rw [if_pos q, List.lookup_cons, e]
      · rw [if_neg q, List.lookup_cons, e]
        simpa using hk
    · have e : (y == n) = false := by simpa using e
      rw [List.lookup_cons, e] at h
      have ih := lookup_relab (c := c) r h
      by_cases q : (k == .free && c n) = true
      · rw [if_pos q, List.lookup_cons, e]
        exact ih
      · rw [if_neg q, List.lookup_cons, e]
        exact ih
theorem blk_relabel {N : List Str} {sc scope : Scope} {env : Env} {own : List (Str × Nat)} (h : BlkOk N sc scope own) : BlkOk N (relabel sc env) scope own := by
  refine ⟨h.kind, h.uniq, h.ix, fun y hy e => ?_, h.own⟩
  have z := lookup_relab (c := fun n => env.scope.kind == .function && env.kindOf n == some .cell) (y := y.1) sc.names (h.free y hy e)
  unfold relabel
  simpa only [Bool.and_assoc] using z
end Vx
namespace Vx
open PySem PySem.Spec PyProof.Rows L2
theorem FnG.low {P : Program} {w : World} {K : PySem.W.Frag} {mg : Str → Option Value} {base : Heap} {cx : CXT} {j k : Nat} {f : Addr} {fd : FuncData} {ps : List Str} {sp : Sp} (F : FnG P w K mg base cx j f fd ps sp) (h : j ≤ k) : FnG P w K mg base cx k f fd ps sp := ⟨F.len, fun A o s H a us vs Q E r => F.run A o s H a us vs Q E (r.low h)⟩
/-! ### a local name that holds one of several defs -/
structure HeldX (P : Program) (w : World) (K : PySem.W.Frag) (mg : Str → Option Value) (base : Heap) (k n : Nat) (f : Addr) (sp : Sp) : Prop where
  ex : ∃ (fd : FuncData) (ps : List Str), FnG P w K mg base (L2.CX P w) k f fd ps sp ∧ PySem.W.keepIn K (.ref f) = true ∧ Bnd K fd ps n [] (fun vs _ => vs)
theorem HeldX.of {P : Program} {w : World} {K : PySem.W.Frag} {mg : Str → Option Value} {base : Heap} {j k n : Nat} {x : Str} {sp : Sp} {pats : List Pat} {a : Addr} (c : CalX P w K mg base j x sp pats) (hx : mg x = some (.ref a)) (hp : (n, [], fun vs _ => vs) ∈ pats) (hj : j ≤ k) : HeldX P w K mg base k n a sp := by
  obtain ⟨f, fd, ps, F, hm, kp, b⟩ := c.ex
  rw [hx] at hm
  injection hm with hm
  injection hm with hm
  subst hm
  exact ⟨fd, ps, F.low hj, kp, b _ hp⟩
def tCallF (i n : Nat) (L : List (Addr × Sp)) (W : WX) (t : TA) : TE := fun σ H Q => ∃ f sp, σ[i]? = some (some (.ref f)) ∧ (f, sp) ∈ L ∧ t σ H fun vs H1 => vs.length = n ∧ ([] : List V).length = 0 ∧ sp vs H1 Q (WE W σ)
theorem vx_callF {X : Cx} {k j i n : Nat} {x : Str} {p pos : Pos} {e : Expr} {es : List Expr} {t : TA} {W : WX} (L : List (Addr × Sp)) (A : ∀ q ∈ L, HeldX X.prog X.w X.K X.mg X.base k n q.1 q.2) (hr : RoomG j X.A) (hk : k ≤ j) (tkW : Takes X W) (hN : X.N[i]? = some x) (hv : Vis X.env.scope x) (ha : PA X (e :: es) t)
    (hdb : (x == ("__debug__" : Str)) = false := by decide) (hcd : (x == ("__classdict__" : Str)) = false := by decide) (he : starEach (e :: es) X.env = (false, eval e X.env) :: starEach es X.env := by rfl) (hpl : (backTo pos (starEach es X.env)).any (·.1) = false := by rfl) :
    PE X (.Call (.Name x p) (e :: es) [] pos) (tCallF i n L W t) := by
  constructor
  intro pins s σ H Q I h
  obtain ⟨f, sp, slot, mem, rest⟩ := h
  obtain ⟨fd, ps, F, kp, b⟩ := (A _ mem).ex
  refine wpAny_Call_Name_kw (thn ((pe_var (pos := p) hN hv hdb hcd).run pins s σ H (fun v H1 => v = .ref f ∧ H1 = H) I ⟨.ref f, slot, rfl, rfl⟩) ?_)
  rintro u s1 ⟨v, H1, I1, r1, rfl, rfl⟩
  cases r1
  refine PySem.W.callWith_K (h₀ := X.base) I.ok.mod.kin kp (thn (ha.run pos pins s1 σ _ _ I1 rest) ?_) he hpl
  rintro us s2 ⟨vs, H2, I2, r, l1, l2, q⟩
  exact ⟨I2.kIn, run_X (us := us) (ws := []) (zs := []) F (hr.low hk) b tkW I2 r .nil l1 l2 q⟩
/-! ### the least of a list, the place of an item -/
def minL : List Int → Int
  | [] => 0
  | [x] => x
  | x :: y :: r => if x ≤ minL (y :: r) then x else minL (y :: r)
theorem minL_spec : ∀ (xs : List Int), xs ≠ [] → minL xs ∈ xs ∧ ∀ y ∈ xs, minL xs ≤ y
  | [], h => absurd rfl h
  | [x], _ => ⟨List.mem_cons_self, fun y hy => by rw [List.mem_singleton.mp hy]; exact Int.le_refl x⟩
  | x :: y :: r, _ => by
    obtain ⟨h1, h2⟩ := minL_spec (y :: r) (fun z => nomatch z)
    unfold minL
    split
    · refine ⟨List.mem_cons_self, fun z hz => ?_⟩
      rcases List.mem_cons.mp hz with rfl | hz
      · exact Int.le_refl _
      · have := h2 z hz
        omega
    · refine ⟨List.mem_cons_of_mem _ h1, fun z hz => ?_⟩
      rcases List.mem_cons.mp hz with rfl | hz
      · omega
      · exact h2 z hz
def maxL (xs : List Int) : Int := -(minL (xs.map fun x => -x))
theorem maxL_spec (xs : List Int) (h : xs ≠ []) : maxL xs ∈ xs ∧ ∀ y ∈ xs, y ≤ maxL xs := by
  obtain ⟨h1, h2⟩ := minL_spec (xs.map fun x => -x) (by simpa using h)
  obtain ⟨z, hz, e⟩ := List.mem_map.mp h1
  unfold maxL
  refine ⟨by rw [← e, Int.neg_neg]; exact hz, fun y hy => ?_⟩
  have := h2 _ (List.mem_map_of_mem hy)
  omega
section
variable {X : Cx} {K : PySem.W.Frag}
def rMinL (K : PySem.W.Frag) : List V → Hp → VK → Prop := fun vs H Q => ∃ (a : Addr) (ns : List Int), vs = [V.ref a] ∧ SqL K H a (ns.map V.int) ∧ ns ≠ [] ∧ Q (.int (minL ns)) H
def rMaxL (K : PySem.W.Frag) : List V → Hp → VK → Prop := fun vs H Q => ∃ (a : Addr) (ns : List Int), vs = [V.ref a] ∧ SqL K H a (ns.map V.int) ∧ ns ≠ [] ∧ Q (.int (maxL ns)) H
theorem cr_minL (hc : X.calm = true) (hK : X.K = K := by rfl) : CallR X (.builtin "min") (rMinL K) := by
  subst hK
  intro pins s σ H vs us Q I r h
  obtain ⟨a, ns, rfl, hs, hn, q⟩ := h
  refine cr_min hc pins s σ H _ us Q I r ⟨a, ns, rfl, hs, List.length_pos_iff.mpr hn, fun m hm hle => ?_⟩
  obtain ⟨h1, h2⟩ := minL_spec ns hn
  have e : m = minL ns := Int.le_antisymm (by have := hle _ h1; omega) (h2 m hm)
  rw [e]
  exact q
theorem cr_maxL (hc : X.calm = true) (hK : X.K = K := by rfl) : CallR X (.builtin "max") (rMaxL K) := by
  subst hK
  intro pins s σ H vs us Q I r h
  obtain ⟨a, ns, rfl, hs, hn, q⟩ := h
  refine cr_max hc pins s σ H _ us Q I r ⟨a, ns, rfl, hs, List.length_pos_iff.mpr hn, fun m hm hle => ?_⟩
  obtain ⟨h1, h2⟩ := maxL_spec ns hn
  have e : m = maxL ns := Int.le_antisymm (h2 m hm) (by have := hle _ h1; omega)
  rw [e]
  exact q
end
end Vx
namespace Vx
open PySem PySem.Spec PyProof.Rows L2
def idxL (ns : List Int) (i : Int) : Int := (ns.idxOf i : Nat)
def rIndexI (K : PySem.W.Frag) : V → List V → Hp → VK → Prop := fun x xs H Q => ∃ (a : Addr) (ns : List Int) (i : Int), x = V.ref a ∧ xs = [.int i] ∧ SqL K H a (ns.map V.int) ∧ i ∈ ns ∧ Q (.int (idxL ns i)) H
theorem mt_indexI {X : Cx} {K : PySem.W.Frag} (hK : X.K = K := by rfl) : MtR X "list.index" (rIndexI K) := by
  subst hK
  intro pins s σ H x xs v us Q I rx rxs h
  obtain ⟨a, ns, i, rfl, rfl, hs, hi, q⟩ := h
  have hl := List.idxOf_lt_length_of_mem hi
  refine mt_index pins s σ H _ _ v us Q I rx rxs ⟨a, _, .int i, ns.idxOf i, .int i, rfl, rfl, hs, rfl, flat_ints ns, ?_, by simp [eqV], fun m z hm hz => ?_, q⟩
  · rw [List.getElem?_map, List.getElem?_eq_getElem hl, List.getElem_idxOf hl] <;> rfl
  · rw [List.getElem?_map] at hz
    cases e : ns[m]? with
    | none => rw [e] at hz; cases hz
    | some y =>
      rw [e] at hz
      cases hz
      have hml : m < ns.length := by omega
      have hy : ns[m] = y := by
        rw [List.getElem?_eq_getElem hml] at e
        exact Option.some.inj e
      have := List.not_of_lt_findIdx (p := (· == i)) (xs := ns) (i := m) hm
      simp only [beq_iff_eq, hy] at this
      simp [eqV, this]
theorem cW_aftgo {σ ρ τ : Type} {s : σ} {kr : ρ → Rx τ} {k : σ → Rx τ} {K : τ → Prop} {E : Nat → Prop} (h : cW ((Lp.go s : Lp σ ρ).aft kr k) K E) : cW (k s) K E := h
end Vx
namespace Vx
open PySem PySem.Spec PyProof.Rows L2
/-! ### a truth value or a number beside a number -/
def Bi.num : Bi → Int
  | .b x => if x then 1 else 0
  | .n i => i
def Bi.dat : Bi → PyData
  | .b x => .bool x
  | .n i => .int i
section
variable {X : Cx}
def rEqBI : R2 := fun x y H Q => ∃ (b : Bi) (i : Int), x = biV b ∧ y = .int i ∧ Q (.bl (decide (b.num = i))) H
def rNeBI : R2 := fun x y H Q => ∃ (b : Bi) (i : Int), x = biV b ∧ y = .int i ∧ Q (.bl (!decide (b.num = i))) H
theorem eqv_bi (b : Bi) (i : Int) : PyData.eqv b.dat (.int i) = decide (b.num = i) := by
  cases b with
  | b x => cases x <;> (rw [Bool.eq_iff_iff]; simp [Bi.dat, Bi.num, PyData.eqv])
  | n j =>
    rw [Bool.eq_iff_iff]
    simp only [Bi.dat, Bi.num, PyData.eqv, beq_iff_eq]
    exact decide_eq_true_iff.symm
theorem dp_bi {K : PySem.W.Frag} {H : Hp} : ∀ b : Bi, Dp K H (biV b) b.dat
  | .b x => .bl x
  | .n i => .int i
theorem shaped_bi : ∀ b : Bi, SeqAt.shaped b.dat = true
  | .b x => by unfold SeqAt.shaped; simp [Bi.dat, PyData.canLay0, PyData.depth]
  | .n i => by unfold SeqAt.shaped; simp [Bi.dat, PyData.canLay0, PyData.depth]
theorem op_eqBI (hu : X.A.units + 64 < cLine) : OpR X (compareOp .Eq) rEqBI := by
  intro pins s σ H x y v u Q I rx ry h
  obtain ⟨b, i, rfl, rfl, q⟩ := h
  exact op_eqD hu pins s σ H _ _ v u Q I rx ry ⟨b.dat, .int i, dp_bi b, .int i, shaped_bi b, shaped_bi (.n i), by rw [eqv_bi]; exact q⟩
theorem op_neBI (hu : X.A.units + 64 < cLine) : OpR X (compareOp .NotEq) rNeBI := by
  intro pins s σ H x y v u Q I rx ry h
  obtain ⟨b, i, rfl, rfl, q⟩ := h
  exact op_neD hu pins s σ H _ _ v u Q I rx ry ⟨b.dat, .int i, dp_bi b, .int i, shaped_bi b, shaped_bi (.n i), by rw [eqv_bi]; exact q⟩
end
end Vx
namespace Vx
open PySem PySem.Spec PyProof.Rows L2
/-! ### == of own objects by an own __eq__ that never raises -/
section
variable {X : Cx} {k j : Nat}
def rEqX (C : Addr) (n mm : Nat) (sp : Sp) (g : List V → List V → List V) : R2 := fun x y H Q => ∃ (a b dx dy : Addr) (fs gs : List (Str × V)), x = .ref a ∧ y = .ref b ∧ H a = some (.ins C dx fs) ∧ H b = some (.ins C dy gs) ∧ 2 = n ∧ 0 = mm ∧ sp (g [x, y] []) H (fun v H' => (∃ r, v = .bl r) ∧ Q v H') E0
theorem op_eqX {C : Addr} {sp : Sp} {pats : List Pat} (c : MetX X.prog X.w X.K X.mg X.base k C "__eq__" sp pats) (pt : Pat) (hpt : pt ∈ pats) (hr : RoomG j X.A) (hk : k ≤ j) (hks : pt.2.1 = [] := by rfl) : OpR X (compareOp .Eq) (rEqX C pt.1 pt.2.1.length sp pt.2.2) := by
  intro pins s σ H x y v u Q I rx ry hq
  obtain ⟨a, b, dx, dy, fs, gs, rfl, rfl, ha, hb', l1, l2, q⟩ := hq
  obtain ⟨f, fd, ps, hc, hm, F, bb⟩ := c.ex
  cases rx
  cases ry
  obtain ⟨mA, J, _⟩ := ins_get I.hok ha
  obtain ⟨mB, J', _⟩ := ins_get I.hok hb'
  obtain ⟨od, J, _⟩ := J.look
  obtain ⟨od', J', _⟩ := J'.look
  obtain ⟨m, hF⟩ := I.fr
  have hz := run_X (us := [.ref a, .ref b]) (vs := [.ref a, .ref b]) (ws := []) (zs := []) F (hr.low hk) (bb pt hpt) (takes0 (X := X)) I (.cons rfl (.cons rfl .nil)) .nil l1 l2 q
  rw [hks] at hz
  show wpAny (model X.prog X.w) X.A (richCompare .Eq (.ref a) (.ref b)) (EP X pins σ Q) X.xe s
  refine PySem.W.cmp_K (op := .Eq) (tb := .ref C) (hr.low hk).toRoom.units0 hF I.ok.mod.kin J J'.type (by simp [PySem.W.notFirst]) hm.at_ hm.fn ?_
  refine wpAny_mono hz (fun r s' z => ?_) fun _ _ e => e
  obtain ⟨w, H', I', rw', ⟨⟨q1, rfl⟩, q2⟩⟩ := z
  cases rw'
  exact ⟨V.bl q1, H', I', rfl, q2⟩
end
end Vx
namespace Vx
open PySem PySem.Spec PyProof.Rows L2
/-! ### isinstance of the exception in hand: a built-in class, a tuple of classes -/
theorem kit_blt {K : PySem.W.Frag} {D : Addr} {T : String} {b : Bool} (h : PySem.W.subIn K (.ref D) (.type T) = some b) (h0 : PySem.W.kitMeta T = true := by decide +kernel) : PySem.W.kitOne K (.ref D) (.type T) = some b := by
  unfold PySem.W.kitOne
  rw [if_neg (show ¬ (Value.ref D == Value.type T) = true from fun z => nomatch (show false = true from z))]
  show (if PySem.W.kitMeta T = true then PySem.W.subIn K (.ref D) (.type T) else none) = some b
  rw [if_pos h0, h]
def rIsXB (K : PySem.W.Frag) (a : Addr) (cls : Value) (d : Option Addr) : List V → Hp → VK → Prop := fun xs H Q => ∃ (D : Addr) (T : String) (b : Bool), cls = .ref D ∧ d = none ∧ ExcC K D ∧ xs = [.ref a, .ty T] ∧ PySem.W.kitOne K (.ref D) (.type T) = some b ∧ Q (.bl b) H
theorem call_isXB {X : Cx} {K : PySem.W.Frag} {a : Addr} {cls : Value} {d : Option Addr} {oe : Obj} {pn : List (Addr × Obj)} (hz : Zc cls d oe) (hf : ∃ vs, oe.data = .fields vs) (hK : X.K = K := by rfl) : CallR (X.suite a ((a, oe) :: pn)) (.builtin "isinstance") (rIsXB K a cls d) := by
  subst hK
  intro pins s σ H xs us Q I r h
  obtain ⟨D, T, b, rfl, rfl, c, rfl, e, q⟩ := h
  exact call_isE c hz hf pins s σ H _ us Q I r ⟨_, _, b, rfl, fun u z => z, e, q⟩
def rIsXT (K : PySem.W.Frag) (a : Addr) (cls : Value) (d : Option Addr) : List V → Hp → VK → Prop := fun xs H Q => ∃ (D tp : Addr) (cs : List V) (ws : List Value) (b : Bool), cls = .ref D ∧ d = none ∧ ExcC K D ∧ xs = [.ref a, .ref tp] ∧ H tp = some (.tup cs) ∧ Paired ClsV cs ws ∧ PySem.W.kitAny K (.ref D) ws = some b ∧ Q (.bl b) H
theorem call_isXT {X : Cx} {K : PySem.W.Frag} {a : Addr} {cls : Value} {d : Option Addr} {oe : Obj} {pn : List (Addr × Obj)} (hz : Zc cls d oe) (hf : ∃ vs, oe.data = .fields vs) (hK : X.K = K := by rfl) : CallR (X.suite a ((a, oe) :: pn)) (.builtin "isinstance") (rIsXT K a cls d) := by
  subst hK
  intro pins s σ H xs us Q I r h
  obtain ⟨D, tp, cs, ws, b, rfl, rfl, C, rfl, hT, k, e, q⟩ := h
  cases r with
  | cons rx rr =>
    cases rr with
    | cons rt rr =>
      cases rr
      cases rx
      cases rt
      obtain ⟨hget, _⟩ := I.pin (a, oe) (List.mem_append.mpr (.inl List.mem_cons_self))
      obtain ⟨vs, hv⟩ := hf
      have J : PySem.W.InstAt s.heap a oe D none := by
        obtain ⟨oc, od, oda, osl⟩ := oe
        obtain ⟨h1, h2⟩ := hz
        dsimp only at h1 h2 hv
        subst h1 h2 hv
        exact ⟨hget, rfl, rfl, trivial⟩
      obtain ⟨_, its, rv, o, h1, h2, n, h3⟩ := (show ObjOk X.prog X.w H s.heap tp (.tup cs) from I.hok tp _ hT)
      have e3 := ClsV.all k rv
      subst e3
      obtain ⟨oc, od, dt, sl⟩ := o
      simp only at h2 h3
      subst h2 h3
      exact PySem.W.kia_tup (PySem.W.handS_kitx_exc C.hg C.hk C.hs C.hd C.ha C.hn C.ht C.hm) I.kIn J h1 e (fun z => nomatch z) fun tk => ⟨.bl b, H, I.kept (t' := tk) fun _ _ z => z, rfl, q⟩
theorem kit_self {K : PySem.W.Frag} {t : Value} (h : (t == t) = true := by simp) : PySem.W.kitOne K t t = some true := by
  unfold PySem.W.kitOne
  rw [if_pos h]
/-- what a class must say, so that isinstance asks its objects rightly -/
structure IsiC (K : PySem.W.Frag) (C : Addr) : Prop where
  ha : PySem.W.findIn K (.ref C) "__class__" = some (some (.builtin "object.__class__"))
  hn : PySem.W.specialIn K (.builtin "object.__class__") "__get__" = some (some (.builtin "getset_descriptor.__get__"))
  ht : PySem.W.takesIn K (.builtin "object.__class__") = some true
  hm : PySem.W.mroIn K C (.type "object") = some true
theorem tyX_ins {K : PySem.W.Frag} {H : Hp} {a C dx : Addr} {fs : List (Str × V)} (e : H a = some (.ins C dx fs)) (cl : Cls K C) (c : IsiC K C) : TyX K H (.ref a) (.ref C) := .base (.ins e cl c.ha c.hn c.ht c.hm)
end Vx
namespace Vx
open PySem PySem.Spec PyProof.Rows L2
theorem op_notTrue {X : Cx} : OpR X (compareOp .IsNot) (fun x y H Q => ∃ b : Bool, x = .bl b ∧ y = .bl true ∧ Q (.bl (!b)) H) := by
  intro pins s σ H x y v u Q I rx ry h
  obtain ⟨b, rfl, rfl, q⟩ := h
  cases rx
  cases ry
  show wpAny (model X.prog X.w) X.A (compareOp .IsNot (.bool b) (.bool true)) (EP X pins σ Q) X.xe s
  have e : compareOp .IsNot (.bool b) (.bool true) = pure (.bool (!b)) := by cases b <;> rfl
  rw [e]
  exact wpAny_pure ⟨.bl (!b), H, I, rfl, q⟩
end Vx
/-! # fourth part: reckoning with functions that may refuse -/
namespace Vx
open PySem PySem.Spec PyProof.Rows L2
section
variable {α β σ ρ τ : Type}
theorem bind_ok (a : α) (f : α → Rx β) : (Rx.ok a).bind f = f a := rfl
theorem bind_er (e : Nat) (f : α → Rx β) : (Rx.er e : Rx α).bind f = .er e := rfl
theorem grd_pos {p : Prop} {dp : Decidable p} {m : Rx α} (h : p) : grd p m = m := if_pos h
theorem bnd_eq (a : α) (f : α → Rx β) : bnd a f = f a := rfl
theorem noEr_ok (a : α) : noEr (.ok a : Rx α) = .ok a := rfl
theorem tryR_ok {cs : List Nat} (a : α) (f : α → Rx β) (g : Nat → Rx β) : tryR (.ok a) cs f g = f a := rfl
theorem tryR_er {cs : List Nat} {e : Nat} (h : e ∈ cs) (f : α → Rx β) (g : Nat → Rx β) : tryR (.er e) cs f g = g e := if_pos h
theorem aft_go (s : σ) (kr : ρ → Rx τ) (k : σ → Rx τ) : (Lp.go s : Lp σ ρ).aft kr k = k s := rfl
theorem aft_rt (r : ρ) (kr : ρ → Rx τ) (k : σ → Rx τ) : (Lp.rt r : Lp σ ρ).aft kr k = kr r := rfl
/-- gives a value of which P holds -/
def Gv (m : Rx α) (P : α → Prop) : Prop := ∃ v, m = .ok v ∧ P v
theorem Gv.ok {a : α} {P : α → Prop} (h : P a) : Gv (.ok a) P := ⟨a, rfl, h⟩
theorem Gv.of_eq {m : Rx α} {a : α} {P : α → Prop} (e : m = .ok a) (h : P a) : Gv m P := ⟨a, e, h⟩
theorem Gv.bind {m : Rx α} {f : α → Rx β} {P : α → Prop} {Q : β → Prop} (h : Gv m P) (k : ∀ v, P v → Gv (f v) Q) : Gv (m.bind f) Q := by
  obtain ⟨v, rfl, p⟩ := h
  exact k v p
theorem Gv.bind_eq {m : Rx α} {f : α → Rx β} {a : α} {Q : β → Prop} (h : m = .ok a) (k : Gv (f a) Q) : Gv (m.bind f) Q := by
  subst h
  exact k
theorem Gv.grd {p : Prop} {dp : Decidable p} {m : Rx α} {Q : α → Prop} (h : p) (k : Gv m Q) : Gv (Vx.grd p m) Q := by
  rw [grd_pos h]
  exact k
theorem Gv.bnd {a : α} {f : α → Rx β} {Q : β → Prop} (k : ∀ x, x = a → Gv (f x) Q) : Gv (Vx.bnd a f) Q := k a rfl
theorem Gv.ite {p : Prop} {dp : Decidable p} {a b : Rx α} {Q : α → Prop} (h1 : p → Gv a Q) (h2 : ¬ p → Gv b Q) : Gv (if p then a else b) Q := by
  split
  · exact h1 ‹_›
  · exact h2 ‹_›
theorem Gv.pos {p : Prop} {dp : Decidable p} {a b : Rx α} {Q : α → Prop} (h : p) (k : Gv a Q) : Gv (if p then a else b) Q := by rwa [if_pos h]
theorem Gv.neg {p : Prop} {dp : Decidable p} {a b : Rx α} {Q : α → Prop} (h : ¬ p) (k : Gv b Q) : Gv (if p then a else b) Q := by rwa [if_neg h]
theorem Gv.imp {m : Rx α} {P Q : α → Prop} (h : Gv m P) (k : ∀ v, P v → Q v) : Gv m Q := by
  obtain ⟨v, e, p⟩ := h
  exact ⟨v, e, k v p⟩
theorem Gv.noEr {m : Rx α} {P : α → Prop} (h : Gv m P) : Gv (Vx.noEr m) P := by
  obtain ⟨v, rfl, p⟩ := h
  exact ⟨v, rfl, p⟩
theorem Gv.tryOk {m : Rx α} {cs : List Nat} {f : α → Rx β} {g : Nat → Rx β} {P : α → Prop} {Q : β → Prop} (h : Gv m P) (k : ∀ v, P v → Gv (f v) Q) : Gv (tryR m cs f g) Q := by
  obtain ⟨v, rfl, p⟩ := h
  exact k v p
theorem Gv.tryEr {m : Rx α} {cs : List Nat} {e : Nat} {f : α → Rx β} {g : Nat → Rx β} {Q : β → Prop} (h : m = .er e) (hm : e ∈ cs) (k : Gv (g e) Q) : Gv (tryR m cs f g) Q := by
  subst h
  rw [tryR_er hm]
  exact k
theorem Gv.get {m : Rx α} {a : α} (h : Gv m (fun v => v = a)) : m = .ok a := by
  obtain ⟨v, e, rfl⟩ := h
  exact e
theorem Gv.eq {m : Rx α} {P : α → Prop} (h : Gv m P) : ∃ v, m = .ok v ∧ P v := h
/-- a loop that keeps P -/
theorem Gv.forS {P : Nat → σ → Prop} {xs : List α} {s : σ} {f : σ → α → Rx σ} (h0 : P 0 s) (hs : ∀ i x s, xs[i]? = some x → P i s → Gv (f s x) (P (i + 1))) : Gv (Vx.forS xs s f) (P xs.length) := by
  induction xs generalizing s P with
  | nil => exact .ok h0
  | cons x r ih =>
    refine Gv.bind (hs 0 x s rfl h0) fun s' p => ?_
    exact ih (P := fun i => P (i + 1)) p fun i y s hy q => hs (i + 1) y s (by simpa using hy) q
theorem Gv.forR {P : Nat → σ → Prop} {xs : List α} {s : σ} {f : σ → α → Rx (Lp σ ρ)} (h0 : P 0 s) (hs : ∀ i x s, xs[i]? = some x → P i s → Gv (f s x) (fun l => ∃ s', l = .go s' ∧ P (i + 1) s')) : Gv (Vx.forR xs s f) (fun l => ∃ s', l = .go s' ∧ P xs.length s') := by
  induction xs generalizing s P with
  | nil => exact .ok ⟨s, rfl, h0⟩
  | cons x r ih =>
    refine Gv.bind (hs 0 x s rfl h0) ?_
    rintro _ ⟨s', rfl, p⟩
    exact ih (P := fun i => P (i + 1)) p fun i y s hy q => hs (i + 1) y s (by simpa using hy) q
/-- a loop that carries nothing -/
theorem forR_unit {xs : List α} {f : Unit → α → Rx (Lp Unit ρ)} (h : ∀ x ∈ xs, f () x = .ok (.go ())) : Vx.forR xs () f = .ok (.go ()) := by
  induction xs with
  | nil => rfl
  | cons x r ih =>
    show (f () x).bind _ = _
    rw [h x List.mem_cons_self]
    exact ih fun y hy => h y (List.mem_cons_of_mem _ hy)
theorem forS_pure {xs : List α} {s : σ} {f : σ → α → Rx σ} {g : σ → α → σ} (h : ∀ s x, x ∈ xs → f s x = .ok (g s x)) : Vx.forS xs s f = .ok (xs.foldl g s) := by
  induction xs generalizing s with
  | nil => rfl
  | cons x r ih =>
    show (f s x).bind _ = _
    rw [h s x List.mem_cons_self]
    exact ih fun s y hy => h s y (List.mem_cons_of_mem _ hy)
theorem mapA_pure {xs : List α} {acc : List β} {f : α → Rx β} {g : α → β} (h : ∀ x ∈ xs, f x = .ok (g x)) (hl : acc.length + xs.length ≤ 1000000) : mapA xs acc f = .ok (acc ++ xs.map g) := by
  induction xs generalizing acc with
  | nil => simp [mapA]
  | cons x r ih =>
    rw [List.length_cons] at hl
    unfold mapA
    rw [grd_pos (by omega), h x List.mem_cons_self, bind_ok, ih (fun y hy => h y (List.mem_cons_of_mem _ hy)) (by rw [List.length_append, List.length_cons, List.length_nil]; omega)]
    simp
theorem mapA_pure0 {xs : List α} {f : α → Rx β} {g : α → β} (h : ∀ x ∈ xs, f x = .ok (g x)) (hl : xs.length ≤ 1000000) : mapA xs [] f = .ok (xs.map g) := by
  rw [mapA_pure h (by simpa using hl)]
  rfl
theorem mapF_pure {xs : List α} {acc : List β} {f : α → Rx (Option β)} {g : α → Option β} (h : ∀ x ∈ xs, f x = .ok (g x)) (hl : acc.length + xs.length ≤ 1000000) : mapF xs acc f = .ok (acc ++ xs.filterMap g) := by
  induction xs generalizing acc with
  | nil => simp [mapF]
  | cons x r ih =>
    rw [List.length_cons] at hl
    unfold mapF
    rw [grd_pos (by omega), h x List.mem_cons_self, bind_ok]
    cases e : g x with
    | none =>
      show mapF r acc f = _
      rw [ih (fun y hy => h y (List.mem_cons_of_mem _ hy)) (by omega), List.filterMap_cons, e]
    | some z =>
      show mapF r (acc ++ [z]) f = _
      rw [ih (fun y hy => h y (List.mem_cons_of_mem _ hy)) (by rw [List.length_append, List.length_cons, List.length_nil]; omega), List.filterMap_cons, e]
      simp
/-- a while that ends: m falls -/
theorem Gv.whileR {P : σ → Prop} {R : σ → Prop} (m : σ → Nat) {f : σ → Rx (Lp σ ρ)} (hs : ∀ s, P s → Gv (f s) (fun l => (∃ s', l = .go s' ∧ P s' ∧ m s' < m s) ∨ ∃ s', l = .bk s' ∧ R s')) : ∀ {n : Nat} {s : σ}, P s → m s < n → Gv (Vx.whileR n s f) (fun l => ∃ s', l = .go s' ∧ R s') := by
  intro n
  induction n with
  | zero => intro s _ h; exact absurd h (Nat.not_lt_zero _)
  | succ n ih =>
    intro s p h
    refine Gv.bind (hs s p) ?_
    rintro _ (⟨s', rfl, p', l⟩ | ⟨s', rfl, r⟩)
    · exact ih p' (by omega)
    · exact .ok ⟨s', rfl, r⟩
end
theorem rng_mem {lo x : Int} {n : Nat} (h : x ∈ rng lo n) : lo ≤ x ∧ x < lo + n := by
  unfold rng at h
  obtain ⟨j, hj, rfl⟩ := List.mem_map.mp h
  have := List.mem_range.mp hj
  omega
theorem rng_at {lo x : Int} {n i : Nat} (h : (rng lo n)[i]? = some x) : x = lo + i ∧ i < n := by
  have hl := get_len h
  rw [rng_len] at hl
  rw [rng_get hl] at h
  exact ⟨(Option.some.inj h).symm, hl⟩
end Vx
namespace Vx
open PySem PySem.Spec PyProof.Rows L2
structure St_Format where
  width : Int
  height : Int
  depth : Int
  chroma : Int
deriving DecidableEq
def F__law_draws_b1 (free_15 : Bool) (found_33 : (List Int)) (rest_34 : Int) (state_35 : Int) (it38 : Int) : Rx ((List Int) × Int × Int) :=
  (if free_15 = true then (if 1 < rest_34 then grd (0 < (it38 : Int)) <| grd ((found_33).length ≤ 1000000) <| bnd ((found_33) ++ [(rest_34 % it38)]) fun y49 => grd (0 < (it38 : Int) ∧ (it38 : Int) < 2 ^ 128) <| bnd ((rest_34 / it38)) fun rest_51 => .ok ((y49), (rest_51), (state_35)) else bnd ((((state_35 * 48271) + 11) % 2147483647)) fun state_52 => bnd ((((state_52 * 69621) + 7) % 2147483647)) fun state_53 => grd (0 < (it38 : Int)) <| grd ((found_33).length ≤ 1000000) <| bnd ((found_33) ++ [((state_53 / 13) % it38)]) fun y62 => .ok ((y62), (rest_34), (state_53))) else bnd ((((state_35 * 48271) + 11) % 2147483647)) fun state_63 => bnd ((((state_63 * 69621) + 7) % 2147483647)) fun state_64 => grd (0 < (it38 : Int)) <| grd ((found_33).length ≤ 1000000) <| bnd ((found_33) ++ [((state_64 / 13) % it38)]) fun y73 => .ok ((y73), (rest_34), (state_64)))

def F__law_draws_r1 (found_79 : (List Int)) (rest_80 : Int) (state_81 : Int) : Rx (List Int) :=
  .ok (found_79)

def F__law_draws (cell' : Int) (limits' : (List Int)) : Rx (List Int) :=
  bnd ((if cell' < 0 then -cell' else cell')) fun rest_10 => bnd ((rest_10 % 2147483647)) fun state_11 => bnd ((decide (cell' < 0) || decide (((10 : Int) ^ Int.toNat 18) ≤ cell'))) fun free_14 => Rx.bind (forS (limits') ((([] : (List Int))), (rest_10), (state_11)) (fun s x => F__law_draws_b1 (free_14) (s.1) (s.2.1) (s.2.2) x)) fun s => F__law_draws_r1  (s.1) (s.2.1) (s.2.2)

def F_Format___init__ (width' : Int) (height' : Int) (depth' : Int) (chroma' : Int) : Rx St_Format :=
  (if 1 ≤ width' then (if width' ≤ 256 then (if 1 ≤ height' then (if height' ≤ 256 then (if 8 ≤ depth' then (if depth' ≤ 12 then (if 0 ≤ chroma' then (if chroma' ≤ 2 then .ok (⟨width', height', depth', chroma'⟩ : St_Format) else .er 1) else .er 1) else .er 1) else .er 1) else .er 1) else .er 1) else .er 1) else .er 1)

def F_Format___eq__ (self' : St_Format) (other' : St_Format) : Rx Bool :=
  (if decide ((self'.width : Int) = other'.width) = true then (if decide ((self'.height : Int) = other'.height) = true then (if decide ((self'.depth : Int) = other'.depth) = true then .ok (decide ((self'.chroma : Int) = other'.chroma)) else .ok (false)) else .ok (false)) else .ok (false))

def F__law_refused (numbers' : (List Int)) : Rx Bool :=
  grd (-((numbers').length : Int) ≤ 0 ∧ 0 < ((numbers').length : Int)) <| grd (-((numbers').length : Int) ≤ 1 ∧ 1 < ((numbers').length : Int)) <| grd (-((numbers').length : Int) ≤ 2 ∧ 2 < ((numbers').length : Int)) <| grd (-((numbers').length : Int) ≤ 3 ∧ 3 < ((numbers').length : Int)) <| tryR (F_Format___init__ ((itD (numbers') (0))) ((itD (numbers') (1))) ((itD (numbers') (2))) ((itD (numbers') (3)))) [1] (fun v132 => .ok (false)) (fun _ => .ok (true))

def F__law_cell (script' : (List Int)) (k' : Int) : Rx Int :=
  (if k' < (((script') : (List Int)).length : Int) then grd (-((script').length : Int) ≤ k' ∧ k' < ((script').length : Int)) <| .ok ((itD (script') (k'))) else .ok (0))

def F__law_between (first' : Int) (second' : Int) (low' : Int) (high' : Int) : Rx Int :=
  (if (first' : Int) = 0 then .ok (low') else (if (first' : Int) = 1 then .ok (high') else (if (first' : Int) = 2 then .ok ((if high' < (low' + 1) then high' else (low' + 1))) else grd (0 < (((high' - low') + 1) : Int)) <| .ok ((low' + (second' % ((high' - low') + 1)))))))

def F__law_up (n' : Int) : Rx Int :=
  .ok ((((n' + 7) / 8) * 8))

def F_Format_planes (self' : St_Format) : Rx Int :=
  .ok ((if (self'.chroma : Int) = 0 then 1 else 3))

def F_Format__plane_size (self' : St_Format) (plane' : Int) (width' : Int) (height' : Int) : Rx (Int × Int) :=
  (if 0 ≤ plane' then Rx.bind (noEr (F_Format_planes (self'))) fun v164 => (if plane' < v164 then (if 0 < plane' then (if (self'.chroma : Int) = 1 then .ok ((((width' + 1) / 2), ((height' + 1) / 2))) else .ok ((width', height'))) else .ok ((width', height'))) else .er 3) else .er 3)

def F_Format_size (self' : St_Format) (plane' : Int) : Rx (Int × Int) :=
  Rx.bind (F_Format__plane_size (self') plane' self'.width self'.height) fun v207 => .ok (v207)

def F_Format_blocks (self' : St_Format) : Rx (Int × Int) :=
  .ok (((((self'.width + 8) - 1) / 8), (((self'.height + 8) - 1) / 8)))

def F_Format_coded_size (self' : St_Format) (plane' : Int) : Rx (Int × Int) :=
  Rx.bind (F_Format_blocks (self')) fun v235 => Rx.bind (F_Format__plane_size (self') plane' ((v235.1 * 8)) ((v235.2 * 8))) fun v251 => .ok (v251)

def F__law_no_plane_k2 (count_302 : Int) : Rx Bool :=
  .ok (decide ((count_302 : Int) = 2))

def F__law_no_plane_k1 (fmt_267 : St_Format) (plane_268 : Int) (count_269 : Int) : Rx Bool :=
  Rx.bind ((tryR (F_Format_coded_size (fmt_267) plane_268) [3] (fun v307 => .ok (count_269)) (fun _ => bnd ((count_269 + (if (true && (!false)) = true then 1 else 0))) fun count_330 => .ok (count_330)) : Rx (Int))) fun s => F__law_no_plane_k2  s

def F__law_no_plane (fmt' : St_Format) (plane' : Int) : Rx Bool :=
  Rx.bind ((tryR (F_Format_size (fmt') plane') [3] (fun v274 => .ok (0)) (fun _ => bnd ((0 + (if (true && (!false)) = true then 1 else 0))) fun count_297 => .ok (count_297)) : Rx (Int))) fun s => F__law_no_plane_k1 (fmt') (plane') s

def F__law_size (width' : Int) (height' : Int) (chroma' : Int) (plane' : Int) : Rx (Int × Int) :=
  (if 0 < plane' then (if (chroma' : Int) = 1 then .ok ((((width' + 1) / 2), ((height' + 1) / 2))) else .ok ((width', height'))) else .ok ((width', height')))

def F__law_planes_b2 (fmt_437 : St_Format) (numbers_438 : (List Int)) (coded_439 : (Int × Int)) (it453 : Int) : Rx (Lp Unit Bool) :=
  Rx.bind (F_Format_size (fmt_437) it453) fun v454 => grd (-((numbers_438).length : Int) ≤ 0 ∧ 0 < ((numbers_438).length : Int)) <| grd (-((numbers_438).length : Int) ≤ 1 ∧ 1 < ((numbers_438).length : Int)) <| grd (-((numbers_438).length : Int) ≤ 3 ∧ 3 < ((numbers_438).length : Int)) <| Rx.bind (F__law_size ((itD (numbers_438) (0))) ((itD (numbers_438) (1))) ((itD (numbers_438) (3))) it453) fun v473 => (if (v454 : (Int × Int)) = v473 then Rx.bind (F_Format_coded_size (fmt_437) it453) fun v490 => grd (-((numbers_438).length : Int) ≤ 3 ∧ 3 < ((numbers_438).length : Int)) <| Rx.bind (F__law_size coded_439.1 coded_439.2 ((itD (numbers_438) (3))) it453) fun v507 => (if (v490 : (Int × Int)) = v507 then .ok (.go ()) else .ok (.rt (false))) else .ok (.rt (false)))

def F__law_planes_b3 (fmt_539 : St_Format) (it558 : Int) : Rx (Lp Unit Bool) :=
  Rx.bind (F__law_no_plane (fmt_539) it558) fun v559 => (if v559 = true then .ok (.go ()) else .ok (.rt (false)))

def F__law_planes_r3 (fmt_540 : St_Format) (count_541 : Int) : Rx Bool :=
  (if decide ((count_541 : Int) = 3) = true then .ok (true) else Rx.bind (F__law_no_plane (fmt_540) 2) fun v571 => .ok (v571))

def F__law_planes_r2 (fmt_440 : St_Format) (numbers_441 : (List Int)) (count_442 : Int) : Rx Bool :=
  grd (-((numbers_441).length : Int) ≤ 0 ∧ 0 < ((numbers_441).length : Int)) <| grd (-((numbers_441).length : Int) ≤ 1 ∧ 1 < ((numbers_441).length : Int)) <| Rx.bind (forR ([count_442, (-1), (2 + count_442), (1 + (2 * count_442)), (count_442 + (itD (numbers_441) (0))), ((-1) - (itD (numbers_441) (1)))]) () (fun s x => F__law_planes_b3 (fmt_440)  x)) fun l => l.aft Rx.ok fun s => F__law_planes_r3 (fmt_440) (count_442) 

def F__law_planes_k1 (fmt_389 : St_Format) (numbers_390 : (List Int)) (coded_391 : (Int × Int)) (count_392 : Int) : Rx Bool :=
  Rx.bind (noEr (F_Format_planes (fmt_389))) fun v402 => (if (v402 : Int) = count_392 then Rx.bind (F_Format_blocks (fmt_389)) fun v407 => (if (v407 : (Int × Int)) = ((coded_391.1 / 8), (coded_391.2 / 8)) then grd (-(2 ^ 62) ≤ count_392 ∧ count_392 < 2 ^ 62) <| Rx.bind (forR (rng (0) (Int.toNat (count_392))) () (fun s x => F__law_planes_b2 (fmt_389) (numbers_390) (coded_391)  x)) fun l => l.aft Rx.ok fun s => F__law_planes_r2 (fmt_389) (numbers_390) (count_392)  else .ok (false)) else .ok (false))

def F__law_planes (fmt' : St_Format) (numbers' : (List Int)) : Rx Bool :=
  grd (-((numbers').length : Int) ≤ 0 ∧ 0 < ((numbers').length : Int)) <| Rx.bind (F__law_up ((itD (numbers') (0)))) fun v374 => grd (-((numbers').length : Int) ≤ 1 ∧ 1 < ((numbers').length : Int)) <| Rx.bind (F__law_up ((itD (numbers') (1)))) fun v376 => Rx.bind ((grd (-((numbers').length : Int) ≤ 3 ∧ 3 < ((numbers').length : Int)) <| (if 0 < (itD (numbers') (3)) then .ok (3) else .ok (1)) : Rx (Int))) fun s => F__law_planes_k1 (fmt') (numbers') ((v374, v376)) s

def F_Format_middle (self' : St_Format) : Rx Int :=
  grd ((0 : Int) ≤ (self'.depth - 1) ∧ ((self'.depth - 1) : Int) ≤ 4096 ∧ -(2 ^ 4096) < (1 : Int) ∧ (1 : Int) < 2 ^ 4096) <| .ok ((1 * 2 ^ Int.toNat ((self'.depth - 1))))

def F_Format_top (self' : St_Format) : Rx Int :=
  grd ((0 : Int) ≤ self'.depth ∧ (self'.depth : Int) ≤ 4096 ∧ -(2 ^ 4096) < (1 : Int) ∧ (1 : Int) < 2 ^ 4096) <| .ok (((1 * 2 ^ Int.toNat (self'.depth)) - 1))

def F_law_c1 (lows_614 : (List Int)) (highs_615 : (List Int)) (draws_616 : (List Int)) (it651 : Int) : Rx Int :=
  grd (-((draws_616).length : Int) ≤ (2 * it651) ∧ (2 * it651) < ((draws_616).length : Int)) <| grd (-((draws_616).length : Int) ≤ ((2 * it651) + 1) ∧ ((2 * it651) + 1) < ((draws_616).length : Int)) <| grd (-((lows_614).length : Int) ≤ it651 ∧ it651 < ((lows_614).length : Int)) <| grd (-((highs_615).length : Int) ≤ it651 ∧ it651 < ((highs_615).length : Int)) <| Rx.bind (F__law_between ((itD (draws_616) ((2 * it651)))) ((itD (draws_616) (((2 * it651) + 1)))) ((itD (lows_614) (it651))) ((itD (highs_615) (it651)))) fun v656 => .ok v656

def F_law_c3 (lows_933 : (List Int)) (highs_934 : (List Int)) (draws_935 : (List Int)) (it982 : Int) : Rx Int :=
  grd (-((draws_935).length : Int) ≤ (2 * it982) ∧ (2 * it982) < ((draws_935).length : Int)) <| grd (-((draws_935).length : Int) ≤ ((2 * it982) + 1) ∧ ((2 * it982) + 1) < ((draws_935).length : Int)) <| grd (-((lows_933).length : Int) ≤ it982 ∧ it982 < ((lows_933).length : Int)) <| grd (-((highs_934).length : Int) ≤ it982 ∧ it982 < ((highs_934).length : Int)) <| Rx.bind (F__law_between ((itD (draws_935) ((2 * it982)))) ((itD (draws_935) (((2 * it982) + 1)))) ((itD (lows_933) (it982))) ((itD (highs_934) (it982)))) fun v987 => .ok v987

def F_law_b4 (numbers_1147 : (List Int)) (fmt_1148 : St_Format) (it1201 : (List Int)) : Rx (Lp Unit Bool) :=
  grd (-((it1201).length : Int) ≤ 0 ∧ 0 < ((it1201).length : Int)) <| grd (-((it1201).length : Int) ≤ 1 ∧ 1 < ((it1201).length : Int)) <| grd (-((it1201).length : Int) ≤ 2 ∧ 2 < ((it1201).length : Int)) <| grd (-((it1201).length : Int) ≤ 3 ∧ 3 < ((it1201).length : Int)) <| Rx.bind (F_Format___init__ ((itD (it1201) (0))) ((itD (it1201) (1))) ((itD (it1201) (2))) ((itD (it1201) (3)))) fun v1217 => Rx.bind (noEr (F_Format___eq__ (fmt_1148) (v1217))) fun v1223 => (if V.bl (v1223) = V.bl (decide ((it1201 : (List Int)) = numbers_1147)) then .ok (.go ()) else .ok (.rt (false)))

def F_law_r4 (numbers_1149 : (List Int)) (fmt_1150 : St_Format) (bad_1151 : (List Int)) (other_1152 : (List Int)) (twin_1153 : St_Format) : Rx Bool :=
  grd (-((numbers_1149).length : Int) ≤ 0 ∧ 0 < ((numbers_1149).length : Int)) <| grd (-((numbers_1149).length : Int) ≤ 1 ∧ 1 < ((numbers_1149).length : Int)) <| grd (-((numbers_1149).length : Int) ≤ 2 ∧ 2 < ((numbers_1149).length : Int)) <| grd (-((numbers_1149).length : Int) ≤ 3 ∧ 3 < ((numbers_1149).length : Int)) <| Rx.bind (F_Format___init__ ((itD (numbers_1149) (0))) ((itD (numbers_1149) (1))) ((itD (numbers_1149) (2))) ((itD (numbers_1149) (3)))) fun v1267 => Rx.bind (noEr (F_Format___eq__ (fmt_1150) (twin_1153))) fun v1274 => (if V.bl (v1274) = V.bl (decide ((other_1152 : (List Int)) = numbers_1149)) then Rx.bind (noEr (F_Format___eq__ (fmt_1150) (v1267))) fun v1283 => (if (!(v1283)) = true then .ok (false) else Rx.bind (F__law_refused (bad_1151)) fun v1289 => .ok (v1289)) else .ok (false))

def F_law_k2 (script_817 : (List Int)) (lows_818 : (List Int)) (highs_819 : (List Int)) (draws_820 : (List Int)) (numbers_821 : (List Int)) (fmt_822 : St_Format) (bad_823 : (List Int)) : Rx Bool :=
  grd (-((draws_820).length : Int) ≤ 3 ∧ 3 < ((draws_820).length : Int)) <| grd (-((lows_818).length : Int) ≤ (itD (draws_820) (3)) ∧ (itD (draws_820) (3)) < ((lows_818).length : Int)) <| grd (-((draws_820).length : Int) ≤ 4 ∧ 4 < ((draws_820).length : Int)) <| grd (-((draws_820).length : Int) ≤ 3 ∧ 3 < ((draws_820).length : Int)) <| grd (-((highs_819).length : Int) ≤ (itD (draws_820) (3)) ∧ (itD (draws_820) (3)) < ((highs_819).length : Int)) <| grd (-((draws_820).length : Int) ≤ 3 ∧ 3 < ((draws_820).length : Int)) <| grd (-((lows_818).length : Int) ≤ (itD (draws_820) (3)) ∧ (itD (draws_820) (3)) < ((lows_818).length : Int)) <| grd (0 < ((((itD (highs_819) ((itD (draws_820) (3)))) - (itD (lows_818) ((itD (draws_820) (3))))) + 1) : Int)) <| grd (-((draws_820).length : Int) ≤ 3 ∧ 3 < ((draws_820).length : Int)) <| grd (-((numbers_821).length : Int) ≤ (itD (draws_820) (3)) ∧ (itD (draws_820) (3)) < ((numbers_821).length : Int)) <| bnd (setL (numbers_821) ((itD (draws_820) (3))) (((itD (lows_818) ((itD (draws_820) (3)))) + ((itD (draws_820) (4)) % (((itD (highs_819) ((itD (draws_820) (3)))) - (itD (lows_818) ((itD (draws_820) (3))))) + 1))))) fun y893 => grd (-((y893).length : Int) ≤ 0 ∧ 0 < ((y893).length : Int)) <| grd (-((y893).length : Int) ≤ 1 ∧ 1 < ((y893).length : Int)) <| grd (-((y893).length : Int) ≤ 2 ∧ 2 < ((y893).length : Int)) <| grd (-((y893).length : Int) ≤ 3 ∧ 3 < ((y893).length : Int)) <| Rx.bind (F_Format___init__ ((itD (y893) (0))) ((itD (y893) (1))) ((itD (y893) (2))) ((itD (y893) (3)))) fun v909 => Rx.bind (F__law_cell (script_817) 2) fun v914 => Rx.bind (F__law_draws v914 ([6, 256, 6, 256, 6, 5, 6, 3])) fun v924 => Rx.bind (mapA (rng (0) (Int.toNat (4))) [] (fun x => noEr (F_law_c3 (lows_818) (highs_819) (v924) x))) fun v936 => grd (-((numbers_821).length : Int) ≤ 1 ∧ 1 < ((numbers_821).length : Int)) <| grd (-((numbers_821).length : Int) ≤ 0 ∧ 0 < ((numbers_821).length : Int)) <| grd (([(itD (numbers_821) (1)), (itD (numbers_821) (0))]).length + (cutL (numbers_821) (some (2)) none).length ≤ 1000000) <| grd ((cutL (v936) none (some (1))).length + (cutL (numbers_821) (some (1)) none).length ≤ 1000000) <| grd ((cutL (numbers_821) none (some (2))).length + (cutL (v936) (some (2)) none).length ≤ 1000000) <| Rx.bind (forR ([v936, ([(itD (numbers_821) (1)), (itD (numbers_821) (0))]) ++ (cutL (numbers_821) (some (2)) none), (cutL (v936) none (some (1))) ++ (cutL (numbers_821) (some (1)) none), (cutL (numbers_821) none (some (2))) ++ (cutL (v936) (some (2)) none)]) () (fun s x => F_law_b4 (numbers_821) (fmt_822)  x)) fun l => l.aft Rx.ok fun s => F_law_r4 (numbers_821) (fmt_822) (bad_823) (y893) (v909) 

def F_law (script' : (List Int)) : Rx Bool :=
  Rx.bind (F__law_cell (script') 0) fun v595 => Rx.bind (F__law_draws v595 ([6, 256, 6, 256, 6, 5, 6, 3])) fun v605 => Rx.bind (mapA (rng (0) (Int.toNat (4))) [] (fun x => noEr (F_law_c1 ([1, 1, 8, 0]) ([256, 256, 12, 2]) (v605) x))) fun v617 => grd (-((v617).length : Int) ≤ 0 ∧ 0 < ((v617).length : Int)) <| grd (-((v617).length : Int) ≤ 1 ∧ 1 < ((v617).length : Int)) <| grd (-((v617).length : Int) ≤ 2 ∧ 2 < ((v617).length : Int)) <| grd (-((v617).length : Int) ≤ 3 ∧ 3 < ((v617).length : Int)) <| Rx.bind (F_Format___init__ ((itD (v617) (0))) ((itD (v617) (1))) ((itD (v617) (2))) ((itD (v617) (3)))) fun v696 => (if ([v696.width, v696.height, v696.depth, v696.chroma] : (List Int)) = v617 then Rx.bind (F__law_planes (v696) (v617)) fun v713 => (if v713 = true then Rx.bind (noEr (F_Format_middle (v696))) fun v719 => grd (-((v617).length : Int) ≤ 2 ∧ 2 < ((v617).length : Int)) <| grd ((0 : Int) ≤ ((itD (v617) (2)) - 1) ∧ (((itD (v617) (2)) - 1) : Int) ≤ 4096 ∧ -(2 ^ 4096) < (1 : Int) ∧ (1 : Int) < 2 ^ 4096) <| (if (v719 : Int) = (1 * 2 ^ Int.toNat (((itD (v617) (2)) - 1))) then Rx.bind (noEr (F_Format_top (v696))) fun v728 => grd (-((v617).length : Int) ≤ 2 ∧ 2 < ((v617).length : Int)) <| grd ((0 : Int) ≤ (itD (v617) (2)) ∧ ((itD (v617) (2)) : Int) ≤ 4096 ∧ -(2 ^ 4096) < (1 : Int) ∧ (1 : Int) < 2 ^ 4096) <| (if (v728 : Int) = ((1 * 2 ^ Int.toNat ((itD (v617) (2)))) - 1) then grd (-((v617).length : Int) ≤ 0 ∧ 0 < ((v617).length : Int)) <| grd (-((v617).length : Int) ≤ 1 ∧ 1 < ((v617).length : Int)) <| Rx.bind (F_Format___init__ ((itD (v617) (0))) ((itD (v617) (1))) 8 0) fun v749 => (if (v749.depth : Int) = 8 then (if (v749.chroma : Int) = 0 then grd (-((v617).length : Int) ≤ 0 ∧ 0 < ((v617).length : Int)) <| grd (-((v617).length : Int) ≤ 1 ∧ 1 < ((v617).length : Int)) <| Rx.bind (F__law_planes (v749) ([(itD (v617) (0)), (itD (v617) (1)), 8, 0])) fun v769 => (if v769 = true then Rx.bind (F__law_cell (script') 1) fun v774 => Rx.bind (F__law_draws v774 ([4, 2, 1000, 4, 256])) fun v784 => grd (-((v784).length : Int) ≤ 0 ∧ 0 < ((v784).length : Int)) <| grd (-(([256, 256, 12, 2]).length : Int) ≤ (itD (v784) (0)) ∧ (itD (v784) (0)) < (([256, 256, 12, 2]).length : Int)) <| grd (-((v784).length : Int) ≤ 2 ∧ 2 < ((v784).length : Int)) <| grd (-((v784).length : Int) ≤ 0 ∧ 0 < ((v784).length : Int)) <| grd (-((v617).length : Int) ≤ (itD (v784) (0)) ∧ (itD (v784) (0)) < ((v617).length : Int)) <| bnd (setL (v617) ((itD (v784) (0))) ((((itD ([256, 256, 12, 2]) ((itD (v784) (0)))) + 1) + (itD (v784) (2))))) fun y816 => Rx.bind ((grd (-((v784).length : Int) ≤ 1 ∧ 1 < ((v784).length : Int)) <| (if ((itD (v784) (1)) : Int) = 1 then grd (-((v784).length : Int) ≤ 0 ∧ 0 < ((v784).length : Int)) <| grd (-(([1, 1, 8, 0]).length : Int) ≤ (itD (v784) (0)) ∧ (itD (v784) (0)) < (([1, 1, 8, 0]).length : Int)) <| grd (-((v784).length : Int) ≤ 2 ∧ 2 < ((v784).length : Int)) <| grd (-((v784).length : Int) ≤ 0 ∧ 0 < ((v784).length : Int)) <| grd (-((y816).length : Int) ≤ (itD (v784) (0)) ∧ (itD (v784) (0)) < ((y816).length : Int)) <| bnd (setL (y816) ((itD (v784) (0))) ((((itD ([1, 1, 8, 0]) ((itD (v784) (0)))) - 1) - (itD (v784) (2))))) fun y842 => .ok (y842) else .ok (y816)) : Rx ((List Int)))) fun s => F_law_k2 (script') ([1, 1, 8, 0]) ([256, 256, 12, 2]) (v784) (v617) (v696) s else .ok (false)) else .ok (false)) else .ok (false)) else .ok (false)) else .ok (false)) else .ok (false)) else .ok (false))
theorem cell_gv (s : List Int) (k : Int) (h : 0 ≤ k) : Gv (F__law_cell s k) (fun _ => True) := by
  unfold F__law_cell
  exact Gv.ite (fun c => Gv.grd ⟨by omega, c⟩ (.ok trivial)) fun _ => .ok trivial
def Inb : List Int → List Int → Prop
  | [], [] => True
  | v :: vs, l :: ls => 0 ≤ v ∧ v < l ∧ Inb vs ls
  | _, _ => False
theorem Inb.snoc : ∀ {vs ls : List Int} {y l : Int}, Inb vs ls → 0 ≤ y → y < l → Inb (vs ++ [y]) (ls ++ [l])
  | [], [], _, _, _, h0, h1 => ⟨h0, h1, trivial⟩
  | _ :: _, _ :: _, _, _, h, h0, h1 => ⟨h.1, h.2.1, Inb.snoc h.2.2 h0 h1⟩
  | [], _ :: _, _, _, h, _, _ => h.elim
  | _ :: _, [], _, _, h, _, _ => h.elim
theorem Inb.len : ∀ {vs ls : List Int}, Inb vs ls → vs.length = ls.length
  | [], [], _ => rfl
  | _ :: _, _ :: _, h => congrArg Nat.succ (Inb.len h.2.2)
  | [], _ :: _, h => h.elim
  | _ :: _, [], h => h.elim
theorem Inb.cons {v ls : List Int} {l : Int} (h : Inb v (l :: ls)) : ∃ a r, v = a :: r ∧ 0 ≤ a ∧ a < l ∧ Inb r ls := by
  cases v with
  | nil => exact h.elim
  | cons a r => exact ⟨a, r, rfl, h.1, h.2.1, h.2.2⟩
theorem Inb.nil {v : List Int} (h : Inb v []) : v = [] := by
  cases v with
  | nil => rfl
  | cons a r => exact h.elim
theorem draws_gv (cell : Int) (limits : List Int) (hl : ∀ l ∈ limits, 0 < l ∧ l < 18446744073709551616) (hn : limits.length ≤ 1000000) : Gv (F__law_draws cell limits) (fun v => Inb v limits) := by
  unfold F__law_draws
  refine Gv.bnd fun rest _ => Gv.bnd fun state _ => Gv.bnd fun free _ => Gv.bind (Gv.forS (P := fun i s => Inb s.1 (limits.take i)) ?_ fun i x s hx p => ?_) fun s p => .ok ?_
  · rw [List.take_zero]
    trivial
  · have hb0 := hl x (List.mem_of_getElem? hx)
    have hb : 0 < x ∧ x < 2 ^ 128 := ⟨hb0.1, by omega⟩
    have hlen := p.len
    have hi := get_len hx
    rw [List.length_take] at hlen
    have nx : ∀ y : Int, 0 ≤ y → y < x → Inb (s.1 ++ [y]) (limits.take (i + 1)) := fun y h0 h1 => by
      rw [take_succ_get hx]
      exact p.snoc h0 h1
    unfold F__law_draws_b1
    refine Gv.ite (fun _ => Gv.ite (fun _ => Gv.grd hb.1 (Gv.grd (by omega) (Gv.bnd fun y hy => Gv.grd ⟨hb.1, hb.2⟩ (Gv.bnd fun _ _ => .ok ?_)))) fun _ => Gv.bnd fun _ _ => Gv.bnd fun _ _ => Gv.grd hb.1 (Gv.grd (by omega) (Gv.bnd fun y hy => .ok ?_))) fun _ => Gv.bnd fun _ _ => Gv.bnd fun _ _ => Gv.grd hb.1 (Gv.grd (by omega) (Gv.bnd fun y hy => .ok ?_))
    · subst hy
      exact nx _ (Int.emod_nonneg _ (by omega)) (Int.emod_lt_of_pos _ hb.1)
    · subst hy
      exact nx _ (Int.emod_nonneg _ (by omega)) (Int.emod_lt_of_pos _ hb.1)
    · subst hy
      exact nx _ (Int.emod_nonneg _ (by omega)) (Int.emod_lt_of_pos _ hb.1)
  · rw [List.take_length] at p
    exact p
theorem ixg {xs : List Int} {k : Int} {n : Nat} (e : xs.length = n) (h : -(n : Int) ≤ k ∧ k < n) : -(xs.length : Int) ≤ k ∧ k < xs.length := by
  rw [e]
  exact h
theorem itD_lit {xs : List Int} {a k : Int} (n : Nat) (e : k = (n : Int)) (h : xs[n]? = some a) : itD xs k = a := by
  subst e
  have hl := get_len h
  unfold itD atI ixN
  rw [if_pos (by omega), if_pos (by omega)]
  show (xs[n]?).getD default = a
  rw [h]
  rfl
theorem one_4096 : -(2 ^ 4096) < (1 : Int) ∧ (1 : Int) < 2 ^ 4096 := by
  have h : (0 : Int) < 2 ^ 4095 := Int.pow_pos (by decide)
  have e : (2 : Int) ^ 4096 = 2 ^ 4095 * 2 := Int.pow_succ 2 4095
  generalize (2 : Int) ^ 4095 = z at h e
  generalize (2 : Int) ^ 4096 = y at e ⊢
  omega
theorem top_b {d : Int} (h0 : 0 ≤ d) (h1 : d < 5) : 255 ≤ 1 * 2 ^ Int.toNat (8 + d) - (1 : Int) ∧ 1 * 2 ^ Int.toNat (8 + d) - (1 : Int) ≤ 4095 := by
  have : d = 0 ∨ d = 1 ∨ d = 2 ∨ d = 3 ∨ d = 4 := by omega
  rcases this with rfl | rfl | rfl | rfl | rfl <;> decide
def Good (n : List Int) (w h d c : Int) : Prop := n = [w, h, d, c] ∧ (1 ≤ w ∧ w ≤ 256) ∧ (1 ≤ h ∧ h ≤ 256) ∧ (8 ≤ d ∧ d ≤ 12) ∧ 0 ≤ c ∧ c ≤ 2
theorem init_ok {w h d c : Int} (g : (1 ≤ w ∧ w ≤ 256) ∧ (1 ≤ h ∧ h ≤ 256) ∧ (8 ≤ d ∧ d ≤ 12) ∧ 0 ≤ c ∧ c ≤ 2) : F_Format___init__ w h d c = .ok ⟨w, h, d, c⟩ := by
  unfold F_Format___init__
  rw [if_pos (by omega), if_pos (by omega), if_pos (by omega), if_pos (by omega), if_pos (by omega), if_pos (by omega), if_pos (by omega), if_pos (by omega)]
theorem init_er {w h d c : Int} (g : w < 1 ∨ 256 < w ∨ h < 1 ∨ 256 < h ∨ d < 8 ∨ 12 < d ∨ c < 0 ∨ 2 < c) : F_Format___init__ w h d c = .er 1 := by
  unfold F_Format___init__
  repeat' split
  all_goals first | rfl | omega
theorem i4 (a b c d : Int) : itD [a, b, c, d] 0 = a ∧ itD [a, b, c, d] 1 = b ∧ itD [a, b, c, d] 2 = c ∧ itD [a, b, c, d] 3 = d := ⟨itD_lit 0 rfl rfl, itD_lit 1 rfl rfl, itD_lit 2 rfl rfl, itD_lit 3 rfl rfl⟩
theorem g4 (a b c d k : Int) (h0 : 0 ≤ k) (h1 : k < 4) : -(([a, b, c, d] : List Int).length : Int) ≤ k ∧ k < (([a, b, c, d] : List Int).length : Int) := by
  show -(4 : Int) ≤ k ∧ k < (4 : Int)
  omega
theorem refused_ok {w h d c : Int} (g : w < 1 ∨ 256 < w ∨ h < 1 ∨ 256 < h ∨ d < 8 ∨ 12 < d ∨ c < 0 ∨ 2 < c) : F__law_refused [w, h, d, c] = .ok true := by
  obtain ⟨e0, e1, e2, e3⟩ := i4 w h d c
  unfold F__law_refused
  rw [grd_pos (g4 _ _ _ _ _ (by decide) (by decide)), grd_pos (g4 _ _ _ _ _ (by decide) (by decide)), grd_pos (g4 _ _ _ _ _ (by decide) (by decide)), grd_pos (g4 _ _ _ _ _ (by decide) (by decide)), e0, e1, e2, e3, init_er g, tryR_er (by simp)]
theorem between_gv (f s lo hi : Int) (h : lo < hi) : Gv (F__law_between f s lo hi) (fun v => lo ≤ v ∧ v ≤ hi) := by
  unfold F__law_between
  refine Gv.ite (fun _ => .ok (by omega)) fun _ => Gv.ite (fun _ => .ok (by omega)) fun _ => Gv.ite (fun _ => .ok (by split <;> omega)) fun _ => Gv.grd (by omega) (.ok ?_)
  have a := Int.emod_nonneg s (show hi - lo + 1 ≠ 0 by omega)
  have b := Int.emod_lt_of_pos s (show 0 < hi - lo + 1 by omega)
  generalize s % (hi - lo + 1) = z at a b ⊢
  omega
def bad (c p : Int) : Prop := p < 0 ∨ (if c = 0 then 1 else 3) ≤ p
theorem plane_er {w h d c p x y : Int} (b : bad c p) : F_Format__plane_size ⟨w, h, d, c⟩ p x y = .er 3 := by
  unfold F_Format__plane_size
  by_cases q : 0 ≤ p
  · rw [if_pos q]
    show (noEr (F_Format_planes ⟨w, h, d, c⟩)).bind _ = _
    have e : F_Format_planes ⟨w, h, d, c⟩ = .ok (if c = 0 then 1 else 3) := rfl
    rw [e, noEr_ok, bind_ok, if_neg]
    rcases b with b | b
    · omega
    · generalize (if c = 0 then (1 : Int) else 3) = z at b ⊢
      omega
  · rw [if_neg q]
theorem plane_ok {w h d c p x y : Int} (b : ¬ bad c p) : F_Format__plane_size ⟨w, h, d, c⟩ p x y = F__law_size x y c p := by
  unfold F_Format__plane_size F__law_size
  have q : 0 ≤ p := by
    rcases Int.lt_or_le p 0 with z | z
    · exact absurd (.inl z) b
    · exact z
  rw [if_pos q]
  show (noEr (F_Format_planes ⟨w, h, d, c⟩)).bind _ = _
  have e : F_Format_planes ⟨w, h, d, c⟩ = .ok (if c = 0 then 1 else 3) := rfl
  rw [e, noEr_ok, bind_ok, if_pos]
  rcases Int.lt_or_le p (if c = 0 then 1 else 3) with z | z
  · exact z
  · exact absurd (.inr z) b
theorem size_any (x y c p : Int) : ∃ v, F__law_size x y c p = .ok v := by
  unfold F__law_size
  repeat' split
  all_goals exact ⟨_, rfl⟩
theorem no_plane {w h d c p : Int} (b : bad c p) : F__law_no_plane ⟨w, h, d, c⟩ p = .ok true := by
  have e1 : F_Format_size ⟨w, h, d, c⟩ p = .er 3 := by
    unfold F_Format_size
    rw [plane_er b]
    rfl
  have e2 : F_Format_coded_size ⟨w, h, d, c⟩ p = .er 3 := by
    unfold F_Format_coded_size
    show (F_Format__plane_size ⟨w, h, d, c⟩ p _ _).bind _ = _
    rw [plane_er b]
    rfl
  unfold F__law_no_plane F__law_no_plane_k1
  rw [e1, tryR_er (by simp), bnd_eq, bind_ok, e2, tryR_er (by simp)]
  rfl
theorem planes_ok {w h d c : Int} (g : (1 ≤ w ∧ w ≤ 256) ∧ (1 ≤ h ∧ h ≤ 256) ∧ (8 ≤ d ∧ d ≤ 12) ∧ 0 ≤ c ∧ c ≤ 2) : F__law_planes ⟨w, h, d, c⟩ [w, h, d, c] = .ok true := by
  obtain ⟨e0, e1, e2, e3⟩ := i4 w h d c
  have gg := g4 w h d c
  have hcnt : (if 0 < c then (3 : Int) else 1) = (if c = 0 then 1 else 3) := by
    by_cases z : c = 0
    · rw [if_pos z, if_neg (by omega)]
    · rw [if_neg z, if_pos (by omega)]
  have hb : ∀ p, ((if c = 0 then 1 else 3) : Int) ≤ p → bad c p := fun p h => .inr h
  have c13 : ((if c = 0 then 1 else 3) : Int) = 1 ∨ ((if c = 0 then 1 else 3) : Int) = 3 := by split <;> simp
  refine Gv.get ?_
  unfold F__law_planes
  rw [e0, e1, e3]
  refine Gv.grd (gg 0 (by decide) (by decide)) (Gv.bind_eq (a := (w + 7) / 8 * 8) rfl (Gv.grd (gg 1 (by decide) (by decide)) (Gv.bind_eq (a := (h + 7) / 8 * 8) rfl (Gv.bind_eq (a := if c = 0 then 1 else 3) ?_ ?_))))
  · rw [grd_pos (gg 3 (by decide) (by decide)), ← hcnt]
    split <;> rfl
  unfold F__law_planes_k1
  generalize hn : (if c = 0 then (1 : Int) else 3) = n at hb c13 ⊢
  refine Gv.bind_eq (a := n) (by show noEr (.ok (if c = 0 then (1 : Int) else 3)) = _; rw [hn]; rfl) (Gv.pos rfl (Gv.bind_eq (a := ((w + 8 - 1) / 8, (h + 8 - 1) / 8)) rfl (Gv.pos ?_ (Gv.grd ⟨by omega, by omega⟩ (Gv.bind_eq (a := .go ()) (forR_unit fun p hp => ?_) ?_)))))
  · show ((w + 8 - 1) / 8, (h + 8 - 1) / 8) = ((w + 7) / 8 * 8 / 8, (h + 7) / 8 * 8 / 8)
    rw [show (w + 8 - 1) / 8 = (w + 7) / 8 * 8 / 8 by omega, show (h + 8 - 1) / 8 = (h + 7) / 8 * 8 / 8 by omega]
  · have hp := rng_mem hp
    have nb : ¬ bad c p := by
      unfold bad
      rw [hn]
      omega
    obtain ⟨v1, s1⟩ := size_any w h c p
    obtain ⟨v2, s2⟩ := size_any ((w + 7) / 8 * 8) ((h + 7) / 8 * 8) c p
    have f1 : F_Format_size ⟨w, h, d, c⟩ p = .ok v1 := by
      unfold F_Format_size
      rw [plane_ok nb, s1]
      rfl
    have f2 : F_Format_coded_size ⟨w, h, d, c⟩ p = .ok v2 := by
      unfold F_Format_coded_size
      show (F_Format__plane_size ⟨w, h, d, c⟩ p ((w + 8 - 1) / 8 * 8) ((h + 8 - 1) / 8 * 8)).bind _ = _
      rw [plane_ok nb, show (w + 8 - 1) / 8 * 8 = (w + 7) / 8 * 8 by omega, show (h + 8 - 1) / 8 * 8 = (h + 7) / 8 * 8 by omega, s2]
      rfl
    refine Gv.get ?_
    unfold F__law_planes_b2
    rw [e0, e1, e3]
    exact Gv.bind_eq f1 (Gv.grd (gg 0 (by decide) (by decide)) (Gv.grd (gg 1 (by decide) (by decide)) (Gv.grd (gg 3 (by decide) (by decide)) (Gv.bind_eq s1 (Gv.pos rfl (Gv.bind_eq f2 (Gv.grd (gg 3 (by decide) (by decide)) (Gv.bind_eq s2 (Gv.pos rfl (.ok rfl))))))))))
  · rw [aft_go]
    unfold F__law_planes_r2
    rw [e0, e1]
    refine Gv.grd (gg 0 (by decide) (by decide)) (Gv.grd (gg 1 (by decide) (by decide)) (Gv.bind_eq (a := .go ()) (forR_unit fun p hp => ?_) ?_))
    · have pb : bad c p := by
        simp only [List.mem_cons, List.not_mem_nil, or_false] at hp
        rcases hp with rfl | rfl | rfl | rfl | rfl | rfl
        · exact hb _ (Int.le_refl _)
        · exact .inl (by decide)
        · exact hb _ (by omega)
        · exact hb _ (by omega)
        · exact hb _ (by omega)
        · exact .inl (by omega)
      unfold F__law_planes_b3
      rw [no_plane pb, bind_ok, if_pos rfl]
    · rw [aft_go]
      unfold F__law_planes_r3
      refine Gv.ite (fun _ => .ok rfl) fun q => Gv.bind_eq (no_plane (hb 2 ?_)) (.ok rfl)
      have : ¬ n = 3 := fun z => q (decide_eq_true z)
      omega
theorem eq_ok {w h d c w2 h2 d2 c2 : Int} : F_Format___eq__ ⟨w, h, d, c⟩ ⟨w2, h2, d2, c2⟩ = .ok (decide (([w2, h2, d2, c2] : List Int) = [w, h, d, c])) := by
  unfold F_Format___eq__
  by_cases a : w = w2
  · by_cases b : h = h2
    · by_cases e : d = d2
      · subst a b e
        rw [if_pos (decide_eq_true rfl), if_pos (decide_eq_true rfl), if_pos (decide_eq_true rfl)]
        show Rx.ok (decide (c = c2)) = _
        by_cases q : c = c2
        · subst q
          rw [decide_eq_true rfl, decide_eq_true rfl]
        · rw [decide_eq_false q, decide_eq_false (fun z => q (by injection z with _ z; injection z with _ z; injection z with _ z; injection z with z _; exact z.symm))]
      · subst a b
        rw [if_pos (decide_eq_true rfl), if_pos (decide_eq_true rfl), if_neg (by show ¬ decide (d = d2) = true; rw [decide_eq_false e]; exact Bool.false_ne_true), decide_eq_false (fun z => e (by injection z with _ z; injection z with _ z; injection z with z _; exact z.symm))]
    · subst a
      rw [if_pos (decide_eq_true rfl), if_neg (by show ¬ decide (h = h2) = true; rw [decide_eq_false b]; exact Bool.false_ne_true), decide_eq_false (fun z => b (by injection z with _ z; injection z with z _; exact z.symm))]
  · rw [if_neg (by show ¬ decide (w = w2) = true; rw [decide_eq_false a]; exact Bool.false_ne_true), decide_eq_false (fun z => a (by injection z with z _; exact z.symm))]
theorem b4_ok {w h d c w2 h2 d2 c2 : Int} (g : (1 ≤ w2 ∧ w2 ≤ 256) ∧ (1 ≤ h2 ∧ h2 ≤ 256) ∧ (8 ≤ d2 ∧ d2 ≤ 12) ∧ 0 ≤ c2 ∧ c2 ≤ 2) : F_law_b4 [w, h, d, c] ⟨w, h, d, c⟩ [w2, h2, d2, c2] = .ok (.go ()) := by
  obtain ⟨e0, e1, e2, e3⟩ := i4 w2 h2 d2 c2
  have gg := g4 w2 h2 d2 c2
  refine Gv.get ?_
  unfold F_law_b4
  rw [e0, e1, e2, e3]
  exact Gv.grd (gg 0 (by decide) (by decide)) (Gv.grd (gg 1 (by decide) (by decide)) (Gv.grd (gg 2 (by decide) (by decide)) (Gv.grd (gg 3 (by decide) (by decide)) (Gv.bind_eq (init_ok g) (Gv.bind_eq (a := decide (([w2, h2, d2, c2] : List Int) = [w, h, d, c])) (by rw [eq_ok]; rfl) (Gv.pos rfl (.ok rfl)))))))
theorem four {f : Int → Rx Int} {P0 P1 P2 P3 : Int → Prop} (h0 : Gv (f 0) P0) (h1 : Gv (f 1) P1) (h2 : Gv (f 2) P2) (h3 : Gv (f 3) P3) : Gv (mapA (rng 0 (Int.toNat 4)) [] f) (fun n => ∃ a b c d, n = [a, b, c, d] ∧ P0 a ∧ P1 b ∧ P2 c ∧ P3 d) := by
  obtain ⟨a, ea, pa⟩ := h0
  obtain ⟨b, eb, pb⟩ := h1
  obtain ⟨c, ec, pc⟩ := h2
  obtain ⟨d, ed, pd⟩ := h3
  refine ⟨[a, b, c, d], ?_, a, b, c, d, rfl, pa, pb, pc, pd⟩
  rw [show rng 0 (Int.toNat 4) = [0, 1, 2, 3] by decide]
  unfold mapA
  rw [grd_pos (by show 0 ≤ 1000000; decide), ea, bind_ok]
  unfold mapA
  rw [grd_pos (by show 1 ≤ 1000000; decide), eb, bind_ok]
  unfold mapA
  rw [grd_pos (by show 2 ≤ 1000000; decide), ec, bind_ok]
  unfold mapA
  rw [grd_pos (by show 3 ≤ 1000000; decide), ed, bind_ok]
  rfl
theorem draws8 (cell : Int) : Gv (F__law_draws cell [6, 256, 6, 256, 6, 5, 6, 3]) (fun v => v.length = 8) := by
  refine Gv.imp (draws_gv _ _ (fun l hl => ?_) (by show 8 ≤ 1000000; decide)) fun v hv => hv.len
  simp only [List.mem_cons, List.not_mem_nil, or_false] at hl
  rcases hl with rfl | rfl | rfl | rfl | rfl | rfl | rfl | rfl <;> omega
theorem ix8 {ds : List Int} (h : ds.length = 8) (k : Int) (h0 : 0 ≤ k) (h1 : k < 8) : -(ds.length : Int) ≤ k ∧ k < (ds.length : Int) := by rw [h]; omega
def InR (w h d c : Int) : Prop := (1 ≤ w ∧ w ≤ 256) ∧ (1 ≤ h ∧ h ≤ 256) ∧ (8 ≤ d ∧ d ≤ 12) ∧ 0 ≤ c ∧ c ≤ 2
theorem c1_gv {ds : List Int} (h : ds.length = 8) : Gv (mapA (rng 0 (Int.toNat 4)) [] (fun x => noEr (F_law_c1 [1, 1, 8, 0] [256, 256, 12, 2] ds x))) (fun n => ∃ a b c d, n = [a, b, c, d] ∧ InR a b c d) := by
  have q : ∀ (k lo hi : Int), 0 ≤ k → k < 4 → itD [1, 1, 8, 0] k = lo → itD [256, 256, 12, 2] k = hi → lo < hi → Gv (noEr (F_law_c1 [1, 1, 8, 0] [256, 256, 12, 2] ds k)) (fun v => lo ≤ v ∧ v ≤ hi) := fun k lo hi k0 k1 e1 e2 hlt => Gv.noEr (by
    unfold F_law_c1
    rw [e1, e2]
    exact Gv.grd (ix8 h _ (by omega) (by omega)) (Gv.grd (ix8 h _ (by omega) (by omega)) (Gv.grd (g4 _ _ _ _ _ k0 k1) (Gv.grd (g4 _ _ _ _ _ k0 k1) (Gv.bind (between_gv _ _ lo hi hlt) fun v hv => .ok hv)))))
  refine Gv.imp (four (q 0 1 256 (by decide) (by decide) rfl rfl (by decide)) (q 1 1 256 (by decide) (by decide) rfl rfl (by decide)) (q 2 8 12 (by decide) (by decide) rfl rfl (by decide)) (q 3 0 2 (by decide) (by decide) rfl rfl (by decide))) fun n hn => ?_
  obtain ⟨a, b, c, d, rfl, pa, pb, pc, pd⟩ := hn
  exact ⟨a, b, c, d, rfl, pa, pb, pc, pd⟩
theorem c3_eq (ds : List Int) (x : Int) : F_law_c3 [1, 1, 8, 0] [256, 256, 12, 2] ds x = F_law_c1 [1, 1, 8, 0] [256, 256, 12, 2] ds x := rfl
theorem r4_ok {w h d c : Int} (g : InR w h d c) {bl : List Int} (hb : F__law_refused bl = .ok true) {w2 h2 d2 c2 : Int} : F_law_r4 [w, h, d, c] ⟨w, h, d, c⟩ bl [w2, h2, d2, c2] ⟨w2, h2, d2, c2⟩ = .ok true := by
  obtain ⟨e0, e1, e2, e3⟩ := i4 w h d c
  have gg := g4 w h d c
  refine Gv.get ?_
  unfold F_law_r4
  rw [e0, e1, e2, e3]
  exact Gv.grd (gg 0 (by decide) (by decide)) (Gv.grd (gg 1 (by decide) (by decide)) (Gv.grd (gg 2 (by decide) (by decide)) (Gv.grd (gg 3 (by decide) (by decide)) (Gv.bind_eq (init_ok g) (Gv.bind_eq (a := decide (([w2, h2, d2, c2] : List Int) = [w, h, d, c])) (by rw [eq_ok]; rfl) (Gv.pos rfl (Gv.bind_eq (a := true) (by rw [eq_ok, decide_eq_true rfl]; rfl) (Gv.neg (by decide) (Gv.bind_eq hb (.ok rfl))))))))))
theorem k2_ok {xs ds bl : List Int} {w h d c : Int} (g : InR w h d c) (hb : F__law_refused bl = .ok true) (hd : Inb ds [4, 2, 1000, 4, 256]) : F_law_k2 xs [1, 1, 8, 0] [256, 256, 12, 2] ds [w, h, d, c] ⟨w, h, d, c⟩ bl = .ok true := by
  obtain ⟨d0, r0, rfl, a0, b0, hd⟩ := hd.cons
  obtain ⟨d1, r1, rfl, a1, b1, hd⟩ := hd.cons
  obtain ⟨d2, r2, rfl, a2, b2, hd⟩ := hd.cons
  obtain ⟨d3, r3, rfl, a3, b3, hd⟩ := hd.cons
  obtain ⟨d4, r4, rfl, a4, b4, hd⟩ := hd.cons
  obtain rfl := hd.nil
  have i3 : itD [d0, d1, d2, d3, d4] 3 = d3 := itD_lit 3 rfl rfl
  have j4 : itD [d0, d1, d2, d3, d4] 4 = d4 := itD_lit 4 rfl rfl
  have ix : ∀ k : Int, 0 ≤ k → k < 5 → -(([d0, d1, d2, d3, d4] : List Int).length : Int) ≤ k ∧ k < (([d0, d1, d2, d3, d4] : List Int).length : Int) := fun k h0 h1 => by
    show -(5 : Int) ≤ k ∧ k < (5 : Int)
    omega
  have gg := g4 w h d c
  obtain ⟨e0, e1, e2, e3⟩ := i4 w h d c
  refine Gv.get ?_
  unfold F_law_k2
  rw [i3, j4, e0, e1]
  have gd3 := g4 1 1 8 0 d3 a3 b3
  have gh3 := g4 256 256 12 2 d3 a3 b3
  -- what the other list is
  have other : ∃ lo hi, itD [1, 1, 8, 0] d3 = lo ∧ itD [256, 256, 12, 2] d3 = hi ∧ lo < hi ∧ ∀ v, lo ≤ v → v ≤ hi → ∃ w2 h2 d2 c2, setL [w, h, d, c] d3 v = [w2, h2, d2, c2] ∧ InR w2 h2 d2 c2 := by
    obtain ⟨gw, gh, gdd, gc⟩ := g
    have : d3 = 0 ∨ d3 = 1 ∨ d3 = 2 ∨ d3 = 3 := by omega
    rcases this with rfl | rfl | rfl | rfl
    · exact ⟨1, 256, rfl, rfl, by decide, fun v v0 v1 => ⟨v, h, d, c, rfl, ⟨v0, v1⟩, gh, gdd, gc⟩⟩
    · exact ⟨1, 256, rfl, rfl, by decide, fun v v0 v1 => ⟨w, v, d, c, rfl, gw, ⟨v0, v1⟩, gdd, gc⟩⟩
    · exact ⟨8, 12, rfl, rfl, by decide, fun v v0 v1 => ⟨w, h, v, c, rfl, gw, gh, ⟨v0, v1⟩, gc⟩⟩
    · exact ⟨0, 2, rfl, rfl, by decide, fun v v0 v1 => ⟨w, h, d, v, rfl, gw, gh, gdd, v0, v1⟩⟩
  obtain ⟨lo, hi, elo, ehi, hlt, oth⟩ := other
  rw [elo, ehi]
  refine Gv.grd (ix 3 (by decide) (by decide)) (Gv.grd gd3 (Gv.grd (ix 4 (by decide) (by decide)) (Gv.grd (ix 3 (by decide) (by decide)) (Gv.grd gh3 (Gv.grd (ix 3 (by decide) (by decide)) (Gv.grd gd3 (Gv.grd (by omega) (Gv.grd (ix 3 (by decide) (by decide)) (Gv.grd (gg d3 a3 b3) (Gv.bnd fun y hy => ?_))))))))))
  have m0 := Int.emod_nonneg d4 (show hi - lo + 1 ≠ 0 by omega)
  have m1 := Int.emod_lt_of_pos d4 (show 0 < hi - lo + 1 by omega)
  obtain ⟨w2, h2, d2', c2, e, g2⟩ := oth (lo + d4 % (hi - lo + 1)) (by omega) (by omega)
  rw [e] at hy
  subst hy
  obtain ⟨f0, f1, f2, f3⟩ := i4 w2 h2 d2' c2
  have g2g := g4 w2 h2 d2' c2
  rw [f0, f1, f2, f3]
  refine Gv.grd (g2g 0 (by decide) (by decide)) (Gv.grd (g2g 1 (by decide) (by decide)) (Gv.grd (g2g 2 (by decide) (by decide)) (Gv.grd (g2g 3 (by decide) (by decide)) (Gv.bind_eq (init_ok g2) (Gv.bind (cell_gv xs 2 (by omega)) fun cc _ => Gv.bind (draws8 cc) fun dv hdv => Gv.bind (c1_gv hdv) fun fr hfr => ?_)))))
  obtain ⟨p, q, r, s, rfl, gf⟩ := hfr
  refine Gv.grd (gg 1 (by decide) (by decide)) (Gv.grd (gg 0 (by decide) (by decide)) (Gv.grd (by show 2 + 2 ≤ 1000000; decide) (Gv.grd (by show 1 + 3 ≤ 1000000; decide) (Gv.grd (by show 2 + 2 ≤ 1000000; decide) (Gv.bind_eq (a := .go ()) (forR_unit fun x hx => ?_) (by rw [aft_go]; exact .of_eq (r4_ok g hb) rfl))))))
  simp only [List.mem_cons, List.not_mem_nil, or_false] at hx
  obtain ⟨gw, gh, gdd, gc⟩ := g
  obtain ⟨gp, gq, gr, gs⟩ := gf
  rcases hx with rfl | rfl | rfl | rfl
  · exact b4_ok ⟨gp, gq, gr, gs⟩
  · exact b4_ok (w2 := h) (h2 := w) ⟨gh, gw, gdd, gc⟩
  · exact b4_ok (w2 := p) (h2 := h) ⟨gp, gh, gdd, gc⟩
  · exact b4_ok (w2 := w) (h2 := h) (d2 := r) (c2 := s) ⟨gw, gh, gr, gs⟩
theorem law_true (xs : List Int) (h : xs.length ≤ 63) : F_law xs = .ok true := by
  refine Gv.get ?_
  unfold F_law
  refine Gv.bind (cell_gv xs 0 (by omega)) fun c0 _ => Gv.bind (draws8 c0) fun dv hdv => Gv.bind (c1_gv hdv) fun nn hnn => ?_
  obtain ⟨w, h, d, c, rfl, g⟩ := hnn
  obtain ⟨e0, e1, e2, e3⟩ := i4 w h d c
  have gg := g4 w h d c
  rw [e0, e1, e2, e3]
  have gd := g.2.2.1
  have g0 : InR w h 8 0 := ⟨g.1, g.2.1, ⟨by decide, by decide⟩, by decide, by decide⟩
  have md : F_Format_middle ⟨w, h, d, c⟩ = .ok (1 * 2 ^ Int.toNat (d - 1)) := by
    unfold F_Format_middle
    rw [grd_pos ⟨by show 0 ≤ d - 1; omega, by show d - 1 ≤ 4096; omega, one_4096⟩]
  have tp : F_Format_top ⟨w, h, d, c⟩ = .ok (1 * 2 ^ Int.toNat d - 1) := by
    unfold F_Format_top
    rw [grd_pos ⟨by show 0 ≤ d; omega, by show d ≤ 4096; omega, one_4096⟩]
  refine Gv.grd (gg 0 (by decide) (by decide)) (Gv.grd (gg 1 (by decide) (by decide)) (Gv.grd (gg 2 (by decide) (by decide)) (Gv.grd (gg 3 (by decide) (by decide)) (Gv.bind_eq (init_ok g) (Gv.pos rfl (Gv.bind_eq (planes_ok g) (Gv.pos rfl (Gv.bind_eq (a := 1 * 2 ^ Int.toNat (d - 1)) (by rw [md]; rfl) (Gv.grd (gg 2 (by decide) (by decide)) (Gv.grd ⟨by omega, by omega, one_4096⟩ (Gv.pos rfl (Gv.bind_eq (a := 1 * 2 ^ Int.toNat d - 1) (by rw [tp]; rfl) (Gv.grd (gg 2 (by decide) (by decide)) (Gv.grd ⟨by omega, by omega, one_4096⟩ (Gv.pos rfl ?_)))))))))))))))
  refine Gv.grd (gg 0 (by decide) (by decide)) (Gv.grd (gg 1 (by decide) (by decide)) (Gv.bind_eq (init_ok g0) (Gv.pos rfl (Gv.pos rfl (Gv.grd (gg 0 (by decide) (by decide)) (Gv.grd (gg 1 (by decide) (by decide)) (Gv.bind_eq (planes_ok g0) (Gv.pos rfl (Gv.bind (cell_gv xs 1 (by omega)) fun c1 _ => Gv.bind (draws_gv _ _ (fun l hl => ?_) (by show 5 ≤ 1000000; decide)) fun ds hd => ?_)))))))))
  · simp only [List.mem_cons, List.not_mem_nil, or_false] at hl
    rcases hl with rfl | rfl | rfl | rfl | rfl <;> omega
  have hd0 := hd
  obtain ⟨d0, r0, rfl, a0, b0, hd⟩ := hd.cons
  obtain ⟨d1, r1, rfl, a1, b1, hd⟩ := hd.cons
  obtain ⟨d2, r2, rfl, a2, b2, hd⟩ := hd.cons
  obtain ⟨d3, r3, rfl, a3, b3, hd⟩ := hd.cons
  obtain ⟨d4, r4, rfl, a4, b4, hd⟩ := hd.cons
  obtain rfl := hd.nil
  have i0 : itD [d0, d1, d2, d3, d4] 0 = d0 := itD_lit 0 rfl rfl
  have i1 : itD [d0, d1, d2, d3, d4] 1 = d1 := itD_lit 1 rfl rfl
  have i2 : itD [d0, d1, d2, d3, d4] 2 = d2 := itD_lit 2 rfl rfl
  have ix : ∀ k : Int, 0 ≤ k → k < 5 → -(([d0, d1, d2, d3, d4] : List Int).length : Int) ≤ k ∧ k < (([d0, d1, d2, d3, d4] : List Int).length : Int) := fun k h0 h1 => by
    show -(5 : Int) ≤ k ∧ k < (5 : Int)
    omega
  rw [i0, i1, i2]
  refine Gv.grd (ix 0 (by decide) (by decide)) (Gv.grd (g4 256 256 12 2 d0 a0 b0) (Gv.grd (ix 2 (by decide) (by decide)) (Gv.grd (ix 0 (by decide) (by decide)) (Gv.grd (gg d0 a0 b0) (Gv.bnd fun y hy => ?_)))))
  have l4 : y.length = 4 := by
    rw [hy]
    unfold setL
    rw [List.length_set]
    rfl
  refine Gv.bind (P := fun bl => F__law_refused bl = .ok true) (Gv.grd (ix 1 (by decide) (by decide)) (Gv.ite (fun _ => Gv.grd (ix 0 (by decide) (by decide)) (Gv.grd (g4 1 1 8 0 d0 a0 b0) (Gv.grd (ix 2 (by decide) (by decide)) (Gv.grd (ix 0 (by decide) (by decide)) (Gv.grd (by rw [l4]; omega) (Gv.bnd fun z hz => .ok ?_)))))) fun _ => .ok ?_)) fun bl hbl => .of_eq (k2_ok g hbl hd0) rfl
  · rw [hz, hy]
    have : d0 = 0 ∨ d0 = 1 ∨ d0 = 2 ∨ d0 = 3 := by omega
    rcases this with rfl | rfl | rfl | rfl
    · exact refused_ok (w := 1 - 1 - d2) (h := h) (d := d) (c := c) (by omega)
    · exact refused_ok (w := w) (h := 1 - 1 - d2) (d := d) (c := c) (by omega)
    · exact refused_ok (w := w) (h := h) (d := 8 - 1 - d2) (c := c) (by omega)
    · exact refused_ok (w := w) (h := h) (d := d) (c := 0 - 1 - d2) (by omega)
  · rw [hy]
    have : d0 = 0 ∨ d0 = 1 ∨ d0 = 2 ∨ d0 = 3 := by omega
    rcases this with rfl | rfl | rfl | rfl
    · exact refused_ok (w := 256 + 1 + d2) (h := h) (d := d) (c := c) (by omega)
    · exact refused_ok (w := w) (h := 256 + 1 + d2) (d := d) (c := c) (by omega)
    · exact refused_ok (w := w) (h := h) (d := 12 + 1 + d2) (c := c) (by omega)
    · exact refused_ok (w := w) (h := h) (d := d) (c := 2 + 1 + d2) (by omega)

end Vx
namespace Vx
open PySem PySem.Spec PyProof.Rows L2
def topS (i : Nat) : Stmt := PySem.Challenge.pw_thaumatrope_k01_sizes_of_formats.main.body.getD i (.Pass ⟨0, 0, 0, 0⟩)
abbrev s__law_draws : Stmt := topS 11
abbrev s_Format___init__ : Stmt := inClass (topS 8) 0
abbrev s_Format___eq__ : Stmt := inClass (topS 8) 1
abbrev s__law_refused : Stmt := topS 15
abbrev s__law_cell : Stmt := topS 10
abbrev s__law_between : Stmt := topS 12
abbrev s__law_up : Stmt := topS 14
abbrev s_Format_planes : Stmt := inClass (topS 8) 2
abbrev s_Format__plane_size : Stmt := inClass (topS 8) 10
abbrev s_Format_size : Stmt := inClass (topS 8) 5
abbrev s_Format_blocks : Stmt := inClass (topS 8) 7
abbrev s_Format_coded_size : Stmt := inClass (topS 8) 6
abbrev s__law_no_plane : Stmt := topS 16
abbrev s__law_size : Stmt := topS 13
abbrev s__law_planes : Stmt := topS 17
abbrev s_Format_middle : Stmt := inClass (topS 8) 3
abbrev s_Format_top : Stmt := inClass (topS 8) 4
abbrev s_law : Stmt := topS 18
structure Ads where
  c_Format : Addr
  x_CodecError : Addr
  x_BadFormat : Addr
  x_BadFrame : Addr
  x_OutOfRange : Addr
  z0 : Addr
def excA (AD : Ads) : Nat → Addr
  | 0 => AD.x_CodecError
  | 1 => AD.x_BadFormat
  | 2 => AD.x_BadFrame
  | 3 => AD.x_OutOfRange
  | _ => AD.z0
structure Txt (K : PySem.W.Frag) (mg : Str → Option Value) (AD : Ads) : Prop where
  b_abs : mg "abs" = none
  b_int : mg "int" = none
  b_isinstance : mg "isinstance" = none
  b_ValueError : mg "ValueError" = none
  b_len : mg "len" = none
  b_min : mg "min" = none
  g_BLOCK : ∃ u, mg "BLOCK" = some u ∧ RelV (V.int 8) u
  b_range : mg "range" = none
  b_list : mg "list" = none
  cl_Format : Cls K AD.c_Format
  cg_Format : mg "Format" = some (.ref AD.c_Format)
  ci_Format : IsiC K AD.c_Format
  n_Format_width : NoAttr K AD.c_Format "width"
  n_Format_height : NoAttr K AD.c_Format "height"
  n_Format_depth : NoAttr K AD.c_Format "depth"
  n_Format_chroma : NoAttr K AD.c_Format "chroma"
  xg_BadFormat : mg "BadFormat" = some (.ref AD.x_BadFormat)
  xx_BadFormat : PySem.W.excIn K AD.x_BadFormat [.type "ValueError", .type "Exception", .type "BaseException", .type "object"] "ValueError.__new__" = true
  xk_BadFormat : PySem.W.keepIn K (.ref AD.x_BadFormat) = true
  xb_BadFormat : PySem.W.subIn K (.ref AD.x_BadFormat) (.type "BaseException") = some true
  xt_BadFormat : PySem.W.typeIn K (.ref AD.x_BadFormat) = some (.type "type")
  xg_OutOfRange : mg "OutOfRange" = some (.ref AD.x_OutOfRange)
  xx_OutOfRange : PySem.W.excIn K AD.x_OutOfRange [.type "ValueError", .type "Exception", .type "BaseException", .type "object"] "ValueError.__new__" = true
  xk_OutOfRange : PySem.W.keepIn K (.ref AD.x_OutOfRange) = true
  xb_OutOfRange : PySem.W.subIn K (.ref AD.x_OutOfRange) (.type "BaseException") = some true
  xt_OutOfRange : PySem.W.typeIn K (.ref AD.x_OutOfRange) = some (.type "type")
  xg_BadFrame : mg "BadFrame" = some (.ref AD.x_BadFrame)
  xx_BadFrame : PySem.W.excIn K AD.x_BadFrame [.type "ValueError", .type "Exception", .type "BaseException", .type "object"] "ValueError.__new__" = true
  xk_BadFrame : PySem.W.keepIn K (.ref AD.x_BadFrame) = true
  xb_BadFrame : PySem.W.subIn K (.ref AD.x_BadFrame) (.type "BaseException") = some true
  xt_BadFrame : PySem.W.typeIn K (.ref AD.x_BadFrame) = some (.type "type")
  xg_CodecError : mg "CodecError" = some (.ref AD.x_CodecError)
  xx_CodecError : PySem.W.excIn K AD.x_CodecError [.type "ValueError", .type "Exception", .type "BaseException", .type "object"] "ValueError.__new__" = true
  xk_CodecError : PySem.W.keepIn K (.ref AD.x_CodecError) = true
  xb_CodecError : PySem.W.subIn K (.ref AD.x_CodecError) (.type "BaseException") = some true
  xt_CodecError : PySem.W.typeIn K (.ref AD.x_CodecError) = some (.type "type")
  xm_BadFormat_BadFormat : PySem.W.exmOne K (.ref AD.x_BadFormat) (.ref AD.x_BadFormat) = some true
  xm_OutOfRange_OutOfRange : PySem.W.exmOne K (.ref AD.x_OutOfRange) (.ref AD.x_OutOfRange) = some true
  xo_BadFormat_CodecError : PySem.W.kitOne K (.ref AD.x_BadFormat) (.ref AD.x_CodecError) = some true
  xo_OutOfRange_CodecError : PySem.W.kitOne K (.ref AD.x_OutOfRange) (.ref AD.x_CodecError) = some true
  xn_BadFormat_BadFrame : PySem.W.kitOne K (.ref AD.x_BadFormat) (.ref AD.x_BadFrame) = some false
  xn_BadFormat_OutOfRange : PySem.W.kitOne K (.ref AD.x_BadFormat) (.ref AD.x_OutOfRange) = some false
  xn_OutOfRange_BadFormat : PySem.W.kitOne K (.ref AD.x_OutOfRange) (.ref AD.x_BadFormat) = some false
  xv_BadFormat_ValueError : PySem.W.kitOne K (.ref AD.x_BadFormat) (.type "ValueError") = some true
  xc_BadFormat : ExcC K AD.x_BadFormat
  xc_OutOfRange : ExcC K AD.x_OutOfRange
abbrev pat__law_draws_0 : Pat := (2, [], fun vs _ => vs)
abbrev pats__law_draws : List Pat := [pat__law_draws_0]
abbrev pat_Format___init___0 : Pat := (3, ["depth", "chroma"], fun vs zs => match vs, zs with | [a0, a1, a2], [b0, b1] => [a0, a1, a2, b0, b1] | _, _ => [])
def gk_Format___init___1 {α : Type} (us mz ws : List α) : List α := match us, mz, ws with | [a0, a1, a2], [m0, m1], [] => [a0, a1, a2, m0, m1] | _, _, _ => []
theorem gknil_Format___init___1 {α : Type} {us mz ws : List α} (h : us.length ≠ 3 ∨ mz.length ≠ 2 ∨ ws.length ≠ 0) : gk_Format___init___1 us mz ws = [] := by
  unfold gk_Format___init___1
  split
  · simp at h
  · rfl
theorem gkrel_Format___init___1 {vs mz zs : List V} {us mv ws : List Value} (r : Vals vs us) (s : Vals mz mv) (q : Vals zs ws) : Vals (gk_Format___init___1 vs mz zs) (gk_Format___init___1 us mv ws) := by
  by_cases h1 : vs.length = 3
  · by_cases h2 : mz.length = 2
    · by_cases h3 : zs.length = 0
      · obtain ⟨a0, a1, a2, rfl⟩ := len3 h1
        obtain ⟨m0, m1, rfl⟩ := len2 h2
        obtain rfl := len0 h3
        cases r with | cons r0 r =>
          cases r with | cons r1 r =>
            cases r with | cons r2 r =>
              cases r
              cases s with | cons s0 s =>
                cases s with | cons s1 s =>
                  cases s
                  cases q
                  exact (.cons r0 (.cons r1 (.cons r2 (.cons s0 (.cons s1 .nil)))))
      · have k : ws.length ≠ 0 := fun z => h3 (q.length.trans z)
        rw [gknil_Format___init___1 (by first | exact .inl h3 | exact .inr (.inl h3) | exact .inr (.inr h3)), gknil_Format___init___1 (by first | exact .inl k | exact .inr (.inl k) | exact .inr (.inr k))]
        exact .nil
    · have k : mv.length ≠ 2 := fun z => h2 (s.length.trans z)
      rw [gknil_Format___init___1 (by first | exact .inl h2 | exact .inr (.inl h2) | exact .inr (.inr h2)), gknil_Format___init___1 (by first | exact .inl k | exact .inr (.inl k) | exact .inr (.inr k))]
      exact .nil
  · have k : us.length ≠ 3 := fun z => h1 (r.length.trans z)
    rw [gknil_Format___init___1 (by first | exact .inl h1 | exact .inr (.inl h1) | exact .inr (.inr h1)), gknil_Format___init___1 (by first | exact .inl k | exact .inr (.inl k) | exact .inr (.inr k))]
    exact .nil
abbrev pat_Format___init___1 : Pat := (3, [], fun vs zs => gk_Format___init___1 vs [V.int 8, V.int 0] zs)
abbrev pats_Format___init__ : List Pat := [pat_Format___init___0, pat_Format___init___1]
abbrev pat_Format___eq___0 : Pat := (2, [], fun vs _ => vs)
abbrev pats_Format___eq__ : List Pat := [pat_Format___eq___0]
abbrev pat__law_refused_0 : Pat := (1, [], fun vs _ => vs)
abbrev pats__law_refused : List Pat := [pat__law_refused_0]
abbrev pat__law_cell_0 : Pat := (2, [], fun vs _ => vs)
abbrev pats__law_cell : List Pat := [pat__law_cell_0]
abbrev pat__law_between_0 : Pat := (4, [], fun vs _ => vs)
abbrev pats__law_between : List Pat := [pat__law_between_0]
abbrev pat__law_up_0 : Pat := (1, [], fun vs _ => vs)
abbrev pats__law_up : List Pat := [pat__law_up_0]
abbrev pats_Format_planes : List Pat := []
abbrev pat_Format__plane_size_0 : Pat := (4, [], fun vs _ => vs)
abbrev pats_Format__plane_size : List Pat := [pat_Format__plane_size_0]
abbrev pat_Format_size_0 : Pat := (2, [], fun vs _ => vs)
abbrev pats_Format_size : List Pat := [pat_Format_size_0]
abbrev pat_Format_blocks_0 : Pat := (1, [], fun vs _ => vs)
abbrev pats_Format_blocks : List Pat := [pat_Format_blocks_0]
abbrev pat_Format_coded_size_0 : Pat := (2, [], fun vs _ => vs)
abbrev pats_Format_coded_size : List Pat := [pat_Format_coded_size_0]
abbrev pat__law_no_plane_0 : Pat := (2, [], fun vs _ => vs)
abbrev pats__law_no_plane : List Pat := [pat__law_no_plane_0]
abbrev pat__law_size_0 : Pat := (4, [], fun vs _ => vs)
abbrev pats__law_size : List Pat := [pat__law_size_0]
abbrev pat__law_planes_0 : Pat := (2, [], fun vs _ => vs)
abbrev pats__law_planes : List Pat := [pat__law_planes_0]
abbrev pats_Format_middle : List Pat := []
abbrev pats_Format_top : List Pat := []
abbrev pats_law : List Pat := []
def sp__law_draws (K : PySem.W.Frag) (AD : Ads) : Sp := fun vs H Q E => ∃ (G : Hp) (cell' : Int) (a_limits : Addr) (limits' : List Int), vs = [.int cell', .ref a_limits] ∧ Same G H ∧ (hideL [] H) a_limits = some (.lst ((limits' : List Int).map V.int)) ∧ cW (F__law_draws cell' limits') (fun v => ∀ p H', H p = none → Same H H' → H' p = some (.lst (v.map V.int)) → Q (.ref p) H') (fun e => ∀ H', Same H H' → E (.ref (excA AD e)) none H')
def sp_Format___init__ (K : PySem.W.Frag) (AD : Ads) : Sp := fun vs H Q E => ∃ (G : Hp) (p_self dx_self : Addr) (width' : Int) (height' : Int) (depth' : Int) (chroma' : Int), vs = [.ref p_self, .int width', .int height', .int depth', .int chroma'] ∧ Same G H ∧ (∀ a ∈ [p_self], G a = none) ∧ H p_self = some (.ins AD.c_Format dx_self []) ∧ cW (F_Format___init__ width' height' depth' chroma') (fun v => ∀ (H' : Hp), SameX p_self H H' → H' p_self = some (.ins AD.c_Format dx_self [("width", V.int v.width), ("height", V.int v.height), ("depth", V.int v.depth), ("chroma", V.int v.chroma)]) → Q .non H') (fun e => ∀ H', Same H H' → E (.ref (excA AD e)) none H')
def sp_Format___eq__ (K : PySem.W.Frag) (AD : Ads) : Sp := fun vs H Q E => ∃ (G : Hp) (p_self dx_self : Addr) (self' : St_Format) (p_other dx_other : Addr) (other' : St_Format), vs = [.ref p_self, .ref p_other] ∧ Same G H ∧ (hideL [] H) p_self = some (.ins AD.c_Format dx_self [("width", V.int self'.width), ("height", V.int self'.height), ("depth", V.int self'.depth), ("chroma", V.int self'.chroma)]) ∧ (hideL [] H) p_other = some (.ins AD.c_Format dx_other [("width", V.int other'.width), ("height", V.int other'.height), ("depth", V.int other'.depth), ("chroma", V.int other'.chroma)]) ∧ cW (F_Format___eq__ self' other') (fun v => ∀ H', Same H H' → Q (.bl v) H') (fun e => ∀ H', Same H H' → E (.ref (excA AD e)) none H')
def sp__law_refused (K : PySem.W.Frag) (AD : Ads) : Sp := fun vs H Q E => ∃ (G : Hp) (a_numbers : Addr) (numbers' : List Int), vs = [.ref a_numbers] ∧ Same G H ∧ (hideL [] H) a_numbers = some (.lst ((numbers' : List Int).map V.int)) ∧ cW (F__law_refused numbers') (fun v => ∀ H', Same H H' → Q (.bl v) H') (fun e => ∀ H', Same H H' → E (.ref (excA AD e)) none H')
def sp__law_cell (K : PySem.W.Frag) (AD : Ads) : Sp := fun vs H Q E => ∃ (G : Hp) (a_script : Addr) (script' : List Int) (k' : Int), vs = [.ref a_script, .int k'] ∧ Same G H ∧ SqL K H a_script ((script' : List Int).map V.int) ∧ cW (F__law_cell script' k') (fun v => Q (.int v) H) (fun e => E (.ref (excA AD e)) none H)
def sp__law_between (K : PySem.W.Frag) (AD : Ads) : Sp := fun vs H Q E => ∃ (G : Hp) (first' : Int) (second' : Int) (low' : Int) (high' : Int), vs = [.int first', .int second', .int low', .int high'] ∧ Same G H ∧ cW (F__law_between first' second' low' high') (fun v => Q (.int v) H) (fun e => E (.ref (excA AD e)) none H)
def sp__law_up (K : PySem.W.Frag) (AD : Ads) : Sp := fun vs H Q E => ∃ (G : Hp) (n' : Int), vs = [.int n'] ∧ Same G H ∧ cW (F__law_up n') (fun v => Q (.int v) H) (fun e => E (.ref (excA AD e)) none H)
def sp_Format_planes (K : PySem.W.Frag) (AD : Ads) : Sp := fun vs H Q E => ∃ (G : Hp) (p_self dx_self : Addr) (self' : St_Format), vs = [.ref p_self] ∧ Same G H ∧ (hideL [] H) p_self = some (.ins AD.c_Format dx_self [("width", V.int self'.width), ("height", V.int self'.height), ("depth", V.int self'.depth), ("chroma", V.int self'.chroma)]) ∧ cW (F_Format_planes self') (fun v => ∀ H', Same H H' → Q (.int v) H') (fun e => ∀ H', Same H H' → E (.ref (excA AD e)) none H')
def sp_Format__plane_size (K : PySem.W.Frag) (AD : Ads) : Sp := fun vs H Q E => ∃ (G : Hp) (p_self dx_self : Addr) (self' : St_Format) (plane' : Int) (width' : Int) (height' : Int), vs = [.ref p_self, .int plane', .int width', .int height'] ∧ Same G H ∧ (hideL [] H) p_self = some (.ins AD.c_Format dx_self [("width", V.int self'.width), ("height", V.int self'.height), ("depth", V.int self'.depth), ("chroma", V.int self'.chroma)]) ∧ cW (F_Format__plane_size self' plane' width' height') (fun v => ∀ u H' G', Same H H' → Same G G' → Same G' H' → (∀ b, H b ≠ none → G b = none → G' b = none) → Rp G' u ((encT2 PyData.int PyData.int) v) → Q u H') (fun e => ∀ H', Same H H' → E (.ref (excA AD e)) none H')
def sp_Format_size (K : PySem.W.Frag) (AD : Ads) : Sp := fun vs H Q E => ∃ (G : Hp) (p_self dx_self : Addr) (self' : St_Format) (plane' : Int), vs = [.ref p_self, .int plane'] ∧ Same G H ∧ (hideL [] H) p_self = some (.ins AD.c_Format dx_self [("width", V.int self'.width), ("height", V.int self'.height), ("depth", V.int self'.depth), ("chroma", V.int self'.chroma)]) ∧ cW (F_Format_size self' plane') (fun v => ∀ u H' G', Same H H' → Same G G' → Same G' H' → (∀ b, H b ≠ none → G b = none → G' b = none) → Rp G' u ((encT2 PyData.int PyData.int) v) → Q u H') (fun e => ∀ H', Same H H' → E (.ref (excA AD e)) none H')
def sp_Format_blocks (K : PySem.W.Frag) (AD : Ads) : Sp := fun vs H Q E => ∃ (G : Hp) (p_self dx_self : Addr) (self' : St_Format), vs = [.ref p_self] ∧ Same G H ∧ (hideL [] H) p_self = some (.ins AD.c_Format dx_self [("width", V.int self'.width), ("height", V.int self'.height), ("depth", V.int self'.depth), ("chroma", V.int self'.chroma)]) ∧ cW (F_Format_blocks self') (fun v => ∀ u H' G', Same H H' → Same G G' → Same G' H' → (∀ b, H b ≠ none → G b = none → G' b = none) → Rp G' u ((encT2 PyData.int PyData.int) v) → Q u H') (fun e => ∀ H', Same H H' → E (.ref (excA AD e)) none H')
def sp_Format_coded_size (K : PySem.W.Frag) (AD : Ads) : Sp := fun vs H Q E => ∃ (G : Hp) (p_self dx_self : Addr) (self' : St_Format) (plane' : Int), vs = [.ref p_self, .int plane'] ∧ Same G H ∧ (hideL [] H) p_self = some (.ins AD.c_Format dx_self [("width", V.int self'.width), ("height", V.int self'.height), ("depth", V.int self'.depth), ("chroma", V.int self'.chroma)]) ∧ cW (F_Format_coded_size self' plane') (fun v => ∀ u H' G', Same H H' → Same G G' → Same G' H' → (∀ b, H b ≠ none → G b = none → G' b = none) → Rp G' u ((encT2 PyData.int PyData.int) v) → Q u H') (fun e => ∀ H', Same H H' → E (.ref (excA AD e)) none H')
def sp__law_no_plane (K : PySem.W.Frag) (AD : Ads) : Sp := fun vs H Q E => ∃ (G : Hp) (p_fmt dx_fmt : Addr) (fmt' : St_Format) (plane' : Int), vs = [.ref p_fmt, .int plane'] ∧ Same G H ∧ (hideL [] H) p_fmt = some (.ins AD.c_Format dx_fmt [("width", V.int fmt'.width), ("height", V.int fmt'.height), ("depth", V.int fmt'.depth), ("chroma", V.int fmt'.chroma)]) ∧ cW (F__law_no_plane fmt' plane') (fun v => ∀ H', Same H H' → Q (.bl v) H') (fun e => ∀ H', Same H H' → E (.ref (excA AD e)) none H')
def sp__law_size (K : PySem.W.Frag) (AD : Ads) : Sp := fun vs H Q E => ∃ (G : Hp) (width' : Int) (height' : Int) (chroma' : Int) (plane' : Int), vs = [.int width', .int height', .int chroma', .int plane'] ∧ Same G H ∧ cW (F__law_size width' height' chroma' plane') (fun v => ∀ u H' G', Same H H' → Same G G' → Same G' H' → (∀ b, H b ≠ none → G b = none → G' b = none) → Rp G' u ((encT2 PyData.int PyData.int) v) → Q u H') (fun e => ∀ H', Same H H' → E (.ref (excA AD e)) none H')
def sp__law_planes (K : PySem.W.Frag) (AD : Ads) : Sp := fun vs H Q E => ∃ (G : Hp) (p_fmt dx_fmt : Addr) (fmt' : St_Format) (a_numbers : Addr) (numbers' : List Int), vs = [.ref p_fmt, .ref a_numbers] ∧ Same G H ∧ (hideL [] H) p_fmt = some (.ins AD.c_Format dx_fmt [("width", V.int fmt'.width), ("height", V.int fmt'.height), ("depth", V.int fmt'.depth), ("chroma", V.int fmt'.chroma)]) ∧ (hideL [] H) a_numbers = some (.lst ((numbers' : List Int).map V.int)) ∧ cW (F__law_planes fmt' numbers') (fun v => ∀ H', Same H H' → Q (.bl v) H') (fun e => ∀ H', Same H H' → E (.ref (excA AD e)) none H')
def sp_Format_middle (K : PySem.W.Frag) (AD : Ads) : Sp := fun vs H Q E => ∃ (G : Hp) (p_self dx_self : Addr) (self' : St_Format), vs = [.ref p_self] ∧ Same G H ∧ (hideL [] H) p_self = some (.ins AD.c_Format dx_self [("width", V.int self'.width), ("height", V.int self'.height), ("depth", V.int self'.depth), ("chroma", V.int self'.chroma)]) ∧ cW (F_Format_middle self') (fun v => ∀ H', Same H H' → Q (.int v) H') (fun e => ∀ H', Same H H' → E (.ref (excA AD e)) none H')
def sp_Format_top (K : PySem.W.Frag) (AD : Ads) : Sp := fun vs H Q E => ∃ (G : Hp) (p_self dx_self : Addr) (self' : St_Format), vs = [.ref p_self] ∧ Same G H ∧ (hideL [] H) p_self = some (.ins AD.c_Format dx_self [("width", V.int self'.width), ("height", V.int self'.height), ("depth", V.int self'.depth), ("chroma", V.int self'.chroma)]) ∧ cW (F_Format_top self') (fun v => ∀ H', Same H H' → Q (.int v) H') (fun e => ∀ H', Same H H' → E (.ref (excA AD e)) none H')
def sp_law (K : PySem.W.Frag) (AD : Ads) : Sp := fun vs H Q E => ∃ (a_script : Addr) (script : List Int), vs = [.ref a_script] ∧ SqL K H a_script (script.map V.int) ∧ cW (F_law script) (fun v => v = true) (fun _ => False) ∧ ∀ H', Q (.bl true) H'
section
variable {P : Program} {w : World} {K : PySem.W.Frag} {mg : Str → Option Value} {base : Heap} {AD : Ads}
abbrev N__law_draws : List Str := ["cell", "limits", "found", "rest", "state", "free", "limit"]
theorem sc__law_draws : FnScope N__law_draws ["cell", "limits"] (defScope s__law_draws) := ⟨rfl, rfl, rfl, by decide +kernel, rfl, by decide +kernel, by decide +kernel⟩
theorem ok__law_draws (D : DefX K mg "_law_draws" s__law_draws ["cell", "limits"] pats__law_draws) (T : Txt K mg AD)  : CalX P w K mg base 1 "_law_draws" (sp__law_draws K AD) pats__law_draws := by
  refine D.ok sc__law_draws (fun vs H Q E h => ?_) (fun f cdv A_ outer s H vs Q E hr h => ?_)
  · obtain ⟨G, cell', a_limits, limits', rfl, _⟩ := h
    rfl
  · obtain ⟨G, cell', a_limits, limits', rfl, sG, q_limits, hw⟩ := h
    refine ⟨_, (pss_cons (ps_set (i := 2) sc__law_draws.nd rfl (Or.inl rfl) (pe_lst pa_nil))
      (pss_cons (ps_set (i := 3) sc__law_draws.nd rfl (Or.inl rfl) (pe_callB call_abs (by rfl) T.b_abs (by decide +kernel) (pa_cons (pe_callTy call_int1 (by rfl) T.b_int (by decide +kernel) (pa_cons (pv 0) pa_nil)) pa_nil)))
      (pss_cons (ps_set (i := 4) sc__law_draws.nd rfl (Or.inl rfl) (pe_op op_mod (pe_callTy call_int1 (by rfl) T.b_int (by decide +kernel) (pa_cons (pv 3) pa_nil)) pe_int))
      (pss_cons (ps_set (i := 5) sc__law_draws.nd rfl (Or.inl rfl) (pe_or (pe_cmp (pc_lt (pv 0) pe_int)) (pe_one (pe_cmp (pc_ge (pv 0) (pe_op op_pow pe_int pe_int))))))
      (pss_cons (ps_for (passes_of rfl) rfl (pi_listK (K := K) (pv 1)) (pg_name (i := 6) sc__law_draws.nd rfl (Or.inl rfl)) (pss_one (ps_if (PW.pt (pw_and (pt_val (pv 5)) (pw_and1 (pt_cmp (pc_gt (pv 3) pe_int))))) (pss_cons (ps_expr (pe_bm PySem.F.plainAttrs_list PySem.F.slot_list_append PySem.F.type_list_append mt_append (pv 2) (pa_cons (pe_op op_mod (pe_callTy call_int1 (by rfl) T.b_int (by decide +kernel) (pa_cons (pv 3) pa_nil)) (pv 6)) pa_nil)))
      (pss_one (ps_set (i := 3) sc__law_draws.nd rfl (Or.inl rfl) (pe_op op_fdivW (pv 3) (pv 6))))) (pss_cons (ps_set (i := 4) sc__law_draws.nd rfl (Or.inl rfl) (pe_op op_mod (pe_callTy call_int1 (by rfl) T.b_int (by decide +kernel) (pa_cons (pe_op op_add (pe_op op_mul (pv 4) pe_int) pe_int) pa_nil)) pe_int))
      (pss_cons (ps_set (i := 4) sc__law_draws.nd rfl (Or.inl rfl) (pe_op op_mod (pe_callTy call_int1 (by rfl) T.b_int (by decide +kernel) (pa_cons (pe_op op_add (pe_op op_mul (pv 4) pe_int) pe_int) pa_nil)) pe_int))
      (pss_one (ps_expr (pe_bm PySem.F.plainAttrs_list PySem.F.slot_list_append PySem.F.type_list_append mt_append (pv 2) (pa_cons (pe_op op_mod (pe_callTy call_int1 (by rfl) T.b_int (by decide +kernel) (pa_cons (pe_op op_fdivW (pv 4) pe_int) pa_nil)) (pv 6)) pa_nil)))))))))
      (pss_one (ps_ret (pv 2)))))))), ?_⟩
    obtain ⟨KK, EE, hK0, hE, hw⟩ := cW_gen hw
    have S0 := Sep.startG sG
    unfold F__law_draws at hw
    refine ⟨(by show 0 ≤ sizeLine; decide), fun p1 n2 => ?_⟩
    generalize g3 : upd H p1 _ = H4
    obtain ⟨e5, h6⟩ := gen_new n2 g3
    have h7 : H4 p1 = some (.lst ((([] : (List Int)) : (List Int)).map V.int)) := h6
    have fr8 := S0.free n2
    have S9 := S0.new n2 e5 h7 fr8
    refine ⟨_, rfl, .inl ⟨_, rfl, ?_⟩⟩
    refine ⟨_, rfl, ?_⟩
    have hw := cW_bnd hw
    refine ⟨_, rfl, .inl ⟨_, rfl, ?_⟩⟩
    refine ⟨_, _, rfl, rfl, (show (0 : Int) < 2147483647 by decide), ?_⟩
    have hw := cW_bnd hw
    refine vv_or (ta := (tLt (tVar 0) (tC (V.int 0)))) (tb := (tGe (tVar 0) (tOp (rI CPow fun i j => V.int (i ^ j.toNat)) (tC (V.int 10)) (tC (V.int 18))))) (a := decide (cell' < 0)) (b := decide (((10 : Int) ^ Int.toNat 18) ≤ cell')) ?ha12 ?hb13 _ ?_
    case ha12 => exact (vv_cmp (val_var rfl) val_c (fun Q q => ⟨_, _, rfl, rfl, q⟩))
    case hb13 => exact (vv_cmp (val_var rfl) (val_op val_c val_c (fun Q q => ⟨_, _, rfl, rfl, ⟨by decide, by decide, by decide⟩, q⟩)) (fun Q q => ⟨_, _, rfl, rfl, q⟩))
    have hw := cW_bnd hw
    obtain ⟨K16, hK17, hw⟩ := cW_push hw
    refine ⟨_, rfl, _, rfl, ⟨_, (SqL.of (S9.bM _ _ q_limits))⟩, for_list (K := K) (a := a_limits) (xs := (limits' : List Int).map V.int) (fun i σ H' => ∃ (found_18 : (List Int)) (rest_19 : Int) (state_20 : Int) (u21 : Option V) (G' : Hp), σ = [some (V.int (cell')), some (V.ref a_limits), some (V.ref p1), some (V.int rest_19), some (V.int state_20), some (V.bl ((decide (cell' < 0) || decide (((10 : Int) ^ Int.toNat 18) ≤ cell')))), u21] ∧ Same G G' ∧ Sep [] H G G' H' [p1] ∧ H' p1 = some (.lst ((found_18 : (List Int)).map V.int)) ∧ cW (forS (List.drop i (limits')) (found_18, rest_19, state_20) (fun s x => F__law_draws_b1 ((decide (cell' < 0) || decide (((10 : Int) ^ Int.toNat 18) ≤ cell'))) (s.1) (s.2.1) (s.2.2) x)) K16 EE) ?_ ?_ ?_ ?_⟩
    · exact ⟨(([] : (List Int))), ((if cell' < 0 then -cell' else cell')), (((if cell' < 0 then -cell' else cell') % 2147483647)), _, _, rfl, (Same.refl _), S9, h7, hw⟩
    · intro i σ H22 _ hw
      obtain ⟨found_18, rest_19, state_20, u21, G25, rfl, eG26, S23, h24, hw⟩ := hw
      exact (SqL.of (S23.bM _ _ q_limits))
    · intro i x σ H27 hj hw
      obtain ⟨found_18, rest_19, state_20, u21, G30, rfl, eG31, S28, h29, hw⟩ := hw
      obtain ⟨x32, hx, rfl⟩ := map_get hj
      have hw := cW_forS hx hw
      have hw : cW (F__law_draws_b1 ((decide (cell' < 0) || decide (((10 : Int) ^ Int.toNat 18) ≤ cell'))) (found_18) (rest_19) (state_20) (x32)) _ EE := hw
      unfold F__law_draws_b1 at hw
      obtain ⟨K36, hK37, hw⟩ := cW_name hw
      refine ⟨_, rfl, _, rfl, ?_⟩
      refine iteB (fun c39 => ?_) (fun c39 => ?_)
      · have hw := cW_pos c39 hw
        refine ⟨_, rfl, _, _, rfl, rfl, _, rfl, ?_⟩
        refine iteD (fun c40 => ?_) (fun c40 => ?_)
        · have hw := cW_pos c40 hw
          refine ⟨_, rfl, (.inl ⟨rfl, _, SqL.of h29⟩), _, rfl, .inl ⟨_, rfl, ?_⟩⟩
          obtain ⟨g41, hw⟩ := cW_grd hw
          obtain ⟨g42, hw⟩ := cW_grd hw
          refine ⟨_, rfl, _, _, rfl, rfl, g41, _, _, _, rfl, rfl, h29, (app_lenM g42), ?_⟩
          generalize g43 : upd H27 p1 _ = H44
          obtain ⟨x45, h46⟩ := gen_mut g43
          have h47 : H44 p1 = some (.lst (((found_18) ++ [(rest_19 % x32)] : (List Int)).map V.int)) := snoc_map h46
          have S48 := S28.mut1 x45 (.head _) h47
          have hw := cW_bnd hw
          obtain ⟨g50, hw⟩ := cW_grd hw
          refine ⟨_, rfl, _, rfl, _, _, rfl, rfl, (divW_small g50.1 g50.2), ?_⟩
          have hw := cW_bnd hw
          have hw := cW_ok hw
          have hw := hK37 _ hw
          exact ⟨((found_18) ++ [(rest_19 % x32)]), ((rest_19 / x32)), (state_20), _, _, rfl, eG31, S48, h47, hw⟩
        · have hw := cW_neg c40 hw
          refine ⟨_, rfl, _, _, rfl, rfl, (.inr ⟨by decide, by decide⟩), _, _, rfl, rfl, .inl ⟨_, rfl, ?_⟩⟩
          refine ⟨_, _, rfl, rfl, (show (0 : Int) < 2147483647 by decide), ?_⟩
          have hw := cW_bnd hw
          refine ⟨_, rfl, _, _, rfl, rfl, (.inr ⟨by decide, by decide⟩), _, _, rfl, rfl, .inl ⟨_, rfl, ?_⟩⟩
          refine ⟨_, _, rfl, rfl, (show (0 : Int) < 2147483647 by decide), ?_⟩
          have hw := cW_bnd hw
          refine ⟨_, rfl, (.inl ⟨rfl, _, SqL.of h29⟩), _, rfl, _, _, rfl, rfl, (divW_lit (by decide) (by decide)), .inl ⟨_, rfl, ?_⟩⟩
          obtain ⟨g54, hw⟩ := cW_grd hw
          obtain ⟨g55, hw⟩ := cW_grd hw
          refine ⟨_, rfl, _, _, rfl, rfl, g54, _, _, _, rfl, rfl, h29, (app_lenM g55), ?_⟩
          generalize g56 : upd H27 p1 _ = H57
          obtain ⟨x58, h59⟩ := gen_mut g56
          have h60 : H57 p1 = some (.lst (((found_18) ++ [((((((((state_20 * 48271) + 11) % 2147483647) * 69621) + 7) % 2147483647) / 13) % x32)] : (List Int)).map V.int)) := snoc_map h59
          have S61 := S28.mut1 x58 (.head _) h60
          have hw := cW_bnd hw
          have hw := cW_ok hw
          have hw := hK37 _ hw
          exact ⟨((found_18) ++ [((((((((state_20 * 48271) + 11) % 2147483647) * 69621) + 7) % 2147483647) / 13) % x32)]), (rest_19), (((((((state_20 * 48271) + 11) % 2147483647) * 69621) + 7) % 2147483647)), _, _, rfl, eG31, S61, h60, hw⟩
      · have hw := cW_negB c39 hw
        refine iteF ?_
        refine ⟨_, rfl, _, _, rfl, rfl, (.inr ⟨by decide, by decide⟩), _, _, rfl, rfl, .inl ⟨_, rfl, ?_⟩⟩
        refine ⟨_, _, rfl, rfl, (show (0 : Int) < 2147483647 by decide), ?_⟩
        have hw := cW_bnd hw
        refine ⟨_, rfl, _, _, rfl, rfl, (.inr ⟨by decide, by decide⟩), _, _, rfl, rfl, .inl ⟨_, rfl, ?_⟩⟩
        refine ⟨_, _, rfl, rfl, (show (0 : Int) < 2147483647 by decide), ?_⟩
        have hw := cW_bnd hw
        refine ⟨_, rfl, (.inl ⟨rfl, _, SqL.of h29⟩), _, rfl, _, _, rfl, rfl, (divW_lit (by decide) (by decide)), .inl ⟨_, rfl, ?_⟩⟩
        obtain ⟨g65, hw⟩ := cW_grd hw
        obtain ⟨g66, hw⟩ := cW_grd hw
        refine ⟨_, rfl, _, _, rfl, rfl, g65, _, _, _, rfl, rfl, h29, (app_lenM g66), ?_⟩
        generalize g67 : upd H27 p1 _ = H68
        obtain ⟨x69, h70⟩ := gen_mut g67
        have h71 : H68 p1 = some (.lst (((found_18) ++ [((((((((state_20 * 48271) + 11) % 2147483647) * 69621) + 7) % 2147483647) / 13) % x32)] : (List Int)).map V.int)) := snoc_map h70
        have S72 := S28.mut1 x69 (.head _) h71
        have hw := cW_bnd hw
        have hw := cW_ok hw
        have hw := hK37 _ hw
        exact ⟨((found_18) ++ [((((((((state_20 * 48271) + 11) % 2147483647) * 69621) + 7) % 2147483647) / 13) % x32)]), (rest_19), (((((((state_20 * 48271) + 11) % 2147483647) * 69621) + 7) % 2147483647)), _, _, rfl, eG31, S72, h71, hw⟩
    · intro σ H74 hw
      obtain ⟨found_18, rest_19, state_20, u21, G77, rfl, eG78, S75, h76, hw⟩ := hw
      have hw := hK17 _ (cW_forS0 (by rw [List.length_map]) hw)
      have hw : cW (F__law_draws_r1  (found_18) (rest_19) (state_20)) _ EE := hw
      unfold F__law_draws_r1 at hw
      refine ⟨_, rfl, ?_⟩
      have hw := cW_ok hw
      exact hK0 _ hw _ _ fr8 S75.b0 h76

abbrev N_Format___init__ : List Str := ["self", "width", "height", "depth", "chroma"]
theorem sc_Format___init__ : FnScope N_Format___init__ ["self", "width", "height", "depth", "chroma"] (defScope s_Format___init__) := ⟨rfl, rfl, rfl, by decide +kernel, rfl, by decide +kernel, by decide +kernel⟩
theorem ok_Format___init__ (D : InitX K mg AD.c_Format "Format" "Format.__init__" s_Format___init__ ["self", "width", "height", "depth", "chroma"] pats_Format___init__) (T : Txt K mg AD)  : MakX P w K mg base 1 "Format" AD.c_Format (sp_Format___init__ K AD) pats_Format___init__ := by
  refine D.ok sc_Format___init__ (fun vs H Q E h => ?_) (fun f cdv A_ outer s H vs Q E hr h => ?_)
  · obtain ⟨G, p_self, dx_self, width', height', depth', chroma', rfl, _⟩ := h
    rfl
  · obtain ⟨G, p_self, dx_self, width', height', depth', chroma', rfl, sG, gM, h_self, hw⟩ := h
    refine ⟨_, (pss_cons (ps_if (pt_not (PW.pt (pw_and (pt_chain op_le op_le pe_int (pv 1) pe_int) (pw_and1 (pt_chain op_le op_le pe_int (pv 2) pe_int))))) (pss_one (ps_raise rfl (takes_of rfl rfl rfl rfl) (pmk_own PySem.F.excBase_ValueError T.xx_BadFormat T.xg_BadFormat T.xk_BadFormat (raises_own T.xb_BadFormat T.xt_BadFormat) rfl))) pss_nil)
      (pss_cons (ps_if (pt_not (pt_chain op_le op_le pe_int (pv 3) pe_int)) (pss_one (ps_raise rfl (takes_of rfl rfl rfl rfl) (pmk_own PySem.F.excBase_ValueError T.xx_BadFormat T.xg_BadFormat T.xk_BadFormat (raises_own T.xb_BadFormat T.xt_BadFormat) rfl))) pss_nil)
      (pss_cons (ps_if (pt_not (pt_chain op_le op_le pe_int (pv 4) pe_int)) (pss_one (ps_raise rfl (takes_of rfl rfl rfl rfl) (pmk_own PySem.F.excBase_ValueError T.xx_BadFormat T.xg_BadFormat T.xk_BadFormat (raises_own T.xb_BadFormat T.xt_BadFormat) rfl))) pss_nil)
      (pss_cons (ps_fld (pv 0) (pv 1) rfl)
      (pss_cons (ps_fld (pv 0) (pv 2) rfl)
      (pss_cons (ps_fld (pv 0) (pv 3) rfl)
      (pss_one (ps_fld (pv 0) (pv 4) rfl)))))))), ?_⟩
    obtain ⟨KK, EE, hK0, hE, hw⟩ := cW_gen hw
    have S0 := Sep.startM (M := [p_self]) sG (all_cons (some_ne h_self) all_nil) gM
    unfold F_Format___init__ at hw
    refine ⟨_, rfl, _, _, rfl, rfl, _, rfl, ?_⟩
    refine iteD (fun c82 => ?_) (fun c82 => ?_)
    · have hw := cW_pos c82 hw
      refine ⟨_, _, rfl, rfl, _, rfl, ?_⟩
      refine iteD (fun c83 => ?_) (fun c83 => ?_)
      · have hw := cW_pos c83 hw
        refine ⟨_, rfl, _, _, rfl, rfl, _, rfl, ?_⟩
        refine iteD (fun c84 => ?_) (fun c84 => ?_)
        · have hw := cW_pos c84 hw
          refine ⟨_, _, rfl, rfl, _, rfl, ?_⟩
          refine iteN (fun c85 => ?_) (fun c85 => ?_)
          · have hw := cW_neg c85 hw
            exact hE 1 (cW_er hw) _ (Same.refl _)
          · have hw := cW_pos c85 hw
            refine ⟨_, rfl, _, _, rfl, rfl, _, rfl, ?_⟩
            refine iteD (fun c86 => ?_) (fun c86 => ?_)
            · have hw := cW_pos c86 hw
              refine ⟨_, _, rfl, rfl, _, rfl, ?_⟩
              refine iteN (fun c87 => ?_) (fun c87 => ?_)
              · have hw := cW_neg c87 hw
                exact hE 1 (cW_er hw) _ (Same.refl _)
              · have hw := cW_pos c87 hw
                refine ⟨_, rfl, _, _, rfl, rfl, _, rfl, ?_⟩
                refine iteD (fun c88 => ?_) (fun c88 => ?_)
                · have hw := cW_pos c88 hw
                  refine ⟨_, _, rfl, rfl, _, rfl, ?_⟩
                  refine iteN (fun c89 => ?_) (fun c89 => ?_)
                  · have hw := cW_neg c89 hw
                    exact hE 1 (cW_er hw) _ (Same.refl _)
                  · have hw := cW_pos c89 hw
                    refine ⟨_, rfl, _, rfl, _, _, _, _, rfl, h_self, T.cl_Format, T.n_Format_width, (by show 0 < 1000; decide), ?_⟩
                    generalize g90 : upd H p_self _ = H91
                    obtain ⟨x92, h93⟩ := gen_mut g90
                    have h94 : H91 p_self = some (.ins AD.c_Format dx_self [("width", V.int (width'))]) := h93
                    have S95 := S0.mut1 x92 (.head _) h94
                    refine ⟨_, rfl, _, rfl, _, _, _, _, rfl, h94, T.cl_Format, T.n_Format_height, (by show 1 < 1000; decide), ?_⟩
                    generalize g96 : upd H91 p_self _ = H97
                    obtain ⟨x98, h99⟩ := gen_mut g96
                    have h100 : H97 p_self = some (.ins AD.c_Format dx_self [("width", V.int (width')), ("height", V.int (height'))]) := h99
                    have S101 := S95.mut1 x98 (.head _) h100
                    refine ⟨_, rfl, _, rfl, _, _, _, _, rfl, h100, T.cl_Format, T.n_Format_depth, (by show 2 < 1000; decide), ?_⟩
                    generalize g102 : upd H97 p_self _ = H103
                    obtain ⟨x104, h105⟩ := gen_mut g102
                    have h106 : H103 p_self = some (.ins AD.c_Format dx_self [("width", V.int (width')), ("height", V.int (height')), ("depth", V.int (depth'))]) := h105
                    have S107 := S101.mut1 x104 (.head _) h106
                    refine ⟨_, rfl, _, rfl, _, _, _, _, rfl, h106, T.cl_Format, T.n_Format_chroma, (by show 3 < 1000; decide), ?_⟩
                    generalize g108 : upd H103 p_self _ = H109
                    obtain ⟨x110, h111⟩ := gen_mut g108
                    have h112 : H109 p_self = some (.ins AD.c_Format dx_self [("width", V.int (width')), ("height", V.int (height')), ("depth", V.int (depth')), ("chroma", V.int (chroma'))]) := h111
                    have S113 := S107.mut1 x110 (.head _) h112
                    have hw := cW_ok hw
                    exact hK0 _ hw _ (sameX_of S113.base) h112
                · have hw := cW_neg c88 hw
                  refine ⟨_, rfl, ?_⟩
                  refine iteT ?_
                  exact hE 1 (cW_er hw) _ (Same.refl _)
            · have hw := cW_neg c86 hw
              refine ⟨_, rfl, ?_⟩
              refine iteT ?_
              exact hE 1 (cW_er hw) _ (Same.refl _)
        · have hw := cW_neg c84 hw
          refine ⟨_, rfl, ?_⟩
          refine iteT ?_
          exact hE 1 (cW_er hw) _ (Same.refl _)
      · have hw := cW_neg c83 hw
        refine iteT ?_
        exact hE 1 (cW_er hw) _ (Same.refl _)
    · have hw := cW_neg c82 hw
      refine ⟨_, rfl, ?_⟩
      refine iteF ?_
      refine iteT ?_
      exact hE 1 (cW_er hw) _ (Same.refl _)

abbrev N_Format___eq__ : List Str := ["self", "other"]
theorem sc_Format___eq__ : FnScope N_Format___eq__ ["self", "other"] (defScope s_Format___eq__) := ⟨rfl, rfl, rfl, by decide +kernel, rfl, by decide +kernel, by decide +kernel⟩
theorem ok_Format___eq__ (D : MethX K AD.c_Format "Format.__eq__" "__eq__" s_Format___eq__ ["self", "other"] pats_Format___eq__) (T : Txt K mg AD)  : MetX P w K mg base 1 AD.c_Format "__eq__" (sp_Format___eq__ K AD) pats_Format___eq__ := by
  refine D.ok T.cl_Format sc_Format___eq__ (fun vs H Q E h => ?_) (fun f cdv A_ outer s H vs Q E hr h => ?_)
  · obtain ⟨G, p_self, dx_self, self', p_other, dx_other, other', rfl, _⟩ := h
    rfl
  · obtain ⟨G, p_self, dx_self, self', p_other, dx_other, other', rfl, sG, h_p_self, h_p_other, hw⟩ := h
    refine ⟨_, (pss_one (ps_ret (pe_and (pe_callB call_isi (by rfl) T.b_isinstance (by decide +kernel) (pa_cons (pv 1) (pa_cons (C8.pe_gc (v := V.ref AD.c_Format) rfl ⟨_, T.cg_Format, rfl⟩) pa_nil))) (pe_and (pe_cmp (pc_eqI (fldK (K := K) (pv 0)) (fldK (K := K) (pv 1)))) (pe_and (pe_cmp (pc_eqI (fldK (K := K) (pv 0)) (fldK (K := K) (pv 1)))) (pe_and (pe_cmp (pc_eqI (fldK (K := K) (pv 0)) (fldK (K := K) (pv 1)))) (pe_one (pe_cmp (pc_eqI (fldK (K := K) (pv 0)) (fldK (K := K) (pv 1))))))))))), ?_⟩
    obtain ⟨KK, EE, hK0, hE, hw⟩ := cW_gen hw
    have S0 := Sep.startG sG
    unfold F_Format___eq__ at hw
    refine ⟨_, rfl, _, _, _, _, _, rfl, (.own _), (tyX_ins (S0.bM _ _ h_p_other) T.cl_Format T.ci_Format), kit_self, _, rfl, ?_⟩
    refine iteT ?_
    refine ⟨_, rfl, _, _, _, _, _, rfl, (S0.bM _ _ h_p_self), T.cl_Format, T.n_Format_width, rfl, _, rfl, _, _, _, _, _, rfl, (S0.bM _ _ h_p_other), T.cl_Format, T.n_Format_width, rfl, _, _, rfl, rfl, _, rfl, ?_⟩
    refine iteB (fun c114 => ?_) (fun c114 => ?_)
    · have hw := cW_pos c114 hw
      refine ⟨_, rfl, _, _, _, _, _, rfl, (S0.bM _ _ h_p_self), T.cl_Format, T.n_Format_height, rfl, _, rfl, _, _, _, _, _, rfl, (S0.bM _ _ h_p_other), T.cl_Format, T.n_Format_height, rfl, _, _, rfl, rfl, _, rfl, ?_⟩
      refine iteB (fun c115 => ?_) (fun c115 => ?_)
      · have hw := cW_pos c115 hw
        refine ⟨_, rfl, _, _, _, _, _, rfl, (S0.bM _ _ h_p_self), T.cl_Format, T.n_Format_depth, rfl, _, rfl, _, _, _, _, _, rfl, (S0.bM _ _ h_p_other), T.cl_Format, T.n_Format_depth, rfl, _, _, rfl, rfl, _, rfl, ?_⟩
        refine iteB (fun c116 => ?_) (fun c116 => ?_)
        · have hw := cW_pos c116 hw
          refine ⟨_, rfl, _, _, _, _, _, rfl, (S0.bM _ _ h_p_self), T.cl_Format, T.n_Format_chroma, rfl, _, rfl, _, _, _, _, _, rfl, (S0.bM _ _ h_p_other), T.cl_Format, T.n_Format_chroma, rfl, _, _, rfl, rfl, ?_⟩
          have hw := cW_ok hw
          exact hK0 _ hw _ S0.b0
        · have hw := cW_negB c116 hw
          have hw := cW_ok hw
          exact hK0 _ hw _ S0.b0
      · have hw := cW_negB c115 hw
        have hw := cW_ok hw
        exact hK0 _ hw _ S0.b0
    · have hw := cW_negB c114 hw
      have hw := cW_ok hw
      exact hK0 _ hw _ S0.b0

abbrev N__law_refused : List Str := ["numbers", "e"]
theorem sc__law_refused : FnScope N__law_refused ["numbers"] (defScope s__law_refused) := ⟨rfl, rfl, rfl, by decide +kernel, rfl, by decide +kernel, by decide +kernel⟩
theorem ok__law_refused (D : DefX K mg "_law_refused" s__law_refused ["numbers"] pats__law_refused) (T : Txt K mg AD) (c_Format___init__ : MakX P w K mg base 1 "Format" AD.c_Format (sp_Format___init__ K AD) pats_Format___init__) : CalX P w K mg base 3 "_law_refused" (sp__law_refused K AD) pats__law_refused := by
  refine D.ok sc__law_refused (fun vs H Q E h => ?_) (fun f cdv A_ outer s H vs Q E hr h => ?_)
  · obtain ⟨G, a_numbers, numbers', rfl, _⟩ := h
    rfl
  · obtain ⟨G, a_numbers, numbers', rfl, sG, q_numbers, hw⟩ := h
    refine ⟨_, (pss_cons (ps_try_as (i := 1) rfl rfl sc__law_refused.nd rfl rfl ⟨rfl, by decide, .inl T.xg_BadFormat⟩ (takes_of rfl rfl rfl rfl) (fun W pn xe tk pse => (pss_one (ps_expr (vx_makeX c_Format___init__ pat_Format___init___0 (.head _) hr (by decide) tk rfl (pa_cons (pe_ix (ix_listK (K := K)) (pv 0) pe_int (fun _ _ => rfl)) (pa_cons (pe_ix (ix_listK (K := K)) (pv 0) pe_int (fun _ _ => rfl)) pa_nil)) (pk_cons (pe_ix (ix_listK (K := K)) (pv 0) pe_int (fun _ _ => rfl)) (pk_cons (pe_ix (ix_listK (K := K)) (pv 0) pe_int (fun _ _ => rfl)) pk_nil)))))) (fun a oe cls d pn hz hf => (pss_one (ps_ret (pe_and (pe_callB (call_isX (K := K) hz hf) (by rfl) T.b_isinstance (by decide +kernel) (pa_cons (pv 1) (pa_cons (C8.pe_gc (v := V.ref AD.x_CodecError) rfl ⟨_, T.xg_CodecError, rfl⟩) pa_nil))) (pe_and (pe_callB (call_isXB (K := K) hz hf) (by rfl) T.b_isinstance (by decide +kernel) (pa_cons (pv 1) (pa_cons (pe_bltn (v := V.ty "ValueError") (u := Value.type "ValueError") (by rfl) T.b_ValueError (by decide +kernel) rfl) pa_nil))) (pe_one (pe_not (pe_callB (call_isXT (K := K) hz hf) (by rfl) T.b_isinstance (by decide +kernel) (pa_cons (pv 1) (pa_cons (pe_tup (pa_cons (C8.pe_gc (v := V.ref AD.x_BadFrame) rfl ⟨_, T.xg_BadFrame, rfl⟩) (pa_cons (C8.pe_gc (v := V.ref AD.x_OutOfRange) rfl ⟨_, T.xg_OutOfRange, rfl⟩) pa_nil))) pa_nil)))))))))))
      (pss_one (ps_ret pe_bl))), ?_⟩
    obtain ⟨KK, EE, hK0, hE, hw⟩ := cW_gen hw
    have S0 := Sep.startG sG
    unfold F__law_refused at hw
    obtain ⟨g117, hw⟩ := cW_grd hw
    obtain ⟨g118, hw⟩ := cW_grd hw
    obtain ⟨g119, hw⟩ := cW_grd hw
    obtain ⟨g120, hw⟩ := cW_grd hw
    refine ⟨_, rfl, _, _, _, _, rfl, rfl, (SqL.of (S0.bM _ _ q_numbers)), (atI_map g117), _, rfl, _, _, _, _, rfl, rfl, (SqL.of (S0.bM _ _ q_numbers)), (atI_map g118), _, rfl, _, _, _, _, rfl, rfl, (SqL.of (S0.bM _ _ q_numbers)), (atI_map g119), _, rfl, _, _, _, _, rfl, rfl, (SqL.of (S0.bM _ _ q_numbers)), (atI_map g120), rfl, rfl, fun x121 dx122 n123 n124 n125 => ?_⟩
    generalize g126 : upd (upd H dx122 _) x121 _ = H127
    obtain ⟨e128, h129⟩ := gen_obj n123 n124 n125 g126
    have fr130 := S0.free n123
    have S131 := S0.new n123 e128 h129 fr130
    refine ⟨G, _, _, _, _, _, _, rfl, S131.sG, (S131.gno (all_cons (.head _) all_nil)), h129, cW_try hw (fun v132 hw H133 x134 h135 => ⟨rfl, ?_⟩) ?_⟩
    · have S136 : Sep _ _ _ _ H133 [x121] := Sep.init S131 x134 (.head _) h135 [] all_nil
      have hw := cW_ok hw
      exact hK0 _ hw _ S136.b0
    · intro e hm hw H137 e138
      have S139 := S131.same e138
      obtain rfl := mem_one hm
      refine ⟨true, T.xm_BadFormat_BadFormat, fun _ a140 na141 => ?_, fun q => nomatch q⟩
      refine ⟨_, rfl, _, _, _, rfl, rfl, T.xc_BadFormat, rfl, T.xo_BadFormat_CodecError, _, rfl, ?_⟩
      refine iteT ?_
      refine ⟨_, rfl, _, _, _, rfl, rfl, T.xc_BadFormat, rfl, T.xv_BadFormat_ValueError, _, rfl, ?_⟩
      refine iteT ?_
      refine ⟨_, rfl, (by show 2 ≤ sizeLine; decide), fun p142 n143 => ?_⟩
      generalize g144 : upd H137 p142 _ = H145
      obtain ⟨e146, h147⟩ := gen_new n143 g144
      have h148 : H145 p142 = some (.tup [V.ref AD.x_BadFrame, V.ref AD.x_OutOfRange]) := h147
      have fr149 := S139.free n143
      obtain ⟨G151, eG152, hg153, S150⟩ := S139.grow n143 e146 h148 fr149
      refine ⟨_, _, _, _, _, rfl, rfl, T.xc_BadFormat, rfl, (S150.sG _ _ hg153), (.cons (.own _) (.cons (.own _) .nil)), (kitAny_cons T.xn_BadFormat_BadFrame (fun _ => (kitAny_cons T.xn_BadFormat_OutOfRange (fun _ => kitAny_nil) (fun z => nomatch z))) (fun z => nomatch z)), _, rfl, ?_⟩
      have hw := cW_ok hw
      exact hK0 _ hw _ S150.b0

abbrev N__law_cell : List Str := ["script", "k"]
theorem sc__law_cell : FnScope N__law_cell ["script", "k"] (defScope s__law_cell) := ⟨rfl, rfl, rfl, by decide +kernel, rfl, by decide +kernel, by decide +kernel⟩
theorem ok__law_cell (D : DefX K mg "_law_cell" s__law_cell ["script", "k"] pats__law_cell) (T : Txt K mg AD)  : CalX P w K mg base 1 "_law_cell" (sp__law_cell K AD) pats__law_cell := by
  refine D.ok sc__law_cell (fun vs H Q E h => ?_) (fun f cdv A_ outer s H vs Q E hr h => ?_)
  · obtain ⟨G, a_script, script', k', rfl, _⟩ := h
    rfl
  · obtain ⟨G, a_script, script', k', rfl, sG, q_script, hw⟩ := h
    refine ⟨_, (pss_cons (ps_if (pt_cmp (pc_lt (pv 1) (pe_callB (call_lenLiK (K := K)) (by rfl) T.b_len (by decide +kernel) (pa_cons (pv 0) pa_nil)))) (pss_one (ps_ret (pe_callTy call_int1 (by rfl) T.b_int (by decide +kernel) (pa_cons (pe_ix (ix_listK (K := K)) (pv 0) (pv 1) (fun _ _ => rfl)) pa_nil)))) pss_nil)
      (pss_one (ps_ret pe_int))), ?_⟩
    obtain ⟨KK, EE, hK0, hE, hw⟩ := cW_gen hw
    have S0 := Sep.startG sG
    unfold F__law_cell at hw
    refine ⟨_, rfl, _, rfl, _, _, rfl, (S0.b0.seq q_script), _, _, rfl, rfl, _, rfl, ?_⟩
    refine iteD (fun c154 => ?_) (fun c154 => ?_)
    · have hw := cW_pos c154 hw
      obtain ⟨g155, hw⟩ := cW_grd hw
      refine ⟨_, rfl, _, rfl, _, _, _, _, rfl, rfl, (S0.b0.seq q_script), (atI_map g155), .inl ⟨_, rfl, ?_⟩⟩
      have hw := cW_ok hw
      exact hK0 _ hw
    · have hw := cW_neg c154 hw
      have hw := cW_ok hw
      exact hK0 _ hw

abbrev N__law_between : List Str := ["first", "second", "low", "high"]
theorem sc__law_between : FnScope N__law_between ["first", "second", "low", "high"] (defScope s__law_between) := ⟨rfl, rfl, rfl, by decide +kernel, rfl, by decide +kernel, by decide +kernel⟩
theorem ok__law_between (D : DefX K mg "_law_between" s__law_between ["first", "second", "low", "high"] pats__law_between) (T : Txt K mg AD)  : CalX P w K mg base 1 "_law_between" (sp__law_between K AD) pats__law_between := by
  refine D.ok sc__law_between (fun vs H Q E h => ?_) (fun f cdv A_ outer s H vs Q E hr h => ?_)
  · obtain ⟨G, first', second', low', high', rfl, _⟩ := h
    rfl
  · obtain ⟨G, first', second', low', high', rfl, sG, hw⟩ := h
    refine ⟨_, (pss_cons (ps_if (pt_cmp (pc_eqI (pv 0) pe_int)) (pss_one (ps_ret (pv 2))) pss_nil)
      (pss_cons (ps_if (pt_cmp (pc_eqI (pv 0) pe_int)) (pss_one (ps_ret (pv 3))) pss_nil)
      (pss_cons (ps_if (pt_cmp (pc_eqI (pv 0) pe_int)) (pss_one (ps_ret (pe_callB (call_min2 rfl) (by rfl) T.b_min (by decide +kernel) (pa_cons (pe_op op_add (pv 2) pe_int) (pa_cons (pv 3) pa_nil))))) pss_nil)
      (pss_one (ps_ret (pe_op op_add (pv 2) (pe_op op_mod (pe_callTy call_int1 (by rfl) T.b_int (by decide +kernel) (pa_cons (pv 1) pa_nil)) (pe_op op_add (pe_op op_sub (pv 3) (pv 2)) pe_int)))))))), ?_⟩
    obtain ⟨KK, EE, hK0, hE, hw⟩ := cW_gen hw
    have S0 := Sep.startG sG
    unfold F__law_between at hw
    refine ⟨_, rfl, _, _, rfl, rfl, _, rfl, ?_⟩
    refine iteD (fun c156 => ?_) (fun c156 => ?_)
    · have hw := cW_pos c156 hw
      refine ⟨_, rfl, ?_⟩
      have hw := cW_ok hw
      exact hK0 _ hw
    · have hw := cW_neg c156 hw
      refine ⟨_, rfl, _, _, rfl, rfl, _, rfl, ?_⟩
      refine iteD (fun c157 => ?_) (fun c157 => ?_)
      · have hw := cW_pos c157 hw
        refine ⟨_, rfl, ?_⟩
        have hw := cW_ok hw
        exact hK0 _ hw
      · have hw := cW_neg c157 hw
        refine ⟨_, rfl, _, _, rfl, rfl, _, rfl, ?_⟩
        refine iteD (fun c158 => ?_) (fun c158 => ?_)
        · have hw := cW_pos c158 hw
          refine ⟨_, rfl, _, _, rfl, rfl, _, rfl, _, _, rfl, ?_⟩
          have hw := cW_ok hw
          exact hK0 _ hw
        · have hw := cW_neg c158 hw
          refine ⟨_, rfl, _, rfl, .inl ⟨_, rfl, ?_⟩⟩
          obtain ⟨g159, hw⟩ := cW_grd hw
          refine ⟨_, rfl, _, rfl, _, _, rfl, rfl, _, _, rfl, rfl, _, _, rfl, rfl, g159, _, _, rfl, rfl, ?_⟩
          have hw := cW_ok hw
          exact hK0 _ hw

abbrev N__law_up : List Str := ["n"]
theorem sc__law_up : FnScope N__law_up ["n"] (defScope s__law_up) := ⟨rfl, rfl, rfl, by decide +kernel, rfl, by decide +kernel, by decide +kernel⟩
theorem ok__law_up (D : DefX K mg "_law_up" s__law_up ["n"] pats__law_up) (T : Txt K mg AD)  : CalX P w K mg base 1 "_law_up" (sp__law_up K AD) pats__law_up := by
  refine D.ok sc__law_up (fun vs H Q E h => ?_) (fun f cdv A_ outer s H vs Q E hr h => ?_)
  · obtain ⟨G, n', rfl, _⟩ := h
    rfl
  · obtain ⟨G, n', rfl, sG, hw⟩ := h
    refine ⟨_, (pss_one (ps_ret (pe_op op_mul (pe_op op_fdivW (pe_op op_add (pv 0) pe_int) pe_int) pe_int))), ?_⟩
    obtain ⟨KK, EE, hK0, hE, hw⟩ := cW_gen hw
    have S0 := Sep.startG sG
    unfold F__law_up at hw
    refine ⟨_, rfl, _, _, rfl, rfl, _, _, rfl, rfl, (divW_lit (by decide) (by decide)), _, _, rfl, rfl, (.inr ⟨by decide, by decide⟩), ?_⟩
    have hw := cW_ok hw
    exact hK0 _ hw

abbrev N_Format_planes : List Str := ["self"]
theorem sc_Format_planes : FnScope N_Format_planes ["self"] (defScope s_Format_planes) := ⟨rfl, rfl, rfl, by decide +kernel, rfl, by decide +kernel, by decide +kernel⟩
theorem ok_Format_planes (D : PropX K AD.c_Format "Format.planes" "planes" s_Format_planes ["self"] pats_Format_planes) (T : Txt K mg AD)  : PropY P w K mg base 1 AD.c_Format "planes" (sp_Format_planes K AD) pats_Format_planes := by
  refine D.ok T.cl_Format sc_Format_planes (fun vs H Q E h => ?_) (fun f cdv A_ outer s H vs Q E hr h => ?_)
  · obtain ⟨G, p_self, dx_self, self', rfl, _⟩ := h
    rfl
  · obtain ⟨G, p_self, dx_self, self', rfl, sG, h_p_self, hw⟩ := h
    refine ⟨_, (pss_one (ps_ret (pe_ifExp (pt_cmp (pc_eqI (fldK (K := K) (pv 0)) pe_int)) pe_int pe_int))), ?_⟩
    obtain ⟨KK, EE, hK0, hE, hw⟩ := cW_gen hw
    have S0 := Sep.startG sG
    unfold F_Format_planes at hw
    refine vv_if (vt_cmp (vv_cmp (val_fld (val_var rfl) (S0.bM _ _ h_p_self) T.cl_Format T.n_Format_chroma rfl) val_c (fun Q q => ⟨_, _, rfl, rfl, q⟩))) val_c val_c _ ?_
    have hw := cW_ok hw
    exact hK0 _ hw _ S0.b0

abbrev N_Format__plane_size : List Str := ["self", "plane", "width", "height"]
theorem sc_Format__plane_size : FnScope N_Format__plane_size ["self", "plane", "width", "height"] (defScope s_Format__plane_size) := ⟨rfl, rfl, rfl, by decide +kernel, rfl, by decide +kernel, by decide +kernel⟩
theorem ok_Format__plane_size (D : MethX K AD.c_Format "Format._plane_size" "_plane_size" s_Format__plane_size ["self", "plane", "width", "height"] pats_Format__plane_size) (T : Txt K mg AD) (c_Format_planes : PropY P w K mg base 1 AD.c_Format "planes" (sp_Format_planes K AD) pats_Format_planes) : MetX P w K mg base 3 AD.c_Format "_plane_size" (sp_Format__plane_size K AD) pats_Format__plane_size := by
  refine D.ok T.cl_Format sc_Format__plane_size (fun vs H Q E h => ?_) (fun f cdv A_ outer s H vs Q E hr h => ?_)
  · obtain ⟨G, p_self, dx_self, self', plane', width', height', rfl, _⟩ := h
    rfl
  · obtain ⟨G, p_self, dx_self, self', plane', width', height', rfl, sG, h_p_self, hw⟩ := h
    refine ⟨_, (pss_cons (ps_if (pt_not (pt_chain op_le op_lt pe_int (pv 1) (vx_propX c_Format_planes hr (by decide) (pv 0)))) (pss_one (ps_raise rfl (takes_of rfl rfl rfl rfl) (pmk_own PySem.F.excBase_ValueError T.xx_OutOfRange T.xg_OutOfRange T.xk_OutOfRange (raises_own T.xb_OutOfRange T.xt_OutOfRange) rfl))) pss_nil)
      (pss_cons (ps_if (PW.pt (pw_and (pt_cmp (pc_gt (pv 1) pe_int)) (pw_and1 (pt_cmp (pc_eqI (fldK (K := K) (pv 0)) pe_int))))) (pss_one (ps_ret (pe_tup (pa_cons (pe_op op_fdivW (pe_op op_add (pv 2) pe_int) pe_int) (pa_cons (pe_op op_fdivW (pe_op op_add (pv 3) pe_int) pe_int) pa_nil))))) pss_nil)
      (pss_one (ps_ret (pe_tup (pa_cons (pv 2) (pa_cons (pv 3) pa_nil))))))), ?_⟩
    obtain ⟨KK, EE, hK0, hE, hw⟩ := cW_gen hw
    have S0 := Sep.startG sG
    unfold F_Format__plane_size at hw
    refine ⟨_, rfl, _, _, rfl, rfl, _, rfl, ?_⟩
    refine iteD (fun c163 => ?_) (fun c163 => ?_)
    · have hw := cW_pos c163 hw
      refine ⟨_, rfl, _, _, _, rfl, (S0.bM _ _ h_p_self), G, _, _, self', rfl, S0.sG, (hide_nil (S0.bM _ _ h_p_self)), cW_callN hw (fun v164 hw H165 e166 => ?_) trivial⟩
      have S167 := S0.same e166
      refine ⟨_, _, rfl, rfl, _, rfl, ?_⟩
      refine iteN (fun c168 => ?_) (fun c168 => ?_)
      · have hw := cW_neg c168 hw
        exact hE 3 (cW_er hw) _ S167.b0
      · have hw := cW_pos c168 hw
        refine ⟨_, rfl, _, _, rfl, rfl, _, rfl, ?_⟩
        refine iteD (fun c169 => ?_) (fun c169 => ?_)
        · have hw := cW_pos c169 hw
          refine ⟨_, rfl, _, _, _, _, _, rfl, (S167.bM _ _ h_p_self), T.cl_Format, T.n_Format_chroma, rfl, _, _, rfl, rfl, _, rfl, ?_⟩
          refine iteD (fun c170 => ?_) (fun c170 => ?_)
          · have hw := cW_pos c170 hw
            refine ⟨_, rfl, _, _, rfl, rfl, _, _, rfl, rfl, (divW_lit (by decide) (by decide)), _, rfl, _, _, rfl, rfl, _, _, rfl, rfl, (divW_lit (by decide) (by decide)), (by show 2 ≤ sizeLine; decide), fun p171 n172 => ?_⟩
            generalize g173 : upd H165 p171 _ = H174
            obtain ⟨e175, h176⟩ := gen_new n172 g173
            have h177 : H174 p171 = some (.tup [V.int (((width' + 1) / 2)), V.int (((height' + 1) / 2))]) := h176
            have fr178 := S167.free n172
            obtain ⟨G180, eG181, hg182, S179⟩ := S167.grow n172 e175 h177 fr178
            have hw := cW_ok hw
            exact hK0 _ hw _ _ _ S179.b0 S179.g0 S179.sG S179.gn (rp_mk2 hg182 (.int _) (.int _))
          · have hw := cW_neg c170 hw
            refine ⟨_, rfl, _, rfl, (by show 2 ≤ sizeLine; decide), fun p183 n184 => ?_⟩
            generalize g185 : upd H165 p183 _ = H186
            obtain ⟨e187, h188⟩ := gen_new n184 g185
            have h189 : H186 p183 = some (.tup [V.int (width'), V.int (height')]) := h188
            have fr190 := S167.free n184
            obtain ⟨G192, eG193, hg194, S191⟩ := S167.grow n184 e187 h189 fr190
            have hw := cW_ok hw
            exact hK0 _ hw _ _ _ S191.b0 S191.g0 S191.sG S191.gn (rp_mk2 hg194 (.int _) (.int _))
        · have hw := cW_neg c169 hw
          refine iteF ?_
          refine ⟨_, rfl, _, rfl, (by show 2 ≤ sizeLine; decide), fun p195 n196 => ?_⟩
          generalize g197 : upd H165 p195 _ = H198
          obtain ⟨e199, h200⟩ := gen_new n196 g197
          have h201 : H198 p195 = some (.tup [V.int (width'), V.int (height')]) := h200
          have fr202 := S167.free n196
          obtain ⟨G204, eG205, hg206, S203⟩ := S167.grow n196 e199 h201 fr202
          have hw := cW_ok hw
          exact hK0 _ hw _ _ _ S203.b0 S203.g0 S203.sG S203.gn (rp_mk2 hg206 (.int _) (.int _))
    · have hw := cW_neg c163 hw
      refine ⟨_, rfl, ?_⟩
      refine iteT ?_
      exact hE 3 (cW_er hw) _ S0.b0

abbrev N_Format_size : List Str := ["self", "plane"]
theorem sc_Format_size : FnScope N_Format_size ["self", "plane"] (defScope s_Format_size) := ⟨rfl, rfl, rfl, by decide +kernel, rfl, by decide +kernel, by decide +kernel⟩
theorem ok_Format_size (D : MethX K AD.c_Format "Format.size" "size" s_Format_size ["self", "plane"] pats_Format_size) (T : Txt K mg AD) (c_Format__plane_size : MetX P w K mg base 3 AD.c_Format "_plane_size" (sp_Format__plane_size K AD) pats_Format__plane_size) : MetX P w K mg base 4 AD.c_Format "size" (sp_Format_size K AD) pats_Format_size := by
  refine D.ok T.cl_Format sc_Format_size (fun vs H Q E h => ?_) (fun f cdv A_ outer s H vs Q E hr h => ?_)
  · obtain ⟨G, p_self, dx_self, self', plane', rfl, _⟩ := h
    rfl
  · obtain ⟨G, p_self, dx_self, self', plane', rfl, sG, h_p_self, hw⟩ := h
    refine ⟨_, (pss_one (ps_ret (vx_methX c_Format__plane_size pat_Format__plane_size_0 (.head _) hr (by decide) (takes_of rfl rfl rfl rfl) (pv 0) (pa_cons (pv 1) (pa_cons (fldK (K := K) (pv 0)) (pa_cons (fldK (K := K) (pv 0)) pa_nil))) pk_nil))), ?_⟩
    obtain ⟨KK, EE, hK0, hE, hw⟩ := cW_gen hw
    have S0 := Sep.startG sG
    unfold F_Format_size at hw
    refine ⟨_, rfl, _, _, _, rfl, (S0.bM _ _ h_p_self), rfl, _, rfl, _, rfl, _, _, _, _, _, rfl, (S0.bM _ _ h_p_self), T.cl_Format, T.n_Format_width, rfl, _, rfl, _, _, _, _, _, rfl, (S0.bM _ _ h_p_self), T.cl_Format, T.n_Format_height, rfl, rfl, rfl, G, _, _, self', _, _, _, rfl, S0.sG, (hide_nil (S0.bM _ _ h_p_self)), cW_call hw (fun v207 hw v210 H208 G211 e209 eG212 sG213 hn214 r215 => ?_) (fun e he H2 e2 => hE e he H2 (Same.trans S0.b0 e2))⟩
    have S216 := S0.step e209 eG212 sG213 hn214
    obtain ⟨a217, v219, v220, rfl, h218, r221, r222⟩ := rp_tup2 r215
    obtain rfl := rp_int r221
    obtain rfl := rp_int r222
    have hw := cW_ok hw
    exact hK0 _ hw _ _ _ S216.b0 S216.g0 S216.sG S216.gn (rp_mk2 h218 (.int _) (.int _))

abbrev N_Format_blocks : List Str := ["self"]
theorem sc_Format_blocks : FnScope N_Format_blocks ["self"] (defScope s_Format_blocks) := ⟨rfl, rfl, rfl, by decide +kernel, rfl, by decide +kernel, by decide +kernel⟩
theorem ok_Format_blocks (D : MethX K AD.c_Format "Format.blocks" "blocks" s_Format_blocks ["self"] pats_Format_blocks) (T : Txt K mg AD)  : MetX P w K mg base 1 AD.c_Format "blocks" (sp_Format_blocks K AD) pats_Format_blocks := by
  refine D.ok T.cl_Format sc_Format_blocks (fun vs H Q E h => ?_) (fun f cdv A_ outer s H vs Q E hr h => ?_)
  · obtain ⟨G, p_self, dx_self, self', rfl, _⟩ := h
    rfl
  · obtain ⟨G, p_self, dx_self, self', rfl, sG, h_p_self, hw⟩ := h
    refine ⟨_, (pss_one (ps_ret (pe_tup (pa_cons (pe_op op_fdivW (pe_op op_sub (pe_op op_add (fldK (K := K) (pv 0)) (C8.pe_gc rfl T.g_BLOCK)) pe_int) (C8.pe_gc rfl T.g_BLOCK)) (pa_cons (pe_op op_fdivW (pe_op op_sub (pe_op op_add (fldK (K := K) (pv 0)) (C8.pe_gc rfl T.g_BLOCK)) pe_int) (C8.pe_gc rfl T.g_BLOCK)) pa_nil))))), ?_⟩
    obtain ⟨KK, EE, hK0, hE, hw⟩ := cW_gen hw
    have S0 := Sep.startG sG
    unfold F_Format_blocks at hw
    refine ⟨_, rfl, _, _, _, _, _, rfl, (S0.bM _ _ h_p_self), T.cl_Format, T.n_Format_width, rfl, _, _, rfl, rfl, _, _, rfl, rfl, _, _, rfl, rfl, (divW_lit (by decide) (by decide)), _, rfl, _, _, _, _, _, rfl, (S0.bM _ _ h_p_self), T.cl_Format, T.n_Format_height, rfl, _, _, rfl, rfl, _, _, rfl, rfl, _, _, rfl, rfl, (divW_lit (by decide) (by decide)), (by show 2 ≤ sizeLine; decide), fun p223 n224 => ?_⟩
    generalize g225 : upd H p223 _ = H226
    obtain ⟨e227, h228⟩ := gen_new n224 g225
    have h229 : H226 p223 = some (.tup [V.int ((((self'.width + 8) - 1) / 8)), V.int ((((self'.height + 8) - 1) / 8))]) := h228
    have fr230 := S0.free n224
    obtain ⟨G232, eG233, hg234, S231⟩ := S0.grow n224 e227 h229 fr230
    have hw := cW_ok hw
    exact hK0 _ hw _ _ _ S231.b0 S231.g0 S231.sG S231.gn (rp_mk2 hg234 (.int _) (.int _))

abbrev N_Format_coded_size : List Str := ["self", "plane", "columns", "rows"]
theorem sc_Format_coded_size : FnScope N_Format_coded_size ["self", "plane"] (defScope s_Format_coded_size) := ⟨rfl, rfl, rfl, by decide +kernel, rfl, by decide +kernel, by decide +kernel⟩
theorem ok_Format_coded_size (D : MethX K AD.c_Format "Format.coded_size" "coded_size" s_Format_coded_size ["self", "plane"] pats_Format_coded_size) (T : Txt K mg AD) (c_Format_blocks : MetX P w K mg base 1 AD.c_Format "blocks" (sp_Format_blocks K AD) pats_Format_blocks) (c_Format__plane_size : MetX P w K mg base 3 AD.c_Format "_plane_size" (sp_Format__plane_size K AD) pats_Format__plane_size) : MetX P w K mg base 4 AD.c_Format "coded_size" (sp_Format_coded_size K AD) pats_Format_coded_size := by
  refine D.ok T.cl_Format sc_Format_coded_size (fun vs H Q E h => ?_) (fun f cdv A_ outer s H vs Q E hr h => ?_)
  · obtain ⟨G, p_self, dx_self, self', plane', rfl, _⟩ := h
    rfl
  · obtain ⟨G, p_self, dx_self, self', plane', rfl, sG, h_p_self, hw⟩ := h
    refine ⟨_, (pss_cons (ps_asg (vx_methX0 c_Format_blocks pat_Format_blocks_0 (.head _) hr (by decide) (takes_of rfl rfl rfl rfl) (pv 0)) (pg_tupK (K := K) (n := 2) (pgs_cons (pg_name (i := 2) sc_Format_coded_size.nd rfl (Or.inl rfl)) (pgs_cons (pg_name (i := 3) sc_Format_coded_size.nd rfl (Or.inl rfl)) pgs_nil))))
      (pss_one (ps_ret (vx_methX c_Format__plane_size pat_Format__plane_size_0 (.head _) hr (by decide) (takes_of rfl rfl rfl rfl) (pv 0) (pa_cons (pv 1) (pa_cons (pe_op op_mul (pv 2) (C8.pe_gc rfl T.g_BLOCK)) (pa_cons (pe_op op_mul (pv 3) (C8.pe_gc rfl T.g_BLOCK)) pa_nil))) pk_nil)))), ?_⟩
    obtain ⟨KK, EE, hK0, hE, hw⟩ := cW_gen hw
    have S0 := Sep.startG sG
    unfold F_Format_coded_size at hw
    refine ⟨_, rfl, _, _, _, rfl, (S0.bM _ _ h_p_self), rfl, rfl, rfl, G, _, _, self', rfl, S0.sG, (hide_nil (S0.bM _ _ h_p_self)), cW_call hw (fun v235 hw v238 H236 G239 e237 eG240 sG241 hn242 r243 => ?_) (fun e he H2 e2 => hE e he H2 (Same.trans S0.b0 e2))⟩
    have S244 := S0.step e237 eG240 sG241 hn242
    obtain ⟨a245, v247, v248, rfl, h246, r249, r250⟩ := rp_tup2 r243
    obtain rfl := rp_int r249
    obtain rfl := rp_int r250
    refine ⟨_, _, rfl, (SqT.of (S244.sG _ _ h246)), rfl, _, _, rfl, _, _, rfl, rfl, _, rfl, _, _, _, rfl, (S244.bM _ _ h_p_self), rfl, _, rfl, _, rfl, _, _, rfl, rfl, (.inr ⟨by decide, by decide⟩), _, rfl, _, _, rfl, rfl, (.inr ⟨by decide, by decide⟩), rfl, rfl, G239, _, _, self', _, _, _, rfl, S244.sG, (hide_nil (S244.bM _ _ h_p_self)), cW_call hw (fun v251 hw v254 H252 G255 e253 eG256 sG257 hn258 r259 => ?_) (fun e he H2 e2 => hE e he H2 (Same.trans S244.b0 e2))⟩
    have S260 := S244.step e253 eG256 sG257 hn258
    obtain ⟨a261, v263, v264, rfl, h262, r265, r266⟩ := rp_tup2 r259
    obtain rfl := rp_int r265
    obtain rfl := rp_int r266
    have hw := cW_ok hw
    exact hK0 _ hw _ _ _ S260.b0 S260.g0 S260.sG S260.gn (rp_mk2 h262 (.int _) (.int _))

abbrev N__law_no_plane : List Str := ["fmt", "plane", "count", "e"]
theorem sc__law_no_plane : FnScope N__law_no_plane ["fmt", "plane"] (defScope s__law_no_plane) := ⟨rfl, rfl, rfl, by decide +kernel, rfl, by decide +kernel, by decide +kernel⟩
theorem ok__law_no_plane (D : DefX K mg "_law_no_plane" s__law_no_plane ["fmt", "plane"] pats__law_no_plane) (T : Txt K mg AD) (c_Format_size : MetX P w K mg base 4 AD.c_Format "size" (sp_Format_size K AD) pats_Format_size) (c_Format_coded_size : MetX P w K mg base 4 AD.c_Format "coded_size" (sp_Format_coded_size K AD) pats_Format_coded_size) : CalX P w K mg base 5 "_law_no_plane" (sp__law_no_plane K AD) pats__law_no_plane := by
  refine D.ok sc__law_no_plane (fun vs H Q E h => ?_) (fun f cdv A_ outer s H vs Q E hr h => ?_)
  · obtain ⟨G, p_fmt, dx_fmt, fmt', plane', rfl, _⟩ := h
    rfl
  · obtain ⟨G, p_fmt, dx_fmt, fmt', plane', rfl, sG, h_p_fmt, hw⟩ := h
    refine ⟨_, (pss_cons (ps_set (i := 2) sc__law_no_plane.nd rfl (Or.inl rfl) pe_int)
      (C8.pss_cut (ps_try_as (i := 3) rfl rfl sc__law_no_plane.nd rfl rfl ⟨rfl, by decide, .inl T.xg_OutOfRange⟩ (takes_of rfl rfl rfl rfl) (fun W pn xe tk pse => (pss_one (ps_expr (vx_methX c_Format_size pat_Format_size_0 (.head _) hr (by decide) tk (pv 0) (pa_cons (pv 1) pa_nil) pk_nil)))) (fun a oe cls d pn hz hf => (pss_one (ps_set (i := 2) sc__law_no_plane.nd rfl (Or.inl rfl) (pe_op op_add (pv 2) (pe_callTy call_int1 (by rfl) T.b_int (by decide +kernel) (pa_cons (pe_and (pe_callB (call_isX (K := K) hz hf) (by rfl) T.b_isinstance (by decide +kernel) (pa_cons (pv 3) (pa_cons (C8.pe_gc (v := V.ref AD.x_CodecError) rfl ⟨_, T.xg_CodecError, rfl⟩) pa_nil))) (pe_one (pe_not (pe_callB (call_isX (K := K) hz hf) (by rfl) T.b_isinstance (by decide +kernel) (pa_cons (pv 3) (pa_cons (C8.pe_gc (v := V.ref AD.x_BadFormat) rfl ⟨_, T.xg_BadFormat, rfl⟩) pa_nil)))))) pa_nil)))))))
      (C8.pss_cut (ps_try_as (i := 3) rfl rfl sc__law_no_plane.nd rfl rfl ⟨rfl, by decide, .inl T.xg_OutOfRange⟩ (takes_of rfl rfl rfl rfl) (fun W pn xe tk pse => (pss_one (ps_expr (vx_methX c_Format_coded_size pat_Format_coded_size_0 (.head _) hr (by decide) tk (pv 0) (pa_cons (pv 1) pa_nil) pk_nil)))) (fun a oe cls d pn hz hf => (pss_one (ps_set (i := 2) sc__law_no_plane.nd rfl (Or.inl rfl) (pe_op op_add (pv 2) (pe_callTy call_int1 (by rfl) T.b_int (by decide +kernel) (pa_cons (pe_and (pe_callB (call_isX (K := K) hz hf) (by rfl) T.b_isinstance (by decide +kernel) (pa_cons (pv 3) (pa_cons (C8.pe_gc (v := V.ref AD.x_CodecError) rfl ⟨_, T.xg_CodecError, rfl⟩) pa_nil))) (pe_one (pe_not (pe_callB (call_isX (K := K) hz hf) (by rfl) T.b_isinstance (by decide +kernel) (pa_cons (pv 3) (pa_cons (C8.pe_gc (v := V.ref AD.x_BadFormat) rfl ⟨_, T.xg_BadFormat, rfl⟩) pa_nil)))))) pa_nil)))))))
      (pss_one (ps_ret (pe_cmp (pc_eqI (pv 2) pe_int))))))), ?_⟩
    obtain ⟨KK, EE, hK0, hE, hw⟩ := cW_gen hw
    have S0 := Sep.startG sG
    unfold F__law_no_plane at hw
    refine ⟨fun σ H' => ∃ (count_270 : Int) (u271 : Option V) (G' : Hp), σ = [some (V.ref p_fmt), some (V.int (plane')), some (V.int count_270), u271] ∧ Same G G' ∧ Sep [] H G G' H' [] ∧ cW (F__law_no_plane_k1 (fmt') (plane') count_270) KK EE, ?_, ?_⟩
    · obtain ⟨K272, hK273, hw⟩ := cW_push hw
      refine ⟨_, rfl, _, _, _, rfl, (S0.bM _ _ h_p_fmt), rfl, _, rfl, rfl, rfl, G, _, _, fmt', _, rfl, S0.sG, (hide_nil (S0.bM _ _ h_p_fmt)), cW_try hw (fun v274 hw v277 H275 G278 e276 eG279 sG280 hn281 r282 => ?_) ?_⟩
      · have S283 := S0.step e276 eG279 sG280 hn281
        obtain ⟨a284, v286, v287, rfl, h285, r288, r289⟩ := rp_tup2 r282
        obtain rfl := rp_int r288
        obtain rfl := rp_int r289
        have hw := cW_ok hw
        have hw := hK273 _ hw
        exact ⟨(0), _, _, rfl, eG279, S283, hw⟩
      · intro e hm hw H290 e291
        have S292 := S0.same e291
        obtain rfl := mem_one hm
        refine ⟨true, T.xm_OutOfRange_OutOfRange, fun _ a293 na294 => ?_, fun q => nomatch q⟩
        refine ⟨_, rfl, ?_⟩
        refine vv_and  (a := true) (b := (!false)) ?ha295 ?hb296 _ ?_
        case ha295 => exact (vv_call2 (val_var rfl) val_c (fun Q q => ⟨_, _, _, rfl, rfl, T.xc_OutOfRange, rfl, T.xo_OutOfRange_CodecError, q⟩))
        case hb296 => exact (vv_not (vv_call2 (val_var rfl) val_c (fun Q q => ⟨_, _, _, rfl, rfl, T.xc_OutOfRange, rfl, T.xn_OutOfRange_BadFormat, q⟩)))
        refine .inr ⟨_, rfl, ?_⟩
        refine ⟨_, _, rfl, rfl, ?_⟩
        have hw := cW_bnd hw
        have hw := cW_ok hw
        have hw := hK273 _ hw
        exact ⟨((0 + (if (true && (!false)) = true then 1 else 0))), _, _, rfl, (Same.refl _), S292, hw⟩
    · intro σ H298 hw
      obtain ⟨count_270, u271, G300, rfl, eG301, S299, hw⟩ := hw
      unfold F__law_no_plane_k1 at hw
      refine ⟨fun σ H' => ∃ (count_303 : Int) (u304 : Option V) (G' : Hp), σ = [some (V.ref p_fmt), some (V.int (plane')), some (V.int count_303), u304] ∧ Same G300 G' ∧ Sep [] H G G' H' [] ∧ cW (F__law_no_plane_k2  count_303) KK EE, ?_, ?_⟩
      · obtain ⟨K305, hK306, hw⟩ := cW_push hw
        refine ⟨_, rfl, _, _, _, rfl, (S299.bM _ _ h_p_fmt), rfl, _, rfl, rfl, rfl, G300, _, _, fmt', _, rfl, S299.sG, (hide_nil (S299.bM _ _ h_p_fmt)), cW_try hw (fun v307 hw v310 H308 G311 e309 eG312 sG313 hn314 r315 => ?_) ?_⟩
        · have S316 := S299.step e309 eG312 sG313 hn314
          obtain ⟨a317, v319, v320, rfl, h318, r321, r322⟩ := rp_tup2 r315
          obtain rfl := rp_int r321
          obtain rfl := rp_int r322
          have hw := cW_ok hw
          have hw := hK306 _ hw
          exact ⟨(count_270), _, _, rfl, eG312, S316, hw⟩
        · intro e hm hw H323 e324
          have S325 := S299.same e324
          obtain rfl := mem_one hm
          refine ⟨true, T.xm_OutOfRange_OutOfRange, fun _ a326 na327 => ?_, fun q => nomatch q⟩
          refine ⟨_, rfl, ?_⟩
          refine vv_and  (a := true) (b := (!false)) ?ha328 ?hb329 _ ?_
          case ha328 => exact (vv_call2 (val_var rfl) val_c (fun Q q => ⟨_, _, _, rfl, rfl, T.xc_OutOfRange, rfl, T.xo_OutOfRange_CodecError, q⟩))
          case hb329 => exact (vv_not (vv_call2 (val_var rfl) val_c (fun Q q => ⟨_, _, _, rfl, rfl, T.xc_OutOfRange, rfl, T.xn_OutOfRange_BadFormat, q⟩)))
          refine .inr ⟨_, rfl, ?_⟩
          refine ⟨_, _, rfl, rfl, ?_⟩
          have hw := cW_bnd hw
          have hw := cW_ok hw
          have hw := hK306 _ hw
          exact ⟨((count_270 + (if (true && (!false)) = true then 1 else 0))), _, _, rfl, (Same.refl _), S325, hw⟩
      · intro σ H331 hw
        obtain ⟨count_303, u304, G333, rfl, eG334, S332, hw⟩ := hw
        unfold F__law_no_plane_k2 at hw
        refine ⟨_, rfl, _, _, rfl, rfl, ?_⟩
        have hw := cW_ok hw
        exact hK0 _ hw _ S332.b0

abbrev N__law_size : List Str := ["width", "height", "chroma", "plane"]
theorem sc__law_size : FnScope N__law_size ["width", "height", "chroma", "plane"] (defScope s__law_size) := ⟨rfl, rfl, rfl, by decide +kernel, rfl, by decide +kernel, by decide +kernel⟩
theorem ok__law_size (D : DefX K mg "_law_size" s__law_size ["width", "height", "chroma", "plane"] pats__law_size) (T : Txt K mg AD)  : CalX P w K mg base 1 "_law_size" (sp__law_size K AD) pats__law_size := by
  refine D.ok sc__law_size (fun vs H Q E h => ?_) (fun f cdv A_ outer s H vs Q E hr h => ?_)
  · obtain ⟨G, width', height', chroma', plane', rfl, _⟩ := h
    rfl
  · obtain ⟨G, width', height', chroma', plane', rfl, sG, hw⟩ := h
    refine ⟨_, (pss_cons (ps_if (PW.pt (pw_and (pt_cmp (pc_gt (pv 3) pe_int)) (pw_and1 (pt_cmp (pc_eqI (pv 2) pe_int))))) (pss_one (ps_ret (pe_tup (pa_cons (pe_op op_fdivW (pe_op op_add (pv 0) pe_int) pe_int) (pa_cons (pe_op op_fdivW (pe_op op_add (pv 1) pe_int) pe_int) pa_nil))))) pss_nil)
      (pss_one (ps_ret (pe_tup (pa_cons (pv 0) (pa_cons (pv 1) pa_nil)))))), ?_⟩
    obtain ⟨KK, EE, hK0, hE, hw⟩ := cW_gen hw
    have S0 := Sep.startG sG
    unfold F__law_size at hw
    refine ⟨_, rfl, _, _, rfl, rfl, _, rfl, ?_⟩
    refine iteD (fun c335 => ?_) (fun c335 => ?_)
    · have hw := cW_pos c335 hw
      refine ⟨_, rfl, _, _, rfl, rfl, _, rfl, ?_⟩
      refine iteD (fun c336 => ?_) (fun c336 => ?_)
      · have hw := cW_pos c336 hw
        refine ⟨_, rfl, _, _, rfl, rfl, _, _, rfl, rfl, (divW_lit (by decide) (by decide)), _, rfl, _, _, rfl, rfl, _, _, rfl, rfl, (divW_lit (by decide) (by decide)), (by show 2 ≤ sizeLine; decide), fun p337 n338 => ?_⟩
        generalize g339 : upd H p337 _ = H340
        obtain ⟨e341, h342⟩ := gen_new n338 g339
        have h343 : H340 p337 = some (.tup [V.int (((width' + 1) / 2)), V.int (((height' + 1) / 2))]) := h342
        have fr344 := S0.free n338
        obtain ⟨G346, eG347, hg348, S345⟩ := S0.grow n338 e341 h343 fr344
        have hw := cW_ok hw
        exact hK0 _ hw _ _ _ S345.b0 S345.g0 S345.sG S345.gn (rp_mk2 hg348 (.int _) (.int _))
      · have hw := cW_neg c336 hw
        refine ⟨_, rfl, _, rfl, (by show 2 ≤ sizeLine; decide), fun p349 n350 => ?_⟩
        generalize g351 : upd H p349 _ = H352
        obtain ⟨e353, h354⟩ := gen_new n350 g351
        have h355 : H352 p349 = some (.tup [V.int (width'), V.int (height')]) := h354
        have fr356 := S0.free n350
        obtain ⟨G358, eG359, hg360, S357⟩ := S0.grow n350 e353 h355 fr356
        have hw := cW_ok hw
        exact hK0 _ hw _ _ _ S357.b0 S357.g0 S357.sG S357.gn (rp_mk2 hg360 (.int _) (.int _))
    · have hw := cW_neg c335 hw
      refine iteF ?_
      refine ⟨_, rfl, _, rfl, (by show 2 ≤ sizeLine; decide), fun p361 n362 => ?_⟩
      generalize g363 : upd H p361 _ = H364
      obtain ⟨e365, h366⟩ := gen_new n362 g363
      have h367 : H364 p361 = some (.tup [V.int (width'), V.int (height')]) := h366
      have fr368 := S0.free n362
      obtain ⟨G370, eG371, hg372, S369⟩ := S0.grow n362 e365 h367 fr368
      have hw := cW_ok hw
      exact hK0 _ hw _ _ _ S369.b0 S369.g0 S369.sG S369.gn (rp_mk2 hg372 (.int _) (.int _))

abbrev N__law_planes : List Str := ["fmt", "numbers", "coded", "count", "plane"]
theorem sc__law_planes : FnScope N__law_planes ["fmt", "numbers"] (defScope s__law_planes) := ⟨rfl, rfl, rfl, by decide +kernel, rfl, by decide +kernel, by decide +kernel⟩
theorem ok__law_planes (D : DefX K mg "_law_planes" s__law_planes ["fmt", "numbers"] pats__law_planes) (T : Txt K mg AD) (c__law_up : CalX P w K mg base 1 "_law_up" (sp__law_up K AD) pats__law_up) (c_Format_blocks : MetX P w K mg base 1 AD.c_Format "blocks" (sp_Format_blocks K AD) pats_Format_blocks) (c_Format_planes : PropY P w K mg base 1 AD.c_Format "planes" (sp_Format_planes K AD) pats_Format_planes) (c_Format_size : MetX P w K mg base 4 AD.c_Format "size" (sp_Format_size K AD) pats_Format_size) (c__law_size : CalX P w K mg base 1 "_law_size" (sp__law_size K AD) pats__law_size) (c_Format_coded_size : MetX P w K mg base 4 AD.c_Format "coded_size" (sp_Format_coded_size K AD) pats_Format_coded_size) (c__law_no_plane : CalX P w K mg base 5 "_law_no_plane" (sp__law_no_plane K AD) pats__law_no_plane) : CalX P w K mg base 6 "_law_planes" (sp__law_planes K AD) pats__law_planes := by
  refine D.ok sc__law_planes (fun vs H Q E h => ?_) (fun f cdv A_ outer s H vs Q E hr h => ?_)
  · obtain ⟨G, p_fmt, dx_fmt, fmt', a_numbers, numbers', rfl, _⟩ := h
    rfl
  · obtain ⟨G, p_fmt, dx_fmt, fmt', a_numbers, numbers', rfl, sG, h_p_fmt, q_numbers, hw⟩ := h
    refine ⟨_, (pss_cons (ps_set (i := 2) sc__law_planes.nd rfl (Or.inl rfl) (pe_tup (pa_cons (vx_callX c__law_up pat__law_up_0 (.head _) hr (by decide) (takes_of rfl rfl rfl rfl) rfl (pa_cons (pe_ix (ix_listK (K := K)) (pv 1) pe_int (fun _ _ => rfl)) pa_nil) pk_nil) (pa_cons (vx_callX c__law_up pat__law_up_0 (.head _) hr (by decide) (takes_of rfl rfl rfl rfl) rfl (pa_cons (pe_ix (ix_listK (K := K)) (pv 1) pe_int (fun _ _ => rfl)) pa_nil) pk_nil) pa_nil))))
      (pss_cons (ps_set (i := 3) sc__law_planes.nd rfl (Or.inl rfl) pe_int)
      (C8.pss_cut (ps_if (pt_cmp (pc_gt (pe_ix (ix_listK (K := K)) (pv 1) pe_int (fun _ _ => rfl)) pe_int)) (pss_one (ps_set (i := 3) sc__law_planes.nd rfl (Or.inl rfl) pe_int)) pss_nil)
      (pss_cons (ps_if (PW.pt (pw_or (pt_cmp (pc_neI (vx_propX c_Format_planes hr (by decide) (pv 0)) (pv 3))) (pw_or1 (pt_cmpR (op_neT (encOk_T2 encOk_int encOk_int) hr.units) (vx_methX0 c_Format_blocks pat_Format_blocks_0 (.head _) hr (by decide) (takes_of rfl rfl rfl rfl) (pv 0)) (pe_tup (pa_cons (pe_op op_fdivW (pe_ix (ix_tupK (K := K)) (pv 2) pe_int (fun _ _ => rfl)) pe_int) (pa_cons (pe_op op_fdivW (pe_ix (ix_tupK (K := K)) (pv 2) pe_int (fun _ _ => rfl)) pe_int) pa_nil))) (nomark _))))) (pss_one (ps_ret pe_bl)) pss_nil)
      (pss_cons (ps_for (passes_of rfl) rfl (pi_range1 rfl T.b_range (pa_cons (pv 3) pa_nil)) (pg_name (i := 4) sc__law_planes.nd rfl (Or.inl rfl)) (pss_cons (ps_if (pt_cmpR (op_neT (encOk_T2 encOk_int encOk_int) hr.units) (vx_methX c_Format_size pat_Format_size_0 (.head _) hr (by decide) (takes_of rfl rfl rfl rfl) (pv 0) (pa_cons (pv 4) pa_nil) pk_nil) (vx_callX c__law_size pat__law_size_0 (.head _) hr (by decide) (takes_of rfl rfl rfl rfl) rfl (pa_cons (pe_ix (ix_listK (K := K)) (pv 1) pe_int (fun _ _ => rfl)) (pa_cons (pe_ix (ix_listK (K := K)) (pv 1) pe_int (fun _ _ => rfl)) (pa_cons (pe_ix (ix_listK (K := K)) (pv 1) pe_int (fun _ _ => rfl)) (pa_cons (pv 4) pa_nil)))) pk_nil) (nomark _)) (pss_one (ps_ret pe_bl)) pss_nil)
      (pss_one (ps_if (pt_cmpR (op_neT (encOk_T2 encOk_int encOk_int) hr.units) (vx_methX c_Format_coded_size pat_Format_coded_size_0 (.head _) hr (by decide) (takes_of rfl rfl rfl rfl) (pv 0) (pa_cons (pv 4) pa_nil) pk_nil) (vx_callX c__law_size pat__law_size_0 (.head _) hr (by decide) (takes_of rfl rfl rfl rfl) rfl (pa_cons (pe_ix (ix_tupK (K := K)) (pv 2) pe_int (fun _ _ => rfl)) (pa_cons (pe_ix (ix_tupK (K := K)) (pv 2) pe_int (fun _ _ => rfl)) (pa_cons (pe_ix (ix_listK (K := K)) (pv 1) pe_int (fun _ _ => rfl)) (pa_cons (pv 4) pa_nil)))) pk_nil) (nomark _)) (pss_one (ps_ret pe_bl)) pss_nil))))
      (pss_cons (ps_for (passes_of rfl) rfl (pi_listK (K := K) (pe_lst (pa_cons (pv 3) (pa_cons (pe_un un_neg pe_int) (pa_cons (pe_op op_add pe_int (pv 3)) (pa_cons (pe_op op_add pe_int (pe_op op_mul pe_int (pv 3))) (pa_cons (pe_op op_add (pv 3) (pe_ix (ix_listK (K := K)) (pv 1) pe_int (fun _ _ => rfl))) (pa_cons (pe_op op_sub (pe_un un_neg pe_int) (pe_ix (ix_listK (K := K)) (pv 1) pe_int (fun _ _ => rfl))) pa_nil)))))))) (pg_name (i := 4) sc__law_planes.nd rfl (Or.inl rfl)) (pss_one (ps_if (pt_not (pt_val (vx_callX c__law_no_plane pat__law_no_plane_0 (.head _) hr (by decide) (takes_of rfl rfl rfl rfl) rfl (pa_cons (pv 0) (pa_cons (pv 4) pa_nil)) pk_nil))) (pss_one (ps_ret pe_bl)) pss_nil)))
      (pss_one (ps_ret (pe_or (pe_cmp (pc_eqI (pv 3) pe_int)) (pe_one (vx_callX c__law_no_plane pat__law_no_plane_0 (.head _) hr (by decide) (takes_of rfl rfl rfl rfl) rfl (pa_cons (pv 0) (pa_cons pe_int pa_nil)) pk_nil))))))))))), ?_⟩
    obtain ⟨KK, EE, hK0, hE, hw⟩ := cW_gen hw
    have S0 := Sep.startG sG
    unfold F__law_planes at hw
    obtain ⟨g373, hw⟩ := cW_grd hw
    refine ⟨_, rfl, _, _, _, _, rfl, rfl, (SqL.of (S0.bM _ _ q_numbers)), (atI_map g373), rfl, rfl, G, _, rfl, S0.sG, cW_call hw (fun v374 hw => ?_) (fun e he => hE e he _ S0.b0)⟩
    obtain ⟨g375, hw⟩ := cW_grd hw
    refine ⟨_, rfl, _, _, _, _, rfl, rfl, (SqL.of (S0.bM _ _ q_numbers)), (atI_map g375), rfl, rfl, G, _, rfl, S0.sG, cW_call hw (fun v376 hw => ?_) (fun e he => hE e he _ S0.b0)⟩
    refine ⟨(by show 2 ≤ sizeLine; decide), fun p377 n378 => ?_⟩
    generalize g379 : upd H p377 _ = H380
    obtain ⟨e381, h382⟩ := gen_new n378 g379
    have h383 : H380 p377 = some (.tup [V.int (v374), V.int (v376)]) := h382
    have fr384 := S0.free n378
    obtain ⟨G386, eG387, hg388, S385⟩ := S0.grow n378 e381 h383 fr384
    refine ⟨fun σ H' => ∃ (count_393 : Int) (G' : Hp), σ = [some (V.ref p_fmt), some (V.ref a_numbers), some (V.ref p377), some (V.int count_393), none] ∧ Same G386 G' ∧ Sep [] H G G' H' [] ∧ cW (F__law_planes_k1 (fmt') (numbers') ((v374, v376)) count_393) KK EE, ?_, ?_⟩
    · obtain ⟨K394, hK395, hw⟩ := cW_push hw
      obtain ⟨g396, hw⟩ := cW_grd hw
      refine ⟨_, rfl, _, _, _, _, rfl, rfl, (SqL.of (S385.bM _ _ q_numbers)), (atI_map g396), _, _, rfl, rfl, _, rfl, ?_⟩
      refine iteD (fun c397 => ?_) (fun c397 => ?_)
      · have hw := cW_pos c397 hw
        have hw := cW_ok hw
        have hw := hK395 _ hw
        exact ⟨(3), _, rfl, (Same.refl _), S385, hw⟩
      · have hw := cW_neg c397 hw
        have hw := cW_ok hw
        have hw := hK395 _ hw
        exact ⟨(1), _, rfl, (Same.refl _), S385, hw⟩
    · intro σ H398 hw
      obtain ⟨count_393, G400, rfl, eG401, S399, hw⟩ := hw
      unfold F__law_planes_k1 at hw
      refine ⟨_, rfl, _, _, _, rfl, (S399.bM _ _ h_p_fmt), G400, _, _, fmt', rfl, S399.sG, (hide_nil (S399.bM _ _ h_p_fmt)), cW_callN hw (fun v402 hw H403 e404 => ?_) trivial⟩
      have S405 := S399.same e404
      refine ⟨_, rfl, _, _, rfl, rfl, _, rfl, ?_⟩
      refine iteN (fun c406 => ?_) (fun c406 => ?_)
      · have hw := cW_neg c406 hw
        refine iteT ?_
        have hw := cW_ok hw
        exact hK0 _ hw _ S405.b0
      · have hw := cW_pos c406 hw
        refine ⟨_, rfl, _, _, _, rfl, (S405.bM _ _ h_p_fmt), rfl, rfl, rfl, G400, _, _, fmt', rfl, S405.sG, (hide_nil (S405.bM _ _ h_p_fmt)), cW_call hw (fun v407 hw v410 H408 G411 e409 eG412 sG413 hn414 r415 => ?_) (fun e he H2 e2 => hE e he H2 (Same.trans S405.b0 e2))⟩
        have S416 := S405.step e409 eG412 sG413 hn414
        obtain ⟨a417, v419, v420, rfl, h418, r421, r422⟩ := rp_tup2 r415
        obtain rfl := rp_int r421
        obtain rfl := rp_int r422
        refine ⟨_, rfl, _, _, _, _, rfl, rfl, (SqT.of (S416.sG _ _ (eG412 _ _ (eG401 _ _ hg388)))), rfl, _, _, rfl, rfl, (divW_lit (by decide) (by decide)), _, rfl, _, _, _, _, rfl, rfl, (SqT.of (S416.sG _ _ (eG412 _ _ (eG401 _ _ hg388)))), rfl, _, _, rfl, rfl, (divW_lit (by decide) (by decide)), (by show 2 ≤ sizeLine; decide), fun p423 n424 => ?_⟩
        generalize g425 : upd H408 p423 _ = H426
        obtain ⟨e427, h428⟩ := gen_new n424 g425
        have h429 : H426 p423 = some (.tup [V.int ((v374 / 8)), V.int ((v376 / 8))]) := h428
        have fr430 := S416.free n424
        obtain ⟨G432, eG433, hg434, S431⟩ := S416.grow n424 e427 h429 fr430
        refine ⟨_, _, (rp_mk2 (S431.sG _ _ (eG433 _ _ h418)) (.int _) (.int _)), (rp_mk2 (S431.sG _ _ hg434) (.int _) (.int _)), _, rfl, ?_⟩
        refine iteN (fun c435 => ?_) (fun c435 => ?_)
        · have hw := cW_neg c435 hw
          have hw := cW_ok hw
          exact hK0 _ hw _ S431.b0
        · have hw := cW_pos c435 hw
          obtain ⟨g436, hw⟩ := cW_grd hw
          obtain ⟨K443, hK444, hw⟩ := cW_push hw
          refine ⟨_, rfl, _, rfl, g436.1, g436.2, for_range (lo := 0) (n := Int.toNat (count_393)) (fun i σ H' => ∃ (u445 : Option V) (G' : Hp), σ = [some (V.ref p_fmt), some (V.ref a_numbers), some (V.ref p377), some (V.int (count_393)), u445] ∧ Same G432 G' ∧ Sep [] H G G' H' [] ∧ cW (forR (List.drop i (rng (0) (Int.toNat (count_393)))) () (fun s x => F__law_planes_b2 (fmt') (numbers') ((v374, v376))  x)) K443 EE) ?_ ?_ ?_⟩
          · exact ⟨_, _, rfl, (Same.refl _), S431, hw⟩
          · intro i σ H446 hi hw
            obtain ⟨u445, G448, rfl, eG449, S447, hw⟩ := hw
            have hw := cW_forR (rng_get hi) hw
            generalize (0 + (i : Int)) = x450 at hw ⊢
            have hw : cW (F__law_planes_b2 (fmt') (numbers') ((v374, v376))  (x450)) _ EE := hw
            unfold F__law_planes_b2 at hw
            obtain ⟨K451, hK452, hw⟩ := cW_name hw
            refine ⟨_, rfl, _, _, _, rfl, (S447.bM _ _ h_p_fmt), rfl, _, rfl, rfl, rfl, G448, _, _, fmt', _, rfl, S447.sG, (hide_nil (S447.bM _ _ h_p_fmt)), cW_call hw (fun v454 hw v457 H455 G458 e456 eG459 sG460 hn461 r462 => ?_) (fun e he H2 e2 => hE e he H2 (Same.trans S447.b0 e2))⟩
            have S463 := S447.step e456 eG459 sG460 hn461
            obtain ⟨a464, v466, v467, rfl, h465, r468, r469⟩ := rp_tup2 r462
            obtain rfl := rp_int r468
            obtain rfl := rp_int r469
            obtain ⟨g470, hw⟩ := cW_grd hw
            obtain ⟨g471, hw⟩ := cW_grd hw
            obtain ⟨g472, hw⟩ := cW_grd hw
            refine ⟨_, rfl, _, _, _, _, rfl, rfl, (SqL.of (S463.bM _ _ q_numbers)), (atI_map g470), _, rfl, _, _, _, _, rfl, rfl, (SqL.of (S463.bM _ _ q_numbers)), (atI_map g471), _, rfl, _, _, _, _, rfl, rfl, (SqL.of (S463.bM _ _ q_numbers)), (atI_map g472), _, rfl, rfl, rfl, G458, _, _, _, _, rfl, S463.sG, cW_call hw (fun v473 hw v476 H474 G477 e475 eG478 sG479 hn480 r481 => ?_) (fun e he H2 e2 => hE e he H2 (Same.trans S463.b0 e2))⟩
            have S482 := S463.step e475 eG478 sG479 hn480
            obtain ⟨a483, v485, v486, rfl, h484, r487, r488⟩ := rp_tup2 r481
            obtain rfl := rp_int r487
            obtain rfl := rp_int r488
            refine ⟨_, _, (rp_mk2 (S482.sG _ _ (eG478 _ _ h465)) (.int _) (.int _)), (rp_mk2 (S482.sG _ _ h484) (.int _) (.int _)), _, rfl, ?_⟩
            refine iteN (fun c489 => ?_) (fun c489 => ?_)
            · have hw := cW_neg c489 hw
              have hw := cW_ok hw
              have hw := hK452 (.rt _) hw
              have hw := hK444 (.rt _) hw
              have hw := cW_ok hw
              exact hK0 _ hw _ S482.b0
            · have hw := cW_pos c489 hw
              refine ⟨_, rfl, _, _, _, rfl, (S482.bM _ _ h_p_fmt), rfl, _, rfl, rfl, rfl, G477, _, _, fmt', _, rfl, S482.sG, (hide_nil (S482.bM _ _ h_p_fmt)), cW_call hw (fun v490 hw v493 H491 G494 e492 eG495 sG496 hn497 r498 => ?_) (fun e he H2 e2 => hE e he H2 (Same.trans S482.b0 e2))⟩
              have S499 := S482.step e492 eG495 sG496 hn497
              obtain ⟨a500, v502, v503, rfl, h501, r504, r505⟩ := rp_tup2 r498
              obtain rfl := rp_int r504
              obtain rfl := rp_int r505
              obtain ⟨g506, hw⟩ := cW_grd hw
              refine ⟨_, rfl, _, _, _, _, rfl, rfl, (SqT.of (S499.sG _ _ (eG495 _ _ (eG478 _ _ (eG459 _ _ (eG449 _ _ (eG433 _ _ (eG412 _ _ (eG401 _ _ hg388))))))))), rfl, _, rfl, _, _, _, _, rfl, rfl, (SqT.of (S499.sG _ _ (eG495 _ _ (eG478 _ _ (eG459 _ _ (eG449 _ _ (eG433 _ _ (eG412 _ _ (eG401 _ _ hg388))))))))), rfl, _, rfl, _, _, _, _, rfl, rfl, (SqL.of (S499.bM _ _ q_numbers)), (atI_map g506), _, rfl, rfl, rfl, G494, _, _, _, _, rfl, S499.sG, cW_call hw (fun v507 hw v510 H508 G511 e509 eG512 sG513 hn514 r515 => ?_) (fun e he H2 e2 => hE e he H2 (Same.trans S499.b0 e2))⟩
              have S516 := S499.step e509 eG512 sG513 hn514
              obtain ⟨a517, v519, v520, rfl, h518, r521, r522⟩ := rp_tup2 r515
              obtain rfl := rp_int r521
              obtain rfl := rp_int r522
              refine ⟨_, _, (rp_mk2 (S516.sG _ _ (eG512 _ _ h501)) (.int _) (.int _)), (rp_mk2 (S516.sG _ _ h518) (.int _) (.int _)), _, rfl, ?_⟩
              refine iteN (fun c523 => ?_) (fun c523 => ?_)
              · have hw := cW_neg c523 hw
                have hw := cW_ok hw
                have hw := hK452 (.rt _) hw
                have hw := hK444 (.rt _) hw
                have hw := cW_ok hw
                exact hK0 _ hw _ S516.b0
              · have hw := cW_pos c523 hw
                have hw := cW_ok hw
                have hw := hK452 _ hw
                exact ⟨_, _, rfl, (Same.trans (Same.trans (Same.trans (Same.trans eG449 eG459) eG478) eG495) eG512), S516, hw⟩
          · intro σ H524 hw
            obtain ⟨u445, G526, rfl, eG527, S525, hw⟩ := hw
            have hw := cW_aftgo (hK444 _ (cW_forR0 (rng_len _ _).symm hw))
            have hw : cW (F__law_planes_r2 (fmt') (numbers') (count_393) ) _ EE := hw
            unfold F__law_planes_r2 at hw
            obtain ⟨g528, hw⟩ := cW_grd hw
            obtain ⟨g529, hw⟩ := cW_grd hw
            refine ⟨_, rfl, _, rfl, _, rfl, _, _, rfl, rfl, _, rfl, _, _, rfl, rfl, (.inl ⟨by decide, by decide⟩), _, _, rfl, rfl, _, rfl, _, rfl, _, _, _, _, rfl, rfl, (SqL.of (S525.bM _ _ q_numbers)), (atI_map g528), _, _, rfl, rfl, _, rfl, _, rfl, _, _, _, _, rfl, rfl, (SqL.of (S525.bM _ _ q_numbers)), (atI_map g529), _, _, rfl, rfl, (by show 6 ≤ sizeLine; decide), fun p530 n531 => ?_⟩
            generalize g532 : upd H524 p530 _ = H533
            obtain ⟨e534, h535⟩ := gen_new n531 g532
            have h536 : H533 p530 = some (.lst (([count_393, (-1), (2 + count_393), (1 + (2 * count_393)), (count_393 + (itD (numbers') (0))), ((-1) - (itD (numbers') (1)))] : (List Int)).map V.int)) := h535
            have fr537 := S525.free n531
            have S538 := S525.new n531 e534 h536 fr537
            obtain ⟨K542, hK543, hw⟩ := cW_push hw
            refine ⟨_, rfl, ⟨_, (SqL.of h536)⟩, for_list (K := K) (a := p530) (xs := ([count_393, (-1), (2 + count_393), (1 + (2 * count_393)), (count_393 + (itD (numbers') (0))), ((-1) - (itD (numbers') (1)))] : (List Int)).map V.int) (fun i σ H' => ∃ (u544 : Option V) (G' : Hp), σ = [some (V.ref p_fmt), some (V.ref a_numbers), some (V.ref p377), some (V.int (count_393)), u544] ∧ Same G526 G' ∧ Sep [] H G G' H' [p530] ∧ H' p530 = some (.lst (([count_393, (-1), (2 + count_393), (1 + (2 * count_393)), (count_393 + (itD (numbers') (0))), ((-1) - (itD (numbers') (1)))] : (List Int)).map V.int)) ∧ cW (forR (List.drop i ([count_393, (-1), (2 + count_393), (1 + (2 * count_393)), (count_393 + (itD (numbers') (0))), ((-1) - (itD (numbers') (1)))])) () (fun s x => F__law_planes_b3 (fmt')  x)) K542 EE) ?_ ?_ ?_ ?_⟩
            · exact ⟨_, _, rfl, (Same.refl _), S538, h536, hw⟩
            · intro i σ H545 _ hw
              obtain ⟨u544, G548, rfl, eG549, S546, h547, hw⟩ := hw
              exact (SqL.of h547)
            · intro i x σ H550 hj hw
              obtain ⟨u544, G553, rfl, eG554, S551, h552, hw⟩ := hw
              obtain ⟨x555, hx, rfl⟩ := map_get hj
              have hw := cW_forR hx hw
              have hw : cW (F__law_planes_b3 (fmt')  (x555)) _ EE := hw
              unfold F__law_planes_b3 at hw
              obtain ⟨K556, hK557, hw⟩ := cW_name hw
              refine ⟨_, rfl, _, rfl, rfl, rfl, G553, _, _, fmt', _, rfl, S551.sG, (hide_nil (S551.bM _ _ h_p_fmt)), cW_call hw (fun v559 hw H560 e561 => ?_) (fun e he H2 e2 => hE e he H2 (Same.trans S551.b0 e2))⟩
              have S562 := S551.same e561
              refine ⟨_, rfl, ?_⟩
              refine iteBN (fun c563 => ?_) (fun c563 => ?_)
              · have hw := cW_negB c563 hw
                have hw := cW_ok hw
                have hw := hK557 (.rt _) hw
                have hw := hK543 (.rt _) hw
                have hw := cW_ok hw
                exact hK0 _ hw _ S562.b0
              · have hw := cW_pos c563 hw
                have hw := cW_ok hw
                have hw := hK557 _ hw
                have h564 := (e561 _ _ h552)
                exact ⟨_, _, rfl, eG554, S562, h564, hw⟩
            · intro σ H565 hw
              obtain ⟨u544, G568, rfl, eG569, S566, h567, hw⟩ := hw
              have hw := cW_aftgo (hK543 _ (cW_forR0 (by rw [List.length_map]) hw))
              have hw : cW (F__law_planes_r3 (fmt') (count_393) ) _ EE := hw
              unfold F__law_planes_r3 at hw
              refine ⟨_, rfl, _, _, rfl, rfl, _, rfl, ?_⟩
              refine iteB (fun c570 => ?_) (fun c570 => ?_)
              · have hw := cW_pos c570 hw
                have hw := cW_ok hw
                exact hK0 _ hw _ S566.b0
              · have hw := cW_negB c570 hw
                refine ⟨_, rfl, rfl, rfl, G568, _, _, fmt', _, rfl, S566.sG, (hide_nil (S566.bM _ _ h_p_fmt)), cW_call hw (fun v571 hw H572 e573 => ?_) (fun e he H2 e2 => hE e he H2 (Same.trans S566.b0 e2))⟩
                have S574 := S566.same e573
                have hw := cW_ok hw
                exact hK0 _ hw _ S574.b0

abbrev N_Format_middle : List Str := ["self"]
theorem sc_Format_middle : FnScope N_Format_middle ["self"] (defScope s_Format_middle) := ⟨rfl, rfl, rfl, by decide +kernel, rfl, by decide +kernel, by decide +kernel⟩
theorem ok_Format_middle (D : PropX K AD.c_Format "Format.middle" "middle" s_Format_middle ["self"] pats_Format_middle) (T : Txt K mg AD)  : PropY P w K mg base 1 AD.c_Format "middle" (sp_Format_middle K AD) pats_Format_middle := by
  refine D.ok T.cl_Format sc_Format_middle (fun vs H Q E h => ?_) (fun f cdv A_ outer s H vs Q E hr h => ?_)
  · obtain ⟨G, p_self, dx_self, self', rfl, _⟩ := h
    rfl
  · obtain ⟨G, p_self, dx_self, self', rfl, sG, h_p_self, hw⟩ := h
    refine ⟨_, (pss_one (ps_ret (pe_op op_shlW pe_int (pe_op op_sub (fldK (K := K) (pv 0)) pe_int)))), ?_⟩
    obtain ⟨KK, EE, hK0, hE, hw⟩ := cW_gen hw
    have S0 := Sep.startG sG
    unfold F_Format_middle at hw
    obtain ⟨g575, hw⟩ := cW_grd hw
    refine ⟨_, rfl, _, _, _, _, _, rfl, (S0.bM _ _ h_p_self), T.cl_Format, T.n_Format_depth, rfl, _, _, rfl, rfl, _, _, rfl, rfl, (shl_side g575.1 g575.2.1 g575.2.2.1 g575.2.2.2), ?_⟩
    have hw := cW_ok hw
    exact hK0 _ hw _ S0.b0

abbrev N_Format_top : List Str := ["self"]
theorem sc_Format_top : FnScope N_Format_top ["self"] (defScope s_Format_top) := ⟨rfl, rfl, rfl, by decide +kernel, rfl, by decide +kernel, by decide +kernel⟩
theorem ok_Format_top (D : PropX K AD.c_Format "Format.top" "top" s_Format_top ["self"] pats_Format_top) (T : Txt K mg AD)  : PropY P w K mg base 1 AD.c_Format "top" (sp_Format_top K AD) pats_Format_top := by
  refine D.ok T.cl_Format sc_Format_top (fun vs H Q E h => ?_) (fun f cdv A_ outer s H vs Q E hr h => ?_)
  · obtain ⟨G, p_self, dx_self, self', rfl, _⟩ := h
    rfl
  · obtain ⟨G, p_self, dx_self, self', rfl, sG, h_p_self, hw⟩ := h
    refine ⟨_, (pss_one (ps_ret (pe_op op_sub (pe_op op_shlW pe_int (fldK (K := K) (pv 0))) pe_int))), ?_⟩
    obtain ⟨KK, EE, hK0, hE, hw⟩ := cW_gen hw
    have S0 := Sep.startG sG
    unfold F_Format_top at hw
    obtain ⟨g576, hw⟩ := cW_grd hw
    refine ⟨_, rfl, _, _, _, _, _, rfl, (S0.bM _ _ h_p_self), T.cl_Format, T.n_Format_depth, rfl, _, _, rfl, rfl, (shl_side g576.1 g576.2.1 g576.2.2.1 g576.2.2.2), _, _, rfl, rfl, ?_⟩
    have hw := cW_ok hw
    exact hK0 _ hw _ S0.b0

abbrev N_law : List Str := ["script", "lows", "highs", "draws", "numbers", "fmt", "plain", "bad", "other", "twin", "free", "change", "third", "same", "k"]
theorem sc_law : FnScope N_law ["script"] (defScope s_law) := ⟨rfl, rfl, rfl, by decide +kernel, rfl, by decide +kernel, by decide +kernel⟩
theorem ok_law {f : Addr} {fd : FuncData} (F : FunD K "law" "law" (defArgs s_law) (defBody s_law) (defScope s_law) [] [] f fd) (T : Txt K mg AD) (c__law_draws : CalX P w K mg base 1 "_law_draws" (sp__law_draws K AD) pats__law_draws) (c__law_cell : CalX P w K mg base 1 "_law_cell" (sp__law_cell K AD) pats__law_cell) (c__law_between : CalX P w K mg base 1 "_law_between" (sp__law_between K AD) pats__law_between) (c_Format___init__ : MakX P w K mg base 1 "Format" AD.c_Format (sp_Format___init__ K AD) pats_Format___init__) (c__law_planes : CalX P w K mg base 6 "_law_planes" (sp__law_planes K AD) pats__law_planes) (c_Format_top : PropY P w K mg base 1 AD.c_Format "top" (sp_Format_top K AD) pats_Format_top) (c_Format_middle : PropY P w K mg base 1 AD.c_Format "middle" (sp_Format_middle K AD) pats_Format_middle) (c_Format___eq__ : MetX P w K mg base 1 AD.c_Format "__eq__" (sp_Format___eq__ K AD) pats_Format___eq__) (c__law_refused : CalX P w K mg base 3 "_law_refused" (sp__law_refused K AD) pats__law_refused) : FnG P w K mg base CX0 7 f fd ["script"] (sp_law K AD) := by
  refine FnG.bodyN F sc_law (fun vs H Q E h => ?_) (fun cdv A_ outer s H vs Q E hr h => ?_)
  · obtain ⟨a_script, script, rfl, _⟩ := h
    rfl
  · obtain ⟨a_script, script', rfl, q_script, hw, k⟩ := h
    refine ⟨_, (pss_cons (ps_set (i := 1) sc_law.nd rfl (Or.inr rfl) (pe_lst (pa_cons pe_int (pa_cons pe_int (pa_cons pe_int (pa_cons pe_int pa_nil))))))
      (pss_cons (ps_set (i := 2) sc_law.nd rfl (Or.inr rfl) (pe_lst (pa_cons pe_int (pa_cons pe_int (pa_cons pe_int (pa_cons pe_int pa_nil))))))
      (pss_cons (ps_set (i := 3) sc_law.nd rfl (Or.inr rfl) (vx_callX c__law_draws pat__law_draws_0 (.head _) hr (by decide) takes0 rfl (pa_cons (vx_callX c__law_cell pat__law_cell_0 (.head _) hr (by decide) takes0 rfl (pa_cons (pv 0) (pa_cons pe_int pa_nil)) pk_nil) (pa_cons (pe_lst (pa_cons pe_int (pa_cons pe_int (pa_cons pe_int (pa_cons pe_int (pa_cons pe_int (pa_cons pe_int (pa_cons pe_int (pa_cons pe_int pa_nil))))))))) pa_nil)) pk_nil))
      (pss_cons (ps_setLc (i := 4) (y := "numbers") rfl sc_law.nd rfl rfl (sw_true rfl rfl rfl (by decide +kernel)) (own := [("k", 14)]) (g := gName 14) (pi_range1 rfl T.b_range (pa_cons pe_int pa_nil)) (blkOk_by (own := [("k", 14)]) (N := N_law) (sc := defScope s_law) (by decide +kernel)) (fun _ _ _ _ _ => (pg_name (i := 14) sc_law.nd rfl (Or.inl rfl))) (fun _ _ _ _ _ => pts_nil) (fun _ _ _ _ _ => (vx_callX c__law_between pat__law_between_0 (.head _) hr (by decide) takes0 rfl (pa_cons (pe_ix (ix_listK (K := K)) (pv 3) (pe_op op_mul pe_int (pv 14)) (fun _ _ => rfl)) (pa_cons (pe_ix (ix_listK (K := K)) (pv 3) (pe_op op_add (pe_op op_mul pe_int (pv 14)) pe_int) (fun _ _ => rfl)) (pa_cons (pe_ix (ix_listK (K := K)) (pv 1) (pv 14) (fun _ _ => rfl)) (pa_cons (pe_ix (ix_listK (K := K)) (pv 2) (pv 14) (fun _ _ => rfl)) pa_nil)))) pk_nil)))
      (pss_cons (ps_set (i := 5) sc_law.nd rfl (Or.inl rfl) (vx_makeX c_Format___init__ pat_Format___init___0 (.head _) hr (by decide) takes0 rfl (pa_cons (pe_ix (ix_listK (K := K)) (pv 4) pe_int (fun _ _ => rfl)) (pa_cons (pe_ix (ix_listK (K := K)) (pv 4) pe_int (fun _ _ => rfl)) pa_nil)) (pk_cons (pe_ix (ix_listK (K := K)) (pv 4) pe_int (fun _ _ => rfl)) (pk_cons (pe_ix (ix_listK (K := K)) (pv 4) pe_int (fun _ _ => rfl)) pk_nil))))
      (pss_cons (ps_if (PW.pt (pw_or (pt_cmpR (op_neT (encOk_L encOk_int) hr.units) (pe_lst (pa_cons (fldK (K := K) (pv 5)) (pa_cons (fldK (K := K) (pv 5)) (pa_cons (fldK (K := K) (pv 5)) (pa_cons (fldK (K := K) (pv 5)) pa_nil))))) (pv 4) (nomark _)) (pw_or1 (pt_not (pt_val (vx_callX c__law_planes pat__law_planes_0 (.head _) hr (by decide) takes0 rfl (pa_cons (pv 5) (pa_cons (pv 4) pa_nil)) pk_nil)))))) (pss_one (ps_ret pe_bl)) pss_nil)
      (pss_cons (ps_if (PW.pt (pw_or (pt_cmp (pc_neI (vx_propX c_Format_middle hr (by decide) (pv 5)) (pe_op op_shlW pe_int (pe_op op_sub (pe_ix (ix_listK (K := K)) (pv 4) pe_int (fun _ _ => rfl)) pe_int)))) (pw_or1 (pt_cmp (pc_neI (vx_propX c_Format_top hr (by decide) (pv 5)) (pe_op op_sub (pe_op op_shlW pe_int (pe_ix (ix_listK (K := K)) (pv 4) pe_int (fun _ _ => rfl))) pe_int)))))) (pss_one (ps_ret pe_bl)) pss_nil)
      (pss_cons (ps_set (i := 6) sc_law.nd rfl (Or.inl rfl) (vx_makeX c_Format___init__ pat_Format___init___1 (.tail _ (.head _)) hr (by decide) takes0 rfl (pa_cons (pe_ix (ix_listK (K := K)) (pv 4) pe_int (fun _ _ => rfl)) (pa_cons (pe_ix (ix_listK (K := K)) (pv 4) pe_int (fun _ _ => rfl)) pa_nil)) pk_nil))
      (pss_cons (ps_if (PW.pt (pw_or (pt_cmp (pc_neI (fldK (K := K) (pv 6)) pe_int)) (pw_or (pt_cmp (pc_neI (fldK (K := K) (pv 6)) pe_int)) (pw_or1 (pt_not (pt_val (vx_callX c__law_planes pat__law_planes_0 (.head _) hr (by decide) takes0 rfl (pa_cons (pv 6) (pa_cons (pe_lst (pa_cons (pe_ix (ix_listK (K := K)) (pv 4) pe_int (fun _ _ => rfl)) (pa_cons (pe_ix (ix_listK (K := K)) (pv 4) pe_int (fun _ _ => rfl)) (pa_cons pe_int (pa_cons pe_int pa_nil))))) pa_nil)) pk_nil))))))) (pss_one (ps_ret pe_bl)) pss_nil)
      (pss_cons (ps_set (i := 3) sc_law.nd rfl (Or.inr rfl) (vx_callX c__law_draws pat__law_draws_0 (.head _) hr (by decide) takes0 rfl (pa_cons (vx_callX c__law_cell pat__law_cell_0 (.head _) hr (by decide) takes0 rfl (pa_cons (pv 0) (pa_cons pe_int pa_nil)) pk_nil) (pa_cons (pe_lst (pa_cons pe_int (pa_cons pe_int (pa_cons pe_int (pa_cons pe_int (pa_cons pe_int pa_nil)))))) pa_nil)) pk_nil))
      (pss_cons (ps_set (i := 7) sc_law.nd rfl (Or.inl rfl) (pe_callTy (call_listLK (K := K)) (by rfl) T.b_list (by decide +kernel) (pa_cons (pv 4) pa_nil)))
      (pss_cons (ps_asg (pe_op op_add (pe_op op_add (pe_ix (ix_listK (K := K)) (pv 2) (pe_ix (ix_listK (K := K)) (pv 3) pe_int (fun _ _ => rfl)) (fun _ _ => rfl)) pe_int) (pe_ix (ix_listK (K := K)) (pv 3) pe_int (fun _ _ => rfl))) (pg_sub (pv 7) (pe_ix (ix_listK (K := K)) (pv 3) pe_int (fun _ _ => rfl)) set_list))
      (C8.pss_cut (ps_if (pt_cmp (pc_eqI (pe_ix (ix_listK (K := K)) (pv 3) pe_int (fun _ _ => rfl)) pe_int)) (pss_one (ps_asg (pe_op op_sub (pe_op op_sub (pe_ix (ix_listK (K := K)) (pv 1) (pe_ix (ix_listK (K := K)) (pv 3) pe_int (fun _ _ => rfl)) (fun _ _ => rfl)) pe_int) (pe_ix (ix_listK (K := K)) (pv 3) pe_int (fun _ _ => rfl))) (pg_sub (pv 7) (pe_ix (ix_listK (K := K)) (pv 3) pe_int (fun _ _ => rfl)) set_list))) pss_nil)
      (pss_cons (ps_set (i := 8) sc_law.nd rfl (Or.inl rfl) (pe_callTy (call_listLK (K := K)) (by rfl) T.b_list (by decide +kernel) (pa_cons (pv 4) pa_nil)))
      (pss_cons (ps_asg (pe_op op_add (pe_ix (ix_listK (K := K)) (pv 1) (pe_ix (ix_listK (K := K)) (pv 3) pe_int (fun _ _ => rfl)) (fun _ _ => rfl)) (pe_op op_mod (pe_callTy call_int1 (by rfl) T.b_int (by decide +kernel) (pa_cons (pe_ix (ix_listK (K := K)) (pv 3) pe_int (fun _ _ => rfl)) pa_nil)) (pe_op op_add (pe_op op_sub (pe_ix (ix_listK (K := K)) (pv 2) (pe_ix (ix_listK (K := K)) (pv 3) pe_int (fun _ _ => rfl)) (fun _ _ => rfl)) (pe_ix (ix_listK (K := K)) (pv 1) (pe_ix (ix_listK (K := K)) (pv 3) pe_int (fun _ _ => rfl)) (fun _ _ => rfl))) pe_int))) (pg_sub (pv 8) (pe_ix (ix_listK (K := K)) (pv 3) pe_int (fun _ _ => rfl)) set_list))
      (pss_cons (ps_set (i := 9) sc_law.nd rfl (Or.inl rfl) (vx_makeX c_Format___init__ pat_Format___init___0 (.head _) hr (by decide) takes0 rfl (pa_cons (pe_ix (ix_listK (K := K)) (pv 8) pe_int (fun _ _ => rfl)) (pa_cons (pe_ix (ix_listK (K := K)) (pv 8) pe_int (fun _ _ => rfl)) pa_nil)) (pk_cons (pe_ix (ix_listK (K := K)) (pv 8) pe_int (fun _ _ => rfl)) (pk_cons (pe_ix (ix_listK (K := K)) (pv 8) pe_int (fun _ _ => rfl)) pk_nil))))
      (pss_cons (ps_set (i := 3) sc_law.nd rfl (Or.inr rfl) (vx_callX c__law_draws pat__law_draws_0 (.head _) hr (by decide) takes0 rfl (pa_cons (vx_callX c__law_cell pat__law_cell_0 (.head _) hr (by decide) takes0 rfl (pa_cons (pv 0) (pa_cons pe_int pa_nil)) pk_nil) (pa_cons (pe_lst (pa_cons pe_int (pa_cons pe_int (pa_cons pe_int (pa_cons pe_int (pa_cons pe_int (pa_cons pe_int (pa_cons pe_int (pa_cons pe_int pa_nil))))))))) pa_nil)) pk_nil))
      (pss_cons (ps_setLc (i := 10) (y := "free") rfl sc_law.nd rfl rfl (sw_true rfl rfl rfl (by decide +kernel)) (own := [("k", 14)]) (g := gName 14) (pi_range1 rfl T.b_range (pa_cons pe_int pa_nil)) (blkOk_by (own := [("k", 14)]) (N := N_law) (sc := defScope s_law) (by decide +kernel)) (fun _ _ _ _ _ => (pg_name (i := 14) sc_law.nd rfl (Or.inl rfl))) (fun _ _ _ _ _ => pts_nil) (fun _ _ _ _ _ => (vx_callX c__law_between pat__law_between_0 (.head _) hr (by decide) takes0 rfl (pa_cons (pe_ix (ix_listK (K := K)) (pv 3) (pe_op op_mul pe_int (pv 14)) (fun _ _ => rfl)) (pa_cons (pe_ix (ix_listK (K := K)) (pv 3) (pe_op op_add (pe_op op_mul pe_int (pv 14)) pe_int) (fun _ _ => rfl)) (pa_cons (pe_ix (ix_listK (K := K)) (pv 1) (pv 14) (fun _ _ => rfl)) (pa_cons (pe_ix (ix_listK (K := K)) (pv 2) (pv 14) (fun _ _ => rfl)) pa_nil)))) pk_nil)))
      (pss_cons (ps_for PassesOwn.never rfl (pi_listK (K := K) (pe_lst (pa_cons (pv 10) (pa_cons (pe_op op_cat (pe_lst (pa_cons (pe_ix (ix_listK (K := K)) (pv 4) pe_int (fun _ _ => rfl)) (pa_cons (pe_ix (ix_listK (K := K)) (pv 4) pe_int (fun _ _ => rfl)) pa_nil))) (pe_slice (sl_listK (K := K)) (pv 4) (po_some pe_int) po_none)) (pa_cons (pe_op op_cat (pe_slice (sl_listK (K := K)) (pv 10) po_none (po_some pe_int)) (pe_slice (sl_listK (K := K)) (pv 4) (po_some pe_int) po_none)) (pa_cons (pe_op op_cat (pe_slice (sl_listK (K := K)) (pv 4) po_none (po_some pe_int)) (pe_slice (sl_listK (K := K)) (pv 10) (po_some pe_int) po_none)) pa_nil)))))) (pg_name (i := 11) sc_law.nd rfl (Or.inl rfl)) (pss_cons (ps_set (i := 12) sc_law.nd rfl (Or.inl rfl) (vx_makeX c_Format___init__ pat_Format___init___0 (.head _) hr (by decide) takes0 rfl (pa_cons (pe_ix (ix_listK (K := K)) (pv 11) pe_int (fun _ _ => rfl)) (pa_cons (pe_ix (ix_listK (K := K)) (pv 11) pe_int (fun _ _ => rfl)) pa_nil)) (pk_cons (pe_ix (ix_listK (K := K)) (pv 11) pe_int (fun _ _ => rfl)) (pk_cons (pe_ix (ix_listK (K := K)) (pv 11) pe_int (fun _ _ => rfl)) pk_nil))))
      (pss_one (ps_if (pt_cmpR op_ne (pe_cmpR (op_eqX c_Format___eq__ pat_Format___eq___0 (.head _) hr (by decide)) (pv 5) (pv 12) (nomark _)) (pe_cmpR (op_eqT (encOk_L encOk_int) hr.units) (pv 11) (pv 4) (nomark _)) (nomark _)) (pss_one (ps_ret pe_bl)) pss_nil))))
      (pss_cons (ps_set (i := 13) sc_law.nd rfl (Or.inl rfl) (vx_makeX c_Format___init__ pat_Format___init___0 (.head _) hr (by decide) takes0 rfl (pa_cons (pe_ix (ix_listK (K := K)) (pv 4) pe_int (fun _ _ => rfl)) (pa_cons (pe_ix (ix_listK (K := K)) (pv 4) pe_int (fun _ _ => rfl)) pa_nil)) (pk_cons (pe_ix (ix_listK (K := K)) (pv 4) pe_int (fun _ _ => rfl)) (pk_cons (pe_ix (ix_listK (K := K)) (pv 4) pe_int (fun _ _ => rfl)) pk_nil))))
      (pss_cons (ps_if (PW.pt (pw_or (pt_cmpR op_ne (pe_cmpR (op_eqX c_Format___eq__ pat_Format___eq___0 (.head _) hr (by decide)) (pv 5) (pv 9) (nomark _)) (pe_cmpR (op_eqT (encOk_L encOk_int) hr.units) (pv 8) (pv 4) (nomark _)) (nomark _)) (pw_or1 (pt_cmpR op_notTrue (pe_cmpR (op_eqX c_Format___eq__ pat_Format___eq___0 (.head _) hr (by decide)) (pv 5) (pv 13) (nomark _)) pe_bl (nomark _))))) (pss_one (ps_ret pe_bl)) pss_nil)
      (pss_one (ps_ret (vx_callX c__law_refused pat__law_refused_0 (.head _) hr (by decide) takes0 rfl (pa_cons (pv 7) pa_nil) pk_nil)))))))))))))))))))))))), ?_⟩
    obtain ⟨KK, EE, hK0, hE, hw⟩ := cW_gen hw
    have S0 := Sep.start0 H
    unfold F_law at hw
    refine ⟨(by show 4 ≤ sizeLine; decide), fun p577 n578 => ?_⟩
    generalize g579 : upd H p577 _ = H580
    obtain ⟨e581, h582⟩ := gen_new n578 g579
    have h583 : H580 p577 = some (.lst (([1, 1, 8, 0] : (List Int)).map V.int)) := h582
    have fr584 := S0.free n578
    have S585 := S0.new n578 e581 h583 fr584
    refine ⟨(by show 4 ≤ sizeLine; decide), fun p586 n587 => ?_⟩
    generalize g588 : upd H580 p586 _ = H589
    obtain ⟨e590, h591⟩ := gen_new n587 g588
    have h592 : H589 p586 = some (.lst (([256, 256, 12, 2] : (List Int)).map V.int)) := h591
    have fr593 := S585.free n587
    have S594 := S585.new n587 e590 h592 fr593
    refine ⟨_, rfl, rfl, rfl, H, _, _, _, rfl, S594.sG, (S594.b0.seq q_script), cW_call hw (fun v595 hw => ?_) (fun e he => (hE e he).elim)⟩
    refine ⟨(by show 8 ≤ sizeLine; decide), fun p596 n597 => ?_⟩
    generalize g598 : upd H589 p596 _ = H599
    obtain ⟨e600, h601⟩ := gen_new n597 g598
    have h602 : H599 p596 = some (.lst (([6, 256, 6, 256, 6, 5, 6, 3] : (List Int)).map V.int)) := h601
    have fr603 := S594.free n597
    have S604 := S594.new n597 e600 h602 fr603
    refine ⟨rfl, rfl, H, _, _, _, rfl, S604.sG, (hide_nil h602), cW_call hw (fun v605 hw p608 H606 n609 e607 h610 => ?_) (fun e he => (hE e he).elim)⟩
    have h611 : H606 p608 = some (.lst ((v605 : (List Int)).map V.int)) := h610
    have fr612 := S604.free n609
    have S613 := S604.new n609 e607 h611 fr612
    obtain ⟨K618, hK619, hw⟩ := cW_push hw
    refine ⟨_, rfl, (by decide), (by decide), fun D620 n621 => lc_range (lo := 0) (n := Int.toNat (4)) (fun i H' => ∃ (G' : Hp) (acc623 : (List Int)), Same H G' ∧ Sep [] H H G' H' [D620, p577, p586, p608] ∧ H' p577 = some (.lst (([1, 1, 8, 0] : (List Int)).map V.int)) ∧ H' p586 = some (.lst (([256, 256, 12, 2] : (List Int)).map V.int)) ∧ H' p608 = some (.lst ((v605 : (List Int)).map V.int)) ∧ H' D620 = some (.lst ((acc623 : (List Int)).map V.int)) ∧ Same H606 H' ∧ cW (mapA (List.drop i (rng (0) (Int.toNat (4)))) acc623 (fun x => noEr (F_law_c1 ([1, 1, 8, 0]) ([256, 256, 12, 2]) (v605) x))) K618 EE) ?_ ?_ ?_⟩
    · generalize g625 : upd H606 D620 _ = H626
      obtain ⟨e627, h628⟩ := gen_new n621 g625
      have fr629 := S613.free n621
      have S630 := S613.new n621 e627 h628 fr629
      have h631 := (e627 _ _ (e607 _ _ (e600 _ _ (e590 _ _ h583))))
      have h632 := (e627 _ _ (e607 _ _ (e600 _ _ h592)))
      have h633 := (e627 _ _ h611)
      exact ⟨_, [], Same.refl _, (S630.sub (all_cons (.head _) (all_cons (.tail _ (.tail _ (.tail _ (.tail _ (.head _))))) (all_cons (.tail _ (.tail _ (.tail _ (.head _)))) (all_cons (.tail _ (.head _)) all_nil))))), h631, h632, h633, h628, e627, hw⟩
    · intro i H634 hi hw
      obtain ⟨G637, acc639, eG638, S635, h646, h647, h648, h636, eo645, hw⟩ := hw
      obtain ⟨z649, hw⟩ := cW_mapA (rng_get hi) hw
      generalize (0 + (i : Int)) = x650 at hw ⊢
      have hw := cW_noEr hw
      have hw : cW (F_law_c1 ([1, 1, 8, 0]) ([256, 256, 12, 2]) (v605) (x650)) _ (fun _ => False) := hw
      unfold F_law_c1 at hw
      refine ⟨rfl, ?_⟩
      refine tyes_go ?_
      obtain ⟨g652, hw⟩ := cW_grd hw
      obtain ⟨g653, hw⟩ := cW_grd hw
      obtain ⟨g654, hw⟩ := cW_grd hw
      obtain ⟨g655, hw⟩ := cW_grd hw
      refine ⟨_, rfl, _, rfl, _, _, rfl, rfl, (.inl ⟨by decide, by decide⟩), _, _, _, _, rfl, rfl, (SqL.of h648), (atI_map g652), _, rfl, _, rfl, _, _, rfl, rfl, (.inl ⟨by decide, by decide⟩), _, _, rfl, rfl, _, _, _, _, rfl, rfl, (SqL.of h648), (atI_map g653), _, rfl, _, rfl, _, _, _, _, rfl, rfl, (SqL.of h646), (atI_map g654), _, rfl, _, rfl, _, _, _, _, rfl, rfl, (SqL.of h647), (atI_map g655), rfl, rfl, G637, _, _, _, _, rfl, S635.sG, cW_call hw (fun v656 hw => ?_) (fun e he => he.elim)⟩
      refine ⟨_, h636, (app_lenM z649), ?_⟩
      generalize g657 : upd H634 D620 _ = H658
      obtain ⟨x659, h660⟩ := gen_mut g657
      have S661 := S635.mut1 x659 (.head _) h660
      have hw := cW_ok hw
      have h662 := (x659 _ _ h646 (ne_of_none (e607 _ _ (e600 _ _ (e590 _ _ h583))) n621))
      have h663 := (x659 _ _ h647 (ne_of_none (e607 _ _ (e600 _ _ h592)) n621))
      have h664 := (x659 _ _ h648 (ne_of_none h611 n621))
      exact ⟨_, (acc639 ++ [v656]), eG638, S661, h662, h663, h664, (snoc_map h660), (same_mut eo645 x659 n621), hw⟩
    intro H665 hw
    obtain ⟨G668, acc670, eG669, S666, h677, h678, h679, h667, eo676, hw⟩ := hw
    have hw := hK619 _ (cW_mapA0 (rng_len _ _).symm hw)
    have fr680 := S613.free n621
    obtain ⟨g681, hw⟩ := cW_grd hw
    obtain ⟨g682, hw⟩ := cW_grd hw
    obtain ⟨g683, hw⟩ := cW_grd hw
    obtain ⟨g684, hw⟩ := cW_grd hw
    refine ⟨_, rfl, _, _, _, _, rfl, rfl, (SqL.of h667), (atI_map g681), _, rfl, _, _, _, _, rfl, rfl, (SqL.of h667), (atI_map g682), _, rfl, _, _, _, _, rfl, rfl, (SqL.of h667), (atI_map g683), _, rfl, _, _, _, _, rfl, rfl, (SqL.of h667), (atI_map g684), rfl, rfl, fun x685 dx686 n687 n688 n689 => ?_⟩
    generalize g690 : upd (upd H665 dx686 _) x685 _ = H691
    obtain ⟨e692, h693⟩ := gen_obj n687 n688 n689 g690
    have fr694 := S666.free n687
    have S695 := S666.new n687 e692 h693 fr694
    refine ⟨G668, _, _, _, _, _, _, rfl, S695.sG, (S695.gno (all_cons (.head _) all_nil)), h693, cW_call hw (fun v696 hw H697 x698 h699 => ⟨rfl, ?_⟩) (fun e he => (hE e he).elim)⟩
    have S700 : Sep _ _ _ _ H697 [x685, D620, p577, p586, p608] := Sep.init S695 x698 (.head _) h699 [] all_nil
    refine ⟨_, rfl, _, _, _, _, _, rfl, h699, T.cl_Format, T.n_Format_width, rfl, _, rfl, _, _, _, _, _, rfl, h699, T.cl_Format, T.n_Format_height, rfl, _, rfl, _, _, _, _, _, rfl, h699, T.cl_Format, T.n_Format_depth, rfl, _, rfl, _, _, _, _, _, rfl, h699, T.cl_Format, T.n_Format_chroma, rfl, (by show 4 ≤ sizeLine; decide), fun p701 n702 => ?_⟩
    generalize g703 : upd H697 p701 _ = H704
    obtain ⟨e705, h706⟩ := gen_new n702 g703
    have h707 : H704 p701 = some (.lst (([v696.width, v696.height, v696.depth, v696.chroma] : (List Int)).map V.int)) := h706
    have fr708 := S700.free n702
    have S709 := S700.new n702 e705 h707 fr708
    have h710 := (e705 _ _ ((SameXs.of x698) _ _ (e692 _ _ h667) (ni1 (ne_of_none h667 n687))))
    refine ⟨_, rfl, _, _, (rp_mk_ints h707), (rp_mk_ints h710), _, rfl, ?_⟩
    refine iteN (fun c711 => ?_) (fun c711 => ?_)
    · have hw := cW_neg c711 hw
      refine iteT ?_
      have hw := cW_ok hw
      exact eq_bl (k _) (hK0 _ hw).symm
    · have hw := cW_pos c711 hw
      have h712 := (e705 _ _ h699)
      refine ⟨_, rfl, _, rfl, rfl, rfl, G668, _, _, v696, _, _, rfl, S709.sG, (hide_nil h712), (hide_nil h710), cW_call hw (fun v713 hw H714 e715 => ?_) (fun e he => (hE e he).elim)⟩
      have S716 := S709.same e715
      refine ⟨_, rfl, ?_⟩
      refine iteBN (fun c717 => ?_) (fun c717 => ?_)
      · have hw := cW_negB c717 hw
        have hw := cW_ok hw
        exact eq_bl (k _) (hK0 _ hw).symm
      · have hw := cW_pos c717 hw
        have h718 := (e715 _ _ h712)
        refine ⟨_, rfl, _, _, _, rfl, h718, G668, _, _, v696, rfl, S716.sG, (hide_nil h718), cW_callN hw (fun v719 hw H720 e721 => ?_) trivial⟩
        have S722 := S716.same e721
        obtain ⟨g723, hw⟩ := cW_grd hw
        have h724 := (e721 _ _ (e715 _ _ h710))
        obtain ⟨g725, hw⟩ := cW_grd hw
        refine ⟨_, rfl, _, _, _, _, rfl, rfl, (SqL.of h724), (atI_map g723), _, _, rfl, rfl, _, _, rfl, rfl, (shl_side g725.1 g725.2.1 g725.2.2.1 g725.2.2.2), _, _, rfl, rfl, _, rfl, ?_⟩
        refine iteN (fun c726 => ?_) (fun c726 => ?_)
        · have hw := cW_neg c726 hw
          refine iteT ?_
          have hw := cW_ok hw
          exact eq_bl (k _) (hK0 _ hw).symm
        · have hw := cW_pos c726 hw
          have h727 := (e721 _ _ h718)
          refine ⟨_, rfl, _, _, _, rfl, h727, G668, _, _, v696, rfl, S722.sG, (hide_nil h727), cW_callN hw (fun v728 hw H729 e730 => ?_) trivial⟩
          have S731 := S722.same e730
          obtain ⟨g732, hw⟩ := cW_grd hw
          have h733 := (e730 _ _ h724)
          obtain ⟨g734, hw⟩ := cW_grd hw
          refine ⟨_, rfl, _, _, _, _, rfl, rfl, (SqL.of h733), (atI_map g732), _, _, rfl, rfl, (shl_side g734.1 g734.2.1 g734.2.2.1 g734.2.2.2), _, _, rfl, rfl, _, _, rfl, rfl, _, rfl, ?_⟩
          refine iteN (fun c735 => ?_) (fun c735 => ?_)
          · have hw := cW_neg c735 hw
            have hw := cW_ok hw
            exact eq_bl (k _) (hK0 _ hw).symm
          · have hw := cW_pos c735 hw
            obtain ⟨g736, hw⟩ := cW_grd hw
            obtain ⟨g737, hw⟩ := cW_grd hw
            refine ⟨_, rfl, _, _, _, _, rfl, rfl, (SqL.of h733), (atI_map g736), _, rfl, _, _, _, _, rfl, rfl, (SqL.of h733), (atI_map g737), rfl, rfl, fun x738 dx739 n740 n741 n742 => ?_⟩
            generalize g743 : upd (upd H729 dx739 _) x738 _ = H744
            obtain ⟨e745, h746⟩ := gen_obj n740 n741 n742 g743
            have fr747 := S731.free n740
            have S748 := S731.new n740 e745 h746 fr747
            refine ⟨G668, _, _, _, _, _, _, rfl, S748.sG, (S748.gno (all_cons (.head _) all_nil)), h746, cW_call hw (fun v749 hw H750 x751 h752 => ⟨rfl, ?_⟩) (fun e he => (hE e he).elim)⟩
            have S753 : Sep _ _ _ _ H750 [x738, p701, x685, D620, p577, p586, p608] := Sep.init S748 x751 (.head _) h752 [] all_nil
            refine ⟨_, rfl, _, _, _, _, _, rfl, h752, T.cl_Format, T.n_Format_depth, rfl, _, _, rfl, rfl, _, rfl, ?_⟩
            refine iteN (fun c754 => ?_) (fun c754 => ?_)
            · have hw := cW_neg c754 hw
              refine iteT ?_
              have hw := cW_ok hw
              exact eq_bl (k _) (hK0 _ hw).symm
            · have hw := cW_pos c754 hw
              refine ⟨_, rfl, _, _, _, _, _, rfl, h752, T.cl_Format, T.n_Format_chroma, rfl, _, _, rfl, rfl, _, rfl, ?_⟩
              refine iteN (fun c755 => ?_) (fun c755 => ?_)
              · have hw := cW_neg c755 hw
                refine iteT ?_
                have hw := cW_ok hw
                exact eq_bl (k _) (hK0 _ hw).symm
              · have hw := cW_pos c755 hw
                obtain ⟨g756, hw⟩ := cW_grd hw
                have h757 := ((SameXs.of x751) _ _ (e745 _ _ h733) (ni1 (ne_of_none h733 n740)))
                obtain ⟨g758, hw⟩ := cW_grd hw
                refine ⟨_, rfl, _, rfl, _, _, _, _, rfl, rfl, (SqL.of h757), (atI_map g756), _, rfl, _, _, _, _, rfl, rfl, (SqL.of h757), (atI_map g758), (by show 4 ≤ sizeLine; decide), fun p759 n760 => ?_⟩
                generalize g761 : upd H750 p759 _ = H762
                obtain ⟨e763, h764⟩ := gen_new n760 g761
                have h765 : H762 p759 = some (.lst (([(itD (acc670) (0)), (itD (acc670) (1)), 8, 0] : (List Int)).map V.int)) := h764
                have fr766 := S753.free n760
                have S767 := S753.new n760 e763 h765 fr766
                have h768 := (e763 _ _ h752)
                refine ⟨rfl, rfl, G668, _, _, v749, _, _, rfl, S767.sG, (hide_nil h768), (hide_nil h765), cW_call hw (fun v769 hw H770 e771 => ?_) (fun e he => (hE e he).elim)⟩
                have S772 := S767.same e771
                refine ⟨_, rfl, ?_⟩
                refine iteBN (fun c773 => ?_) (fun c773 => ?_)
                · have hw := cW_negB c773 hw
                  have hw := cW_ok hw
                  exact eq_bl (k _) (hK0 _ hw).symm
                · have hw := cW_pos c773 hw
                  refine ⟨_, rfl, rfl, rfl, G668, _, _, _, rfl, S772.sG, (S772.b0.seq q_script), cW_call hw (fun v774 hw => ?_) (fun e he => (hE e he).elim)⟩
                  refine ⟨(by show 5 ≤ sizeLine; decide), fun p775 n776 => ?_⟩
                  generalize g777 : upd H770 p775 _ = H778
                  obtain ⟨e779, h780⟩ := gen_new n776 g777
                  have h781 : H778 p775 = some (.lst (([4, 2, 1000, 4, 256] : (List Int)).map V.int)) := h780
                  have fr782 := S772.free n776
                  have S783 := S772.new n776 e779 h781 fr782
                  refine ⟨rfl, rfl, G668, _, _, _, rfl, S783.sG, (hide_nil h781), cW_call hw (fun v784 hw p787 H785 n788 e786 h789 => ?_) (fun e he => (hE e he).elim)⟩
                  have h790 : H785 p787 = some (.lst ((v784 : (List Int)).map V.int)) := h789
                  have fr791 := S783.free n788
                  have S792 := S783.new n788 e786 h790 fr791
                  have h793 := (e786 _ _ (e779 _ _ (e771 _ _ (e763 _ _ h757))))
                  refine ⟨_, rfl, _, _, rfl, (SqL.of h793), fun p794 n795 => ?_⟩
                  generalize g796 : upd H785 p794 _ = H797
                  obtain ⟨e798, h799⟩ := gen_new n795 g796
                  have h800 : H797 p794 = some (.lst ((acc670 : (List Int)).map V.int)) := h799
                  have fr801 := S792.free n795
                  have S802 := S792.new n795 e798 h800 fr801
                  obtain ⟨g803, hw⟩ := cW_grd hw
                  have h804 := (e798 _ _ h790)
                  obtain ⟨g805, hw⟩ := cW_grd hw
                  have h806 := (e798 _ _ (e786 _ _ (e779 _ _ (e771 _ _ (e763 _ _ ((SameXs.of x751) _ _ (e745 _ _ (e730 _ _ (e721 _ _ (e715 _ _ (e705 _ _ ((SameXs.of x698) _ _ (e692 _ _ h678) (ni1 (ne_of_none h678 n687)))))))) (ni1 (ne_of_none (e730 _ _ (e721 _ _ (e715 _ _ (e705 _ _ ((SameXs.of x698) _ _ (e692 _ _ h678) (ni1 (ne_of_none h678 n687))))))) n740))))))))
                  obtain ⟨g807, hw⟩ := cW_grd hw
                  obtain ⟨g808, hw⟩ := cW_grd hw
                  obtain ⟨g809, hw⟩ := cW_grd hw
                  refine ⟨_, rfl, _, rfl, _, _, _, _, rfl, rfl, (SqL.of h804), (atI_map g803), _, _, _, _, rfl, rfl, (SqL.of h806), (atI_map g805), _, _, rfl, rfl, _, rfl, _, _, _, _, rfl, rfl, (SqL.of h804), (atI_map g807), _, _, rfl, rfl, _, rfl, _, rfl, _, _, _, _, rfl, rfl, (SqL.of h804), (atI_map g808), _, _, _, _, rfl, rfl, h800, (ixN_map g809), ?_⟩
                  generalize g810 : upd H797 p794 _ = H811
                  obtain ⟨x812, h813⟩ := gen_mut g810
                  have h814 : H811 p794 = some (.lst ((setL (acc670) ((itD (v784) (0))) ((((itD ([256, 256, 12, 2]) ((itD (v784) (0)))) + 1) + (itD (v784) (2)))) : (List Int)).map V.int)) := set_map h813
                  have S815 := S802.mut1 x812 (.head _) h814
                  have hw := cW_bnd hw
                  refine ⟨fun σ H' => ∃ (bad_824 : (List Int)) (G' : Hp), σ = [some (V.ref a_script), some (V.ref p577), some (V.ref p586), some (V.ref p787), some (V.ref D620), some (V.ref x685), some (V.ref x738), some (V.ref p794), none, none, none, none, none, none, none] ∧ Same G668 G' ∧ Sep [] H H G' H' [p577, p586, p787, D620, x685, x738, p794] ∧ H' p577 = some (.lst (([1, 1, 8, 0] : (List Int)).map V.int)) ∧ H' p586 = some (.lst (([256, 256, 12, 2] : (List Int)).map V.int)) ∧ H' p787 = some (.lst ((v784 : (List Int)).map V.int)) ∧ H' D620 = some (.lst ((acc670 : (List Int)).map V.int)) ∧ H' x685 = some (.ins AD.c_Format dx686 [("width", V.int (v696.width)), ("height", V.int (v696.height)), ("depth", V.int (v696.depth)), ("chroma", V.int (v696.chroma))]) ∧ H' x738 = some (.ins AD.c_Format dx739 [("width", V.int (v749.width)), ("height", V.int (v749.height)), ("depth", V.int (v749.depth)), ("chroma", V.int (v749.chroma))]) ∧ H' p794 = some (.lst ((bad_824 : (List Int)).map V.int)) ∧ cW (F_law_k2 (script') ([1, 1, 8, 0]) ([256, 256, 12, 2]) (v784) (acc670) (v696) bad_824) KK EE, ?_, ?_⟩
                  · obtain ⟨K825, hK826, hw⟩ := cW_push hw
                    obtain ⟨g827, hw⟩ := cW_grd hw
                    have h828 := (x812 _ _ h804 (ne_of_none h790 n795))
                    refine ⟨_, rfl, _, _, _, _, rfl, rfl, (SqL.of h828), (atI_map g827), _, _, rfl, rfl, _, rfl, ?_⟩
                    refine iteD (fun c829 => ?_) (fun c829 => ?_)
                    · have hw := cW_pos c829 hw
                      obtain ⟨g830, hw⟩ := cW_grd hw
                      obtain ⟨g831, hw⟩ := cW_grd hw
                      have h832 := (x812 _ _ (e798 _ _ (e786 _ _ (e779 _ _ (e771 _ _ (e763 _ _ ((SameXs.of x751) _ _ (e745 _ _ (e730 _ _ (e721 _ _ (e715 _ _ (e705 _ _ ((SameXs.of x698) _ _ (e692 _ _ h677) (ni1 (ne_of_none h677 n687)))))))) (ni1 (ne_of_none (e730 _ _ (e721 _ _ (e715 _ _ (e705 _ _ ((SameXs.of x698) _ _ (e692 _ _ h677) (ni1 (ne_of_none h677 n687))))))) n740)))))))) (ne_of_none (e786 _ _ (e779 _ _ (e771 _ _ (e763 _ _ ((SameXs.of x751) _ _ (e745 _ _ (e730 _ _ (e721 _ _ (e715 _ _ (e705 _ _ ((SameXs.of x698) _ _ (e692 _ _ h677) (ni1 (ne_of_none h677 n687)))))))) (ni1 (ne_of_none (e730 _ _ (e721 _ _ (e715 _ _ (e705 _ _ ((SameXs.of x698) _ _ (e692 _ _ h677) (ni1 (ne_of_none h677 n687))))))) n740))))))) n795))
                      obtain ⟨g833, hw⟩ := cW_grd hw
                      obtain ⟨g834, hw⟩ := cW_grd hw
                      obtain ⟨g835, hw⟩ := cW_grd hw
                      refine ⟨_, rfl, _, rfl, _, _, _, _, rfl, rfl, (SqL.of h828), (atI_map g830), _, _, _, _, rfl, rfl, (SqL.of h832), (atI_map g831), _, _, rfl, rfl, _, rfl, _, _, _, _, rfl, rfl, (SqL.of h828), (atI_map g833), _, _, rfl, rfl, _, rfl, _, rfl, _, _, _, _, rfl, rfl, (SqL.of h828), (atI_map g834), _, _, _, _, rfl, rfl, h814, (ixN_map g835), ?_⟩
                      generalize g836 : upd H811 p794 _ = H837
                      obtain ⟨x838, h839⟩ := gen_mut g836
                      have h840 : H837 p794 = some (.lst ((setL (setL (acc670) ((itD (v784) (0))) ((((itD ([256, 256, 12, 2]) ((itD (v784) (0)))) + 1) + (itD (v784) (2))))) ((itD (v784) (0))) ((((itD ([1, 1, 8, 0]) ((itD (v784) (0)))) - 1) - (itD (v784) (2)))) : (List Int)).map V.int)) := set_map h839
                      have S841 := S815.mut1 x838 (.head _) h840
                      have hw := cW_bnd hw
                      have hw := cW_ok hw
                      have hw := hK826 _ hw
                      have h843 := (x838 _ _ h832 (ne_of_none (e786 _ _ (e779 _ _ (e771 _ _ (e763 _ _ ((SameXs.of x751) _ _ (e745 _ _ (e730 _ _ (e721 _ _ (e715 _ _ (e705 _ _ ((SameXs.of x698) _ _ (e692 _ _ h677) (ni1 (ne_of_none h677 n687)))))))) (ni1 (ne_of_none (e730 _ _ (e721 _ _ (e715 _ _ (e705 _ _ ((SameXs.of x698) _ _ (e692 _ _ h677) (ni1 (ne_of_none h677 n687))))))) n740))))))) n795))
                      have h844 := (x838 _ _ (x812 _ _ h806 (ne_of_none (e786 _ _ (e779 _ _ (e771 _ _ (e763 _ _ ((SameXs.of x751) _ _ (e745 _ _ (e730 _ _ (e721 _ _ (e715 _ _ (e705 _ _ ((SameXs.of x698) _ _ (e692 _ _ h678) (ni1 (ne_of_none h678 n687)))))))) (ni1 (ne_of_none (e730 _ _ (e721 _ _ (e715 _ _ (e705 _ _ ((SameXs.of x698) _ _ (e692 _ _ h678) (ni1 (ne_of_none h678 n687))))))) n740))))))) n795)) (ne_of_none (e786 _ _ (e779 _ _ (e771 _ _ (e763 _ _ ((SameXs.of x751) _ _ (e745 _ _ (e730 _ _ (e721 _ _ (e715 _ _ (e705 _ _ ((SameXs.of x698) _ _ (e692 _ _ h678) (ni1 (ne_of_none h678 n687)))))))) (ni1 (ne_of_none (e730 _ _ (e721 _ _ (e715 _ _ (e705 _ _ ((SameXs.of x698) _ _ (e692 _ _ h678) (ni1 (ne_of_none h678 n687))))))) n740))))))) n795))
                      have h845 := (x838 _ _ h828 (ne_of_none h790 n795))
                      have h846 := (x838 _ _ (x812 _ _ (e798 _ _ h793) (ne_of_none h793 n795)) (ne_of_none h793 n795))
                      have h847 := (x838 _ _ (x812 _ _ (e798 _ _ (e786 _ _ (e779 _ _ (e771 _ _ (e763 _ _ ((SameXs.of x751) _ _ (e745 _ _ (e730 _ _ h727)) (ni1 (ne_of_none (e730 _ _ h727) n740)))))))) (ne_of_none (e786 _ _ (e779 _ _ (e771 _ _ (e763 _ _ ((SameXs.of x751) _ _ (e745 _ _ (e730 _ _ h727)) (ni1 (ne_of_none (e730 _ _ h727) n740))))))) n795)) (ne_of_none (e786 _ _ (e779 _ _ (e771 _ _ (e763 _ _ ((SameXs.of x751) _ _ (e745 _ _ (e730 _ _ h727)) (ni1 (ne_of_none (e730 _ _ h727) n740))))))) n795))
                      have h848 := (x838 _ _ (x812 _ _ (e798 _ _ (e786 _ _ (e779 _ _ (e771 _ _ h768)))) (ne_of_none (e786 _ _ (e779 _ _ (e771 _ _ h768))) n795)) (ne_of_none (e786 _ _ (e779 _ _ (e771 _ _ h768))) n795))
                      exact ⟨(setL (setL (acc670) ((itD (v784) (0))) ((((itD ([256, 256, 12, 2]) ((itD (v784) (0)))) + 1) + (itD (v784) (2))))) ((itD (v784) (0))) ((((itD ([1, 1, 8, 0]) ((itD (v784) (0)))) - 1) - (itD (v784) (2))))), _, rfl, (Same.refl _), (S841.sub (all_cons (.tail _ (.tail _ (.tail _ (.tail _ (.tail _ (.tail _ (.tail _ (.tail _ (.head _))))))))) (all_cons (.tail _ (.tail _ (.tail _ (.tail _ (.tail _ (.tail _ (.tail _ (.tail _ (.tail _ (.head _)))))))))) (all_cons (.tail _ (.head _)) (all_cons (.tail _ (.tail _ (.tail _ (.tail _ (.tail _ (.tail _ (.tail _ (.head _)))))))) (all_cons (.tail _ (.tail _ (.tail _ (.tail _ (.tail _ (.tail _ (.head _))))))) (all_cons (.tail _ (.tail _ (.tail _ (.tail _ (.head _))))) (all_cons (.head _) all_nil)))))))), h843, h844, h845, h846, h847, h848, h840, hw⟩
                    · have hw := cW_neg c829 hw
                      have hw := cW_ok hw
                      have hw := hK826 _ hw
                      have h849 := (x812 _ _ (e798 _ _ (e786 _ _ (e779 _ _ (e771 _ _ (e763 _ _ ((SameXs.of x751) _ _ (e745 _ _ (e730 _ _ (e721 _ _ (e715 _ _ (e705 _ _ ((SameXs.of x698) _ _ (e692 _ _ h677) (ni1 (ne_of_none h677 n687)))))))) (ni1 (ne_of_none (e730 _ _ (e721 _ _ (e715 _ _ (e705 _ _ ((SameXs.of x698) _ _ (e692 _ _ h677) (ni1 (ne_of_none h677 n687))))))) n740)))))))) (ne_of_none (e786 _ _ (e779 _ _ (e771 _ _ (e763 _ _ ((SameXs.of x751) _ _ (e745 _ _ (e730 _ _ (e721 _ _ (e715 _ _ (e705 _ _ ((SameXs.of x698) _ _ (e692 _ _ h677) (ni1 (ne_of_none h677 n687)))))))) (ni1 (ne_of_none (e730 _ _ (e721 _ _ (e715 _ _ (e705 _ _ ((SameXs.of x698) _ _ (e692 _ _ h677) (ni1 (ne_of_none h677 n687))))))) n740))))))) n795))
                      have h850 := (x812 _ _ h806 (ne_of_none (e786 _ _ (e779 _ _ (e771 _ _ (e763 _ _ ((SameXs.of x751) _ _ (e745 _ _ (e730 _ _ (e721 _ _ (e715 _ _ (e705 _ _ ((SameXs.of x698) _ _ (e692 _ _ h678) (ni1 (ne_of_none h678 n687)))))))) (ni1 (ne_of_none (e730 _ _ (e721 _ _ (e715 _ _ (e705 _ _ ((SameXs.of x698) _ _ (e692 _ _ h678) (ni1 (ne_of_none h678 n687))))))) n740))))))) n795))
                      have h851 := (x812 _ _ (e798 _ _ h793) (ne_of_none h793 n795))
                      have h852 := (x812 _ _ (e798 _ _ (e786 _ _ (e779 _ _ (e771 _ _ (e763 _ _ ((SameXs.of x751) _ _ (e745 _ _ (e730 _ _ h727)) (ni1 (ne_of_none (e730 _ _ h727) n740)))))))) (ne_of_none (e786 _ _ (e779 _ _ (e771 _ _ (e763 _ _ ((SameXs.of x751) _ _ (e745 _ _ (e730 _ _ h727)) (ni1 (ne_of_none (e730 _ _ h727) n740))))))) n795))
                      have h853 := (x812 _ _ (e798 _ _ (e786 _ _ (e779 _ _ (e771 _ _ h768)))) (ne_of_none (e786 _ _ (e779 _ _ (e771 _ _ h768))) n795))
                      exact ⟨(setL (acc670) ((itD (v784) (0))) ((((itD ([256, 256, 12, 2]) ((itD (v784) (0)))) + 1) + (itD (v784) (2))))), _, rfl, (Same.refl _), (S815.sub (all_cons (.tail _ (.tail _ (.tail _ (.tail _ (.tail _ (.tail _ (.tail _ (.tail _ (.head _))))))))) (all_cons (.tail _ (.tail _ (.tail _ (.tail _ (.tail _ (.tail _ (.tail _ (.tail _ (.tail _ (.head _)))))))))) (all_cons (.tail _ (.head _)) (all_cons (.tail _ (.tail _ (.tail _ (.tail _ (.tail _ (.tail _ (.tail _ (.head _)))))))) (all_cons (.tail _ (.tail _ (.tail _ (.tail _ (.tail _ (.tail _ (.head _))))))) (all_cons (.tail _ (.tail _ (.tail _ (.tail _ (.head _))))) (all_cons (.head _) all_nil)))))))), h849, h850, h828, h851, h852, h853, h814, hw⟩
                  · intro σ H854 hw
                    obtain ⟨bad_824, G863, rfl, eG864, S855, h856, h857, h858, h859, h860, h861, h862, hw⟩ := hw
                    unfold F_law_k2 at hw
                    refine ⟨_, rfl, _, _, rfl, (SqL.of h859), fun p865 n866 => ?_⟩
                    generalize g867 : upd H854 p865 _ = H868
                    obtain ⟨e869, h870⟩ := gen_new n866 g867
                    have h871 : H868 p865 = some (.lst ((acc670 : (List Int)).map V.int)) := h870
                    have fr872 := S855.free n866
                    have S873 := S855.new n866 e869 h871 fr872
                    obtain ⟨g874, hw⟩ := cW_grd hw
                    have h875 := (e869 _ _ h858)
                    obtain ⟨g876, hw⟩ := cW_grd hw
                    have h877 := (e869 _ _ h856)
                    obtain ⟨g878, hw⟩ := cW_grd hw
                    refine ⟨_, rfl, _, rfl, _, _, _, _, rfl, rfl, (SqL.of h875), (atI_map g874), _, _, _, _, rfl, rfl, (SqL.of h877), (atI_map g876), _, rfl, _, _, _, _, rfl, rfl, (SqL.of h875), (atI_map g878), .inl ⟨_, rfl, ?_⟩⟩
                    obtain ⟨g879, hw⟩ := cW_grd hw
                    obtain ⟨g880, hw⟩ := cW_grd hw
                    have h881 := (e869 _ _ h857)
                    obtain ⟨g882, hw⟩ := cW_grd hw
                    obtain ⟨g883, hw⟩ := cW_grd hw
                    obtain ⟨g884, hw⟩ := cW_grd hw
                    obtain ⟨g885, hw⟩ := cW_grd hw
                    obtain ⟨g886, hw⟩ := cW_grd hw
                    refine ⟨_, rfl, _, rfl, _, _, _, _, rfl, rfl, (SqL.of h875), (atI_map g879), _, _, _, _, rfl, rfl, (SqL.of h881), (atI_map g880), _, rfl, _, rfl, _, _, _, _, rfl, rfl, (SqL.of h875), (atI_map g882), _, _, _, _, rfl, rfl, (SqL.of h877), (atI_map g883), _, _, rfl, rfl, _, _, rfl, rfl, _, _, rfl, rfl, g884, _, _, rfl, rfl, _, rfl, _, rfl, _, _, _, _, rfl, rfl, (SqL.of h875), (atI_map g885), _, _, _, _, rfl, rfl, h871, (ixN_map g886), ?_⟩
                    generalize g887 : upd H868 p865 _ = H888
                    obtain ⟨x889, h890⟩ := gen_mut g887
                    have h891 : H888 p865 = some (.lst ((setL (acc670) ((itD (v784) (3))) (((itD ([1, 1, 8, 0]) ((itD (v784) (3)))) + ((itD (v784) (4)) % (((itD ([256, 256, 12, 2]) ((itD (v784) (3)))) - (itD ([1, 1, 8, 0]) ((itD (v784) (3))))) + 1)))) : (List Int)).map V.int)) := set_map h890
                    have S892 := S873.mut1 x889 (.head _) h891
                    have hw := cW_bnd hw
                    obtain ⟨g894, hw⟩ := cW_grd hw
                    obtain ⟨g895, hw⟩ := cW_grd hw
                    obtain ⟨g896, hw⟩ := cW_grd hw
                    obtain ⟨g897, hw⟩ := cW_grd hw
                    refine ⟨_, rfl, _, _, _, _, rfl, rfl, (SqL.of h891), (atI_map g894), _, rfl, _, _, _, _, rfl, rfl, (SqL.of h891), (atI_map g895), _, rfl, _, _, _, _, rfl, rfl, (SqL.of h891), (atI_map g896), _, rfl, _, _, _, _, rfl, rfl, (SqL.of h891), (atI_map g897), rfl, rfl, fun x898 dx899 n900 n901 n902 => ?_⟩
                    generalize g903 : upd (upd H888 dx899 _) x898 _ = H904
                    obtain ⟨e905, h906⟩ := gen_obj n900 n901 n902 g903
                    have fr907 := S892.free n900
                    have S908 := S892.new n900 e905 h906 fr907
                    refine ⟨G863, _, _, _, _, _, _, rfl, S908.sG, (S908.gno (all_cons (.head _) all_nil)), h906, cW_call hw (fun v909 hw H910 x911 h912 => ⟨rfl, ?_⟩) (fun e he => (hE e he).elim)⟩
                    have S913 : Sep _ _ _ _ H910 [x898, p865, p577, p586, p787, D620, x685, x738, p794] := Sep.init S908 x911 (.head _) h912 [] all_nil
                    refine ⟨_, rfl, rfl, rfl, G863, _, _, _, rfl, S913.sG, (S913.b0.seq q_script), cW_call hw (fun v914 hw => ?_) (fun e he => (hE e he).elim)⟩
                    refine ⟨(by show 8 ≤ sizeLine; decide), fun p915 n916 => ?_⟩
                    generalize g917 : upd H910 p915 _ = H918
                    obtain ⟨e919, h920⟩ := gen_new n916 g917
                    have h921 : H918 p915 = some (.lst (([6, 256, 6, 256, 6, 5, 6, 3] : (List Int)).map V.int)) := h920
                    have fr922 := S913.free n916
                    have S923 := S913.new n916 e919 h921 fr922
                    refine ⟨rfl, rfl, G863, _, _, _, rfl, S923.sG, (hide_nil h921), cW_call hw (fun v924 hw p927 H925 n928 e926 h929 => ?_) (fun e he => (hE e he).elim)⟩
                    have h930 : H925 p927 = some (.lst ((v924 : (List Int)).map V.int)) := h929
                    have fr931 := S923.free n928
                    have S932 := S923.new n928 e926 h930 fr931
                    obtain ⟨K937, hK938, hw⟩ := cW_push hw
                    refine ⟨_, rfl, (by decide), (by decide), fun D939 n940 => lc_range (lo := 0) (n := Int.toNat (4)) (fun i H' => ∃ (G' : Hp) (acc942 : (List Int)), Same G863 G' ∧ Sep [] H H G' H' [D939, p577, p586, p927, D620, x685, x738, p794, p865, x898] ∧ H' p577 = some (.lst (([1, 1, 8, 0] : (List Int)).map V.int)) ∧ H' p586 = some (.lst (([256, 256, 12, 2] : (List Int)).map V.int)) ∧ H' p927 = some (.lst ((v924 : (List Int)).map V.int)) ∧ H' D620 = some (.lst ((acc670 : (List Int)).map V.int)) ∧ H' x685 = some (.ins AD.c_Format dx686 [("width", V.int (v696.width)), ("height", V.int (v696.height)), ("depth", V.int (v696.depth)), ("chroma", V.int (v696.chroma))]) ∧ H' x738 = some (.ins AD.c_Format dx739 [("width", V.int (v749.width)), ("height", V.int (v749.height)), ("depth", V.int (v749.depth)), ("chroma", V.int (v749.chroma))]) ∧ H' p794 = some (.lst ((bad_824 : (List Int)).map V.int)) ∧ H' p865 = some (.lst ((setL (acc670) ((itD (v784) (3))) (((itD ([1, 1, 8, 0]) ((itD (v784) (3)))) + ((itD (v784) (4)) % (((itD ([256, 256, 12, 2]) ((itD (v784) (3)))) - (itD ([1, 1, 8, 0]) ((itD (v784) (3))))) + 1)))) : (List Int)).map V.int)) ∧ H' x898 = some (.ins AD.c_Format dx899 [("width", V.int (v909.width)), ("height", V.int (v909.height)), ("depth", V.int (v909.depth)), ("chroma", V.int (v909.chroma))]) ∧ H' D939 = some (.lst ((acc942 : (List Int)).map V.int)) ∧ Same H925 H' ∧ cW (mapA (List.drop i (rng (0) (Int.toNat (4)))) acc942 (fun x => noEr (F_law_c3 ([1, 1, 8, 0]) ([256, 256, 12, 2]) (v924) x))) K937 EE) ?_ ?_ ?_⟩
                    · generalize g944 : upd H925 D939 _ = H945
                      obtain ⟨e946, h947⟩ := gen_new n940 g944
                      have fr948 := S932.free n940
                      have S949 := S932.new n940 e946 h947 fr948
                      have h950 := (e946 _ _ (e926 _ _ (e919 _ _ ((SameXs.of x911) _ _ (e905 _ _ (x889 _ _ h877 (ne_of_none h856 n866))) (ni1 (ne_of_none (x889 _ _ h877 (ne_of_none h856 n866)) n900))))))
                      have h951 := (e946 _ _ (e926 _ _ (e919 _ _ ((SameXs.of x911) _ _ (e905 _ _ (x889 _ _ h881 (ne_of_none h857 n866))) (ni1 (ne_of_none (x889 _ _ h881 (ne_of_none h857 n866)) n900))))))
                      have h952 := (e946 _ _ h930)
                      have h953 := (e946 _ _ (e926 _ _ (e919 _ _ ((SameXs.of x911) _ _ (e905 _ _ (x889 _ _ (e869 _ _ h859) (ne_of_none h859 n866))) (ni1 (ne_of_none (x889 _ _ (e869 _ _ h859) (ne_of_none h859 n866)) n900))))))
                      have h954 := (e946 _ _ (e926 _ _ (e919 _ _ ((SameXs.of x911) _ _ (e905 _ _ (x889 _ _ (e869 _ _ h860) (ne_of_none h860 n866))) (ni1 (ne_of_none (x889 _ _ (e869 _ _ h860) (ne_of_none h860 n866)) n900))))))
                      have h955 := (e946 _ _ (e926 _ _ (e919 _ _ ((SameXs.of x911) _ _ (e905 _ _ (x889 _ _ (e869 _ _ h861) (ne_of_none h861 n866))) (ni1 (ne_of_none (x889 _ _ (e869 _ _ h861) (ne_of_none h861 n866)) n900))))))
                      have h956 := (e946 _ _ (e926 _ _ (e919 _ _ ((SameXs.of x911) _ _ (e905 _ _ (x889 _ _ (e869 _ _ h862) (ne_of_none h862 n866))) (ni1 (ne_of_none (x889 _ _ (e869 _ _ h862) (ne_of_none h862 n866)) n900))))))
                      have h957 := (e946 _ _ (e926 _ _ (e919 _ _ ((SameXs.of x911) _ _ (e905 _ _ h891) (ni1 (ne_of_none h891 n900))))))
                      have h958 := (e946 _ _ (e926 _ _ (e919 _ _ h912)))
                      exact ⟨_, [], Same.refl _, (S949.sub (all_cons (.head _) (all_cons (.tail _ (.tail _ (.tail _ (.tail _ (.tail _ (.head _)))))) (all_cons (.tail _ (.tail _ (.tail _ (.tail _ (.tail _ (.tail _ (.head _))))))) (all_cons (.tail _ (.head _)) (all_cons (.tail _ (.tail _ (.tail _ (.tail _ (.tail _ (.tail _ (.tail _ (.tail _ (.head _))))))))) (all_cons (.tail _ (.tail _ (.tail _ (.tail _ (.tail _ (.tail _ (.tail _ (.tail _ (.tail _ (.head _)))))))))) (all_cons (.tail _ (.tail _ (.tail _ (.tail _ (.tail _ (.tail _ (.tail _ (.tail _ (.tail _ (.tail _ (.head _))))))))))) (all_cons (.tail _ (.tail _ (.tail _ (.tail _ (.tail _ (.tail _ (.tail _ (.tail _ (.tail _ (.tail _ (.tail _ (.head _)))))))))))) (all_cons (.tail _ (.tail _ (.tail _ (.tail _ (.head _))))) (all_cons (.tail _ (.tail _ (.tail _ (.head _)))) all_nil))))))))))), h950, h951, h952, h953, h954, h955, h956, h957, h958, h947, e946, hw⟩
                    · intro i H959 hi hw
                      obtain ⟨G962, acc964, eG963, S960, h971, h972, h973, h974, h975, h976, h977, h978, h979, h961, eo970, hw⟩ := hw
                      obtain ⟨z980, hw⟩ := cW_mapA (rng_get hi) hw
                      generalize (0 + (i : Int)) = x981 at hw ⊢
                      have hw := cW_noEr hw
                      have hw : cW (F_law_c3 ([1, 1, 8, 0]) ([256, 256, 12, 2]) (v924) (x981)) _ (fun _ => False) := hw
                      unfold F_law_c3 at hw
                      refine ⟨rfl, ?_⟩
                      refine tyes_go ?_
                      obtain ⟨g983, hw⟩ := cW_grd hw
                      obtain ⟨g984, hw⟩ := cW_grd hw
                      obtain ⟨g985, hw⟩ := cW_grd hw
                      obtain ⟨g986, hw⟩ := cW_grd hw
                      refine ⟨_, rfl, _, rfl, _, _, rfl, rfl, (.inl ⟨by decide, by decide⟩), _, _, _, _, rfl, rfl, (SqL.of h973), (atI_map g983), _, rfl, _, rfl, _, _, rfl, rfl, (.inl ⟨by decide, by decide⟩), _, _, rfl, rfl, _, _, _, _, rfl, rfl, (SqL.of h973), (atI_map g984), _, rfl, _, rfl, _, _, _, _, rfl, rfl, (SqL.of h971), (atI_map g985), _, rfl, _, rfl, _, _, _, _, rfl, rfl, (SqL.of h972), (atI_map g986), rfl, rfl, G962, _, _, _, _, rfl, S960.sG, cW_call hw (fun v987 hw => ?_) (fun e he => he.elim)⟩
                      refine ⟨_, h961, (app_lenM z980), ?_⟩
                      generalize g988 : upd H959 D939 _ = H989
                      obtain ⟨x990, h991⟩ := gen_mut g988
                      have S992 := S960.mut1 x990 (.head _) h991
                      have hw := cW_ok hw
                      have h993 := (x990 _ _ h971 (ne_of_none (e926 _ _ (e919 _ _ ((SameXs.of x911) _ _ (e905 _ _ (x889 _ _ h877 (ne_of_none h856 n866))) (ni1 (ne_of_none (x889 _ _ h877 (ne_of_none h856 n866)) n900))))) n940))
                      have h994 := (x990 _ _ h972 (ne_of_none (e926 _ _ (e919 _ _ ((SameXs.of x911) _ _ (e905 _ _ (x889 _ _ h881 (ne_of_none h857 n866))) (ni1 (ne_of_none (x889 _ _ h881 (ne_of_none h857 n866)) n900))))) n940))
                      have h995 := (x990 _ _ h973 (ne_of_none h930 n940))
                      have h996 := (x990 _ _ h974 (ne_of_none (e926 _ _ (e919 _ _ ((SameXs.of x911) _ _ (e905 _ _ (x889 _ _ (e869 _ _ h859) (ne_of_none h859 n866))) (ni1 (ne_of_none (x889 _ _ (e869 _ _ h859) (ne_of_none h859 n866)) n900))))) n940))
                      have h997 := (x990 _ _ h975 (ne_of_none (e926 _ _ (e919 _ _ ((SameXs.of x911) _ _ (e905 _ _ (x889 _ _ (e869 _ _ h860) (ne_of_none h860 n866))) (ni1 (ne_of_none (x889 _ _ (e869 _ _ h860) (ne_of_none h860 n866)) n900))))) n940))
                      have h998 := (x990 _ _ h976 (ne_of_none (e926 _ _ (e919 _ _ ((SameXs.of x911) _ _ (e905 _ _ (x889 _ _ (e869 _ _ h861) (ne_of_none h861 n866))) (ni1 (ne_of_none (x889 _ _ (e869 _ _ h861) (ne_of_none h861 n866)) n900))))) n940))
                      have h999 := (x990 _ _ h977 (ne_of_none (e926 _ _ (e919 _ _ ((SameXs.of x911) _ _ (e905 _ _ (x889 _ _ (e869 _ _ h862) (ne_of_none h862 n866))) (ni1 (ne_of_none (x889 _ _ (e869 _ _ h862) (ne_of_none h862 n866)) n900))))) n940))
                      have h1000 := (x990 _ _ h978 (ne_of_none (e926 _ _ (e919 _ _ ((SameXs.of x911) _ _ (e905 _ _ h891) (ni1 (ne_of_none h891 n900))))) n940))
                      have h1001 := (x990 _ _ h979 (ne_of_none (e926 _ _ (e919 _ _ h912)) n940))
                      exact ⟨_, (acc964 ++ [v987]), eG963, S992, h993, h994, h995, h996, h997, h998, h999, h1000, h1001, (snoc_map h991), (same_mut eo970 x990 n940), hw⟩
                    intro H1002 hw
                    obtain ⟨G1005, acc1007, eG1006, S1003, h1014, h1015, h1016, h1017, h1018, h1019, h1020, h1021, h1022, h1004, eo1013, hw⟩ := hw
                    have hw := hK938 _ (cW_mapA0 (rng_len _ _).symm hw)
                    have fr1023 := S932.free n940
                    obtain ⟨g1024, hw⟩ := cW_grd hw
                    obtain ⟨g1025, hw⟩ := cW_grd hw
                    refine ⟨_, rfl, _, rfl, _, _, _, _, rfl, rfl, (SqL.of h1017), (atI_map g1024), _, rfl, _, _, _, _, rfl, rfl, (SqL.of h1017), (atI_map g1025), (by show 2 ≤ sizeLine; decide), fun p1026 n1027 => ?_⟩
                    generalize g1028 : upd H1002 p1026 _ = H1029
                    obtain ⟨e1030, h1031⟩ := gen_new n1027 g1028
                    have h1032 : H1029 p1026 = some (.lst (([(itD (acc670) (1)), (itD (acc670) (0))] : (List Int)).map V.int)) := h1031
                    have fr1033 := S1003.free n1027
                    have S1034 := S1003.new n1027 e1030 h1032 fr1033
                    have h1035 := (e1030 _ _ h1017)
                    refine ⟨_, rfl, _, rfl, _, _, rfl, (SqL.of h1035), fun p1036 n1037 => ?_⟩
                    generalize g1038 : upd H1029 p1036 _ = H1039
                    obtain ⟨e1040, h1041⟩ := gen_new n1037 g1038
                    have h1042 : H1039 p1036 = some (.lst ((cutL (acc670) (some (2)) none : (List Int)).map V.int)) := cut_map h1041
                    have fr1043 := S1034.free n1037
                    have S1044 := S1034.new n1037 e1040 h1042 fr1043
                    obtain ⟨g1045, hw⟩ := cW_grd hw
                    have h1046 := (e1040 _ _ h1032)
                    refine ⟨_, _, _, _, rfl, rfl, h1046, h1042, (cat_lenM g1045), fun p1047 n1048 => ?_⟩
                    generalize g1049 : upd H1039 p1047 _ = H1050
                    obtain ⟨e1051, h1052⟩ := gen_new n1048 g1049
                    have h1053 : H1050 p1047 = some (.lst ((([(itD (acc670) (1)), (itD (acc670) (0))]) ++ (cutL (acc670) (some (2)) none) : (List Int)).map V.int)) := cat_map h1052
                    have fr1054 := S1044.free n1048
                    have S1055 := S1044.new n1048 e1051 h1053 fr1054
                    have h1056 := (e1051 _ _ (e1040 _ _ (e1030 _ _ h1004)))
                    refine ⟨_, rfl, _, rfl, _, _, rfl, (SqL.of h1056), fun p1057 n1058 => ?_⟩
                    generalize g1059 : upd H1050 p1057 _ = H1060
                    obtain ⟨e1061, h1062⟩ := gen_new n1058 g1059
                    have h1063 : H1060 p1057 = some (.lst ((cutL (acc1007) none (some (1)) : (List Int)).map V.int)) := cut_map h1062
                    have fr1064 := S1055.free n1058
                    have S1065 := S1055.new n1058 e1061 h1063 fr1064
                    have h1066 := (e1061 _ _ (e1051 _ _ (e1040 _ _ h1035)))
                    refine ⟨_, rfl, _, rfl, _, _, rfl, (SqL.of h1066), fun p1067 n1068 => ?_⟩
                    generalize g1069 : upd H1060 p1067 _ = H1070
                    obtain ⟨e1071, h1072⟩ := gen_new n1068 g1069
                    have h1073 : H1070 p1067 = some (.lst ((cutL (acc670) (some (1)) none : (List Int)).map V.int)) := cut_map h1072
                    have fr1074 := S1065.free n1068
                    have S1075 := S1065.new n1068 e1071 h1073 fr1074
                    obtain ⟨g1076, hw⟩ := cW_grd hw
                    have h1077 := (e1071 _ _ h1063)
                    refine ⟨_, _, _, _, rfl, rfl, h1077, h1073, (cat_lenM g1076), fun p1078 n1079 => ?_⟩
                    generalize g1080 : upd H1070 p1078 _ = H1081
                    obtain ⟨e1082, h1083⟩ := gen_new n1079 g1080
                    have h1084 : H1081 p1078 = some (.lst (((cutL (acc1007) none (some (1))) ++ (cutL (acc670) (some (1)) none) : (List Int)).map V.int)) := cat_map h1083
                    have fr1085 := S1075.free n1079
                    have S1086 := S1075.new n1079 e1082 h1084 fr1085
                    have h1087 := (e1082 _ _ (e1071 _ _ h1066))
                    refine ⟨_, rfl, _, rfl, _, _, rfl, (SqL.of h1087), fun p1088 n1089 => ?_⟩
                    generalize g1090 : upd H1081 p1088 _ = H1091
                    obtain ⟨e1092, h1093⟩ := gen_new n1089 g1090
                    have h1094 : H1091 p1088 = some (.lst ((cutL (acc670) none (some (2)) : (List Int)).map V.int)) := cut_map h1093
                    have fr1095 := S1086.free n1089
                    have S1096 := S1086.new n1089 e1092 h1094 fr1095
                    have h1097 := (e1092 _ _ (e1082 _ _ (e1071 _ _ (e1061 _ _ h1056))))
                    refine ⟨_, rfl, _, rfl, _, _, rfl, (SqL.of h1097), fun p1098 n1099 => ?_⟩
                    generalize g1100 : upd H1091 p1098 _ = H1101
                    obtain ⟨e1102, h1103⟩ := gen_new n1099 g1100
                    have h1104 : H1101 p1098 = some (.lst ((cutL (acc1007) (some (2)) none : (List Int)).map V.int)) := cut_map h1103
                    have fr1105 := S1096.free n1099
                    have S1106 := S1096.new n1099 e1102 h1104 fr1105
                    obtain ⟨g1107, hw⟩ := cW_grd hw
                    have h1108 := (e1102 _ _ h1094)
                    refine ⟨_, _, _, _, rfl, rfl, h1108, h1104, (cat_lenM g1107), fun p1109 n1110 => ?_⟩
                    generalize g1111 : upd H1101 p1109 _ = H1112
                    obtain ⟨e1113, h1114⟩ := gen_new n1110 g1111
                    have h1115 : H1112 p1109 = some (.lst (((cutL (acc670) none (some (2))) ++ (cutL (acc1007) (some (2)) none) : (List Int)).map V.int)) := cat_map h1114
                    have fr1116 := S1106.free n1110
                    have S1117 := S1106.new n1110 e1113 h1115 fr1116
                    have h1118 := (e1113 _ _ (e1102 _ _ h1097))
                    obtain ⟨G1119, eG1120, hg1121, S1122⟩ := Sep.freeze (O' := [p1109, p1098, p1088, p1078, p1067, p1057, p1047, p1036, p1026, p577, p586, p927, D620, x685, x738, p794, p865, x898]) S1117 (.tail _ (.tail _ (.tail _ (.tail _ (.tail _ (.tail _ (.tail _ (.tail _ (.tail _ (.head _)))))))))) h1118 fr1023 ((all_cons ⟨(.head _), (ne_of_none (e1102 _ _ h1097) n1110).symm⟩ (all_cons ⟨(.tail _ (.head _)), (ne_of_none h1097 n1099).symm⟩ (all_cons ⟨(.tail _ (.tail _ (.head _))), (ne_of_none (e1082 _ _ (e1071 _ _ (e1061 _ _ h1056))) n1089).symm⟩ (all_cons ⟨(.tail _ (.tail _ (.tail _ (.head _)))), (ne_of_none (e1071 _ _ (e1061 _ _ h1056)) n1079).symm⟩ (all_cons ⟨(.tail _ (.tail _ (.tail _ (.tail _ (.head _))))), (ne_of_none (e1061 _ _ h1056) n1068).symm⟩ (all_cons ⟨(.tail _ (.tail _ (.tail _ (.tail _ (.tail _ (.head _)))))), (ne_of_none h1056 n1058).symm⟩ (all_cons ⟨(.tail _ (.tail _ (.tail _ (.tail _ (.tail _ (.tail _ (.head _))))))), (ne_of_none (e1040 _ _ (e1030 _ _ h1004)) n1048).symm⟩ (all_cons ⟨(.tail _ (.tail _ (.tail _ (.tail _ (.tail _ (.tail _ (.tail _ (.head _)))))))), (ne_of_none (e1030 _ _ h1004) n1037).symm⟩ (all_cons ⟨(.tail _ (.tail _ (.tail _ (.tail _ (.tail _ (.tail _ (.tail _ (.tail _ (.head _))))))))), (ne_of_none h1004 n1027).symm⟩ (all_cons ⟨(.tail _ (.tail _ (.tail _ (.tail _ (.tail _ (.tail _ (.tail _ (.tail _ (.tail _ (.tail _ (.head _))))))))))), (ne_of_none (e926 _ _ (e919 _ _ ((SameXs.of x911) _ _ (e905 _ _ (x889 _ _ h877 (ne_of_none h856 n866))) (ni1 (ne_of_none (x889 _ _ h877 (ne_of_none h856 n866)) n900))))) n940)⟩ (all_cons ⟨(.tail _ (.tail _ (.tail _ (.tail _ (.tail _ (.tail _ (.tail _ (.tail _ (.tail _ (.tail _ (.tail _ (.head _)))))))))))), (ne_of_none (e926 _ _ (e919 _ _ ((SameXs.of x911) _ _ (e905 _ _ (x889 _ _ h881 (ne_of_none h857 n866))) (ni1 (ne_of_none (x889 _ _ h881 (ne_of_none h857 n866)) n900))))) n940)⟩ (all_cons ⟨(.tail _ (.tail _ (.tail _ (.tail _ (.tail _ (.tail _ (.tail _ (.tail _ (.tail _ (.tail _ (.tail _ (.tail _ (.head _))))))))))))), (ne_of_none h930 n940)⟩ (all_cons ⟨(.tail _ (.tail _ (.tail _ (.tail _ (.tail _ (.tail _ (.tail _ (.tail _ (.tail _ (.tail _ (.tail _ (.tail _ (.tail _ (.head _)))))))))))))), (ne_of_none (e926 _ _ (e919 _ _ ((SameXs.of x911) _ _ (e905 _ _ (x889 _ _ (e869 _ _ h859) (ne_of_none h859 n866))) (ni1 (ne_of_none (x889 _ _ (e869 _ _ h859) (ne_of_none h859 n866)) n900))))) n940)⟩ (all_cons ⟨(.tail _ (.tail _ (.tail _ (.tail _ (.tail _ (.tail _ (.tail _ (.tail _ (.tail _ (.tail _ (.tail _ (.tail _ (.tail _ (.tail _ (.head _))))))))))))))), (ne_of_none (e926 _ _ (e919 _ _ ((SameXs.of x911) _ _ (e905 _ _ (x889 _ _ (e869 _ _ h860) (ne_of_none h860 n866))) (ni1 (ne_of_none (x889 _ _ (e869 _ _ h860) (ne_of_none h860 n866)) n900))))) n940)⟩ (all_cons ⟨(.tail _ (.tail _ (.tail _ (.tail _ (.tail _ (.tail _ (.tail _ (.tail _ (.tail _ (.tail _ (.tail _ (.tail _ (.tail _ (.tail _ (.tail _ (.head _)))))))))))))))), (ne_of_none (e926 _ _ (e919 _ _ ((SameXs.of x911) _ _ (e905 _ _ (x889 _ _ (e869 _ _ h861) (ne_of_none h861 n866))) (ni1 (ne_of_none (x889 _ _ (e869 _ _ h861) (ne_of_none h861 n866)) n900))))) n940)⟩ (all_cons ⟨(.tail _ (.tail _ (.tail _ (.tail _ (.tail _ (.tail _ (.tail _ (.tail _ (.tail _ (.tail _ (.tail _ (.tail _ (.tail _ (.tail _ (.tail _ (.tail _ (.head _))))))))))))))))), (ne_of_none (e926 _ _ (e919 _ _ ((SameXs.of x911) _ _ (e905 _ _ (x889 _ _ (e869 _ _ h862) (ne_of_none h862 n866))) (ni1 (ne_of_none (x889 _ _ (e869 _ _ h862) (ne_of_none h862 n866)) n900))))) n940)⟩ (all_cons ⟨(.tail _ (.tail _ (.tail _ (.tail _ (.tail _ (.tail _ (.tail _ (.tail _ (.tail _ (.tail _ (.tail _ (.tail _ (.tail _ (.tail _ (.tail _ (.tail _ (.tail _ (.head _)))))))))))))))))), (ne_of_none (e926 _ _ (e919 _ _ ((SameXs.of x911) _ _ (e905 _ _ h891) (ni1 (ne_of_none h891 n900))))) n940)⟩ (all_cons ⟨(.tail _ (.tail _ (.tail _ (.tail _ (.tail _ (.tail _ (.tail _ (.tail _ (.tail _ (.tail _ (.tail _ (.tail _ (.tail _ (.tail _ (.tail _ (.tail _ (.tail _ (.tail _ (.head _))))))))))))))))))), (ne_of_none (e926 _ _ (e919 _ _ h912)) n940)⟩ all_nil)))))))))))))))))))
                    have h1123 := (e1113 _ _ (e1102 _ _ (e1092 _ _ (e1082 _ _ (e1071 _ _ (e1061 _ _ h1053))))))
                    obtain ⟨G1124, eG1125, hg1126, S1127⟩ := Sep.freeze (O' := [p1109, p1098, p1088, p1078, p1067, p1057, p1036, p1026, p577, p586, p927, D620, x685, x738, p794, p865, x898]) S1122 (.tail _ (.tail _ (.tail _ (.tail _ (.tail _ (.tail _ (.head _))))))) h1123 fr1054 ((all_cons ⟨(.head _), (ne_of_none (e1102 _ _ (e1092 _ _ (e1082 _ _ (e1071 _ _ (e1061 _ _ h1053))))) n1110).symm⟩ (all_cons ⟨(.tail _ (.head _)), (ne_of_none (e1092 _ _ (e1082 _ _ (e1071 _ _ (e1061 _ _ h1053)))) n1099).symm⟩ (all_cons ⟨(.tail _ (.tail _ (.head _))), (ne_of_none (e1082 _ _ (e1071 _ _ (e1061 _ _ h1053))) n1089).symm⟩ (all_cons ⟨(.tail _ (.tail _ (.tail _ (.head _)))), (ne_of_none (e1071 _ _ (e1061 _ _ h1053)) n1079).symm⟩ (all_cons ⟨(.tail _ (.tail _ (.tail _ (.tail _ (.head _))))), (ne_of_none (e1061 _ _ h1053) n1068).symm⟩ (all_cons ⟨(.tail _ (.tail _ (.tail _ (.tail _ (.tail _ (.head _)))))), (ne_of_none h1053 n1058).symm⟩ (all_cons ⟨(.tail _ (.tail _ (.tail _ (.tail _ (.tail _ (.tail _ (.tail _ (.head _)))))))), (ne_of_none h1042 n1048)⟩ (all_cons ⟨(.tail _ (.tail _ (.tail _ (.tail _ (.tail _ (.tail _ (.tail _ (.tail _ (.head _))))))))), (ne_of_none h1046 n1048)⟩ (all_cons ⟨(.tail _ (.tail _ (.tail _ (.tail _ (.tail _ (.tail _ (.tail _ (.tail _ (.tail _ (.head _)))))))))), (ne_of_none (e1040 _ _ (e1030 _ _ h1014)) n1048)⟩ (all_cons ⟨(.tail _ (.tail _ (.tail _ (.tail _ (.tail _ (.tail _ (.tail _ (.tail _ (.tail _ (.tail _ (.head _))))))))))), (ne_of_none (e1040 _ _ (e1030 _ _ h1015)) n1048)⟩ (all_cons ⟨(.tail _ (.tail _ (.tail _ (.tail _ (.tail _ (.tail _ (.tail _ (.tail _ (.tail _ (.tail _ (.tail _ (.head _)))))))))))), (ne_of_none (e1040 _ _ (e1030 _ _ h1016)) n1048)⟩ (all_cons ⟨(.tail _ (.tail _ (.tail _ (.tail _ (.tail _ (.tail _ (.tail _ (.tail _ (.tail _ (.tail _ (.tail _ (.tail _ (.head _))))))))))))), (ne_of_none (e1040 _ _ h1035) n1048)⟩ (all_cons ⟨(.tail _ (.tail _ (.tail _ (.tail _ (.tail _ (.tail _ (.tail _ (.tail _ (.tail _ (.tail _ (.tail _ (.tail _ (.tail _ (.head _)))))))))))))), (ne_of_none (e1040 _ _ (e1030 _ _ h1018)) n1048)⟩ (all_cons ⟨(.tail _ (.tail _ (.tail _ (.tail _ (.tail _ (.tail _ (.tail _ (.tail _ (.tail _ (.tail _ (.tail _ (.tail _ (.tail _ (.tail _ (.head _))))))))))))))), (ne_of_none (e1040 _ _ (e1030 _ _ h1019)) n1048)⟩ (all_cons ⟨(.tail _ (.tail _ (.tail _ (.tail _ (.tail _ (.tail _ (.tail _ (.tail _ (.tail _ (.tail _ (.tail _ (.tail _ (.tail _ (.tail _ (.tail _ (.head _)))))))))))))))), (ne_of_none (e1040 _ _ (e1030 _ _ h1020)) n1048)⟩ (all_cons ⟨(.tail _ (.tail _ (.tail _ (.tail _ (.tail _ (.tail _ (.tail _ (.tail _ (.tail _ (.tail _ (.tail _ (.tail _ (.tail _ (.tail _ (.tail _ (.tail _ (.head _))))))))))))))))), (ne_of_none (e1040 _ _ (e1030 _ _ h1021)) n1048)⟩ (all_cons ⟨(.tail _ (.tail _ (.tail _ (.tail _ (.tail _ (.tail _ (.tail _ (.tail _ (.tail _ (.tail _ (.tail _ (.tail _ (.tail _ (.tail _ (.tail _ (.tail _ (.tail _ (.head _)))))))))))))))))), (ne_of_none (e1040 _ _ (e1030 _ _ h1022)) n1048)⟩ all_nil))))))))))))))))))
                    have h1128 := (e1113 _ _ (e1102 _ _ (e1092 _ _ h1084)))
                    obtain ⟨G1129, eG1130, hg1131, S1132⟩ := Sep.freeze (O' := [p1109, p1098, p1088, p1067, p1057, p1036, p1026, p577, p586, p927, D620, x685, x738, p794, p865, x898]) S1127 (.tail _ (.tail _ (.tail _ (.head _)))) h1128 fr1085 ((all_cons ⟨(.head _), (ne_of_none (e1102 _ _ (e1092 _ _ h1084)) n1110).symm⟩ (all_cons ⟨(.tail _ (.head _)), (ne_of_none (e1092 _ _ h1084) n1099).symm⟩ (all_cons ⟨(.tail _ (.tail _ (.head _))), (ne_of_none h1084 n1089).symm⟩ (all_cons ⟨(.tail _ (.tail _ (.tail _ (.tail _ (.head _))))), (ne_of_none h1073 n1079)⟩ (all_cons ⟨(.tail _ (.tail _ (.tail _ (.tail _ (.tail _ (.head _)))))), (ne_of_none h1077 n1079)⟩ (all_cons ⟨(.tail _ (.tail _ (.tail _ (.tail _ (.tail _ (.tail _ (.head _))))))), (ne_of_none (e1071 _ _ (e1061 _ _ (e1051 _ _ h1042))) n1079)⟩ (all_cons ⟨(.tail _ (.tail _ (.tail _ (.tail _ (.tail _ (.tail _ (.tail _ (.head _)))))))), (ne_of_none (e1071 _ _ (e1061 _ _ (e1051 _ _ h1046))) n1079)⟩ (all_cons ⟨(.tail _ (.tail _ (.tail _ (.tail _ (.tail _ (.tail _ (.tail _ (.tail _ (.head _))))))))), (ne_of_none (e1071 _ _ (e1061 _ _ (e1051 _ _ (e1040 _ _ (e1030 _ _ h1014))))) n1079)⟩ (all_cons ⟨(.tail _ (.tail _ (.tail _ (.tail _ (.tail _ (.tail _ (.tail _ (.tail _ (.tail _ (.head _)))))))))), (ne_of_none (e1071 _ _ (e1061 _ _ (e1051 _ _ (e1040 _ _ (e1030 _ _ h1015))))) n1079)⟩ (all_cons ⟨(.tail _ (.tail _ (.tail _ (.tail _ (.tail _ (.tail _ (.tail _ (.tail _ (.tail _ (.tail _ (.head _))))))))))), (ne_of_none (e1071 _ _ (e1061 _ _ (e1051 _ _ (e1040 _ _ (e1030 _ _ h1016))))) n1079)⟩ (all_cons ⟨(.tail _ (.tail _ (.tail _ (.tail _ (.tail _ (.tail _ (.tail _ (.tail _ (.tail _ (.tail _ (.tail _ (.head _)))))))))))), (ne_of_none (e1071 _ _ h1066) n1079)⟩ (all_cons ⟨(.tail _ (.tail _ (.tail _ (.tail _ (.tail _ (.tail _ (.tail _ (.tail _ (.tail _ (.tail _ (.tail _ (.tail _ (.head _))))))))))))), (ne_of_none (e1071 _ _ (e1061 _ _ (e1051 _ _ (e1040 _ _ (e1030 _ _ h1018))))) n1079)⟩ (all_cons ⟨(.tail _ (.tail _ (.tail _ (.tail _ (.tail _ (.tail _ (.tail _ (.tail _ (.tail _ (.tail _ (.tail _ (.tail _ (.tail _ (.head _)))))))))))))), (ne_of_none (e1071 _ _ (e1061 _ _ (e1051 _ _ (e1040 _ _ (e1030 _ _ h1019))))) n1079)⟩ (all_cons ⟨(.tail _ (.tail _ (.tail _ (.tail _ (.tail _ (.tail _ (.tail _ (.tail _ (.tail _ (.tail _ (.tail _ (.tail _ (.tail _ (.tail _ (.head _))))))))))))))), (ne_of_none (e1071 _ _ (e1061 _ _ (e1051 _ _ (e1040 _ _ (e1030 _ _ h1020))))) n1079)⟩ (all_cons ⟨(.tail _ (.tail _ (.tail _ (.tail _ (.tail _ (.tail _ (.tail _ (.tail _ (.tail _ (.tail _ (.tail _ (.tail _ (.tail _ (.tail _ (.tail _ (.head _)))))))))))))))), (ne_of_none (e1071 _ _ (e1061 _ _ (e1051 _ _ (e1040 _ _ (e1030 _ _ h1021))))) n1079)⟩ (all_cons ⟨(.tail _ (.tail _ (.tail _ (.tail _ (.tail _ (.tail _ (.tail _ (.tail _ (.tail _ (.tail _ (.tail _ (.tail _ (.tail _ (.tail _ (.tail _ (.tail _ (.head _))))))))))))))))), (ne_of_none (e1071 _ _ (e1061 _ _ (e1051 _ _ (e1040 _ _ (e1030 _ _ h1022))))) n1079)⟩ all_nil)))))))))))))))))
                    obtain ⟨G1133, eG1134, hg1135, S1136⟩ := Sep.freeze (O' := [p1098, p1088, p1067, p1057, p1036, p1026, p577, p586, p927, D620, x685, x738, p794, p865, x898]) S1132 (.head _) h1115 fr1116 ((all_cons ⟨(.tail _ (.head _)), (ne_of_none h1104 n1110)⟩ (all_cons ⟨(.tail _ (.tail _ (.head _))), (ne_of_none h1108 n1110)⟩ (all_cons ⟨(.tail _ (.tail _ (.tail _ (.head _)))), (ne_of_none (e1102 _ _ (e1092 _ _ (e1082 _ _ h1073))) n1110)⟩ (all_cons ⟨(.tail _ (.tail _ (.tail _ (.tail _ (.head _))))), (ne_of_none (e1102 _ _ (e1092 _ _ (e1082 _ _ h1077))) n1110)⟩ (all_cons ⟨(.tail _ (.tail _ (.tail _ (.tail _ (.tail _ (.head _)))))), (ne_of_none (e1102 _ _ (e1092 _ _ (e1082 _ _ (e1071 _ _ (e1061 _ _ (e1051 _ _ h1042)))))) n1110)⟩ (all_cons ⟨(.tail _ (.tail _ (.tail _ (.tail _ (.tail _ (.tail _ (.head _))))))), (ne_of_none (e1102 _ _ (e1092 _ _ (e1082 _ _ (e1071 _ _ (e1061 _ _ (e1051 _ _ h1046)))))) n1110)⟩ (all_cons ⟨(.tail _ (.tail _ (.tail _ (.tail _ (.tail _ (.tail _ (.tail _ (.head _)))))))), (ne_of_none (e1102 _ _ (e1092 _ _ (e1082 _ _ (e1071 _ _ (e1061 _ _ (e1051 _ _ (e1040 _ _ (e1030 _ _ h1014)))))))) n1110)⟩ (all_cons ⟨(.tail _ (.tail _ (.tail _ (.tail _ (.tail _ (.tail _ (.tail _ (.tail _ (.head _))))))))), (ne_of_none (e1102 _ _ (e1092 _ _ (e1082 _ _ (e1071 _ _ (e1061 _ _ (e1051 _ _ (e1040 _ _ (e1030 _ _ h1015)))))))) n1110)⟩ (all_cons ⟨(.tail _ (.tail _ (.tail _ (.tail _ (.tail _ (.tail _ (.tail _ (.tail _ (.tail _ (.head _)))))))))), (ne_of_none (e1102 _ _ (e1092 _ _ (e1082 _ _ (e1071 _ _ (e1061 _ _ (e1051 _ _ (e1040 _ _ (e1030 _ _ h1016)))))))) n1110)⟩ (all_cons ⟨(.tail _ (.tail _ (.tail _ (.tail _ (.tail _ (.tail _ (.tail _ (.tail _ (.tail _ (.tail _ (.head _))))))))))), (ne_of_none (e1102 _ _ (e1092 _ _ h1087)) n1110)⟩ (all_cons ⟨(.tail _ (.tail _ (.tail _ (.tail _ (.tail _ (.tail _ (.tail _ (.tail _ (.tail _ (.tail _ (.tail _ (.head _)))))))))))), (ne_of_none (e1102 _ _ (e1092 _ _ (e1082 _ _ (e1071 _ _ (e1061 _ _ (e1051 _ _ (e1040 _ _ (e1030 _ _ h1018)))))))) n1110)⟩ (all_cons ⟨(.tail _ (.tail _ (.tail _ (.tail _ (.tail _ (.tail _ (.tail _ (.tail _ (.tail _ (.tail _ (.tail _ (.tail _ (.head _))))))))))))), (ne_of_none (e1102 _ _ (e1092 _ _ (e1082 _ _ (e1071 _ _ (e1061 _ _ (e1051 _ _ (e1040 _ _ (e1030 _ _ h1019)))))))) n1110)⟩ (all_cons ⟨(.tail _ (.tail _ (.tail _ (.tail _ (.tail _ (.tail _ (.tail _ (.tail _ (.tail _ (.tail _ (.tail _ (.tail _ (.tail _ (.head _)))))))))))))), (ne_of_none (e1102 _ _ (e1092 _ _ (e1082 _ _ (e1071 _ _ (e1061 _ _ (e1051 _ _ (e1040 _ _ (e1030 _ _ h1020)))))))) n1110)⟩ (all_cons ⟨(.tail _ (.tail _ (.tail _ (.tail _ (.tail _ (.tail _ (.tail _ (.tail _ (.tail _ (.tail _ (.tail _ (.tail _ (.tail _ (.tail _ (.head _))))))))))))))), (ne_of_none (e1102 _ _ (e1092 _ _ (e1082 _ _ (e1071 _ _ (e1061 _ _ (e1051 _ _ (e1040 _ _ (e1030 _ _ h1021)))))))) n1110)⟩ (all_cons ⟨(.tail _ (.tail _ (.tail _ (.tail _ (.tail _ (.tail _ (.tail _ (.tail _ (.tail _ (.tail _ (.tail _ (.tail _ (.tail _ (.tail _ (.tail _ (.head _)))))))))))))))), (ne_of_none (e1102 _ _ (e1092 _ _ (e1082 _ _ (e1071 _ _ (e1061 _ _ (e1051 _ _ (e1040 _ _ (e1030 _ _ h1022)))))))) n1110)⟩ all_nil))))))))))))))))
                    refine ⟨(by show 4 ≤ sizeLine; decide), fun p1137 n1138 => ?_⟩
                    generalize g1139 : upd H1112 p1137 _ = H1140
                    obtain ⟨e1141, h1142⟩ := gen_new n1138 g1139
                    have h1143 : H1140 p1137 = some (.lst ([V.ref D939, V.ref p1047, V.ref p1078, V.ref p1109])) := h1142
                    have fr1144 := S1136.free n1138
                    have S1145 := S1136.new n1138 e1141 h1143 fr1144
                    have d1146 : RpAll G1133 ([V.ref D939, V.ref p1047, V.ref p1078, V.ref p1109]) (([acc1007, ([(itD (acc670) (1)), (itD (acc670) (0))]) ++ (cutL (acc670) (some (2)) none), (cutL (acc1007) none (some (1))) ++ (cutL (acc670) (some (1)) none), (cutL (acc670) none (some (2))) ++ (cutL (acc1007) (some (2)) none)] : (List (List Int))).map (encL PyData.int)) := (RpAll.cons (rp_mk_ints (eG1134 _ _ (eG1130 _ _ (eG1125 _ _ hg1121)))) (RpAll.cons (rp_mk_ints (eG1134 _ _ (eG1130 _ _ hg1126))) (RpAll.cons (rp_mk_ints (eG1134 _ _ hg1131)) (RpAll.cons (rp_mk_ints hg1135) RpAll.nil))))
                    obtain ⟨K1154, hK1155, hw⟩ := cW_push hw
                    refine ⟨_, rfl, ⟨_, (SqL.of h1143)⟩, for_list (K := K) (a := p1137) (xs := [V.ref D939, V.ref p1047, V.ref p1078, V.ref p1109]) (fun i σ H' => ∃ (u1156 : Option V) (u1157 : Option V) (G' : Hp), σ = [some (V.ref a_script), some (V.ref p577), some (V.ref p586), some (V.ref p927), some (V.ref D620), some (V.ref x685), some (V.ref x738), some (V.ref p794), some (V.ref p865), some (V.ref x898), some (V.ref D939), u1156, u1157, none, none] ∧ Same G1133 G' ∧ Sep [] H H G' H' [p577, p586, p927, D620, x685, x738, p794, p865, x898, p1137] ∧ H' p577 = some (.lst (([1, 1, 8, 0] : (List Int)).map V.int)) ∧ H' p586 = some (.lst (([256, 256, 12, 2] : (List Int)).map V.int)) ∧ H' p927 = some (.lst ((v924 : (List Int)).map V.int)) ∧ H' D620 = some (.lst ((acc670 : (List Int)).map V.int)) ∧ H' x685 = some (.ins AD.c_Format dx686 [("width", V.int (v696.width)), ("height", V.int (v696.height)), ("depth", V.int (v696.depth)), ("chroma", V.int (v696.chroma))]) ∧ H' x738 = some (.ins AD.c_Format dx739 [("width", V.int (v749.width)), ("height", V.int (v749.height)), ("depth", V.int (v749.depth)), ("chroma", V.int (v749.chroma))]) ∧ H' p794 = some (.lst ((bad_824 : (List Int)).map V.int)) ∧ H' p865 = some (.lst ((setL (acc670) ((itD (v784) (3))) (((itD ([1, 1, 8, 0]) ((itD (v784) (3)))) + ((itD (v784) (4)) % (((itD ([256, 256, 12, 2]) ((itD (v784) (3)))) - (itD ([1, 1, 8, 0]) ((itD (v784) (3))))) + 1)))) : (List Int)).map V.int)) ∧ H' x898 = some (.ins AD.c_Format dx899 [("width", V.int (v909.width)), ("height", V.int (v909.height)), ("depth", V.int (v909.depth)), ("chroma", V.int (v909.chroma))]) ∧ H' p1137 = some (.lst ([V.ref D939, V.ref p1047, V.ref p1078, V.ref p1109])) ∧ cW (forR (List.drop i ([acc1007, ([(itD (acc670) (1)), (itD (acc670) (0))]) ++ (cutL (acc670) (some (2)) none), (cutL (acc1007) none (some (1))) ++ (cutL (acc670) (some (1)) none), (cutL (acc670) none (some (2))) ++ (cutL (acc1007) (some (2)) none)])) () (fun s x => F_law_b4 (acc670) (v696)  x)) K1154 EE) ?_ ?_ ?_ ?_⟩
                    · have h1158 := (e1141 _ _ (e1113 _ _ (e1102 _ _ (e1092 _ _ (e1082 _ _ (e1071 _ _ (e1061 _ _ (e1051 _ _ (e1040 _ _ (e1030 _ _ h1014))))))))))
                      have h1159 := (e1141 _ _ (e1113 _ _ (e1102 _ _ (e1092 _ _ (e1082 _ _ (e1071 _ _ (e1061 _ _ (e1051 _ _ (e1040 _ _ (e1030 _ _ h1015))))))))))
                      have h1160 := (e1141 _ _ (e1113 _ _ (e1102 _ _ (e1092 _ _ (e1082 _ _ (e1071 _ _ (e1061 _ _ (e1051 _ _ (e1040 _ _ (e1030 _ _ h1016))))))))))
                      have h1161 := (e1141 _ _ (e1113 _ _ (e1102 _ _ (e1092 _ _ h1087))))
                      have h1162 := (e1141 _ _ (e1113 _ _ (e1102 _ _ (e1092 _ _ (e1082 _ _ (e1071 _ _ (e1061 _ _ (e1051 _ _ (e1040 _ _ (e1030 _ _ h1018))))))))))
                      have h1163 := (e1141 _ _ (e1113 _ _ (e1102 _ _ (e1092 _ _ (e1082 _ _ (e1071 _ _ (e1061 _ _ (e1051 _ _ (e1040 _ _ (e1030 _ _ h1019))))))))))
                      have h1164 := (e1141 _ _ (e1113 _ _ (e1102 _ _ (e1092 _ _ (e1082 _ _ (e1071 _ _ (e1061 _ _ (e1051 _ _ (e1040 _ _ (e1030 _ _ h1020))))))))))
                      have h1165 := (e1141 _ _ (e1113 _ _ (e1102 _ _ (e1092 _ _ (e1082 _ _ (e1071 _ _ (e1061 _ _ (e1051 _ _ (e1040 _ _ (e1030 _ _ h1021))))))))))
                      have h1166 := (e1141 _ _ (e1113 _ _ (e1102 _ _ (e1092 _ _ (e1082 _ _ (e1071 _ _ (e1061 _ _ (e1051 _ _ (e1040 _ _ (e1030 _ _ h1022))))))))))
                      exact ⟨_, _, _, rfl, (Same.refl _), (S1145.sub (all_cons (.tail _ (.tail _ (.tail _ (.tail _ (.tail _ (.tail _ (.tail _ (.head _)))))))) (all_cons (.tail _ (.tail _ (.tail _ (.tail _ (.tail _ (.tail _ (.tail _ (.tail _ (.head _))))))))) (all_cons (.tail _ (.tail _ (.tail _ (.tail _ (.tail _ (.tail _ (.tail _ (.tail _ (.tail _ (.head _)))))))))) (all_cons (.tail _ (.tail _ (.tail _ (.tail _ (.tail _ (.tail _ (.tail _ (.tail _ (.tail _ (.tail _ (.head _))))))))))) (all_cons (.tail _ (.tail _ (.tail _ (.tail _ (.tail _ (.tail _ (.tail _ (.tail _ (.tail _ (.tail _ (.tail _ (.head _)))))))))))) (all_cons (.tail _ (.tail _ (.tail _ (.tail _ (.tail _ (.tail _ (.tail _ (.tail _ (.tail _ (.tail _ (.tail _ (.tail _ (.head _))))))))))))) (all_cons (.tail _ (.tail _ (.tail _ (.tail _ (.tail _ (.tail _ (.tail _ (.tail _ (.tail _ (.tail _ (.tail _ (.tail _ (.tail _ (.head _)))))))))))))) (all_cons (.tail _ (.tail _ (.tail _ (.tail _ (.tail _ (.tail _ (.tail _ (.tail _ (.tail _ (.tail _ (.tail _ (.tail _ (.tail _ (.tail _ (.head _))))))))))))))) (all_cons (.tail _ (.tail _ (.tail _ (.tail _ (.tail _ (.tail _ (.tail _ (.tail _ (.tail _ (.tail _ (.tail _ (.tail _ (.tail _ (.tail _ (.tail _ (.head _)))))))))))))))) (all_cons (.head _) all_nil))))))))))), h1158, h1159, h1160, h1161, h1162, h1163, h1164, h1165, h1166, h1143, hw⟩
                    · intro i σ H1167 _ hw
                      obtain ⟨u1156, u1157, G1179, rfl, eG1180, S1168, h1169, h1170, h1171, h1172, h1173, h1174, h1175, h1176, h1177, h1178, hw⟩ := hw
                      exact (SqL.of h1178)
                    · intro i x σ H1181 hj hw
                      obtain ⟨u1156, u1157, G1193, rfl, eG1194, S1182, h1183, h1184, h1185, h1186, h1187, h1188, h1189, h1190, h1191, h1192, hw⟩ := hw
                      obtain ⟨x1195, hx, r1196⟩ := RpAll.get (RpAll.mono eG1194 d1146) hj
                      obtain ⟨a1197, rfl, h1198⟩ := rp_ints r1196
                      have hw := cW_forR hx hw
                      have hw : cW (F_law_b4 (acc670) (v696)  (x1195)) _ EE := hw
                      unfold F_law_b4 at hw
                      obtain ⟨K1199, hK1200, hw⟩ := cW_name hw
                      obtain ⟨g1202, hw⟩ := cW_grd hw
                      obtain ⟨g1203, hw⟩ := cW_grd hw
                      obtain ⟨g1204, hw⟩ := cW_grd hw
                      obtain ⟨g1205, hw⟩ := cW_grd hw
                      refine ⟨_, rfl, _, _, _, _, rfl, rfl, (SqL.of (S1182.sG _ _ h1198)), (atI_map g1202), _, rfl, _, _, _, _, rfl, rfl, (SqL.of (S1182.sG _ _ h1198)), (atI_map g1203), _, rfl, _, _, _, _, rfl, rfl, (SqL.of (S1182.sG _ _ h1198)), (atI_map g1204), _, rfl, _, _, _, _, rfl, rfl, (SqL.of (S1182.sG _ _ h1198)), (atI_map g1205), rfl, rfl, fun x1206 dx1207 n1208 n1209 n1210 => ?_⟩
                      generalize g1211 : upd (upd H1181 dx1207 _) x1206 _ = H1212
                      obtain ⟨e1213, h1214⟩ := gen_obj n1208 n1209 n1210 g1211
                      have fr1215 := S1182.free n1208
                      have S1216 := S1182.new n1208 e1213 h1214 fr1215
                      refine ⟨G1193, _, _, _, _, _, _, rfl, S1216.sG, (S1216.gno (all_cons (.head _) all_nil)), h1214, cW_call hw (fun v1217 hw H1218 x1219 h1220 => ⟨rfl, ?_⟩) (fun e he => (hE e he).elim)⟩
                      have S1221 : Sep _ _ _ _ H1218 [x1206, p577, p586, p927, D620, x685, x738, p794, p865, x898, p1137] := Sep.init S1216 x1219 (.head _) h1220 [] all_nil
                      have h1222 := ((SameXs.of x1219) _ _ (e1213 _ _ h1187) (ni1 (ne_of_none h1187 n1208)))
                      refine ⟨_, rfl, _, rfl, _, _, _, _, _, _, rfl, rfl, h1222, h1220, rfl, rfl, G1193, _, _, v696, _, _, v1217, rfl, S1221.sG, (hide_nil h1222), (hide_nil h1220), cW_callN hw (fun v1223 hw H1224 e1225 => ?_) trivial⟩
                      have S1226 := S1221.same e1225
                      have h1227 := (e1225 _ _ ((SameXs.of x1219) _ _ (e1213 _ _ h1186) (ni1 (ne_of_none h1186 n1208))))
                      refine ⟨⟨_, rfl⟩, _, rfl, _, rfl, _, _, (rp_mk_ints (S1226.sG _ _ h1198)), (rp_mk_ints h1227), rfl, _, rfl, ?_⟩
                      refine iteN (fun c1228 => ?_) (fun c1228 => ?_)
                      · have hw := cW_neg c1228 hw
                        have hw := cW_ok hw
                        have hw := hK1200 (.rt _) hw
                        have hw := hK1155 (.rt _) hw
                        have hw := cW_ok hw
                        exact eq_bl (k _) (hK0 _ hw).symm
                      · have hw := cW_pos c1228 hw
                        have hw := cW_ok hw
                        have hw := hK1200 _ hw
                        have h1229 := (e1225 _ _ ((SameXs.of x1219) _ _ (e1213 _ _ h1183) (ni1 (ne_of_none h1183 n1208))))
                        have h1230 := (e1225 _ _ ((SameXs.of x1219) _ _ (e1213 _ _ h1184) (ni1 (ne_of_none h1184 n1208))))
                        have h1231 := (e1225 _ _ ((SameXs.of x1219) _ _ (e1213 _ _ h1185) (ni1 (ne_of_none h1185 n1208))))
                        have h1232 := (e1225 _ _ h1222)
                        have h1233 := (e1225 _ _ ((SameXs.of x1219) _ _ (e1213 _ _ h1188) (ni1 (ne_of_none h1188 n1208))))
                        have h1234 := (e1225 _ _ ((SameXs.of x1219) _ _ (e1213 _ _ h1189) (ni1 (ne_of_none h1189 n1208))))
                        have h1235 := (e1225 _ _ ((SameXs.of x1219) _ _ (e1213 _ _ h1190) (ni1 (ne_of_none h1190 n1208))))
                        have h1236 := (e1225 _ _ ((SameXs.of x1219) _ _ (e1213 _ _ h1191) (ni1 (ne_of_none h1191 n1208))))
                        have h1237 := (e1225 _ _ ((SameXs.of x1219) _ _ (e1213 _ _ h1192) (ni1 (ne_of_none h1192 n1208))))
                        exact ⟨_, _, _, rfl, eG1194, (S1226.sub (all_cons (.tail _ (.head _)) (all_cons (.tail _ (.tail _ (.head _))) (all_cons (.tail _ (.tail _ (.tail _ (.head _)))) (all_cons (.tail _ (.tail _ (.tail _ (.tail _ (.head _))))) (all_cons (.tail _ (.tail _ (.tail _ (.tail _ (.tail _ (.head _)))))) (all_cons (.tail _ (.tail _ (.tail _ (.tail _ (.tail _ (.tail _ (.head _))))))) (all_cons (.tail _ (.tail _ (.tail _ (.tail _ (.tail _ (.tail _ (.tail _ (.head _)))))))) (all_cons (.tail _ (.tail _ (.tail _ (.tail _ (.tail _ (.tail _ (.tail _ (.tail _ (.head _))))))))) (all_cons (.tail _ (.tail _ (.tail _ (.tail _ (.tail _ (.tail _ (.tail _ (.tail _ (.tail _ (.head _)))))))))) (all_cons (.tail _ (.tail _ (.tail _ (.tail _ (.tail _ (.tail _ (.tail _ (.tail _ (.tail _ (.tail _ (.head _))))))))))) all_nil))))))))))), h1229, h1230, h1231, h1227, h1232, h1233, h1234, h1235, h1236, h1237, hw⟩
                    · intro σ H1238 hw
                      obtain ⟨u1156, u1157, G1250, rfl, eG1251, S1239, h1240, h1241, h1242, h1243, h1244, h1245, h1246, h1247, h1248, h1249, hw⟩ := hw
                      have hw := cW_aftgo (hK1155 _ (cW_forR0 (by rw [(RpAll.mono eG1251 d1146).len, List.length_map]) hw))
                      have hw : cW (F_law_r4 (acc670) (v696) (bad_824) (setL (acc670) ((itD (v784) (3))) (((itD ([1, 1, 8, 0]) ((itD (v784) (3)))) + ((itD (v784) (4)) % (((itD ([256, 256, 12, 2]) ((itD (v784) (3)))) - (itD ([1, 1, 8, 0]) ((itD (v784) (3))))) + 1))))) (v909) ) _ EE := hw
                      unfold F_law_r4 at hw
                      obtain ⟨g1252, hw⟩ := cW_grd hw
                      obtain ⟨g1253, hw⟩ := cW_grd hw
                      obtain ⟨g1254, hw⟩ := cW_grd hw
                      obtain ⟨g1255, hw⟩ := cW_grd hw
                      refine ⟨_, rfl, _, _, _, _, rfl, rfl, (SqL.of h1243), (atI_map g1252), _, rfl, _, _, _, _, rfl, rfl, (SqL.of h1243), (atI_map g1253), _, rfl, _, _, _, _, rfl, rfl, (SqL.of h1243), (atI_map g1254), _, rfl, _, _, _, _, rfl, rfl, (SqL.of h1243), (atI_map g1255), rfl, rfl, fun x1256 dx1257 n1258 n1259 n1260 => ?_⟩
                      generalize g1261 : upd (upd H1238 dx1257 _) x1256 _ = H1262
                      obtain ⟨e1263, h1264⟩ := gen_obj n1258 n1259 n1260 g1261
                      have fr1265 := S1239.free n1258
                      have S1266 := S1239.new n1258 e1263 h1264 fr1265
                      refine ⟨G1250, _, _, _, _, _, _, rfl, S1266.sG, (S1266.gno (all_cons (.head _) all_nil)), h1264, cW_call hw (fun v1267 hw H1268 x1269 h1270 => ⟨rfl, ?_⟩) (fun e he => (hE e he).elim)⟩
                      have S1271 : Sep _ _ _ _ H1268 [x1256, p577, p586, p927, D620, x685, x738, p794, p865, x898, p1137] := Sep.init S1266 x1269 (.head _) h1270 [] all_nil
                      have h1272 := ((SameXs.of x1269) _ _ (e1263 _ _ h1244) (ni1 (ne_of_none h1244 n1258)))
                      have h1273 := ((SameXs.of x1269) _ _ (e1263 _ _ h1248) (ni1 (ne_of_none h1248 n1258)))
                      refine ⟨_, rfl, _, rfl, _, _, _, _, _, _, rfl, rfl, h1272, h1273, rfl, rfl, G1250, _, _, v696, _, _, v909, rfl, S1271.sG, (hide_nil h1272), (hide_nil h1273), cW_callN hw (fun v1274 hw H1275 e1276 => ?_) trivial⟩
                      have S1277 := S1271.same e1276
                      have h1278 := (e1276 _ _ ((SameXs.of x1269) _ _ (e1263 _ _ h1247) (ni1 (ne_of_none h1247 n1258))))
                      have h1279 := (e1276 _ _ ((SameXs.of x1269) _ _ (e1263 _ _ h1243) (ni1 (ne_of_none h1243 n1258))))
                      refine ⟨⟨_, rfl⟩, _, rfl, _, rfl, _, _, (rp_mk_ints h1278), (rp_mk_ints h1279), rfl, _, rfl, ?_⟩
                      refine iteN (fun c1280 => ?_) (fun c1280 => ?_)
                      · have hw := cW_neg c1280 hw
                        refine iteT ?_
                        have hw := cW_ok hw
                        exact eq_bl (k _) (hK0 _ hw).symm
                      · have hw := cW_pos c1280 hw
                        have h1281 := (e1276 _ _ h1272)
                        have h1282 := (e1276 _ _ h1270)
                        refine ⟨_, rfl, _, rfl, _, _, _, _, _, _, rfl, rfl, h1281, h1282, rfl, rfl, G1250, _, _, v696, _, _, v1267, rfl, S1277.sG, (hide_nil h1281), (hide_nil h1282), cW_callN hw (fun v1283 hw H1284 e1285 => ?_) trivial⟩
                        have S1286 := S1277.same e1285
                        refine ⟨⟨_, rfl⟩, _, rfl, rfl, _, rfl, ?_⟩
                        refine iteB (fun c1287 => ?_) (fun c1287 => ?_)
                        · have hw := cW_pos c1287 hw
                          have hw := cW_ok hw
                          exact eq_bl (k _) (hK0 _ hw).symm
                        · have hw := cW_negB c1287 hw
                          have h1288 := (e1285 _ _ (e1276 _ _ ((SameXs.of x1269) _ _ (e1263 _ _ h1246) (ni1 (ne_of_none h1246 n1258)))))
                          refine ⟨_, rfl, rfl, rfl, G1250, _, _, rfl, S1286.sG, (hide_nil h1288), cW_call hw (fun v1289 hw H1290 e1291 => ?_) (fun e he => (hE e he).elim)⟩
                          have S1292 := S1286.same e1291
                          have hw := cW_ok hw
                          exact eq_bl (k _) (hK0 _ hw).symm
end
def spL (K : PySem.W.Frag) : Sp := fun vs H Q _ => ∃ (a_script : Addr) (script : List Int), vs = [.ref a_script] ∧ SqL K H a_script (script.map V.int) ∧ script.length ≤ 63 ∧ ∀ H', Q (.bl true) H'
theorem all_mk {l : PySem.W.OpenLaw} {w : World} {K : PySem.W.Frag} {h : Heap} {mg : Str → Option Value} {fa : Addr} (X : K.In h) (G : h.Ns mainGlobals mg) (hfa : mg "law" = some (.ref fa))
    {f0 f1 f2 f3 f4 f5 f6 f7 f8 f9 f10 f11 f12 f13 f14 f15 f16 f17 CFormat XCodecError XBadFormat XBadFrame XOutOfRange : Addr} {od0 an0 od1 an1 od2 an2 od3 an3 od4 an4 od5 an5 od6 an6 od7 an7 od8 an8 od9 an9 od10 an10 od11 an11 od12 an12 od13 an13 od14 an14 od15 an15 od16 an16 od17 an17 : Option Addr} {sl0 sl1 sl2 sl3 sl4 sl5 sl6 sl7 sl8 sl9 sl10 sl11 sl12 sl13 sl14 sl15 sl16 sl17 : Array (Option Value)} {oc0 kV0 dc0 pm0 cd0 ct0 oc1 dc1 pm1 cd1 ct1 oc2 kV2 dc2 pm2 cd2 ct2 oc3 kV3 dc3 pm3 cd3 ct3 oc4 kV4 dc4 pm4 cd4 ct4 oc5 kV5 dc5 pm5 cd5 ct5 oc6 kV6 dc6 pm6 cd6 ct6 oc7 kV7 dc7 pm7 cd7 ct7 oc8 kV8 dc8 pm8 cd8 ct8 oc9 kV9 dc9 pm9 cd9 ct9 oc10 kV10 dc10 pm10 cd10 ct10 oc11 kV11 dc11 pm11 cd11 ct11 oc12 kV12 dc12 pm12 cd12 ct12 oc13 kV13 dc13 pm13 cd13 ct13 oc14 kV14 dc14 pm14 cd14 ct14 oc15 kV15 dc15 pm15 cd15 ct15 oc16 kV16 dc16 pm16 cd16 ct16 oc17 kV17 dc17 pm17 cd17 ct17 : Value} {D1 : Addr} {ktk1_0 : Tok} {ktk1_1 : Tok} {q7 : Addr} {rs7 : List Value} {q15 : Addr} {rs15 : List Value} {q16 : Addr} {rs16 : List Value} {tk6 : Tok}
    (wFormat : PySem.W.nsIn K mainGlobals "Format" = some (some (.ref CFormat))) (vCodecError : PySem.W.nsIn K mainGlobals "CodecError" = some (some (.ref XCodecError))) (vBadFormat : PySem.W.nsIn K mainGlobals "BadFormat" = some (some (.ref XBadFormat))) (vBadFrame : PySem.W.nsIn K mainGlobals "BadFrame" = some (some (.ref XBadFrame))) (vOutOfRange : PySem.W.nsIn K mainGlobals "OutOfRange" = some (some (.ref XOutOfRange))) (a0 : PySem.W.nsIn K mainGlobals "_law_draws" = some (some (.ref f0))) (l0 : K.lookup f0 = some ⟨oc0, od0, .func (PySem.W.fnOf "_law_draws" "_law_draws" (defArgs s__law_draws) (defBody s__law_draws) (defScope s__law_draws) .none kV0 dc0 pm0 an0 cd0 ct0), sl0⟩) (c0 : PySem.W.codeIn K cd0 "_law_draws" = true) (k0 : PySem.W.keepIn K (.ref f0) = true) (a1 : PySem.W.findIn K (.ref CFormat) "__init__" = some (some (.ref f1))) (b1 : PySem.W.isFn K (.ref f1) = true) (d1 : PySem.W.makesIn K CFormat = true) (e1 : PySem.W.keepIn K (.ref CFormat) = true) (l1 : K.lookup f1 = some ⟨oc1, od1, .func (PySem.W.fnOf "__init__" "Format.__init__" (defArgs s_Format___init__) (defBody s_Format___init__) (defScope s_Format___init__) .none (.ref D1) dc1 pm1 an1 cd1 ct1), sl1⟩) (c1 : PySem.W.codeIn K cd1 "Format.__init__" = true) (k1 : PySem.W.keepIn K (.ref f1) = true) (kd1_0 : PySem.W.nsIn K D1 "depth" = some (some (.int 8 ktk1_0))) (kd1_1 : PySem.W.nsIn K D1 "chroma" = some (some (.int 0 ktk1_1))) (a2 : PySem.W.findIn K (.ref CFormat) "__eq__" = some (some (.ref f2))) (b2 : PySem.W.isFn K (.ref f2) = true) (l2 : K.lookup f2 = some ⟨oc2, od2, .func (PySem.W.fnOf "__eq__" "Format.__eq__" (defArgs s_Format___eq__) (defBody s_Format___eq__) (defScope s_Format___eq__) .none kV2 dc2 pm2 an2 cd2 ct2), sl2⟩) (c2 : PySem.W.codeIn K cd2 "Format.__eq__" = true) (k2 : PySem.W.keepIn K (.ref f2) = true) (a3 : PySem.W.nsIn K mainGlobals "_law_refused" = some (some (.ref f3))) (l3 : K.lookup f3 = some ⟨oc3, od3, .func (PySem.W.fnOf "_law_refused" "_law_refused" (defArgs s__law_refused) (defBody s__law_refused) (defScope s__law_refused) .none kV3 dc3 pm3 an3 cd3 ct3), sl3⟩) (c3 : PySem.W.codeIn K cd3 "_law_refused" = true) (k3 : PySem.W.keepIn K (.ref f3) = true) (a4 : PySem.W.nsIn K mainGlobals "_law_cell" = some (some (.ref f4))) (l4 : K.lookup f4 = some ⟨oc4, od4, .func (PySem.W.fnOf "_law_cell" "_law_cell" (defArgs s__law_cell) (defBody s__law_cell) (defScope s__law_cell) .none kV4 dc4 pm4 an4 cd4 ct4), sl4⟩) (c4 : PySem.W.codeIn K cd4 "_law_cell" = true) (k4 : PySem.W.keepIn K (.ref f4) = true) (a5 : PySem.W.nsIn K mainGlobals "_law_between" = some (some (.ref f5))) (l5 : K.lookup f5 = some ⟨oc5, od5, .func (PySem.W.fnOf "_law_between" "_law_between" (defArgs s__law_between) (defBody s__law_between) (defScope s__law_between) .none kV5 dc5 pm5 an5 cd5 ct5), sl5⟩) (c5 : PySem.W.codeIn K cd5 "_law_between" = true) (k5 : PySem.W.keepIn K (.ref f5) = true) (a6 : PySem.W.nsIn K mainGlobals "_law_up" = some (some (.ref f6))) (l6 : K.lookup f6 = some ⟨oc6, od6, .func (PySem.W.fnOf "_law_up" "_law_up" (defArgs s__law_up) (defBody s__law_up) (defScope s__law_up) .none kV6 dc6 pm6 an6 cd6 ct6), sl6⟩) (c6 : PySem.W.codeIn K cd6 "_law_up" = true) (k6 : PySem.W.keepIn K (.ref f6) = true) (a7 : PySem.W.findIn K (.ref CFormat) "planes" = some (some (.ref q7))) (b7 : PySem.W.specialIn K (.ref q7) "__get__" = some (some (.builtin "property.__get__"))) (d7 : PySem.W.takesIn K (.ref q7) = some true) (e7 : PySem.W.recIn K q7 "property" = some (.ref f7 :: rs7)) (l7 : K.lookup f7 = some ⟨oc7, od7, .func (PySem.W.fnOf "planes" "Format.planes" (defArgs s_Format_planes) (defBody s_Format_planes) (defScope s_Format_planes) .none kV7 dc7 pm7 an7 cd7 ct7), sl7⟩) (c7 : PySem.W.codeIn K cd7 "Format.planes" = true) (k7 : PySem.W.keepIn K (.ref f7) = true) (a8 : PySem.W.findIn K (.ref CFormat) "_plane_size" = some (some (.ref f8))) (b8 : PySem.W.isFn K (.ref f8) = true) (l8 : K.lookup f8 = some ⟨oc8, od8, .func (PySem.W.fnOf "_plane_size" "Format._plane_size" (defArgs s_Format__plane_size) (defBody s_Format__plane_size) (defScope s_Format__plane_size) .none kV8 dc8 pm8 an8 cd8 ct8), sl8⟩) (c8 : PySem.W.codeIn K cd8 "Format._plane_size" = true) (k8 : PySem.W.keepIn K (.ref f8) = true) (a9 : PySem.W.findIn K (.ref CFormat) "size" = some (some (.ref f9))) (b9 : PySem.W.isFn K (.ref f9) = true) (l9 : K.lookup f9 = some ⟨oc9, od9, .func (PySem.W.fnOf "size" "Format.size" (defArgs s_Format_size) (defBody s_Format_size) (defScope s_Format_size) .none kV9 dc9 pm9 an9 cd9 ct9), sl9⟩) (c9 : PySem.W.codeIn K cd9 "Format.size" = true) (k9 : PySem.W.keepIn K (.ref f9) = true) (a10 : PySem.W.findIn K (.ref CFormat) "blocks" = some (some (.ref f10))) (b10 : PySem.W.isFn K (.ref f10) = true) (l10 : K.lookup f10 = some ⟨oc10, od10, .func (PySem.W.fnOf "blocks" "Format.blocks" (defArgs s_Format_blocks) (defBody s_Format_blocks) (defScope s_Format_blocks) .none kV10 dc10 pm10 an10 cd10 ct10), sl10⟩) (c10 : PySem.W.codeIn K cd10 "Format.blocks" = true) (k10 : PySem.W.keepIn K (.ref f10) = true) (a11 : PySem.W.findIn K (.ref CFormat) "coded_size" = some (some (.ref f11))) (b11 : PySem.W.isFn K (.ref f11) = true) (l11 : K.lookup f11 = some ⟨oc11, od11, .func (PySem.W.fnOf "coded_size" "Format.coded_size" (defArgs s_Format_coded_size) (defBody s_Format_coded_size) (defScope s_Format_coded_size) .none kV11 dc11 pm11 an11 cd11 ct11), sl11⟩) (c11 : PySem.W.codeIn K cd11 "Format.coded_size" = true) (k11 : PySem.W.keepIn K (.ref f11) = true) (a12 : PySem.W.nsIn K mainGlobals "_law_no_plane" = some (some (.ref f12))) (l12 : K.lookup f12 = some ⟨oc12, od12, .func (PySem.W.fnOf "_law_no_plane" "_law_no_plane" (defArgs s__law_no_plane) (defBody s__law_no_plane) (defScope s__law_no_plane) .none kV12 dc12 pm12 an12 cd12 ct12), sl12⟩) (c12 : PySem.W.codeIn K cd12 "_law_no_plane" = true) (k12 : PySem.W.keepIn K (.ref f12) = true) (a13 : PySem.W.nsIn K mainGlobals "_law_size" = some (some (.ref f13))) (l13 : K.lookup f13 = some ⟨oc13, od13, .func (PySem.W.fnOf "_law_size" "_law_size" (defArgs s__law_size) (defBody s__law_size) (defScope s__law_size) .none kV13 dc13 pm13 an13 cd13 ct13), sl13⟩) (c13 : PySem.W.codeIn K cd13 "_law_size" = true) (k13 : PySem.W.keepIn K (.ref f13) = true) (a14 : PySem.W.nsIn K mainGlobals "_law_planes" = some (some (.ref f14))) (l14 : K.lookup f14 = some ⟨oc14, od14, .func (PySem.W.fnOf "_law_planes" "_law_planes" (defArgs s__law_planes) (defBody s__law_planes) (defScope s__law_planes) .none kV14 dc14 pm14 an14 cd14 ct14), sl14⟩) (c14 : PySem.W.codeIn K cd14 "_law_planes" = true) (k14 : PySem.W.keepIn K (.ref f14) = true) (a15 : PySem.W.findIn K (.ref CFormat) "middle" = some (some (.ref q15))) (b15 : PySem.W.specialIn K (.ref q15) "__get__" = some (some (.builtin "property.__get__"))) (d15 : PySem.W.takesIn K (.ref q15) = some true) (e15 : PySem.W.recIn K q15 "property" = some (.ref f15 :: rs15)) (l15 : K.lookup f15 = some ⟨oc15, od15, .func (PySem.W.fnOf "middle" "Format.middle" (defArgs s_Format_middle) (defBody s_Format_middle) (defScope s_Format_middle) .none kV15 dc15 pm15 an15 cd15 ct15), sl15⟩) (c15 : PySem.W.codeIn K cd15 "Format.middle" = true) (k15 : PySem.W.keepIn K (.ref f15) = true) (a16 : PySem.W.findIn K (.ref CFormat) "top" = some (some (.ref q16))) (b16 : PySem.W.specialIn K (.ref q16) "__get__" = some (some (.builtin "property.__get__"))) (d16 : PySem.W.takesIn K (.ref q16) = some true) (e16 : PySem.W.recIn K q16 "property" = some (.ref f16 :: rs16)) (l16 : K.lookup f16 = some ⟨oc16, od16, .func (PySem.W.fnOf "top" "Format.top" (defArgs s_Format_top) (defBody s_Format_top) (defScope s_Format_top) .none kV16 dc16 pm16 an16 cd16 ct16), sl16⟩) (c16 : PySem.W.codeIn K cd16 "Format.top" = true) (k16 : PySem.W.keepIn K (.ref f16) = true) (a17 : PySem.W.nsIn K mainGlobals "law" = some (some (.ref f17))) (l17 : K.lookup f17 = some ⟨oc17, od17, .func (PySem.W.fnOf "law" "law" (defArgs s_law) (defBody s_law) (defScope s_law) .none kV17 dc17 pm17 an17 cd17 ct17), sl17⟩) (c17 : PySem.W.codeIn K cd17 "law" = true) (k17 : PySem.W.keepIn K (.ref f17) = true)
    (z0 : PySem.W.nsIn K mainGlobals "abs" = some none) (z1 : PySem.W.nsIn K mainGlobals "int" = some none) (z2 : PySem.W.nsIn K mainGlobals "isinstance" = some none) (z3 : PySem.W.nsIn K mainGlobals "ValueError" = some none) (z4 : PySem.W.nsIn K mainGlobals "len" = some none) (z5 : PySem.W.nsIn K mainGlobals "min" = some none) (z6 : PySem.W.nsIn K mainGlobals "BLOCK" = some (some (.int 8 tk6))) (z7 : PySem.W.nsIn K mainGlobals "range" = some none) (z8 : PySem.W.nsIn K mainGlobals "list" = some none) (yFormat0 : PySem.W.plainGet K CFormat Str.empty = true) (yFormat1 : PySem.W.hasDictIn K CFormat = true) (yFormat2 : PySem.W.plainOver K CFormat = true) (yFormat3 : PySem.W.findIn K (.ref CFormat) "__setattr__" = some (some (.builtin "object.__setattr__"))) (iFormat0 : PySem.W.findIn K (.ref CFormat) "__class__" = some (some (.builtin "object.__class__"))) (iFormat1 : PySem.W.specialIn K (.builtin "object.__class__") "__get__" = some (some (.builtin "getset_descriptor.__get__"))) (iFormat2 : PySem.W.takesIn K (.builtin "object.__class__") = some true) (iFormat3 : PySem.W.mroIn K CFormat (.type "object") = some true) (xFormat0 : PySem.W.findIn K (.ref CFormat) "width" = some none) (xFormat1 : PySem.W.findIn K (.ref CFormat) "height" = some none) (xFormat2 : PySem.W.findIn K (.ref CFormat) "depth" = some none) (xFormat3 : PySem.W.findIn K (.ref CFormat) "chroma" = some none) (exBadFormat : PySem.W.excIn K XBadFormat [.type "ValueError", .type "Exception", .type "BaseException", .type "object"] "ValueError.__new__" = true) (ekBadFormat : PySem.W.keepIn K (.ref XBadFormat) = true) (ebBadFormat : PySem.W.subIn K (.ref XBadFormat) (.type "BaseException") = some true) (etBadFormat : PySem.W.typeIn K (.ref XBadFormat) = some (.type "type")) (exOutOfRange : PySem.W.excIn K XOutOfRange [.type "ValueError", .type "Exception", .type "BaseException", .type "object"] "ValueError.__new__" = true) (ekOutOfRange : PySem.W.keepIn K (.ref XOutOfRange) = true) (ebOutOfRange : PySem.W.subIn K (.ref XOutOfRange) (.type "BaseException") = some true) (etOutOfRange : PySem.W.typeIn K (.ref XOutOfRange) = some (.type "type")) (exBadFrame : PySem.W.excIn K XBadFrame [.type "ValueError", .type "Exception", .type "BaseException", .type "object"] "ValueError.__new__" = true) (ekBadFrame : PySem.W.keepIn K (.ref XBadFrame) = true) (ebBadFrame : PySem.W.subIn K (.ref XBadFrame) (.type "BaseException") = some true) (etBadFrame : PySem.W.typeIn K (.ref XBadFrame) = some (.type "type")) (exCodecError : PySem.W.excIn K XCodecError [.type "ValueError", .type "Exception", .type "BaseException", .type "object"] "ValueError.__new__" = true) (ekCodecError : PySem.W.keepIn K (.ref XCodecError) = true) (ebCodecError : PySem.W.subIn K (.ref XCodecError) (.type "BaseException") = some true) (etCodecError : PySem.W.typeIn K (.ref XCodecError) = some (.type "type")) (eiBadFormatBadFormat : PySem.W.isClsIn K XBadFormat = true) (esBadFormatBadFormat : PySem.W.subIn K (.ref XBadFormat) (.ref XBadFormat) = some true) (eiOutOfRangeOutOfRange : PySem.W.isClsIn K XOutOfRange = true) (esOutOfRangeOutOfRange : PySem.W.subIn K (.ref XOutOfRange) (.ref XOutOfRange) = some true) (eiBadFormatCodecError : PySem.W.isClsIn K XCodecError = true) (esBadFormatCodecError : PySem.W.subIn K (.ref XBadFormat) (.ref XCodecError) = some true) (eiOutOfRangeCodecError : PySem.W.isClsIn K XCodecError = true) (esOutOfRangeCodecError : PySem.W.subIn K (.ref XOutOfRange) (.ref XCodecError) = some true) (enBadFormatBadFrame : (Value.ref XBadFormat == Value.ref XBadFrame) = false) (ejBadFormatBadFrame : PySem.W.isClsIn K XBadFrame = true) (etBadFormatBadFrame : PySem.W.subIn K (.ref XBadFormat) (.ref XBadFrame) = some false) (enBadFormatOutOfRange : (Value.ref XBadFormat == Value.ref XOutOfRange) = false) (ejBadFormatOutOfRange : PySem.W.isClsIn K XOutOfRange = true) (etBadFormatOutOfRange : PySem.W.subIn K (.ref XBadFormat) (.ref XOutOfRange) = some false) (enOutOfRangeBadFormat : (Value.ref XOutOfRange == Value.ref XBadFormat) = false) (ejOutOfRangeBadFormat : PySem.W.isClsIn K XBadFormat = true) (etOutOfRangeBadFormat : PySem.W.subIn K (.ref XOutOfRange) (.ref XBadFormat) = some false) (ebBadFormatValueError : PySem.W.subIn K (.ref XBadFormat) (.type "ValueError") = some true) (c1BadFormat : PySem.W.findIn K (.ref XBadFormat) "__getattribute__" = some (some (.builtin "BaseException.__getattribute__"))) (c2BadFormat : PySem.W.findIn K (.ref XBadFormat) "__getattr__" = some none) (c3BadFormat : PySem.W.hasDictIn K XBadFormat = true) (c4BadFormat : PySem.W.findIn K (.ref XBadFormat) "__class__" = some (some (.builtin "object.__class__"))) (c5BadFormat : PySem.W.specialIn K (.builtin "object.__class__") "__get__" = some (some (.builtin "getset_descriptor.__get__"))) (c6BadFormat : PySem.W.takesIn K (.builtin "object.__class__") = some true) (c7BadFormat : PySem.W.mroIn K XBadFormat (.type "object") = some true) (c1OutOfRange : PySem.W.findIn K (.ref XOutOfRange) "__getattribute__" = some (some (.builtin "BaseException.__getattribute__"))) (c2OutOfRange : PySem.W.findIn K (.ref XOutOfRange) "__getattr__" = some none) (c3OutOfRange : PySem.W.hasDictIn K XOutOfRange = true) (c4OutOfRange : PySem.W.findIn K (.ref XOutOfRange) "__class__" = some (some (.builtin "object.__class__"))) (c5OutOfRange : PySem.W.specialIn K (.builtin "object.__class__") "__get__" = some (some (.builtin "getset_descriptor.__get__"))) (c6OutOfRange : PySem.W.takesIn K (.builtin "object.__class__") = some true) (c7OutOfRange : PySem.W.mroIn K XOutOfRange (.type "object") = some true) :
    ∃ fd : FuncData, (∀ (s : Shared) (v : Value), BindsTo s fd ⟨[v], []⟩ [("script", v)]) ∧ ∀ base : Heap, K.In base → base.Ns mainGlobals mg → FnG l.prog w K mg base CX0 7 fa fd ["script"] (spL K) := by
  have e := hfa.symm.trans (PySem.W.mg_of X G a17)
  cases e
  have T : Txt K mg ⟨CFormat, XCodecError, XBadFormat, XBadFrame, XOutOfRange, fa⟩ := ⟨PySem.W.mg_none_of X G z0, PySem.W.mg_none_of X G z1, PySem.W.mg_none_of X G z2, PySem.W.mg_none_of X G z3, PySem.W.mg_none_of X G z4, PySem.W.mg_none_of X G z5, ⟨_, PySem.W.mg_of X G z6, ⟨_, rfl⟩⟩, PySem.W.mg_none_of X G z7, PySem.W.mg_none_of X G z8, ⟨yFormat0, yFormat1, yFormat2, yFormat3⟩, PySem.W.mg_of X G wFormat, ⟨iFormat0, iFormat1, iFormat2, iFormat3⟩, xFormat0, xFormat1, xFormat2, xFormat3, PySem.W.mg_of X G vBadFormat, exBadFormat, ekBadFormat, ebBadFormat, etBadFormat, PySem.W.mg_of X G vOutOfRange, exOutOfRange, ekOutOfRange, ebOutOfRange, etOutOfRange, PySem.W.mg_of X G vBadFrame, exBadFrame, ekBadFrame, ebBadFrame, etBadFrame, PySem.W.mg_of X G vCodecError, exCodecError, ekCodecError, ebCodecError, etCodecError, exm_mk ebBadFormat eiBadFormatBadFormat etBadFormat esBadFormatBadFormat, exm_mk ebOutOfRange eiOutOfRangeOutOfRange etOutOfRange esOutOfRangeOutOfRange, kit_mk eiBadFormatCodecError etCodecError esBadFormatCodecError, kit_mk eiOutOfRangeCodecError etCodecError esOutOfRangeCodecError, kit_mk0 enBadFormatBadFrame ejBadFormatBadFrame etBadFrame etBadFormatBadFrame, kit_mk0 enBadFormatOutOfRange ejBadFormatOutOfRange etOutOfRange etBadFormatOutOfRange, kit_mk0 enOutOfRangeBadFormat ejOutOfRangeBadFormat etBadFormat etOutOfRangeBadFormat, kit_blt ebBadFormatValueError, ⟨c1BadFormat, c2BadFormat, ebBadFormat, c3BadFormat, c4BadFormat, c5BadFormat, c6BadFormat, c7BadFormat⟩, ⟨c1OutOfRange, c2OutOfRange, ebOutOfRange, c3OutOfRange, c4OutOfRange, c5OutOfRange, c6OutOfRange, c7OutOfRange⟩⟩
  have F0 : FunD K "_law_draws" "_law_draws" (defArgs s__law_draws) (defBody s__law_draws) (defScope s__law_draws) [] [] f0 _ := ⟨⟨_, _, _, _, _, _, _, _, _, _, rfl, l0, c0, .inl ⟨rfl, rfl⟩, .inl rfl⟩, k0⟩
  have D_0 : DefX K mg "_law_draws" s__law_draws ["cell", "limits"] pats__law_draws := ⟨_, _, _, _, F0, PySem.W.mg_of X G a0, (all_consQ (Bnd.all fun us ws vs zs l1 l2 r rz => by
      obtain ⟨u0, u1, rfl⟩ := len2 (r.length.symm.trans l1)
      obtain rfl := len0 (rz.length.symm.trans l2)
      cases r with | cons r0 r =>
        cases r with | cons r1 r =>
          cases r
          cases rz
          exact ⟨[u0, u1], rfl, (.cons r0 (.cons r1 .nil))⟩) all_nilQ)⟩
  have F1 : FunD K "__init__" "Format.__init__" (defArgs s_Format___init__) (defBody s_Format___init__) (defScope s_Format___init__) [] [("depth", V.int 8), ("chroma", V.int 0)] f1 _ := ⟨⟨_, _, _, _, _, _, _, _, _, _, rfl, l1, c1, .inl ⟨rfl, rfl⟩, (.inr ⟨_, rfl, (all_consQ ⟨_, kd1_0, ⟨_, rfl⟩⟩ (all_consQ ⟨_, kd1_1, ⟨_, rfl⟩⟩ all_nilQ))⟩)⟩, k1⟩
  have D_1 : InitX K mg CFormat "Format" "Format.__init__" s_Format___init__ ["self", "width", "height", "depth", "chroma"] pats_Format___init__ := ⟨_, _, _, _, F1, ⟨d1, a1, b1, e1⟩, PySem.W.mg_of X G wFormat, (all_consQ (Bnd.all fun us ws vs zs l1 l2 r rz => by
      obtain ⟨u0, u1, u2, rfl⟩ := len3 (r.length.symm.trans l1)
      obtain ⟨w0, w1, rfl⟩ := len2 (rz.length.symm.trans l2)
      cases r with | cons r0 r =>
        cases r with | cons r1 r =>
          cases r with | cons r2 r =>
            cases r
            cases rz with | cons q0 rz =>
              cases rz with | cons q1 rz =>
                cases rz
                exact ⟨[u0, u1, u2, w0, w1], rfl, (.cons r0 (.cons r1 (.cons r2 (.cons q0 (.cons q1 .nil)))))⟩) (all_consQ (Exists.elim (FunD.kbinds0 F1 3 [] [("depth", V.int 8), ("chroma", V.int 0)] (fun {α} => gk_Format___init___1 (α := α)) (by simp) (by simp) (fun r s q => gkrel_Format___init___1 r s q) (fun D doc pm an cdv ct us mv ws h1 h2 h3 => by
        obtain ⟨u0, u1, u2, rfl⟩ := len3 h1
        obtain ⟨m0, m1, rfl⟩ := len2 h2
        obtain rfl := len0 h3
        exact ⟨_, _, _, _, _, _, rfl, rfl, ⟨_, _, _, _, _, _, rfl, rfl, rfl⟩⟩)) fun _ hb => Bnd.of_kbn hb) all_nilQ))⟩
  have F2 : FunD K "__eq__" "Format.__eq__" (defArgs s_Format___eq__) (defBody s_Format___eq__) (defScope s_Format___eq__) [] [] f2 _ := ⟨⟨_, _, _, _, _, _, _, _, _, _, rfl, l2, c2, .inl ⟨rfl, rfl⟩, .inl rfl⟩, k2⟩
  have D_2 : MethX K CFormat "Format.__eq__" "__eq__" s_Format___eq__ ["self", "other"] pats_Format___eq__ := ⟨_, _, _, _, F2, ⟨a2, b2, k2⟩, (all_consQ (Bnd.all fun us ws vs zs l1 l2 r rz => by
      obtain ⟨u0, u1, rfl⟩ := len2 (r.length.symm.trans l1)
      obtain rfl := len0 (rz.length.symm.trans l2)
      cases r with | cons r0 r =>
        cases r with | cons r1 r =>
          cases r
          cases rz
          exact ⟨[u0, u1], rfl, (.cons r0 (.cons r1 .nil))⟩) all_nilQ)⟩
  have F3 : FunD K "_law_refused" "_law_refused" (defArgs s__law_refused) (defBody s__law_refused) (defScope s__law_refused) [] [] f3 _ := ⟨⟨_, _, _, _, _, _, _, _, _, _, rfl, l3, c3, .inl ⟨rfl, rfl⟩, .inl rfl⟩, k3⟩
  have D_3 : DefX K mg "_law_refused" s__law_refused ["numbers"] pats__law_refused := ⟨_, _, _, _, F3, PySem.W.mg_of X G a3, (all_consQ (Bnd.all fun us ws vs zs l1 l2 r rz => by
      obtain ⟨u0, rfl⟩ := len1 (r.length.symm.trans l1)
      obtain rfl := len0 (rz.length.symm.trans l2)
      cases r with | cons r0 r =>
        cases r
        cases rz
        exact ⟨[u0], rfl, (.cons r0 .nil)⟩) all_nilQ)⟩
  have F4 : FunD K "_law_cell" "_law_cell" (defArgs s__law_cell) (defBody s__law_cell) (defScope s__law_cell) [] [] f4 _ := ⟨⟨_, _, _, _, _, _, _, _, _, _, rfl, l4, c4, .inl ⟨rfl, rfl⟩, .inl rfl⟩, k4⟩
  have D_4 : DefX K mg "_law_cell" s__law_cell ["script", "k"] pats__law_cell := ⟨_, _, _, _, F4, PySem.W.mg_of X G a4, (all_consQ (Bnd.all fun us ws vs zs l1 l2 r rz => by
      obtain ⟨u0, u1, rfl⟩ := len2 (r.length.symm.trans l1)
      obtain rfl := len0 (rz.length.symm.trans l2)
      cases r with | cons r0 r =>
        cases r with | cons r1 r =>
          cases r
          cases rz
          exact ⟨[u0, u1], rfl, (.cons r0 (.cons r1 .nil))⟩) all_nilQ)⟩
  have F5 : FunD K "_law_between" "_law_between" (defArgs s__law_between) (defBody s__law_between) (defScope s__law_between) [] [] f5 _ := ⟨⟨_, _, _, _, _, _, _, _, _, _, rfl, l5, c5, .inl ⟨rfl, rfl⟩, .inl rfl⟩, k5⟩
  have D_5 : DefX K mg "_law_between" s__law_between ["first", "second", "low", "high"] pats__law_between := ⟨_, _, _, _, F5, PySem.W.mg_of X G a5, (all_consQ (Bnd.all fun us ws vs zs l1 l2 r rz => by
      obtain ⟨u0, u1, u2, u3, rfl⟩ := len4 (r.length.symm.trans l1)
      obtain rfl := len0 (rz.length.symm.trans l2)
      cases r with | cons r0 r =>
        cases r with | cons r1 r =>
          cases r with | cons r2 r =>
            cases r with | cons r3 r =>
              cases r
              cases rz
              exact ⟨[u0, u1, u2, u3], rfl, (.cons r0 (.cons r1 (.cons r2 (.cons r3 .nil))))⟩) all_nilQ)⟩
  have F6 : FunD K "_law_up" "_law_up" (defArgs s__law_up) (defBody s__law_up) (defScope s__law_up) [] [] f6 _ := ⟨⟨_, _, _, _, _, _, _, _, _, _, rfl, l6, c6, .inl ⟨rfl, rfl⟩, .inl rfl⟩, k6⟩
  have D_6 : DefX K mg "_law_up" s__law_up ["n"] pats__law_up := ⟨_, _, _, _, F6, PySem.W.mg_of X G a6, (all_consQ (Bnd.all fun us ws vs zs l1 l2 r rz => by
      obtain ⟨u0, rfl⟩ := len1 (r.length.symm.trans l1)
      obtain rfl := len0 (rz.length.symm.trans l2)
      cases r with | cons r0 r =>
        cases r
        cases rz
        exact ⟨[u0], rfl, (.cons r0 .nil)⟩) all_nilQ)⟩
  have F7 : FunD K "planes" "Format.planes" (defArgs s_Format_planes) (defBody s_Format_planes) (defScope s_Format_planes) [] [] f7 _ := ⟨⟨_, _, _, _, _, _, _, _, _, _, rfl, l7, c7, .inl ⟨rfl, rfl⟩, .inl rfl⟩, k7⟩
  have D_7 : PropX K CFormat "Format.planes" "planes" s_Format_planes ["self"] pats_Format_planes := ⟨_, _, _, _, _, F7, ⟨a7, b7, d7, _, e7⟩, FunD.bindsN F7 (fun _ _ _ _ _ _ us h => by obtain ⟨u0, rfl⟩ := len1 h; rfl)⟩
  have F8 : FunD K "_plane_size" "Format._plane_size" (defArgs s_Format__plane_size) (defBody s_Format__plane_size) (defScope s_Format__plane_size) [] [] f8 _ := ⟨⟨_, _, _, _, _, _, _, _, _, _, rfl, l8, c8, .inl ⟨rfl, rfl⟩, .inl rfl⟩, k8⟩
  have D_8 : MethX K CFormat "Format._plane_size" "_plane_size" s_Format__plane_size ["self", "plane", "width", "height"] pats_Format__plane_size := ⟨_, _, _, _, F8, ⟨a8, b8, k8⟩, (all_consQ (Bnd.all fun us ws vs zs l1 l2 r rz => by
      obtain ⟨u0, u1, u2, u3, rfl⟩ := len4 (r.length.symm.trans l1)
      obtain rfl := len0 (rz.length.symm.trans l2)
      cases r with | cons r0 r =>
        cases r with | cons r1 r =>
          cases r with | cons r2 r =>
            cases r with | cons r3 r =>
              cases r
              cases rz
              exact ⟨[u0, u1, u2, u3], rfl, (.cons r0 (.cons r1 (.cons r2 (.cons r3 .nil))))⟩) all_nilQ)⟩
  have F9 : FunD K "size" "Format.size" (defArgs s_Format_size) (defBody s_Format_size) (defScope s_Format_size) [] [] f9 _ := ⟨⟨_, _, _, _, _, _, _, _, _, _, rfl, l9, c9, .inl ⟨rfl, rfl⟩, .inl rfl⟩, k9⟩
  have D_9 : MethX K CFormat "Format.size" "size" s_Format_size ["self", "plane"] pats_Format_size := ⟨_, _, _, _, F9, ⟨a9, b9, k9⟩, (all_consQ (Bnd.all fun us ws vs zs l1 l2 r rz => by
      obtain ⟨u0, u1, rfl⟩ := len2 (r.length.symm.trans l1)
      obtain rfl := len0 (rz.length.symm.trans l2)
      cases r with | cons r0 r =>
        cases r with | cons r1 r =>
          cases r
          cases rz
          exact ⟨[u0, u1], rfl, (.cons r0 (.cons r1 .nil))⟩) all_nilQ)⟩
  have F10 : FunD K "blocks" "Format.blocks" (defArgs s_Format_blocks) (defBody s_Format_blocks) (defScope s_Format_blocks) [] [] f10 _ := ⟨⟨_, _, _, _, _, _, _, _, _, _, rfl, l10, c10, .inl ⟨rfl, rfl⟩, .inl rfl⟩, k10⟩
  have D_10 : MethX K CFormat "Format.blocks" "blocks" s_Format_blocks ["self"] pats_Format_blocks := ⟨_, _, _, _, F10, ⟨a10, b10, k10⟩, (all_consQ (Bnd.all fun us ws vs zs l1 l2 r rz => by
      obtain ⟨u0, rfl⟩ := len1 (r.length.symm.trans l1)
      obtain rfl := len0 (rz.length.symm.trans l2)
      cases r with | cons r0 r =>
        cases r
        cases rz
        exact ⟨[u0], rfl, (.cons r0 .nil)⟩) all_nilQ)⟩
  have F11 : FunD K "coded_size" "Format.coded_size" (defArgs s_Format_coded_size) (defBody s_Format_coded_size) (defScope s_Format_coded_size) [] [] f11 _ := ⟨⟨_, _, _, _, _, _, _, _, _, _, rfl, l11, c11, .inl ⟨rfl, rfl⟩, .inl rfl⟩, k11⟩
  have D_11 : MethX K CFormat "Format.coded_size" "coded_size" s_Format_coded_size ["self", "plane"] pats_Format_coded_size := ⟨_, _, _, _, F11, ⟨a11, b11, k11⟩, (all_consQ (Bnd.all fun us ws vs zs l1 l2 r rz => by
      obtain ⟨u0, u1, rfl⟩ := len2 (r.length.symm.trans l1)
      obtain rfl := len0 (rz.length.symm.trans l2)
      cases r with | cons r0 r =>
        cases r with | cons r1 r =>
          cases r
          cases rz
          exact ⟨[u0, u1], rfl, (.cons r0 (.cons r1 .nil))⟩) all_nilQ)⟩
  have F12 : FunD K "_law_no_plane" "_law_no_plane" (defArgs s__law_no_plane) (defBody s__law_no_plane) (defScope s__law_no_plane) [] [] f12 _ := ⟨⟨_, _, _, _, _, _, _, _, _, _, rfl, l12, c12, .inl ⟨rfl, rfl⟩, .inl rfl⟩, k12⟩
  have D_12 : DefX K mg "_law_no_plane" s__law_no_plane ["fmt", "plane"] pats__law_no_plane := ⟨_, _, _, _, F12, PySem.W.mg_of X G a12, (all_consQ (Bnd.all fun us ws vs zs l1 l2 r rz => by
      obtain ⟨u0, u1, rfl⟩ := len2 (r.length.symm.trans l1)
      obtain rfl := len0 (rz.length.symm.trans l2)
      cases r with | cons r0 r =>
        cases r with | cons r1 r =>
          cases r
          cases rz
          exact ⟨[u0, u1], rfl, (.cons r0 (.cons r1 .nil))⟩) all_nilQ)⟩
  have F13 : FunD K "_law_size" "_law_size" (defArgs s__law_size) (defBody s__law_size) (defScope s__law_size) [] [] f13 _ := ⟨⟨_, _, _, _, _, _, _, _, _, _, rfl, l13, c13, .inl ⟨rfl, rfl⟩, .inl rfl⟩, k13⟩
  have D_13 : DefX K mg "_law_size" s__law_size ["width", "height", "chroma", "plane"] pats__law_size := ⟨_, _, _, _, F13, PySem.W.mg_of X G a13, (all_consQ (Bnd.all fun us ws vs zs l1 l2 r rz => by
      obtain ⟨u0, u1, u2, u3, rfl⟩ := len4 (r.length.symm.trans l1)
      obtain rfl := len0 (rz.length.symm.trans l2)
      cases r with | cons r0 r =>
        cases r with | cons r1 r =>
          cases r with | cons r2 r =>
            cases r with | cons r3 r =>
              cases r
              cases rz
              exact ⟨[u0, u1, u2, u3], rfl, (.cons r0 (.cons r1 (.cons r2 (.cons r3 .nil))))⟩) all_nilQ)⟩
  have F14 : FunD K "_law_planes" "_law_planes" (defArgs s__law_planes) (defBody s__law_planes) (defScope s__law_planes) [] [] f14 _ := ⟨⟨_, _, _, _, _, _, _, _, _, _, rfl, l14, c14, .inl ⟨rfl, rfl⟩, .inl rfl⟩, k14⟩
  have D_14 : DefX K mg "_law_planes" s__law_planes ["fmt", "numbers"] pats__law_planes := ⟨_, _, _, _, F14, PySem.W.mg_of X G a14, (all_consQ (Bnd.all fun us ws vs zs l1 l2 r rz => by
      obtain ⟨u0, u1, rfl⟩ := len2 (r.length.symm.trans l1)
      obtain rfl := len0 (rz.length.symm.trans l2)
      cases r with | cons r0 r =>
        cases r with | cons r1 r =>
          cases r
          cases rz
          exact ⟨[u0, u1], rfl, (.cons r0 (.cons r1 .nil))⟩) all_nilQ)⟩
  have F15 : FunD K "middle" "Format.middle" (defArgs s_Format_middle) (defBody s_Format_middle) (defScope s_Format_middle) [] [] f15 _ := ⟨⟨_, _, _, _, _, _, _, _, _, _, rfl, l15, c15, .inl ⟨rfl, rfl⟩, .inl rfl⟩, k15⟩
  have D_15 : PropX K CFormat "Format.middle" "middle" s_Format_middle ["self"] pats_Format_middle := ⟨_, _, _, _, _, F15, ⟨a15, b15, d15, _, e15⟩, FunD.bindsN F15 (fun _ _ _ _ _ _ us h => by obtain ⟨u0, rfl⟩ := len1 h; rfl)⟩
  have F16 : FunD K "top" "Format.top" (defArgs s_Format_top) (defBody s_Format_top) (defScope s_Format_top) [] [] f16 _ := ⟨⟨_, _, _, _, _, _, _, _, _, _, rfl, l16, c16, .inl ⟨rfl, rfl⟩, .inl rfl⟩, k16⟩
  have D_16 : PropX K CFormat "Format.top" "top" s_Format_top ["self"] pats_Format_top := ⟨_, _, _, _, _, F16, ⟨a16, b16, d16, _, e16⟩, FunD.bindsN F16 (fun _ _ _ _ _ _ us h => by obtain ⟨u0, rfl⟩ := len1 h; rfl)⟩
  have F17 : FunD K "law" "law" (defArgs s_law) (defBody s_law) (defScope s_law) [] [] _ _ := ⟨⟨_, _, _, _, _, _, _, _, _, _, rfl, l17, c17, .inl ⟨rfl, rfl⟩, .inl rfl⟩, k17⟩
  have R__law_draws : ∀ base : Heap, CalX l.prog w K mg base 1 "_law_draws" (sp__law_draws K ⟨CFormat, XCodecError, XBadFormat, XBadFrame, XOutOfRange, fa⟩) pats__law_draws := fun base => ok__law_draws D_0 T 
  have R_Format___init__ : ∀ base : Heap, MakX l.prog w K mg base 1 "Format" (⟨CFormat, XCodecError, XBadFormat, XBadFrame, XOutOfRange, fa⟩ : Ads).c_Format (sp_Format___init__ K ⟨CFormat, XCodecError, XBadFormat, XBadFrame, XOutOfRange, fa⟩) pats_Format___init__ := fun base => ok_Format___init__ D_1 T 
  have R_Format___eq__ : ∀ base : Heap, MetX l.prog w K mg base 1 (⟨CFormat, XCodecError, XBadFormat, XBadFrame, XOutOfRange, fa⟩ : Ads).c_Format "__eq__" (sp_Format___eq__ K ⟨CFormat, XCodecError, XBadFormat, XBadFrame, XOutOfRange, fa⟩) pats_Format___eq__ := fun base => ok_Format___eq__ D_2 T 
  have R__law_refused : ∀ base : Heap, CalX l.prog w K mg base 3 "_law_refused" (sp__law_refused K ⟨CFormat, XCodecError, XBadFormat, XBadFrame, XOutOfRange, fa⟩) pats__law_refused := fun base => ok__law_refused D_3 T (R_Format___init__ base)
  have R__law_cell : ∀ base : Heap, CalX l.prog w K mg base 1 "_law_cell" (sp__law_cell K ⟨CFormat, XCodecError, XBadFormat, XBadFrame, XOutOfRange, fa⟩) pats__law_cell := fun base => ok__law_cell D_4 T 
  have R__law_between : ∀ base : Heap, CalX l.prog w K mg base 1 "_law_between" (sp__law_between K ⟨CFormat, XCodecError, XBadFormat, XBadFrame, XOutOfRange, fa⟩) pats__law_between := fun base => ok__law_between D_5 T 
  have R__law_up : ∀ base : Heap, CalX l.prog w K mg base 1 "_law_up" (sp__law_up K ⟨CFormat, XCodecError, XBadFormat, XBadFrame, XOutOfRange, fa⟩) pats__law_up := fun base => ok__law_up D_6 T 
  have R_Format_planes : ∀ base : Heap, PropY l.prog w K mg base 1 (⟨CFormat, XCodecError, XBadFormat, XBadFrame, XOutOfRange, fa⟩ : Ads).c_Format "planes" (sp_Format_planes K ⟨CFormat, XCodecError, XBadFormat, XBadFrame, XOutOfRange, fa⟩) pats_Format_planes := fun base => ok_Format_planes D_7 T 
  have R_Format__plane_size : ∀ base : Heap, MetX l.prog w K mg base 3 (⟨CFormat, XCodecError, XBadFormat, XBadFrame, XOutOfRange, fa⟩ : Ads).c_Format "_plane_size" (sp_Format__plane_size K ⟨CFormat, XCodecError, XBadFormat, XBadFrame, XOutOfRange, fa⟩) pats_Format__plane_size := fun base => ok_Format__plane_size D_8 T (R_Format_planes base)
  have R_Format_size : ∀ base : Heap, MetX l.prog w K mg base 4 (⟨CFormat, XCodecError, XBadFormat, XBadFrame, XOutOfRange, fa⟩ : Ads).c_Format "size" (sp_Format_size K ⟨CFormat, XCodecError, XBadFormat, XBadFrame, XOutOfRange, fa⟩) pats_Format_size := fun base => ok_Format_size D_9 T (R_Format__plane_size base)
  have R_Format_blocks : ∀ base : Heap, MetX l.prog w K mg base 1 (⟨CFormat, XCodecError, XBadFormat, XBadFrame, XOutOfRange, fa⟩ : Ads).c_Format "blocks" (sp_Format_blocks K ⟨CFormat, XCodecError, XBadFormat, XBadFrame, XOutOfRange, fa⟩) pats_Format_blocks := fun base => ok_Format_blocks D_10 T 
  have R_Format_coded_size : ∀ base : Heap, MetX l.prog w K mg base 4 (⟨CFormat, XCodecError, XBadFormat, XBadFrame, XOutOfRange, fa⟩ : Ads).c_Format "coded_size" (sp_Format_coded_size K ⟨CFormat, XCodecError, XBadFormat, XBadFrame, XOutOfRange, fa⟩) pats_Format_coded_size := fun base => ok_Format_coded_size D_11 T (R_Format_blocks base) (R_Format__plane_size base)
  have R__law_no_plane : ∀ base : Heap, CalX l.prog w K mg base 5 "_law_no_plane" (sp__law_no_plane K ⟨CFormat, XCodecError, XBadFormat, XBadFrame, XOutOfRange, fa⟩) pats__law_no_plane := fun base => ok__law_no_plane D_12 T (R_Format_size base) (R_Format_coded_size base)
  have R__law_size : ∀ base : Heap, CalX l.prog w K mg base 1 "_law_size" (sp__law_size K ⟨CFormat, XCodecError, XBadFormat, XBadFrame, XOutOfRange, fa⟩) pats__law_size := fun base => ok__law_size D_13 T 
  have R__law_planes : ∀ base : Heap, CalX l.prog w K mg base 6 "_law_planes" (sp__law_planes K ⟨CFormat, XCodecError, XBadFormat, XBadFrame, XOutOfRange, fa⟩) pats__law_planes := fun base => ok__law_planes D_14 T (R__law_up base) (R_Format_blocks base) (R_Format_planes base) (R_Format_size base) (R__law_size base) (R_Format_coded_size base) (R__law_no_plane base)
  have R_Format_middle : ∀ base : Heap, PropY l.prog w K mg base 1 (⟨CFormat, XCodecError, XBadFormat, XBadFrame, XOutOfRange, fa⟩ : Ads).c_Format "middle" (sp_Format_middle K ⟨CFormat, XCodecError, XBadFormat, XBadFrame, XOutOfRange, fa⟩) pats_Format_middle := fun base => ok_Format_middle D_15 T 
  have R_Format_top : ∀ base : Heap, PropY l.prog w K mg base 1 (⟨CFormat, XCodecError, XBadFormat, XBadFrame, XOutOfRange, fa⟩ : Ads).c_Format "top" (sp_Format_top K ⟨CFormat, XCodecError, XBadFormat, XBadFrame, XOutOfRange, fa⟩) pats_Format_top := fun base => ok_Format_top D_16 T 

  refine ⟨PySem.W.fnOf "law" "law" (defArgs s_law) (defBody s_law) (defScope s_law) .none kV17 dc17 pm17 an17 cd17 ct17, fun s v => .of_eq rfl, fun base _ _ => (ok_law (AD := ⟨CFormat, XCodecError, XBadFormat, XBadFrame, XOutOfRange, fa⟩) F17 T (R__law_draws base) (R__law_cell base) (R__law_between base) (R_Format___init__ base) (R__law_planes base) (R_Format_top base) (R_Format_middle base) (R_Format___eq__ base) (R__law_refused base)).imp ?_⟩
  rintro vs H Q E ⟨a, xs, rfl, hs, hl, q⟩
  exact ⟨a, xs, rfl, hs, by rw [law_true xs hl]; exact cW_mk rfl, q⟩
end Vx
open PySem PySem.W PyProof.Rows
set_option maxRecDepth 100000 in
set_option maxHeartbeats 0 in
theorem PySem.Challenge.cw_thaumatrope_k01_sizes_of_formats_holds : PySem.Challenge.rw_thaumatrope_k01_sizes_of_formats.Holds := by
  w_on; o_law; k_head; (case hw => w_witness2)
  k_fill
  refine Vx.walkG (l := PySem.Challenge.rw_thaumatrope_k01_sizes_of_formats) (n := 63) (k := 7) (x := "script") rfl (by decide) rfl ⟨rfl, by decide, by decide⟩ (fun w h Y => PySem.W.kIn_of Y) ?F
  case F =>
    intro w mg fa h KX G hmg
    refine' Vx.all_mk KX G hmg ?wFormat ?vCodecError ?vBadFormat ?vBadFrame ?vOutOfRange ?a0 ?l0 ?c0 ?k0 ?a1 ?b1 ?d1 ?e1 ?l1 ?c1 ?k1 ?kd1_0 ?kd1_1 ?a2 ?b2 ?l2 ?c2 ?k2 ?a3 ?l3 ?c3 ?k3 ?a4 ?l4 ?c4 ?k4 ?a5 ?l5 ?c5 ?k5 ?a6 ?l6 ?c6 ?k6 ?a7 ?b7 ?d7 ?e7 ?l7 ?c7 ?k7 ?a8 ?b8 ?l8 ?c8 ?k8 ?a9 ?b9 ?l9 ?c9 ?k9 ?a10 ?b10 ?l10 ?c10 ?k10 ?a11 ?b11 ?l11 ?c11 ?k11 ?a12 ?l12 ?c12 ?k12 ?a13 ?l13 ?c13 ?k13 ?a14 ?l14 ?c14 ?k14 ?a15 ?b15 ?d15 ?e15 ?l15 ?c15 ?k15 ?a16 ?b16 ?d16 ?e16 ?l16 ?c16 ?k16 ?a17 ?l17 ?c17 ?k17 ?z0 ?z1 ?z2 ?z3 ?z4 ?z5 ?z6 ?z7 ?z8 ?yFormat0 ?yFormat1 ?yFormat2 ?yFormat3 ?iFormat0 ?iFormat1 ?iFormat2 ?iFormat3 ?xFormat0 ?xFormat1 ?xFormat2 ?xFormat3 ?exBadFormat ?ekBadFormat ?ebBadFormat ?etBadFormat ?exOutOfRange ?ekOutOfRange ?ebOutOfRange ?etOutOfRange ?exBadFrame ?ekBadFrame ?ebBadFrame ?etBadFrame ?exCodecError ?ekCodecError ?ebCodecError ?etCodecError ?eiBadFormatBadFormat ?esBadFormatBadFormat ?eiOutOfRangeOutOfRange ?esOutOfRangeOutOfRange ?eiBadFormatCodecError ?esBadFormatCodecError ?eiOutOfRangeCodecError ?esOutOfRangeCodecError ?enBadFormatBadFrame ?ejBadFormatBadFrame ?etBadFormatBadFrame ?enBadFormatOutOfRange ?ejBadFormatOutOfRange ?etBadFormatOutOfRange ?enOutOfRangeBadFormat ?ejOutOfRangeBadFormat ?etOutOfRangeBadFormat ?ebBadFormatValueError ?c1BadFormat ?c2BadFormat ?c3BadFormat ?c4BadFormat ?c5BadFormat ?c6BadFormat ?c7BadFormat ?c1OutOfRange ?c2OutOfRange ?c3OutOfRange ?c4OutOfRange ?c5OutOfRange ?c6OutOfRange ?c7OutOfRange
    (case wFormat => k_is)
    (case vCodecError => k_is)
    (case vBadFormat => k_is)
    (case vBadFrame => k_is)
    (case vOutOfRange => k_is)
    (case a0 => k_is)
    (case l0 => k_is)
    (case c0 => k_is)
    (case k0 => k_is)
    (case a1 => k_is)
    (case b1 => k_is)
    (case d1 => k_is)
    (case e1 => k_is)
    (case l1 => k_is)
    (case c1 => k_is)
    (case k1 => k_is)
    (case kd1_0 => k_is)
    (case kd1_1 => k_is)
    (case a2 => k_is)
    (case b2 => k_is)
    (case l2 => k_is)
    (case c2 => k_is)
    (case k2 => k_is)
    (case a3 => k_is)
    (case l3 => k_is)
    (case c3 => k_is)
    (case k3 => k_is)
    (case a4 => k_is)
    (case l4 => k_is)
    (case c4 => k_is)
    (case k4 => k_is)
    (case a5 => k_is)
    (case l5 => k_is)
    (case c5 => k_is)
    (case k5 => k_is)
    (case a6 => k_is)
    (case l6 => k_is)
    (case c6 => k_is)
    (case k6 => k_is)
    (case a7 => k_is)
    (case b7 => k_is)
    (case d7 => k_is)
    (case e7 => k_is)
    (case l7 => k_is)
    (case c7 => k_is)
    (case k7 => k_is)
    (case a8 => k_is)
    (case b8 => k_is)
    (case l8 => k_is)
    (case c8 => k_is)
    (case k8 => k_is)
    (case a9 => k_is)
    (case b9 => k_is)
    (case l9 => k_is)
    (case c9 => k_is)
    (case k9 => k_is)
    (case a10 => k_is)
    (case b10 => k_is)
    (case l10 => k_is)
    (case c10 => k_is)
    (case k10 => k_is)
    (case a11 => k_is)
    (case b11 => k_is)
    (case l11 => k_is)
    (case c11 => k_is)
    (case k11 => k_is)
    (case a12 => k_is)
    (case l12 => k_is)
    (case c12 => k_is)
    (case k12 => k_is)
    (case a13 => k_is)
    (case l13 => k_is)
    (case c13 => k_is)
    (case k13 => k_is)
    (case a14 => k_is)
    (case l14 => k_is)
    (case c14 => k_is)
    (case k14 => k_is)
    (case a15 => k_is)
    (case b15 => k_is)
    (case d15 => k_is)
    (case e15 => k_is)
    (case l15 => k_is)
    (case c15 => k_is)
    (case k15 => k_is)
    (case a16 => k_is)
    (case b16 => k_is)
    (case d16 => k_is)
    (case e16 => k_is)
    (case l16 => k_is)
    (case c16 => k_is)
    (case k16 => k_is)
    (case a17 => k_is)
    (case l17 => k_is)
    (case c17 => k_is)
    (case k17 => k_is)
    (case z0 => k_is)
    (case z1 => k_is)
    (case z2 => k_is)
    (case z3 => k_is)
    (case z4 => k_is)
    (case z5 => k_is)
    (case z6 => k_is)
    (case z7 => k_is)
    (case z8 => k_is)
    (case yFormat0 => k_is)
    (case yFormat1 => k_is)
    (case yFormat2 => k_is)
    (case yFormat3 => k_is)
    (case iFormat0 => k_is)
    (case iFormat1 => k_is)
    (case iFormat2 => k_is)
    (case iFormat3 => k_is)
    (case xFormat0 => k_is)
    (case xFormat1 => k_is)
    (case xFormat2 => k_is)
    (case xFormat3 => k_is)
    (case exBadFormat => k_exc)
    (case ekBadFormat => k_is)
    (case ebBadFormat => k_is)
    (case etBadFormat => k_is)
    (case exOutOfRange => k_exc)
    (case ekOutOfRange => k_is)
    (case ebOutOfRange => k_is)
    (case etOutOfRange => k_is)
    (case exBadFrame => k_exc)
    (case ekBadFrame => k_is)
    (case ebBadFrame => k_is)
    (case etBadFrame => k_is)
    (case exCodecError => k_exc)
    (case ekCodecError => k_is)
    (case ebCodecError => k_is)
    (case etCodecError => k_is)
    (case eiBadFormatBadFormat => k_is)
    (case esBadFormatBadFormat => first | rfl | k_is)
    (case eiOutOfRangeOutOfRange => k_is)
    (case esOutOfRangeOutOfRange => first | rfl | k_is)
    (case eiBadFormatCodecError => k_is)
    (case esBadFormatCodecError => first | rfl | k_is)
    (case eiOutOfRangeCodecError => k_is)
    (case esOutOfRangeCodecError => first | rfl | k_is)
    (case enBadFormatBadFrame => rfl)
    (case ejBadFormatBadFrame => k_is)
    (case etBadFormatBadFrame => k_is)
    (case enBadFormatOutOfRange => rfl)
    (case ejBadFormatOutOfRange => k_is)
    (case etBadFormatOutOfRange => k_is)
    (case enOutOfRangeBadFormat => rfl)
    (case ejOutOfRangeBadFormat => k_is)
    (case etOutOfRangeBadFormat => k_is)
    (case ebBadFormatValueError => first | rfl | k_is)
    (case c1BadFormat => k_is)
    (case c2BadFormat => k_is)
    (case c3BadFormat => k_is)
    (case c4BadFormat => k_is)
    (case c5BadFormat => k_is)
    (case c6BadFormat => k_is)
    (case c7BadFormat => k_is)
    (case c1OutOfRange => k_is)
    (case c2OutOfRange => k_is)
    (case c3OutOfRange => k_is)
    (case c4OutOfRange => k_is)
    (case c5OutOfRange => k_is)
    (case c6OutOfRange => k_is)
    (case c7OutOfRange => k_is)
