import PyProof.Rows.All
import Wide.All
import OpenK.AllK
import Wide.FinOn
import HandS.ForMost
import HandS.Codes
import HandS.Steps
import HandS.IsInst
import HandS.Property
import HandS.Wide
import HandS.WideBits
import HandS.Exc
import HandS.Defaults
import HandS.ExcOwn
import HandS.TryOnly
import HandS.WordsExc
import HandS.ExcIs
import HandS.MakeKwOnly
import HandS.RaiseMore
import HandS.Style
import HandS.Zip
import HandS.Iter
import PySem.Challenge.RW_thaumatrope_k16_whole_symbols_read_back
set_option Elab.async false
set_option linter.all false
set_option maxRecDepth 100000
set_option maxHeartbeats 8000000
namespace Vx
open PySem PySem.Spec PyProof.Rows L2

/-! ### heaps -/
def SameX (m : Addr) (H H' : Hp) : Prop := ∀ b o, H b = some o → b ≠ m → H' b = some o
theorem gen_new {H H' : Hp} {p : Addr} {o : HO} (n : H p = none) (h : upd H p o = H') : Same H H' ∧ H' p = some o := by
  subst h
  exact ⟨fun b u e => by rw [upd_ne (ne_of_none e n)]; exact e, upd_same⟩
theorem gen_mut {H H' : Hp} {m : Addr} {o : HO} (h : upd H m o = H') : SameX m H H' ∧ H' m = some o := by
  subst h
  exact ⟨fun b u e n => by rw [upd_ne n]; exact e, upd_same⟩
theorem same_mut {H0 H H' : Hp} {m : Addr} (B : Same H0 H) (x : SameX m H H') (f : H0 m = none) : Same H0 H' :=
  fun b o e => x b o (B b o e) (ne_of_none e f)
theorem map_get {xs : List Int} {i : Nat} {x : V} (h : (xs.map V.int)[i]? = some x) : ∃ o, xs[i]? = some o ∧ x = .int o := by
  rw [List.getElem?_map] at h
  cases e : xs[i]? with
  | none => rw [e] at h; cases h
  | some z => rw [e] at h; exact ⟨z, rfl, (Option.some.inj h).symm⟩
theorem get_len {α : Type} {xs : List α} {i : Nat} {x : α} (h : xs[i]? = some x) : i < xs.length := (List.getElem?_eq_some_iff.mp h).1
theorem eq_int {Q : VK} {H : Hp} {a b : Int} (h : Q (.int a) H) (e : a = b) : Q (.int b) H := e ▸ h
theorem eq_bl {Q : VK} {H : Hp} {a b : Bool} (h : Q (.bl a) H) (e : a = b) : Q (.bl b) H := e ▸ h
theorem small {n : Nat} (h : n ≤ 1000000) : n < sizeLine := Nat.lt_of_le_of_lt h (by decide)
theorem smallE {n : Nat} (h : n ≤ 1000000) : n ≤ sizeLine := Nat.le_of_lt (small h)
theorem snoc_int {xs : List Int} {y : Int} {H : Hp} {p : Addr} (h : H p = some (.lst (xs.map V.int ++ [V.int y]))) : H p = some (.lst ((xs ++ [y]).map V.int)) := by
  rw [List.map_append]; exact h
theorem cat_int {xs ys : List Int} {H : Hp} {p : Addr} (h : H p = some (.lst (xs.map V.int ++ ys.map V.int))) : H p = some (.lst ((xs ++ ys).map V.int)) := by
  rw [List.map_append]; exact h
theorem cast_lst {xs ys : List Int} {H : Hp} {p : Addr} (h : H p = some (.lst (xs.map V.int))) (e : xs = ys) : H p = some (.lst (ys.map V.int)) := e ▸ h

/-! ### tests -/
theorem dT {p : Prop} [Decidable p] (h : decide p = true) : p := of_decide_eq_true h
theorem dF {p : Prop} [Decidable p] (h : ¬ decide p = true) : ¬ p := fun x => h (decide_eq_true x)
theorem iteD {p A B : Prop} [Decidable p] (h1 : p → A) (h2 : ¬ p → B) : if decide p = true then A else B := by
  by_cases h : p
  · rw [if_pos (decide_eq_true h)]; exact h1 h
  · rw [if_neg (fun x => h (of_decide_eq_true x))]; exact h2 h
theorem iteN {p A B : Prop} [Decidable p] (h1 : ¬ p → A) (h2 : p → B) : if (!decide p) = true then A else B := by
  by_cases h : p
  · rw [decide_eq_true h]; exact iteF (h2 h)
  · rw [decide_eq_false h]; exact iteT (h1 h)
theorem iteB {b : Bool} {A B : Prop} (h1 : b = true → A) (h2 : b = false → B) : if b = true then A else B := by
  cases b with
  | true => exact iteT (h1 rfl)
  | false => exact iteF (h2 rfl)
theorem iteBN {b : Bool} {A B : Prop} (h1 : b = false → A) (h2 : b = true → B) : if (!b) = true then A else B := by
  cases b with
  | true => exact iteF (h2 rfl)
  | false => exact iteT (h1 rfl)
theorem iteDT {p A B : Prop} [Decidable p] (h : p) (k : A) : if decide p = true then A else B := by
  rw [if_pos (decide_eq_true h)]; exact k
theorem iteDF {p A B : Prop} [Decidable p] (h : ¬ p) (k : B) : if decide p = true then A else B := by
  rw [if_neg (fun x => h (of_decide_eq_true x))]; exact k
theorem iteNT {p A B : Prop} [Decidable p] (h : ¬ p) (k : A) : if (!decide p) = true then A else B := iteN (fun _ => k) (fun x => (h x).elim)
theorem iteNF {p A B : Prop} [Decidable p] (h : p) (k : B) : if (!decide p) = true then A else B := iteN (fun x => (x h).elim) (fun _ => k)

/-! ### equality of lists of ints -/
theorem eqvAll_ints : ∀ xs ys : List Int, PyData.eqvAll (xs.map PyData.int) (ys.map PyData.int) = decide (xs = ys)
  | [], [] => by simp [PyData.eqvAll]
  | [], y :: ys => by simp [PyData.eqvAll]
  | x :: xs, [] => by simp [PyData.eqvAll]
  | x :: xs, y :: ys => by
    have ih := eqvAll_ints xs ys
    simp only [List.map_cons, PyData.eqvAll, PyData.eqv, ih]
    by_cases h : x = y <;> by_cases h2 : xs = ys <;> simp [h, h2]
end Vx

namespace Vx
open PySem PySem.Spec PyProof.Rows L2
section
variable {X : Cx}
def rEqLi (K : PySem.W.Frag) : R2 := fun x y H Q => ∃ (a b : Addr) (xs ys : List Int), x = .ref a ∧ y = .ref b ∧ SqL K H a (xs.map V.int) ∧ SqL K H b (ys.map V.int) ∧ Q (.bl (decide (xs = ys))) H
def rNeLi (K : PySem.W.Frag) : R2 := fun x y H Q => ∃ (a b : Addr) (xs ys : List Int), x = .ref a ∧ y = .ref b ∧ SqL K H a (xs.map V.int) ∧ SqL K H b (ys.map V.int) ∧ Q (.bl (!decide (xs = ys))) H
theorem dpAll_ints {K : PySem.W.Frag} {H : Hp} : ∀ xs : List Int, DpAll K H (xs.map V.int) (xs.map PyData.int)
  | [] => .nil
  | x :: xs => .cons (.int x) (dpAll_ints xs)
theorem dp_ints {K : PySem.W.Frag} {H : Hp} {a : Addr} {xs : List Int} (h : SqL K H a (xs.map V.int)) : Dp K H (.ref a) (.list (xs.map PyData.int)) := .lst h (dpAll_ints xs)
theorem canLay_ints : ∀ xs : List Int, PyData.canLayAll0 (xs.map PyData.int) = true
  | [] => by simp [PyData.canLayAll0]
  | x :: xs => by simp [PyData.canLayAll0, PyData.canLay0, canLay_ints xs]
theorem depth_ints : ∀ xs : List Int, PyData.depthAll (xs.map PyData.int) = 0
  | [] => by simp [PyData.depthAll]
  | x :: xs => by simp [PyData.depthAll, PyData.depth, depth_ints xs]
theorem shaped_ints (xs : List Int) : SeqAt.shaped (.list (xs.map PyData.int)) = true := by
  unfold SeqAt.shaped
  simp [PyData.canLay0, canLay_ints, PyData.depth, depth_ints]
theorem eqv_ints (xs ys : List Int) : PyData.eqv (.list (xs.map PyData.int)) (.list (ys.map PyData.int)) = decide (xs = ys) := by
  simp only [PyData.eqv]
  exact eqvAll_ints xs ys
theorem op_eqLi (hu : X.A.units + 64 < cLine) : OpR X (compareOp .Eq) (rEqLi X.K) := by
  intro pins s σ H x y v u Q I rx ry h
  obtain ⟨a, b, xs, ys, rfl, rfl, h1, h2, q⟩ := h
  exact op_eqD hu pins s σ H _ _ v u Q I rx ry ⟨_, _, dp_ints h1, dp_ints h2, shaped_ints xs, shaped_ints ys, by rw [eqv_ints]; exact q⟩
theorem op_neLi (hu : X.A.units + 64 < cLine) : OpR X (compareOp .NotEq) (rNeLi X.K) := by
  intro pins s σ H x y v u Q I rx ry h
  obtain ⟨a, b, xs, ys, rfl, rfl, h1, h2, q⟩ := h
  exact op_neD hu pins s σ H _ _ v u Q I rx ry ⟨_, _, dp_ints h1, dp_ints h2, shaped_ints xs, shaped_ints ys, by rw [eqv_ints]; exact q⟩

/-! ### items, slices, repetition, comprehensions of ints -/
def itI (xs : List Int) (i : Int) : Int := (atI xs i).getD 0
theorem atI_int {xs : List Int} {i : Int} (h : -(xs.length : Int) ≤ i ∧ i < xs.length) : atI (xs.map V.int) i = some (.int (itI xs i)) := by
  unfold itI atI
  rw [List.length_map]
  have hk : ∃ j, ixN xs.length i = some j ∧ j < xs.length := by
    unfold ixN
    by_cases h0 : 0 ≤ i
    · refine ⟨i.toNat, ?_, by omega⟩
      rw [if_pos h0, if_pos h.2]
    · refine ⟨(i + xs.length).toNat, ?_, by omega⟩
      rw [if_neg h0, if_pos h.1]
  obtain ⟨j, e, hj⟩ := hk
  rw [e]
  show (xs.map V.int)[j]? = some (V.int ((xs[j]?).getD 0))
  rw [List.getElem?_map, List.getElem?_eq_getElem hj] <;> rfl
def cutI (xs : List Int) (lo hi : Option Int) : List Int := (xs.drop (HT.sIx xs.length 0 lo)).take (HT.sIx xs.length xs.length hi - HT.sIx xs.length 0 lo)
theorem cut_int {xs : List Int} {lo hi : Option Int} {H : Hp} {p : Addr} (h : H p = some (.lst (cutV (xs.map V.int) lo hi))) : H p = some (.lst ((cutI xs lo hi).map V.int)) := by
  rw [h]
  unfold cutV cutI
  rw [List.length_map, List.map_take, List.map_drop]
def rep (xs : List Int) (k : Int) : List Int := (List.replicate k.toNat xs).flatten
theorem rep_int {xs : List Int} {k : Int} {H : Hp} {p : Addr} (h : H p = some (.lst (List.replicate k.toNat (xs.map V.int)).flatten)) : H p = some (.lst ((rep xs k).map V.int)) := by
  rw [h]
  unfold rep
  rw [List.map_flatten, List.map_replicate]
theorem divW_lit {i j : Int} (h : 0 < j) (h2 : j.natAbs.log2 < 9000) : CDivW i j := ⟨h, h2⟩
theorem divW_small {i j : Int} (h : 0 < j) (h2 : j < 2 ^ 128) : CDivW i j := wide_div h (show j.natAbs < 2 ^ 128 by omega) (by decide) (by decide)
theorem comp_list {xs : List Int} {i : Nat} {x y : Int} {f : Int → Int} {H : Hp} {D : Addr} (hi : xs[i]? = some x) (h : H D = some (.lst (((xs.take i).map f).map V.int ++ [V.int y]))) (e : f x = y) : H D = some (.lst (((xs.take (i + 1)).map f).map V.int)) := by
  rw [h, ← e, List.take_succ, hi, List.map_append, List.map_append] <;> rfl
theorem comp_done {xs : List Int} {f : Int → Int} {H : Hp} {D : Addr} (h : H D = some (.lst (((xs.take (xs.map V.int).length).map f).map V.int))) : H D = some (.lst ((xs.map f).map V.int)) := by
  rw [List.length_map, List.take_length] at h
  exact h
theorem comp_range {i : Nat} {y : Int} {f : Nat → Int} {H : Hp} {D : Addr} (h : H D = some (.lst (((List.range i).map f).map V.int ++ [V.int y]))) (e : f i = y) : H D = some (.lst (((List.range (i + 1)).map f).map V.int)) := by
  rw [h, ← e, List.range_succ, List.map_append, List.map_append] <;> rfl
theorem iteBT {b : Bool} {A B : Prop} (h : b = true) (k : A) : if b = true then A else B := by rw [if_pos h]; exact k
theorem iteBF {b : Bool} {A B : Prop} (h : b = false) (k : B) : if b = true then A else B := by rw [if_neg (by rw [h]; decide)]; exact k
theorem take_succ_get {α : Type} {xs : List α} {i : Nat} {x : α} (hi : xs[i]? = some x) : xs.take (i + 1) = xs.take i ++ [x] := by rw [List.take_succ, hi] <;> rfl
end

/-! ### defs of the module, as callers see them -/
section
variable {P : Program} {w : World} {K : PySem.W.Frag} {mg : Str → Option Value} {base : Heap}
structure DefIn (K : PySem.W.Frag) (mg : Str → Option Value) (x : Str) (st : Stmt) (ps : List Str) : Prop where
  ex : ∃ (f : Addr) (fd : FuncData), Fun K x x st f fd ∧ mg x = some (.ref f) ∧ Binds K fd ps []
structure Cal (P : Program) (w : World) (K : PySem.W.Frag) (mg : Str → Option Value) (base : Heap) (k : Nat) (x : Str) (sp : Sp) : Prop where
  ex : ∃ (f : Addr) (fd : FuncData) (ps : List Str), FnOk P w K mg base CX0 k f fd ps sp ∧ mg x = some (.ref f) ∧ PySem.W.keepIn K (.ref f) = true ∧ Binds K fd ps []
theorem DefIn.ok {x : Str} {st : Stmt} {N ps : List Str} {k : Nat} {sp : Sp} (D : DefIn K mg x st ps) (S : FnScope N ps (defScope st)) (len : ∀ vs H Q E, sp vs H Q E → vs.length = ps.length)
    (hbody : ∀ (f : Addr) (cdv : Value) (A : Around) (outer : List Env) (s : Shared) (H : Hp) (vs : List V) (Q : VK) (E : XK), Room k (A.deeper (envOfC x (defScope st) s.heap.objs.size f cdv)) → sp vs H Q E →
      ∃ t, PSs (cxOf CX0 P w K mg base N x (defScope st) f cdv A outer s H E).nox (defBody st) t ∧ t { nx := fun _ H' => Q .non H', rt := Q } (start N vs) H) : Cal P w K mg base (k + 1) x sp := by
  obtain ⟨f, fd, F, hm, b⟩ := D.ex
  exact ⟨f, fd, ps, F.ok S len (fun cdv A outer s H vs Q E hr h => hbody f cdv A outer s H vs Q E hr h), hm, F.kp, b⟩
end
section
variable {X : Cx} {k j : Nat} {x : Str} {sp : Sp} {p pos : Pos} {e : Expr} {es : List Expr} {t : TA}
theorem vx_call (c : Cal X.prog X.w X.K X.mg X.base k x sp) (hr : Room j X.A) (hk : k ≤ j) (hg : Gl X x) (ha : PA X (e :: es) t)
    (hdb : (x == ("__debug__" : Str)) = false := by decide) (he : starEach (e :: es) X.env = (false, eval e X.env) :: starEach es X.env := by rfl) (hpl : (backTo pos (starEach es X.env)).any (·.1) = false := by rfl) :
    PE X (.Call (.Name x p) (e :: es) [] pos) (tCall sp [] E0 t) := by
  obtain ⟨f, fd, ps, F, hm, kp, b⟩ := c.ex
  exact pe_call F (hr.mono hk) hg hm kp b .nil pass0 ha hdb he hpl
end
end Vx

namespace Vx
open PySem PySem.Spec PyProof.Rows L2
section
variable {σ : L2.St} {H : Hp} {ta tb : TE} {x y z : V} {t : TT}
theorem vv_and {a b : Bool} (h1 : Val ta σ H (.bl a)) (h2 : Val tb σ H (.bl b)) : Val (tAndV ta tb) σ H (.bl (a && b)) := fun Q q => h1 _ ⟨a, rfl, by
  cases a with
  | true => exact iteT (h2 Q q)
  | false => exact iteF q⟩
theorem vv_or {a b : Bool} (h1 : Val ta σ H (.bl a)) (h2 : Val tb σ H (.bl b)) : Val (tOrV ta tb) σ H (.bl (a || b)) := fun Q q => h1 _ ⟨a, rfl, by
  cases a with
  | true => exact iteT q
  | false => exact iteF (h2 Q q)⟩
theorem vv_not {a : Bool} (h1 : Val ta σ H (.bl a)) : Val (tNotV ta) σ H (.bl (!a)) := fun Q q => h1 _ ⟨a, rfl, q⟩
theorem vv_un {r : V → Hp → VK → Prop} (ha : Val ta σ H x) (hr : ∀ Q : VK, Q z H → r x H Q) : Val (tUn r ta) σ H z := fun Q q => ha _ (hr Q q)
theorem vv_cmp {p : Int → Int → Bool} (ha : Val ta σ H x) (hb : Val tb σ H y) (hr : ∀ Q : VK, Q z H → ∃ i j, x = .int i ∧ y = .int j ∧ Q (.bl (p i j)) H) : Val (tCmp p ta tb) σ H z := fun Q q => ha _ (hb _ (hr Q q))
theorem vv_call1 {r : List V → Hp → VK → Prop} (ha : Val ta σ H x) (hr : ∀ Q : VK, Q z H → r [x] H Q) : Val (tCB r (tCons ta tNil)) σ H z := fun Q q => ha _ (hr Q q)
theorem vt_cmp {b : Bool} (h : Val ta σ H (.bl b)) : Ans (tB ta) σ H b := fun Q q => h _ ⟨b, rfl, q⟩
theorem vt_val {b : Bool} (h : Val ta σ H (.bl b)) : Ans (tB ta) σ H b := fun Q q => h _ ⟨b, rfl, q⟩
theorem vt_int {i : Int} {K : PySem.W.Frag} (h : Val ta σ H (.int i)) : Ans (fun σ H Q => ta σ H fun x H' => ∃ k, TruV K x H' k ∧ Q k H') σ H (i != 0) := fun Q q => h _ ⟨_, rfl, q⟩
theorem vv_if {p : Prop} [Decidable p] {a b : Int} (ht : Ans t σ H (decide p)) (hx : Val ta σ H (.int a)) (hy : Val tb σ H (.int b)) : Val (tIf t ta tb) σ H (.int (if p then a else b)) := fun Q q => ht _ (by
  by_cases h : p
  · rw [if_pos h] at q; exact iteDT h (hx Q q)
  · rw [if_neg h] at q; exact iteDF h (hy Q q))
theorem vv_ifb {c : Bool} {a b : Int} (ht : Ans t σ H c) (hx : Val ta σ H (.int a)) (hy : Val tb σ H (.int b)) : Val (tIf t ta tb) σ H (.int (if c = true then a else b)) := fun Q q => ht _ (by
  cases c with
  | true => exact iteT (hx Q q)
  | false => exact iteF (hy Q q))
end
end Vx

namespace Vx
open PySem PySem.Spec PyProof.Rows L2
def rLenLi (K : PySem.W.Frag) : List V → Hp → VK → Prop := fun xs H Q => ∃ (p : Addr) (ns : List Int), xs = [.ref p] ∧ SqL K H p (ns.map V.int) ∧ Q (.int (ns.length : Int)) H
theorem call_lenLi {X : Cx} : CallR X (.builtin "len") (rLenLi X.K) := by
  intro pins s σ H xs us Q I r h
  obtain ⟨p, ns, rfl, hs, q⟩ := h
  exact call_len_seq pins s σ H _ us Q I r ⟨p, _, rfl, Or.inl hs, by rw [List.length_map]; exact q⟩
end Vx

namespace Vx
open PySem PySem.Spec PyProof.Rows L2
section
variable {X : Cx} {K : PySem.W.Frag}
theorem ix_listK (hK : X.K = K := by rfl) : IxR X (rIxL K) := hK ▸ ix_list
theorem sl_listK (hK : X.K = K := by rfl) : SlR X (rSlL K) := hK ▸ sl_list
theorem call_lenLiK (hK : X.K = K := by rfl) : CallR X (.builtin "len") (rLenLi K) := hK ▸ call_lenLi
theorem op_eqLiK (hu : X.A.units + 64 < cLine) (hK : X.K = K := by rfl) : OpR X (compareOp .Eq) (rEqLi K) := hK ▸ op_eqLi hu
theorem op_neLiK (hu : X.A.units + 64 < cLine) (hK : X.K = K := by rfl) : OpR X (compareOp .NotEq) (rNeLi K) := hK ▸ op_neLi hu
theorem pi_listK {tg l : Expr} {tl : TE} (hl : PE X l tl) (hK : X.K = K := by rfl) : PI X tg l (iList K tl) := hK ▸ pi_list hl
theorem cr_sumK (hc : X.calm = true) (hK : X.K = K := by rfl) : CallR X (.builtin "sum") (rSum K) := hK ▸ cr_sum hc
theorem cr_maxK (hc : X.calm = true) (hK : X.K = K := by rfl) : CallR X (.builtin "max") (rMax K) := hK ▸ cr_max hc
theorem cr_minK (hc : X.calm = true) (hK : X.K = K := by rfl) : CallR X (.builtin "min") (rMin K) := hK ▸ cr_min hc
end
end Vx

namespace Vx
open PySem PySem.Spec PyProof.Rows L2
theorem tyes_go {σ : L2.St} {H : Hp} {f g : Hp → Prop} (h : f H) : tYes σ H (fun b H3 => if b = true then f H3 else g H3) := by
  show if true = true then f H else g H
  exact iteT h
end Vx

/-! # second part: data of any depth, the stable heap G, the owned addresses O -/
namespace Vx
open PySem PySem.Spec PyProof.Rows L2
mutual
inductive Rp (H : Hp) : V → PyData → Prop
  | non : Rp H .non .none
  | bl (b : Bool) : Rp H (.bl b) (.bool b)
  | int (i : Int) : Rp H (.int i) (.int i)
  | str (x : Str) : Rp H (.str x) (.str x)
  | lst {a : Addr} {xs : List V} {ds : List PyData} : H a = some (.lst xs) → RpAll H xs ds → Rp H (.ref a) (.list ds)
  | tup {a : Addr} {xs : List V} {ds : List PyData} : H a = some (.tup xs) → RpAll H xs ds → Rp H (.ref a) (.tuple ds)
inductive RpAll (H : Hp) : List V → List PyData → Prop
  | nil : RpAll H [] []
  | cons {v : V} {vs : List V} {d : PyData} {ds : List PyData} : Rp H v d → RpAll H vs ds → RpAll H (v :: vs) (d :: ds)
end
mutual
theorem Rp.mono {H H' : Hp} (e : Same H H') : ∀ {v : V} {d : PyData}, Rp H v d → Rp H' v d
  | _, _, .non => .non
  | _, _, .bl b => .bl b
  | _, _, .int i => .int i
  | _, _, .str x => .str x
  | _, _, .lst h r => .lst (e _ _ h) (RpAll.mono e r)
  | _, _, .tup h r => .tup (e _ _ h) (RpAll.mono e r)
theorem RpAll.mono {H H' : Hp} (e : Same H H') : ∀ {vs : List V} {ds : List PyData}, RpAll H vs ds → RpAll H' vs ds
  | _, _, .nil => .nil
  | _, _, .cons a b => .cons (Rp.mono e a) (RpAll.mono e b)
end
mutual
theorem Rp.dp {K : PySem.W.Frag} {H : Hp} : ∀ {v : V} {d : PyData}, Rp H v d → Dp K H v d
  | _, _, .non => .non
  | _, _, .bl b => .bl b
  | _, _, .int i => .int i
  | _, _, .str x => .str x
  | _, _, .lst h r => .lst (SqL.of h) (RpAll.dp r)
  | _, _, .tup h r => .tup (SqT.of h) (RpAll.dp r)
theorem RpAll.dp {K : PySem.W.Frag} {H : Hp} : ∀ {vs : List V} {ds : List PyData}, RpAll H vs ds → DpAll K H vs ds
  | _, _, .nil => .nil
  | _, _, .cons a b => .cons (Rp.dp a) (RpAll.dp b)
end
theorem RpAll.append {H : Hp} : ∀ {xs ys : List V} {ds es : List PyData}, RpAll H xs ds → RpAll H ys es → RpAll H (xs ++ ys) (ds ++ es)
  | _, _, _, _, .nil, s => s
  | _, _, _, _, .cons r t, s => .cons r (RpAll.append t s)
theorem RpAll.ints {H : Hp} : ∀ xs : List Int, RpAll H (xs.map V.int) (xs.map PyData.int)
  | [] => .nil
  | x :: xs => .cons (.int x) (RpAll.ints xs)
theorem RpAll.bls {H : Hp} : ∀ xs : List Bool, RpAll H (xs.map V.bl) (xs.map PyData.bool)
  | [] => .nil
  | x :: xs => .cons (.bl x) (RpAll.bls xs)
theorem RpAll.one {H : Hp} {v : V} {d : PyData} (h : Rp H v d) : RpAll H [v] [d] := .cons h .nil
theorem RpAll.len {H : Hp} : ∀ {vs : List V} {ds : List PyData}, RpAll H vs ds → vs.length = ds.length
  | _, _, .nil => rfl
  | _, _, .cons _ t => by rw [List.length_cons, List.length_cons, RpAll.len t]
theorem RpAll.at {H : Hp} : ∀ {vs : List V} {ds : List PyData} {i : Nat} {v : V}, RpAll H vs ds → vs[i]? = some v → ∃ d, ds[i]? = some d ∧ Rp H v d
  | _, _, _, _, .nil, h => by simp at h
  | _, _, 0, _, .cons r _, h => by
    simp at h
    subst h
    exact ⟨_, rfl, r⟩
  | _, _, i + 1, _, .cons _ t, h => by
    obtain ⟨d, h1, h2⟩ := RpAll.at (i := i) t (by simpa using h)
    exact ⟨d, by simpa using h1, h2⟩
theorem RpAll.at' {H : Hp} : ∀ {vs : List V} {ds : List PyData} {i : Nat} {d : PyData}, RpAll H vs ds → ds[i]? = some d → ∃ v, vs[i]? = some v ∧ Rp H v d
  | _, _, _, _, .nil, h => by simp at h
  | _, _, 0, _, .cons r _, h => by
    simp at h
    subst h
    exact ⟨_, rfl, r⟩
  | _, _, i + 1, _, .cons _ t, h => by
    obtain ⟨v, h1, h2⟩ := RpAll.at' (i := i) t (by simpa using h)
    exact ⟨v, by simpa using h1, h2⟩
theorem RpAll.take {H : Hp} : ∀ (n : Nat) {vs : List V} {ds : List PyData}, RpAll H vs ds → RpAll H (vs.take n) (ds.take n)
  | 0, _, _, _ => by simpa using RpAll.nil
  | n + 1, _, _, .nil => by simpa using RpAll.nil
  | n + 1, _, _, .cons r t => .cons r (RpAll.take n t)
theorem RpAll.drop {H : Hp} : ∀ (n : Nat) {vs : List V} {ds : List PyData}, RpAll H vs ds → RpAll H (vs.drop n) (ds.drop n)
  | 0, _, _, r => r
  | n + 1, _, _, .nil => by simpa using RpAll.nil
  | n + 1, _, _, .cons r t => RpAll.drop n t
theorem RpAll.set {H : Hp} {v : V} {d : PyData} (h : Rp H v d) : ∀ (n : Nat) {vs : List V} {ds : List PyData}, RpAll H vs ds → RpAll H (vs.set n v) (ds.set n d)
  | _, _, _, .nil => .nil
  | 0, _, _, .cons _ t => .cons h t
  | n + 1, _, _, .cons r t => .cons r (RpAll.set h n t)
theorem RpAll.rep {H : Hp} {vs : List V} {ds : List PyData} (h : RpAll H vs ds) : ∀ n : Nat, RpAll H (List.replicate n vs).flatten (List.replicate n ds).flatten
  | 0 => by simpa using RpAll.nil
  | n + 1 => by
    rw [List.replicate_succ, List.flatten_cons, List.replicate_succ, List.flatten_cons]
    exact RpAll.append h (RpAll.rep h n)
theorem RpAll.get {α : Type} {f : α → PyData} {H : Hp} {vs : List V} {xs : List α} {i : Nat} {v : V} (r : RpAll H vs (xs.map f)) (h : vs[i]? = some v) : ∃ x, xs[i]? = some x ∧ Rp H v (f x) := by
  obtain ⟨d, h1, h2⟩ := RpAll.at r h
  rw [List.getElem?_map] at h1
  cases e : xs[i]? with
  | none => rw [e] at h1; cases h1
  | some x =>
    rw [e] at h1
    have : f x = d := Option.some.inj h1
    exact ⟨x, rfl, this ▸ h2⟩
/-- the item at an index, data -/
theorem RpAll.ix {α : Type} {f : α → PyData} {H : Hp} {vs : List V} {xs : List α} {k : Int} (r : RpAll H vs (xs.map f)) (h : -(xs.length : Int) ≤ k ∧ k < xs.length) : ∃ v x, atI vs k = some v ∧ atI xs k = some x ∧ Rp H v (f x) := by
  have hl : vs.length = xs.length := by rw [r.len, List.length_map]
  have hk : ∃ j, ixN xs.length k = some j ∧ j < xs.length := by
    unfold ixN
    by_cases h0 : 0 ≤ k
    · refine ⟨k.toNat, ?_, by omega⟩
      rw [if_pos h0, if_pos h.2]
    · refine ⟨(k + xs.length).toNat, ?_, by omega⟩
      rw [if_neg h0, if_pos h.1]
  obtain ⟨j, e, hj⟩ := hk
  have hx := List.getElem?_eq_getElem hj
  obtain ⟨v, h1, h2⟩ := RpAll.at' (i := j) (d := f xs[j]) r (by rw [List.getElem?_map, hx] <;> rfl)
  refine ⟨v, xs[j], ?_, ?_, h2⟩
  · unfold atI
    rw [hl, e]
    exact h1
  · unfold atI
    rw [e]
    exact hx

/-! ### types -/
def encL {α : Type} (f : α → PyData) (xs : List α) : PyData := .list (xs.map f)
def encT2 {α β : Type} (f : α → PyData) (g : β → PyData) (p : α × β) : PyData := .tuple [f p.1, g p.2]
def encT3 {α β γ : Type} (f : α → PyData) (g : β → PyData) (h : γ → PyData) (p : α × β × γ) : PyData := .tuple [f p.1, g p.2.1, h p.2.2]
def encT4 {α β γ δ : Type} (f : α → PyData) (g : β → PyData) (h : γ → PyData) (i : δ → PyData) (p : α × β × γ × δ) : PyData := .tuple [f p.1, g p.2.1, h p.2.2.1, i p.2.2.2]
structure EncOk {α : Type} [DecidableEq α] (n : Nat) (f : α → PyData) : Prop where
  lay : ∀ x, PyData.canLay0 (f x) = true
  dep : ∀ x, PyData.depth (f x) ≤ n
  eqv : ∀ x y, PyData.eqv (f x) (f y) = decide (x = y)
theorem encOk_int : EncOk 0 PyData.int := ⟨fun _ => by simp [PyData.canLay0], fun _ => by simp [PyData.depth], fun x y => by simp [PyData.eqv]; by_cases h : x = y <;> simp [h]⟩
theorem encOk_bool : EncOk 0 PyData.bool := ⟨fun _ => by simp [PyData.canLay0], fun _ => by simp [PyData.depth], fun x y => by cases x <;> cases y <;> simp [PyData.eqv]⟩
section
variable {α β γ δ : Type} [DecidableEq α] [DecidableEq β] [DecidableEq γ] [DecidableEq δ] {n m l o : Nat} {f : α → PyData} {g : β → PyData} {h : γ → PyData} {i : δ → PyData}
theorem lay_map (ok : EncOk n f) : ∀ xs : List α, PyData.canLayAll0 (xs.map f) = true
  | [] => by simp [PyData.canLayAll0]
  | x :: xs => by simp [PyData.canLayAll0, ok.lay x, lay_map ok xs]
theorem dep_map (ok : EncOk n f) : ∀ xs : List α, PyData.depthAll (xs.map f) ≤ n
  | [] => by simp [PyData.depthAll]
  | x :: xs => by
    have h1 := ok.dep x
    have h2 := dep_map ok xs
    simp only [List.map_cons, PyData.depthAll]
    omega
theorem eqv_map (ok : EncOk n f) : ∀ xs ys : List α, PyData.eqvAll (xs.map f) (ys.map f) = decide (xs = ys)
  | [], [] => by simp [PyData.eqvAll]
  | [], y :: ys => by simp [PyData.eqvAll]
  | x :: xs, [] => by simp [PyData.eqvAll]
  | x :: xs, y :: ys => by
    have ih := eqv_map ok xs ys
    simp only [List.map_cons, PyData.eqvAll, ok.eqv, ih]
    by_cases h : x = y <;> by_cases h2 : xs = ys <;> simp [h, h2]
theorem encOk_L (ok : EncOk n f) : EncOk (n + 1) (encL f) := ⟨fun xs => by simp [encL, PyData.canLay0, lay_map ok], fun xs => by
  have := dep_map ok xs
  simp only [encL, PyData.depth]
  omega, fun xs ys => by simp only [encL, PyData.eqv]; exact eqv_map ok xs ys⟩
theorem encOk_T2 (ok : EncOk n f) (ok2 : EncOk m g) : EncOk (max n m + 1) (encT2 f g) := ⟨fun x => by simp [encT2, PyData.canLay0, PyData.canLayAll0, ok.lay, ok2.lay], fun x => by
  have h1 := ok.dep x.1
  have h2 := ok2.dep x.2
  simp only [encT2, PyData.depth, PyData.depthAll]
  omega, fun x y => by
  obtain ⟨a, b⟩ := x
  obtain ⟨c, d⟩ := y
  simp only [encT2, PyData.eqv, PyData.eqvAll, ok.eqv, ok2.eqv, Prod.mk.injEq]
  by_cases h1 : a = c <;> by_cases h2 : b = d <;> simp [h1, h2]⟩
theorem encOk_T3 (ok : EncOk n f) (ok2 : EncOk m g) (ok3 : EncOk l h) : EncOk (max n (max m l) + 1) (encT3 f g h) := ⟨fun x => by simp [encT3, PyData.canLay0, PyData.canLayAll0, ok.lay, ok2.lay, ok3.lay], fun x => by
  have h1 := ok.dep x.1
  have h2 := ok2.dep x.2.1
  have h3 := ok3.dep x.2.2
  simp only [encT3, PyData.depth, PyData.depthAll]
  omega, fun x y => by
  obtain ⟨a, b, e⟩ := x
  obtain ⟨c, d, e'⟩ := y
  simp only [encT3, PyData.eqv, PyData.eqvAll, ok.eqv, ok2.eqv, ok3.eqv, Prod.mk.injEq]
  by_cases h1 : a = c <;> by_cases h2 : b = d <;> by_cases h3 : e = e' <;> simp [h1, h2, h3]⟩
theorem encOk_T4 (ok : EncOk n f) (ok2 : EncOk m g) (ok3 : EncOk l h) (ok4 : EncOk o i) : EncOk (max n (max m (max l o)) + 1) (encT4 f g h i) := ⟨fun x => by simp [encT4, PyData.canLay0, PyData.canLayAll0, ok.lay, ok2.lay, ok3.lay, ok4.lay], fun x => by
  have h1 := ok.dep x.1
  have h2 := ok2.dep x.2.1
  have h3 := ok3.dep x.2.2.1
  have h4 := ok4.dep x.2.2.2
  simp only [encT4, PyData.depth, PyData.depthAll]
  omega, fun x y => by
  obtain ⟨a, b, e, u⟩ := x
  obtain ⟨c, d, e', u'⟩ := y
  simp only [encT4, PyData.eqv, PyData.eqvAll, ok.eqv, ok2.eqv, ok3.eqv, ok4.eqv, Prod.mk.injEq]
  by_cases h1 : a = c <;> by_cases h2 : b = d <;> by_cases h3 : e = e' <;> by_cases h4 : u = u' <;> simp [h1, h2, h3, h4]⟩
end
section
variable {X : Cx} {α : Type} [DecidableEq α] {n : Nat} {f : α → PyData}
def rEqT (f : α → PyData) : R2 := fun x y H Q => ∃ (a b : α), Rp H x (f a) ∧ Rp H y (f b) ∧ Q (.bl (decide (a = b))) H
def rNeT (f : α → PyData) : R2 := fun x y H Q => ∃ (a b : α), Rp H x (f a) ∧ Rp H y (f b) ∧ Q (.bl (!decide (a = b))) H
theorem shaped_of (ok : EncOk n f) (hn : n ≤ 64) (a : α) : SeqAt.shaped (f a) = true := by
  unfold SeqAt.shaped
  have h := ok.dep a
  rw [ok.lay]
  simp
  omega
theorem op_eqT (ok : EncOk n f) (hu : X.A.units + 64 < cLine) (hn : n ≤ 64 := by decide) : OpR X (compareOp .Eq) (rEqT f) := by
  intro pins s σ H x y v u Q I rx ry h
  obtain ⟨a, b, h1, h2, q⟩ := h
  exact op_eqD hu pins s σ H _ _ v u Q I rx ry ⟨_, _, h1.dp, h2.dp, shaped_of ok hn a, shaped_of ok hn b, by rw [ok.eqv]; exact q⟩
theorem op_neT (ok : EncOk n f) (hu : X.A.units + 64 < cLine) (hn : n ≤ 64 := by decide) : OpR X (compareOp .NotEq) (rNeT f) := by
  intro pins s σ H x y v u Q I rx ry h
  obtain ⟨a, b, h1, h2, q⟩ := h
  exact op_neD hu pins s σ H _ _ v u Q I rx ry ⟨_, _, h1.dp, h2.dp, shaped_of ok hn a, shaped_of ok hn b, by rw [ok.eqv]; exact q⟩
end
section
variable {H : Hp} {v : V} {α β γ δ : Type} {f : α → PyData} {g : β → PyData} {h : γ → PyData} {i : δ → PyData}
theorem rp_int {x : Int} (r : Rp H v (.int x)) : v = .int x := by cases r; rfl
theorem rp_bool {x : Bool} (r : Rp H v (.bool x)) : v = .bl x := by cases r; rfl
theorem rp_str {x : Str} (r : Rp H v (.str x)) : v = .str x := by cases r; rfl
theorem rp_list {xs : List α} (r : Rp H v (encL f xs)) : ∃ a vs, v = .ref a ∧ H a = some (.lst vs) ∧ RpAll H vs (xs.map f) := by
  unfold encL at r
  cases r with
  | lst h1 h2 => exact ⟨_, _, rfl, h1, h2⟩
theorem rpAll_ints : ∀ {vs : List V} {xs : List Int}, RpAll H vs (xs.map PyData.int) → vs = xs.map V.int
  | _, [], .nil => rfl
  | _, x :: xs, .cons r t => by rw [rp_int r, rpAll_ints t] <;> rfl
theorem rp_ints {xs : List Int} (r : Rp H v (encL PyData.int xs)) : ∃ a, v = .ref a ∧ H a = some (.lst (xs.map V.int)) := by
  obtain ⟨a, vs, e, h1, h2⟩ := rp_list r
  rw [rpAll_ints h2] at h1
  exact ⟨a, e, h1⟩
theorem rp_tup2 {x : α × β} (r : Rp H v (encT2 f g x)) : ∃ a v1 v2, v = .ref a ∧ H a = some (.tup [v1, v2]) ∧ Rp H v1 (f x.1) ∧ Rp H v2 (g x.2) := by
  unfold encT2 at r
  cases r with
  | tup h1 h2 =>
    cases h2 with
    | cons a b =>
      cases b with
      | cons b c =>
        cases c
        exact ⟨_, _, _, rfl, h1, a, b⟩
theorem rp_tup3 {x : α × β × γ} (r : Rp H v (encT3 f g h x)) : ∃ a v1 v2 v3, v = .ref a ∧ H a = some (.tup [v1, v2, v3]) ∧ Rp H v1 (f x.1) ∧ Rp H v2 (g x.2.1) ∧ Rp H v3 (h x.2.2) := by
  unfold encT3 at r
  cases r with
  | tup h1 h2 =>
    cases h2 with
    | cons a b =>
      cases b with
      | cons b c =>
        cases c with
        | cons c d =>
          cases d
          exact ⟨_, _, _, _, rfl, h1, a, b, c⟩
theorem rp_mk_list {a : Addr} {vs : List V} {xs : List α} (h1 : H a = some (.lst vs)) (h2 : RpAll H vs (xs.map f)) : Rp H (.ref a) (encL f xs) := .lst h1 h2
theorem rp_mk_ints {a : Addr} {xs : List Int} (h1 : H a = some (.lst (xs.map V.int))) : Rp H (.ref a) (encL PyData.int xs) := .lst h1 (RpAll.ints xs)
theorem rp_mk2 {a : Addr} {v1 v2 : V} {x : α} {y : β} (h1 : H a = some (.tup [v1, v2])) (r1 : Rp H v1 (f x)) (r2 : Rp H v2 (g y)) : Rp H (.ref a) (encT2 f g (x, y)) := .tup h1 (.cons r1 (.cons r2 .nil))
theorem rp_mk3 {a : Addr} {v1 v2 v3 : V} {x : α} {y : β} {z : γ} (h1 : H a = some (.tup [v1, v2, v3])) (r1 : Rp H v1 (f x)) (r2 : Rp H v2 (g y)) (r3 : Rp H v3 (h z)) : Rp H (.ref a) (encT3 f g h (x, y, z)) := .tup h1 (.cons r1 (.cons r2 (.cons r3 .nil)))
end

/-! ### the two heaps -/
def SameXs (L : List Addr) (H H' : Hp) : Prop := ∀ b o, H b = some o → b ∉ L → H' b = some o
theorem SameXs.of {H H' : Hp} {m : Addr} (x : SameX m H H') : SameXs [m] H H' := fun b o e n => x b o e (fun z => n (by rw [z]; exact List.mem_cons_self))
theorem ni1 {b m : Addr} (h : b ≠ m) : b ∉ [m] := by simpa using h
theorem ni2 {b m n : Addr} (h : b ≠ m) (h2 : b ≠ n) : b ∉ [m, n] := by simp [h, h2]
theorem ni3 {b m n o : Addr} (h : b ≠ m) (h2 : b ≠ n) (h3 : b ≠ o) : b ∉ [m, n, o] := by simp [h, h2, h3]
theorem ni4 {b m n o p : Addr} (h : b ≠ m) (h2 : b ≠ n) (h3 : b ≠ o) (h4 : b ≠ p) : b ∉ [m, n, o, p] := by simp [h, h2, h3, h4]
def hideL (L : List Addr) (H : Hp) : Hp := fun b => if b ∈ L then none else H b
theorem hideL_same (L : List Addr) (H : Hp) : Same (hideL L H) H := fun b o e => by
  unfold hideL at e
  split at e
  · cases e
  · exact e
theorem hideL_in {L : List Addr} {H : Hp} {b : Addr} (h : b ∈ L) : hideL L H b = none := if_pos h
theorem hideL_out {L : List Addr} {H : Hp} {b : Addr} (h : b ∉ L) : hideL L H b = H b := if_neg h
/-- M: owned from outside; H0, G0: at the entry; G: what stays as it is; O: what may change -/
structure Sep (M : List Addr) (H0 G0 G H : Hp) (O : List Addr) : Prop where
  base : SameXs M H0 H
  pm : ∀ a ∈ M, H a ≠ none
  sG : Same G H
  g0 : Same G0 G
  gn : ∀ b, H0 b ≠ none → G0 b = none → G b = none
  ow : ∀ a ∈ O, G a = none ∧ H a ≠ none ∧ (a ∈ M ∨ H0 a = none)
theorem all_nil {P : Addr → Prop} : ∀ x ∈ ([] : List Addr), P x := fun x h => by cases h
theorem all_cons {P : Addr → Prop} {a : Addr} {l : List Addr} (h : P a) (t : ∀ x ∈ l, P x) : ∀ x ∈ a :: l, P x := fun x hx => by
  cases hx with
  | head => exact h
  | tail _ hx => exact t x hx
theorem some_ne {H : Hp} {a : Addr} {o : HO} (h : H a = some o) : H a ≠ none := by
  rw [h]
  exact fun z => nomatch z
theorem same_ne {H H' : Hp} {a : Addr} (e : Same H H') (h : H a ≠ none) : H' a ≠ none := by
  cases q : H a with
  | none => exact absurd q h
  | some o => exact some_ne (e a o q)
section
variable {M : List Addr} {H0 G0 G H H' : Hp} {O : List Addr} {p m : Addr} {o : HO}
theorem Sep.start (M : List Addr) (H : Hp) (hM : ∀ a ∈ M, H a ≠ none) : Sep M H (hideL M H) (hideL M H) H M :=
  ⟨fun _ _ e _ => e, hM, hideL_same M H, Same.refl _, fun _ _ e => e, fun a ha => ⟨hideL_in ha, hM a ha, .inl ha⟩⟩
theorem Sep.startG {G H : Hp} (e : Same G H) : Sep [] H G G H [] := ⟨fun _ _ e _ => e, all_nil, e, Same.refl _, fun _ _ e => e, fun a ha => by cases ha⟩
theorem Sep.start0 (H : Hp) : Sep [] H H H H [] := Sep.startG (Same.refl H)
theorem Sep.b0 (S : Sep [] H0 G0 G H O) : Same H0 H := fun b o e => S.base b o e List.not_mem_nil
theorem Sep.free (S : Sep M H0 G0 G H O) {q : Addr} (n : H q = none) : H0 q = none := by
  cases e : H0 q with
  | none => rfl
  | some o =>
    by_cases h : q ∈ M
    · exact absurd n (S.pm q h)
    · rw [S.base q o e h] at n
      cases n
theorem Sep.same (S : Sep M H0 G0 G H O) (e : Same H H') : Sep M H0 G0 G H' O :=
  ⟨fun b o h n => e b o (S.base b o h n), fun a ha => same_ne e (S.pm a ha), S.sG.trans e, S.g0, S.gn, fun a ha => ⟨(S.ow a ha).1, same_ne e (S.ow a ha).2.1, (S.ow a ha).2.2⟩⟩
theorem Sep.gfree (S : Sep M H0 G0 G H O) {q : Addr} (n : H q = none) : G q = none := by
  cases e : G q with
  | none => rfl
  | some o => rw [S.sG q o e] at n; cases n
theorem Sep.new (S : Sep M H0 G0 G H O) (n : H p = none) (e : Same H H') (h : H' p = some o) (hm : H0 p = none) : Sep M H0 G0 G H' (p :: O) := by
  have S1 := S.same e
  refine ⟨S1.base, S1.pm, S1.sG, S1.g0, S1.gn, fun a ha => ?_⟩
  cases ha with
  | head => exact ⟨S.gfree n, some_ne h, .inr hm⟩
  | tail _ ha => exact S1.ow a ha
theorem Sep.grow (S : Sep M H0 G0 G H O) (n : H p = none) (e : Same H H') (h : H' p = some o) (hm : H0 p = none) : ∃ G', Same G G' ∧ G' p = some o ∧ Sep M H0 G0 G' H' O := by
  have S1 := S.same e
  have ng := S.gfree n
  refine ⟨upd G p o, fun b u q => by rw [upd_ne (ne_of_none q ng)]; exact q, upd_same, S1.base, S1.pm, fun b u q => ?_, fun b u q => ?_, fun b hb gb => ?_, fun a ha => ?_⟩
  · by_cases z : b = p
    · subst z
      rw [upd_same] at q
      exact q ▸ h
    · rw [upd_ne z] at q
      exact S1.sG b u q
  · have := S.g0 b u q
    rw [upd_ne (ne_of_none this ng)]
    exact this
  · by_cases z : b = p
    · subst z
      exact absurd hm hb
    · rw [upd_ne z]
      exact S.gn b hb gb
  · have hne : a ≠ p := fun z => (S.ow a ha).2.1 (by rw [z]; exact n)
    rw [upd_ne hne]
    exact S1.ow a ha
theorem Sep.mut (S : Sep M H0 G0 G H O) {L : List Addr} (x : SameXs L H H') (hL : ∀ a ∈ L, a ∈ O) (hs : ∀ a ∈ L, H' a ≠ none) : Sep M H0 G0 G H' O := by
  have keep : ∀ a, H a ≠ none → H' a ≠ none := fun a h => by
    by_cases hb : a ∈ L
    · exact hs a hb
    · cases q : H a with
      | none => exact absurd q h
      | some o => exact some_ne (x a o q hb)
  refine ⟨fun b o e n => ?_, fun a ha => keep a (S.pm a ha), fun b o e => ?_, S.g0, S.gn, fun a ha => ⟨(S.ow a ha).1, keep a (S.ow a ha).2.1, (S.ow a ha).2.2⟩⟩
  · refine x b o (S.base b o e n) fun hb => ?_
    rcases (S.ow b (hL b hb)).2.2 with z | z
    · exact n z
    · rw [e] at z; cases z
  · refine x b o (S.sG b o e) fun hb => ?_
    have := (S.ow b (hL b hb)).1
    rw [e] at this
    cases this
theorem Sep.mut1 (S : Sep M H0 G0 G H O) (x : SameX m H H') (hm : m ∈ O) (h : H' m = some o) : Sep M H0 G0 G H' O :=
  S.mut (SameXs.of x) (all_cons hm all_nil) (all_cons (some_ne h) all_nil)
theorem Sep.sub (S : Sep M H0 G0 G H O) {O' : List Addr} (h : ∀ a ∈ O', a ∈ O) : Sep M H0 G0 G H O' := ⟨S.base, S.pm, S.sG, S.g0, S.gn, fun a ha => S.ow a (h a ha)⟩
/-- what was owned and is to stay as it is from now on -/
theorem Sep.freeze (S : Sep M H0 G0 G H O) {O' : List Addr} (hp : p ∈ O) (h : H p = some o) (hm : H0 p = none) (hO : ∀ a ∈ O', a ∈ O ∧ a ≠ p) : ∃ G', Same G G' ∧ G' p = some o ∧ Sep M H0 G0 G' H O' := by
  have ng := (S.ow p hp).1
  refine ⟨upd G p o, fun b u q => by rw [upd_ne (ne_of_none q ng)]; exact q, upd_same, S.base, S.pm, fun b u q => ?_, fun b u q => ?_, fun b hb gb => ?_, fun a ha => ?_⟩
  · by_cases z : b = p
    · subst z
      rw [upd_same] at q
      exact q ▸ h
    · rw [upd_ne z] at q
      exact S.sG b u q
  · have := S.g0 b u q
    rw [upd_ne (ne_of_none this ng)]
    exact this
  · by_cases z : b = p
    · subst z
      exact absurd hm hb
    · rw [upd_ne z]
      exact S.gn b hb gb
  · rw [upd_ne (hO a ha).2]
    exact S.ow a (hO a ha).1
/-- a callee that hands on data in a stable heap of its own -/
theorem Sep.step (S : Sep M H0 G0 G H O) {G' : Hp} (e : Same H H') (eG : Same G G') (sG : Same G' H') (hn : ∀ b, H b ≠ none → G b = none → G' b = none) : Sep M H0 G0 G' H' O := by
  have S1 := S.same e
  refine ⟨S1.base, S1.pm, sG, S.g0.trans eG, fun b hb gb => ?_, fun a ha => ⟨hn a (S.ow a ha).2.1 (S.ow a ha).1, (S1.ow a ha).2⟩⟩
  refine hn b (fun z => ?_) (S.gn b hb gb)
  exact hb (S.free z)
theorem Sep.hid (S : Sep M H0 G0 G H O) {L : List Addr} (h : ∀ a ∈ L, a ∈ O) : Same G (hideL L H) := fun b o e => by
  rw [hideL_out fun z => by
    have := (S.ow b (h b z)).1
    rw [e] at this
    cases this]
  exact S.sG b o e
end
end Vx

namespace Vx
open PySem PySem.Spec PyProof.Rows L2
/-! ### lists of plain things (f : V.int, V.bl, V.str) -/
section
variable {α : Type} {f : α → V} {H : Hp} {p : Addr}
theorem cat_map {xs ys : List α} (h : H p = some (.lst (xs.map f ++ ys.map f))) : H p = some (.lst ((xs ++ ys).map f)) := by
  rw [List.map_append]; exact h
theorem snoc_map {xs : List α} {y : α} (h : H p = some (.lst (xs.map f ++ [f y]))) : H p = some (.lst ((xs ++ [y]).map f)) := by
  rw [List.map_append]; exact h
def repL (xs : List α) (k : Int) : List α := (List.replicate k.toNat xs).flatten
theorem rep_map {xs : List α} {k : Int} (h : H p = some (.lst (List.replicate k.toNat (xs.map f)).flatten)) : H p = some (.lst ((repL xs k).map f)) := by
  rw [h]
  unfold repL
  rw [List.map_flatten, List.map_replicate]
def cutL (xs : List α) (lo hi : Option Int) : List α := (xs.drop (HT.sIx xs.length 0 lo)).take (HT.sIx xs.length xs.length hi - HT.sIx xs.length 0 lo)
theorem cut_map {xs : List α} {lo hi : Option Int} (h : H p = some (.lst (cutV (xs.map f) lo hi))) : H p = some (.lst ((cutL xs lo hi).map f)) := by
  rw [h]
  unfold cutV cutL
  rw [List.length_map, List.map_take, List.map_drop]
theorem cast_map {xs ys : List α} (h : H p = some (.lst (xs.map f))) (e : xs = ys) : H p = some (.lst (ys.map f)) := e ▸ h
theorem drop_map {xs : List α} (h : H p = some (.lst (xs.map f).dropLast)) : H p = some (.lst (xs.dropLast.map f)) := by
  rw [h, List.map_dropLast]
theorem ixN_some {n : Nat} {k : Int} (h : -(n : Int) ≤ k ∧ k < n) : ∃ j, ixN n k = some j ∧ j < n := by
  unfold ixN
  by_cases h0 : 0 ≤ k
  · exact ⟨k.toNat, by rw [if_pos h0, if_pos h.2], by omega⟩
  · exact ⟨(k + n).toNat, by rw [if_neg h0, if_pos h.1], by omega⟩
def itD [Inhabited α] (xs : List α) (k : Int) : α := (atI xs k).getD default
theorem atI_map [Inhabited α] {xs : List α} {k : Int} (h : -(xs.length : Int) ≤ k ∧ k < xs.length) : atI (xs.map f) k = some (f (itD xs k)) := by
  obtain ⟨j, e, hj⟩ := ixN_some h
  unfold itD atI
  rw [List.length_map, e]
  show (xs.map f)[j]? = some (f ((xs[j]?).getD default))
  rw [List.getElem?_map, List.getElem?_eq_getElem hj] <;> rfl
def setL (xs : List α) (k : Int) (y : α) : List α := xs.set ((ixN xs.length k).getD 0) y
theorem ixN_map {xs : List α} {k : Int} (h : -(xs.length : Int) ≤ k ∧ k < xs.length) : ixN (xs.map f).length k = some ((ixN xs.length k).getD 0) := by
  obtain ⟨j, e, hj⟩ := ixN_some h
  rw [List.length_map, e] <;> rfl
theorem set_map {xs : List α} {k : Int} {y : α} (h : H p = some (.lst ((xs.map f).set ((ixN xs.length k).getD 0) (f y)))) : H p = some (.lst ((setL xs k y).map f)) := by
  rw [h]
  unfold setL
  rw [List.map_set]
def lastD [Inhabited α] (xs : List α) : α := xs.getLastD default
theorem pop_map [Inhabited α] {xs : List α} (h : xs ≠ []) : (xs.map f)[(xs.map f).length - 1]? = some (f (lastD xs)) := by
  rw [← List.getLast?_eq_getElem?, List.getLast?_map]
  unfold lastD
  cases e : xs.getLast? with
  | none => exact absurd (List.getLast?_eq_none_iff.mp e) h
  | some y =>
    rw [List.getLastD_eq_getLast?, e] <;> rfl
end
/-! ### lists of data -/
section
variable {α β : Type} {f : α → PyData} {g : β → PyData} {G : Hp} {vs ws : List V} {xs ys : List α}
theorem app_map (a : RpAll G vs (xs.map f)) (b : RpAll G ws (ys.map f)) : RpAll G (vs ++ ws) ((xs ++ ys).map f) := by
  rw [List.map_append]; exact a.append b
theorem one_map {v : V} {y : α} (a : RpAll G vs (xs.map f)) (b : Rp G v (f y)) : RpAll G (vs ++ [v]) ((xs ++ [y]).map f) := by
  rw [List.map_append]; exact a.append (.one b)
theorem rep_all (k : Int) (a : RpAll G vs (xs.map f)) : RpAll G (List.replicate k.toNat vs).flatten ((repL xs k).map f) := by
  unfold repL
  rw [List.map_flatten, List.map_replicate]
  exact a.rep _
theorem cut_all (lo hi : Option Int) (a : RpAll G vs (xs.map f)) : RpAll G (cutV vs lo hi) ((cutL xs lo hi).map f) := by
  unfold cutV cutL
  rw [a.len, List.length_map, List.map_take, List.map_drop]
  exact (a.drop _).take _
theorem rp_cast {v : V} {d e : PyData} (r : Rp G v d) (h : d = e) : Rp G v e := h ▸ r
theorem comp_listD {i : Nat} {x : α} {y : β} {v : V} {h : α → β} (hi : xs[i]? = some x) (a : RpAll G vs (((xs.take i).map h).map g)) (r : Rp G v (g y)) (e : h x = y) : RpAll G (vs ++ [v]) (((xs.take (i + 1)).map h).map g) := by
  rw [take_succ_get hi, List.map_append, List.map_append]
  exact a.append (.one (e ▸ r))
theorem comp_rangeD {i : Nat} {y : β} {v : V} {h : Nat → β} (a : RpAll G vs (((List.range i).map h).map g)) (r : Rp G v (g y)) (e : h i = y) : RpAll G (vs ++ [v]) (((List.range (i + 1)).map h).map g) := by
  rw [List.range_succ, List.map_append, List.map_append]
  exact a.append (.one (e ▸ r))
theorem comp_doneD {n : Nat} {h : List α → List β} (hl : n = xs.length) (a : RpAll G vs ((h (xs.take n)).map g)) : RpAll G vs ((h xs).map g) := by
  rw [hl, List.take_length] at a
  exact a
theorem comp_listFD {i : Nat} {x : α} {y : β} {v : V} {h : α → β} {q : α → Bool} (hi : xs[i]? = some x) (hq : q x = true) (a : RpAll G vs ((((xs.take i).filter q).map h).map g)) (r : Rp G v (g y)) (e : h x = y) : RpAll G (vs ++ [v]) ((((xs.take (i + 1)).filter q).map h).map g) := by
  rw [take_succ_get hi, List.filter_append, List.filter_cons, if_pos hq, List.map_append, List.map_append]
  exact a.append (.one (e ▸ r))
theorem skip_listD {i : Nat} {x : α} {h : α → β} {q : α → Bool} (hi : xs[i]? = some x) (hq : q x = false) (a : RpAll G vs ((((xs.take i).filter q).map h).map g)) : RpAll G vs ((((xs.take (i + 1)).filter q).map h).map g) := by
  rw [take_succ_get hi, List.filter_append, List.filter_cons, if_neg (by rw [hq]; decide), List.filter_nil, List.append_nil]
  exact a
end
section
variable {α β : Type} {f : β → V} {H : Hp} {D : Addr} {xs : List α}
theorem compM_list {i : Nat} {x : α} {y : β} {h : α → β} (hi : xs[i]? = some x) (a : H D = some (.lst (((xs.take i).map h).map f ++ [f y]))) (e : h x = y) : H D = some (.lst (((xs.take (i + 1)).map h).map f)) := by
  rw [a, ← e, take_succ_get hi, List.map_append, List.map_append] <;> rfl
theorem compM_range {i : Nat} {y : β} {h : Nat → β} (a : H D = some (.lst (((List.range i).map h).map f ++ [f y]))) (e : h i = y) : H D = some (.lst (((List.range (i + 1)).map h).map f)) := by
  rw [a, ← e, List.range_succ, List.map_append, List.map_append] <;> rfl
theorem compM_done {n : Nat} {h : List α → List β} (hl : n = xs.length) (a : H D = some (.lst ((h (xs.take n)).map f))) : H D = some (.lst ((h xs).map f)) := by
  rw [hl, List.take_length] at a
  exact a
theorem compM_listF {i : Nat} {x : α} {y : β} {h : α → β} {q : α → Bool} (hi : xs[i]? = some x) (hq : q x = true) (a : H D = some (.lst ((((xs.take i).filter q).map h).map f ++ [f y]))) (e : h x = y) : H D = some (.lst ((((xs.take (i + 1)).filter q).map h).map f)) := by
  rw [a, ← e, take_succ_get hi, List.filter_append, List.filter_cons, if_pos hq, List.map_append, List.map_append] <;> rfl
theorem skipM_list {i : Nat} {x : α} {h : α → β} {q : α → Bool} (hi : xs[i]? = some x) (hq : q x = false) (a : H D = some (.lst ((((xs.take i).filter q).map h).map f))) : H D = some (.lst ((((xs.take (i + 1)).filter q).map h).map f)) := by
  rw [a, take_succ_get hi, List.filter_append, List.filter_cons, if_neg (by rw [hq]; decide), List.filter_nil, List.append_nil]
theorem compM_rangeF {i : Nat} {y : β} {h : Nat → β} {q : Nat → Bool} (hq : q i = true) (a : H D = some (.lst ((((List.range i).filter q).map h).map f ++ [f y]))) (e : h i = y) : H D = some (.lst ((((List.range (i + 1)).filter q).map h).map f)) := by
  rw [a, ← e, List.range_succ, List.filter_append, List.filter_cons, if_pos hq, List.map_append, List.map_append] <;> rfl
theorem skipM_range {i : Nat} {h : Nat → β} {q : Nat → Bool} (hq : q i = false) (a : H D = some (.lst ((((List.range i).filter q).map h).map f))) : H D = some (.lst ((((List.range (i + 1)).filter q).map h).map f)) := by
  rw [a, List.range_succ, List.filter_append, List.filter_cons, if_neg (by rw [hq]; decide), List.filter_nil, List.append_nil]
end
/-! ### more rules -/
section
variable {X : Cx} {K : PySem.W.Frag}
theorem ix_tupK (hK : X.K = K := by rfl) : IxR X (rIxT K) := hK ▸ ix_tup
def rLenLK (K : PySem.W.Frag) : List V → Hp → VK → Prop := fun xs H Q => ∃ (p : Addr) (vs : List V) (n : Nat), xs = [.ref p] ∧ SqL K H p vs ∧ vs.length = n ∧ Q (.int (n : Int)) H
theorem call_lenLK (hK : X.K = K := by rfl) : CallR X (.builtin "len") (rLenLK K) := by
  subst hK
  intro pins s σ H xs us Q I r h
  obtain ⟨p, vs, n, rfl, hs, hn, q⟩ := h
  exact call_len_seq pins s σ H _ us Q I r ⟨p, _, rfl, Or.inl hs, by rw [hn]; exact q⟩
def rListLK (K : PySem.W.Frag) : List V → Hp → VK → Prop := fun xs H Q => ∃ (p : Addr) (vs : List V), xs = [.ref p] ∧ SqL K H p vs ∧ ∀ l, H l = none → Q (.ref l) (upd H l (.lst vs))
theorem call_listLK (hK : X.K = K := by rfl) : CallR X (.type "list") (rListLK K) := by
  subst hK
  intro pins s σ H xs us Q I r h
  obtain ⟨p, vs, rfl, hs, q⟩ := h
  exact call_list_of pins s σ H _ us Q I r ⟨p, _, rfl, Or.inl hs, q⟩
theorem cr_anyK (hc : X.calm = true) (hK : X.K = K := by rfl) : CallR X (.builtin "any") (rAny K) := hK ▸ cr_any hc
theorem cr_allK (hc : X.calm = true) (hK : X.K = K := by rfl) : CallR X (.builtin "all") (rAll K) := hK ▸ cr_all hc
theorem pi_tupK {tg l : Expr} {tl : TE} (hl : PE X l tl) (hK : X.K = K := by rfl) : PI X tg l (iTup K tl) := hK ▸ pi_tup hl
theorem pip {op : Operator} {r : R2} (h : OpR X (inplaceOp op) r) : PIp X op r := fun pins s σ H x y v u Q I rx ry q => h pins s σ H x y v u Q I rx ry q
/-- an item at a place from 0 on, by itself (ahead of o[i] op= e) -/
def rIxP (K : PySem.W.Frag) : R2 := fun x y H Q => ∃ (p : Addr) (xs : List V) (k : Int) (v : V), x = .ref p ∧ y = .int k ∧ SqL K H p xs ∧ 0 ≤ k ∧ k < 2 ^ 62 ∧ atI xs k = some v ∧ Q v H
theorem pget_list (hK : X.K = K := by rfl) : PGet X (rIxP K) := by
  subst hK
  intro pins s σ H o i ov iv Q I ro ri h
  obtain ⟨p, xs, k, v, rfl, rfl, hq, h0, h62, ha, q⟩ := h
  cases ro
  obtain ⟨t, rfl⟩ := ri
  obtain ⟨its, r, pl, hz⟩ := I.list hq
  obtain ⟨j, h1, h2, h3, h4, h5⟩ := atI_get ha
  obtain ⟨w, ew, rw'⟩ := r.get h2
  have hj : k.toNat = j := by
    rw [seqIndex_of h0 h5] at h1
    exact Option.some.inj h1
  exact getItem_listL pl.isList h0 (by omega) (by rw [hj]; simpa using ew) ⟨v, H, I, rw', q⟩
theorem tru_map {α : Type} [DecidableEq α] {f : α → V} {xs : List α} : (!decide (xs = [])) = !(xs.map f).isEmpty := by
  cases xs <;> simp
end
end Vx

namespace Vx
open PySem PySem.Spec PyProof.Rows L2
/-! ### objects -/
section
variable {M : List Addr} {H0 G0 G H H' : Hp} {O : List Addr} {p m : Addr} {o : HO}
theorem gen_obj {x dx : Addr} {o1 o2 : HO} (nx : H x = none) (nd : H dx = none) (ne : dx ≠ x) (h : upd (upd H dx o1) x o2 = H') : Same H H' ∧ H' x = some o2 := by
  subst h
  exact ⟨fun b u e => by rw [upd_ne (ne_of_none e nx), upd_ne (ne_of_none e nd)]; exact e, upd_same⟩
theorem sameX_of {m : Addr} (x : SameXs [m] H H') : SameX m H H' := fun b o e n => x b o e (by simpa using n)
theorem g_ne {a b : Addr} (h : G a = some o) (S : Sep M H0 G0 G H O) (hb : b ∈ O) : a ≠ b := fun z => by
  have := (S.ow b hb).1
  rw [← z, h] at this
  cases this
/-- an object whose making has laid some lists -/
theorem Sep.mutnew (S : Sep M H0 G0 G H O) {L : List Addr} (x : SameXs L H H') (hL : ∀ a ∈ L, a ∈ O) (hs : ∀ a ∈ L, H' a ≠ none) (hn : H p = none) (hp : H' p ≠ none) (h0 : H0 p = none) : Sep M H0 G0 G H' (p :: O) := by
  have S1 := S.mut x hL hs
  refine ⟨S1.base, S1.pm, S1.sG, S1.g0, S1.gn, all_cons ⟨S.gfree hn, hp, .inr h0⟩ S1.ow⟩
theorem Sep.init (S : Sep M H0 G0 G H O) (x : SameX m H H') (hm : m ∈ O) (h : H' m = some o) (L : List Addr) (hL : ∀ a ∈ L, H a = none ∧ H' a ≠ none ∧ H0 a = none) : Sep M H0 G0 G H' (L ++ O) := by
  have S1 := S.mut1 x hm h
  refine ⟨S1.base, S1.pm, S1.sG, S1.g0, S1.gn, fun a ha => ?_⟩
  rcases List.mem_append.mp ha with z | z
  · obtain ⟨h1, h2, h3⟩ := hL a z
    exact ⟨S.gfree h1, h2, .inr h3⟩
  · exact S1.ow a z
end
section
variable {P : Program} {w : World} {K : PySem.W.Frag} {mg : Str → Option Value} {base : Heap}
structure MethIn (K : PySem.W.Frag) (C : Addr) (q m : Str) (st : Stmt) (ps : List Str) : Prop where
  ex : ∃ (f : Addr) (fd : FuncData), Fun K m q st f fd ∧ Meth K C m f ∧ Binds K fd ps []
structure PropIn (K : PySem.W.Frag) (C : Addr) (q m : Str) (st : Stmt) (ps : List Str) : Prop where
  ex : ∃ (r f : Addr) (fd : FuncData), Fun K m q st f fd ∧ PropOf K C m r f ∧ Binds K fd ps []
structure InitIn (K : PySem.W.Frag) (mg : Str → Option Value) (C : Addr) (cn q : Str) (st : Stmt) (ps : List Str) : Prop where
  ex : ∃ (f : Addr) (fd : FuncData), Fun K "__init__" q st f fd ∧ Mk K C f ∧ mg cn = some (.ref C) ∧ Binds K fd ps []
structure MetC (P : Program) (w : World) (K : PySem.W.Frag) (mg : Str → Option Value) (base : Heap) (k : Nat) (C : Addr) (m : Str) (sp : Sp) : Prop where
  ex : ∃ (f : Addr) (fd : FuncData) (ps : List Str), Cls K C ∧ Meth K C m f ∧ FnOk P w K mg base CX0 k f fd ps sp ∧ Binds K fd ps []
structure PropC (P : Program) (w : World) (K : PySem.W.Frag) (mg : Str → Option Value) (base : Heap) (k : Nat) (C : Addr) (m : Str) (sp : Sp) : Prop where
  ex : ∃ (q f : Addr) (fd : FuncData) (ps : List Str), Cls K C ∧ PropOf K C m q f ∧ FnOk P w K mg base CX0 k f fd ps sp ∧ Binds K fd ps []
structure MakC (P : Program) (w : World) (K : PySem.W.Frag) (mg : Str → Option Value) (base : Heap) (k : Nat) (cn : Str) (C : Addr) (sp : Sp) : Prop where
  ex : ∃ (f : Addr) (fd : FuncData) (ps : List Str), Mk K C f ∧ FnOk P w K mg base CX0 k f fd ps sp ∧ mg cn = some (.ref C) ∧ Binds K fd ps []
abbrev Body (P : Program) (w : World) (K : PySem.W.Frag) (mg : Str → Option Value) (base : Heap) (x : Str) (st : Stmt) (N : List Str) (k : Nat) (sp : Sp) : Prop :=
  ∀ (f : Addr) (cdv : Value) (A : Around) (outer : List Env) (s : Shared) (H : Hp) (vs : List V) (Q : VK) (E : XK), Room k (A.deeper (envOfC x (defScope st) s.heap.objs.size f cdv)) → sp vs H Q E →
    ∃ t, PSs (cxOf CX0 P w K mg base N x (defScope st) f cdv A outer s H E).nox (defBody st) t ∧ t { nx := fun _ H' => Q .non H', rt := Q } (start N vs) H
theorem MethIn.ok {C : Addr} {q m : Str} {st : Stmt} {N ps : List Str} {k : Nat} {sp : Sp} (D : MethIn K C q m st ps) (c : Cls K C) (S : FnScope N ps (defScope st)) (len : ∀ vs H Q E, sp vs H Q E → vs.length = ps.length)
    (hbody : Body P w K mg base q st N k sp) : MetC P w K mg base (k + 1) C m sp := by
  obtain ⟨f, fd, F, me, b⟩ := D.ex
  exact ⟨f, fd, ps, c, me, F.ok S len (fun cdv A outer s H vs Q E hr h => hbody f cdv A outer s H vs Q E hr h), b⟩
theorem PropIn.ok {C : Addr} {q m : Str} {st : Stmt} {N ps : List Str} {k : Nat} {sp : Sp} (D : PropIn K C q m st ps) (c : Cls K C) (S : FnScope N ps (defScope st)) (len : ∀ vs H Q E, sp vs H Q E → vs.length = ps.length)
    (hbody : Body P w K mg base q st N k sp) : PropC P w K mg base (k + 1) C m sp := by
  obtain ⟨r, f, fd, F, me, b⟩ := D.ex
  exact ⟨r, f, fd, ps, c, me, F.ok S len (fun cdv A outer s H vs Q E hr h => hbody f cdv A outer s H vs Q E hr h), b⟩
theorem InitIn.ok {C : Addr} {cn q : Str} {st : Stmt} {N ps : List Str} {k : Nat} {sp : Sp} (D : InitIn K mg C cn q st ps) (S : FnScope N ps (defScope st)) (len : ∀ vs H Q E, sp vs H Q E → vs.length = ps.length)
    (hbody : Body P w K mg base q st N k sp) : MakC P w K mg base (k + 1) cn C sp := by
  obtain ⟨f, fd, F, me, hm, b⟩ := D.ex
  exact ⟨f, fd, ps, me, F.ok S len (fun cdv A outer s H vs Q E hr h => hbody f cdv A outer s H vs Q E hr h), hm, b⟩
end
section
variable {X : Cx} {k j : Nat} {C : Addr} {x m : Str} {sp : Sp} {p pos apos : Pos} {e o : Expr} {es : List Expr} {ta : TE} {t : TA}
theorem vx_call0 (c : Cal X.prog X.w X.K X.mg X.base k x sp) (hr : Room j X.A) (hk : k ≤ j) (hg : Gl X x) (hdb : (x == ("__debug__" : Str)) = false := by decide) : PE X (.Call (.Name x p) [] [] pos) (tCall sp [] E0 tNil) := by
  obtain ⟨f, fd, ps, F, hm, kp, b⟩ := c.ex
  exact pe_call0 F (hr.mono hk) hg hm kp b .nil pass0 hdb
theorem vx_make (c : MakC X.prog X.w X.K X.mg X.base k x C sp) (hr : Room j X.A) (hk : k + 1 ≤ j) (hg : Gl X x) (ha : PA X (e :: es) t)
    (hdb : (x == ("__debug__" : Str)) = false := by decide) (he : starEach (e :: es) X.env = (false, eval e X.env) :: starEach es X.env := by rfl) (hpl : (backTo pos (starEach es X.env)).any (·.1) = false := by rfl) :
    PE X (.Call (.Name x p) (e :: es) [] pos) (tMake C sp [] E0 t) := by
  obtain ⟨f, fd, ps, M, F, hm, b⟩ := c.ex
  exact pe_make M F (hr.mono hk) hg hm b .nil pass0 ha hdb he hpl
theorem vx_make0 (c : MakC X.prog X.w X.K X.mg X.base k x C sp) (hr : Room j X.A) (hk : k + 1 ≤ j) (hg : Gl X x) (hdb : (x == ("__debug__" : Str)) = false := by decide) :
    PE X (.Call (.Name x p) [] [] pos) (tMake C sp [] E0 tNil) := by
  obtain ⟨f, fd, ps, M, F, hm, b⟩ := c.ex
  exact pe_make0 M F (hr.mono hk) hg hm b .nil pass0 hdb
theorem vx_meth {pl : Sem Bool} (c : MetC X.prog X.w X.K X.mg X.base k C m sp) (hr : Room j X.A) (hk : k ≤ j) (he : PE X o ta) (ha : PA X (e :: es) t)
    (hst : starEach (e :: es) X.env = (false, eval e X.env) :: starEach es X.env := by rfl) (hpl : (backTo pos (starEach es X.env)).any (·.1) = false := by rfl)
    (ht : eval (.Call (.Attribute o m apos) (e :: es) [] pos) X.env = (do
      let ov ← eval o X.env
      standAt apos.atName
      let (f, first) ← holding [ov] (getMethod ov m pl)
      callWith pos f first (backTo pos (starEach (e :: es) X.env)) (backToKw pos (keywordEach [] X.env))) := by rfl) :
    PE X (.Call (.Attribute o m apos) (e :: es) [] pos) (tMeth C m sp [] E0 ta t) := by
  obtain ⟨f, fd, ps, hc, hm, F, b⟩ := c.ex
  exact pe_meth he hc hm F (hr.mono hk) b .nil pass0 ha hst hpl ht
theorem vx_meth0 {pl : Sem Bool} (c : MetC X.prog X.w X.K X.mg X.base k C m sp) (hr : Room j X.A) (hk : k ≤ j) (he : PE X o ta)
    (ht : eval (.Call (.Attribute o m apos) [] [] pos) X.env = (do
      let ov ← eval o X.env
      standAt apos.atName
      let (f, first) ← holding [ov] (getMethod ov m pl)
      callWith pos f first (backTo pos (starEach [] X.env)) (backToKw pos (keywordEach [] X.env))) := by rfl) :
    PE X (.Call (.Attribute o m apos) [] [] pos) (tMeth C m sp [] E0 ta tNil) := by
  obtain ⟨f, fd, ps, hc, hm, F, b⟩ := c.ex
  exact pe_meth0 he hc hm F (hr.mono hk) b .nil pass0 ht
theorem vx_prop (c : PropC X.prog X.w X.K X.mg X.base k C m sp) (hr : Room j X.A) (hk : k + 1 ≤ j) (he : PE X o ta) (hab : attributeBase o m X.env (eval o X.env) = eval o X.env) : PE X (.Attribute o m pos) (tProp C sp [] E0 ta) := by
  obtain ⟨q, f, fd, ps, hc, hp, F, b⟩ := c.ex
  exact pe_prop he hc hp F (hr.mono hk) b .nil pass0 hab
end
theorem iteBNT {b : Bool} {A B : Prop} (h : b = false) (k : A) : if (!b) = true then A else B := by rw [h]; exact iteT k
theorem iteNN {b : Bool} {A B : Prop} (h : if b = true then A else B) : if (!!b) = true then A else B := by rw [Bool.not_not]; exact h
theorem iteBNF {b : Bool} {A B : Prop} (h : b = true) (k : B) : if (!b) = true then A else B := by rw [h]; exact iteF k
theorem shl_side {i j : Int} (h0 : 0 ≤ j) (h1 : j ≤ 4096) (h2 : -(2 ^ 4096) < i) (h3 : i < 2 ^ 4096) : CShl i j := by
  obtain ⟨k, rfl⟩ := Int.eq_ofNat_of_zero_le h0
  exact shl_ok (n := 4096) (by omega) (by omega)
end Vx

namespace Vx
open PySem PySem.Spec PyProof.Rows L2
section
variable {X : Cx} {K : PySem.W.Frag}
theorem fldK {e : Expr} {f : Str} {pos : Pos} {ta : TE} (he : PE X e ta) (hb : attributeBase e f X.env (eval e X.env) = eval e X.env := by rfl) (hK : X.K = K := by rfl) : PE X (.Attribute e f pos) (tFld K ta f) := hK ▸ pe_fld he hb
theorem pg_tupK {es : List Expr} {k : Nat} {t : TGs} {n : Nat} {pos : Pos} (h : PGs X es t) (hc : X.calm = true := by rfl)
    (hn : (assignEach es X.env).length = n := by rfl) (hst : (assignEach es X.env).findIdx? (·.1) = none := by rfl) (hK : X.K = K := by rfl) : PG X (.Tuple es k pos) (gTup K n t) := hK ▸ pg_tup hc h hn hst
end
end Vx

namespace Vx
open PySem PySem.Spec PyProof.Rows L2
section
variable {α β : Type} {f : α → PyData} {g : β → PyData} {fv : α → V} {gv : β → V} {G : Hp} {vs ws : List V} {xs : List α} {ys : List β}
theorem big1 {n : Nat} (h : n ≤ 1000000) : n ≤ sizeLine := smallE h
theorem cat_len (a : RpAll G vs (xs.map f)) (b : RpAll G ws (ys.map g)) (h : xs.length + ys.length ≤ 1000000) : vs.length + ws.length ≤ sizeLine := by
  rw [a.len, b.len, List.length_map, List.length_map]; exact smallE h
theorem cat_lenM (h : xs.length + ys.length ≤ 1000000) : (xs.map fv).length + (ys.map gv).length ≤ sizeLine := by
  rw [List.length_map, List.length_map]; exact smallE h
theorem rep_len {k : Nat} (a : RpAll G vs (xs.map f)) (h : xs.length * k ≤ 1000000) : vs.length * k ≤ sizeLine := by
  rw [a.len, List.length_map]; exact smallE h
theorem rep_lenM {k : Nat} (h : xs.length * k ≤ 1000000) : (xs.map fv).length * k ≤ sizeLine := by
  rw [List.length_map]; exact smallE h
theorem app_len (a : RpAll G vs (xs.map f)) (h : xs.length ≤ 1000000) : vs.length < sizeLine := by
  rw [a.len, List.length_map]; exact small h
theorem app_lenM (h : xs.length ≤ 1000000) : (xs.map fv).length < sizeLine := by
  rw [List.length_map]; exact small h
theorem cutL_len {α : Type} (xs : List α) (lo hi : Option Int) : (cutL xs lo hi).length ≤ xs.length := by
  unfold cutL
  rw [List.length_take, List.length_drop]
  omega
theorem repL_len {α : Type} (xs : List α) (k : Int) : (repL xs k).length = k.toNat * xs.length := by
  unfold repL
  simp
end
end Vx
/-! # promises of defs that know that nothing is being shown (so that repr may be called) -/
namespace Vx
open PySem PySem.Spec PyProof.Rows L2
structure RoomG (k : Nat) (A : Around) : Prop extends Room k A where
  gd : A.guards = some []
theorem RoomG.low {j k : Nat} {A : Around} (r : RoomG k A) (h : j ≤ k) : RoomG j A := ⟨r.toRoom.mono h, r.gd⟩
theorem RoomG.one {k : Nat} {A : Around} (r : RoomG (k + 1) A) : RoomG k A.in1 := ⟨r.toRoom.in1, r.gd⟩
theorem make_gd {A : Around} (C : Addr) (us : List Value) (kw : List (Str × Value)) (h : A.guards = some []) : (A.under (.builtin "type.__call__" ⟨.ref C :: us, kw⟩)).guards = some [] := by
  obtain ⟨hd, d, fr, gs, u⟩ := A
  subst h
  simp [Around.under, Code.guards, Code.isGuard, guardIds, pushGuards]
theorem RoomG.made {k : Nat} {A : Around} (r : RoomG (k + 1) A) (C : Addr) (us : List Value) (kw : List (Str × Value)) : RoomG k (A.under (.builtin "type.__call__" ⟨.ref C :: us, kw⟩)) := ⟨r.toRoom.make C us kw, make_gd C us kw r.gd⟩
structure FnG (P : Program) (w : World) (K : PySem.W.Frag) (mg : Str → Option Value) (base : Heap) (cx : CXT) (k : Nat) (f : Addr) (fd : FuncData) (ps : List Str) (sp : Sp) : Prop where
  len : ∀ vs H Q E, sp vs H Q E → vs.length = ps.length
  run : ∀ (A : Around) (outer : List Env) (s : Shared) (H : Hp) (args : Args) (us : List Value) (vs : List V) (Q : VK) (E : XK), RoomG k A → Env0 P w K mg base A outer s H → BindsTo s fd args (ps.zip us) → Vals vs us → sp vs H Q E → codeAny (model P w) A (.call (.ref f) args) (CR cx outer P w H s Q E) s
section
variable {P : Program} {w : World} {K : PySem.W.Frag} {mg : Str → Option Value} {base : Heap} {cx : CXT} {j k : Nat} {f : Addr} {fd : FuncData} {ps : List Str} {sp sp' : Sp}
theorem FnG.imp (F : FnG P w K mg base cx k f fd ps sp) (h : ∀ vs H Q E, sp' vs H Q E → sp vs H Q E) : FnG P w K mg base cx k f fd ps sp' := ⟨fun vs H Q E q => F.len vs H Q E (h vs H Q E q), fun A o s H a us vs Q E r e b v q => F.run A o s H a us vs Q E r e b v (h vs H Q E q)⟩
/-- the body's promise is the def's -/
theorem FnG.body {x qual : Str} {params : Arguments} {body : List Stmt} {scope : Scope} {dvs : List V} {kws : List (Str × V)} {N : List Str} (F : FunD K x qual params body scope dvs kws f fd) (S : FnScope N ps scope) (len : ∀ vs H Q E, sp vs H Q E → vs.length = ps.length)
    (hb : ∀ (cdv : Value) (A : Around) (outer : List Env) (s : Shared) (H : Hp) (vs : List V) (Q : VK) (E : XK), RoomG k (A.deeper (envOfC qual scope s.heap.objs.size f cdv)) → sp vs H Q E →
      ∃ t, PSs (cxOf cx P w K mg base N qual scope f cdv A outer s H E) body t ∧ t { nx := fun _ H' => Q .non H', rt := Q } (start N vs) H) : FnG P w K mg base cx (k + 1) f fd ps sp := by
  obtain ⟨oc, od, dV, kV, doc, pm, an, cdv, ct, osl, rfl, lk, code, _, _⟩ := F.ex
  constructor
  · exact len
  · intro A outer s H args us vs Q E room env binds vals prom
    have nvs := len vs H Q E prom
    have kin : K.In s.heap := env.mod.kin.keeps fun b o q => (env.bs b o q).1
    have nolim : s.heap.NoLimit := env.mod.nolimit.keeps fun b o q => (env.bs b o q).1
    have kinds : ∀ q ∈ ps.zip us, scope.names.lookup q.1 = some .local ∨ (scope.names.lookup q.1 = some .cell ∧ ((cellsFrom (s.heap.objs.size + 1) scope.names []).lookup q.1).isSome = true) := by
      rintro ⟨n, v⟩ hq
      cases S.par n (List.of_mem_zip hq).1 with
      | inl z => exact .inl z
      | inr z => exact .inr ⟨z, PySem.W.cellsFrom_some _ _ _ (.inl z)⟩
    refine codeAny_call_function room.toRoom.depth (kin _ _ lk) rfl S.co S.gen rfl (PySem.W.codeRec_of kin code) (binds _ _ _ _ ?_)
    refine wpAny_newFunctionEnv_cells S.kind kinds ?_
    rintro _ rfl s1 made
    refine ⟨nolim.keeps made.toInCall.keep, codeAny_func ?_⟩
    obtain ⟨t, pss, start_⟩ := hb cdv A outer s H vs Q E ⟨room.toRoom.deeper _, room.gd⟩ prom
    have inv := inv_start (CX := cx) (E := E) S room.hd env nvs vals made
    have close : ∀ {τ : L2.St} {H2 : Hp} {v : V} {u : Value} {s2 : Shared}, Inv (cxOf cx P w K mg base N qual scope f cdv A outer s H E) [] τ H2 s2 → RelV v u → Q v H2 → CE outer P w H s Q u s2 := fun inv2 rel q => ⟨_, _, inv2.os, inv2.bare, inv2.base, inv2.hok, rel, q⟩
    refine wpAny_mono (pss.run [] s1 (start N vs) H _ inv start_) ?_ fun _ _ z => z
    intro flow s2 out
    cases flow with
    | next =>
      obtain ⟨τ, H2, inv2, q⟩ := out
      exact close (v := .non) (u := .none) inv2 rfl q
    | ret u =>
      obtain ⟨v, τ, H2, inv2, rel, q⟩ := out
      exact close inv2 rel q
    | brk =>
      obtain ⟨_, _, _, q⟩ := out
      exact q.elim
    | cont =>
      obtain ⟨_, _, _, q⟩ := out
      exact q.elim
/-- the same of a body that nothing leaves -/
theorem FnG.bodyN {x qual : Str} {params : Arguments} {body : List Stmt} {scope : Scope} {dvs : List V} {kws : List (Str × V)} {N : List Str} (F : FunD K x qual params body scope dvs kws f fd) (S : FnScope N ps scope) (len : ∀ vs H Q E, sp vs H Q E → vs.length = ps.length)
    (hb : ∀ (cdv : Value) (A : Around) (outer : List Env) (s : Shared) (H : Hp) (vs : List V) (Q : VK) (E : XK), RoomG k (A.deeper (envOfC qual scope s.heap.objs.size f cdv)) → sp vs H Q E →
      ∃ t, PSs (cxOf CX0 P w K mg base N qual scope f cdv A outer s H E).nox body t ∧ t { nx := fun _ H' => Q .non H', rt := Q } (start N vs) H) : FnG P w K mg base CX0 (k + 1) f fd ps sp :=
  FnG.body F S len fun cdv A outer s H vs Q E r p => by
    obtain ⟨t, h, q⟩ := hb cdv A outer s H vs Q E r p
    exact ⟨t, h.nox, q⟩
end
/-- where a law's call begins: an abstract heap that tells the script at most -/
theorem law_start {P : Program} {w : World} {K : PySem.W.Frag} {mg mb : Str → Option Value} {a : Addr} {s : Shared} {vs : List Value} {ns : List Int} (kin : K.In s.heap) (top : s.heap.Ns mainGlobals mg) (blt : s.heap.Ns builtinsNs mb) (boot : ∀ y : Str, y ≠ "__name__" → mb y = bootBuiltins y)
    (lim : s.heap.NoLimit) (gens : s.gens = #[]) (script : s.heap.get? a = some { cls := .type "list", data := .seq vs.toArray }) (whole : IntsAre vs ns) (short : ns.length ≤ sizeLine) :
    ∃ (H : Hp) (base : Heap), SqL K H a (ns.map V.int) ∧ K.In base ∧ base.Ns mainGlobals mg ∧ Env0 P w K mg base callerA [] s H ∧
      ∀ (Z : V → Prop) (u : Value) (s2 : Shared), CE [] P w H s (fun v _ => Z v) u s2 → (∃ v, RelV v u ∧ Z v) ∧ OldK s.heap s2.heap ∧ s2.os = s.os ∧ AllBare s2.gens := by
  have rel := vals_ints whole
  have lenV := whole.length
  -- any H that tells no more than the script, and that only where the written part does not hold it, will do
  have fits : ∀ H : Hp, (∀ b, H b = none ∨ ∃ o xs, H b = some (.frz o (.lst xs))) → SqL K H a (ns.map V.int) → HOk P w H s.heap → (∀ b, b ≠ a → H b = none) → (∀ o, K.lookup a = some o → H a = none) →
      ∃ (H : Hp) (base : Heap), SqL K H a (ns.map V.int) ∧ K.In base ∧ base.Ns mainGlobals mg ∧ Env0 P w K mg base callerA [] s H ∧
        ∀ (Z : V → Prop) (u : Value) (s2 : Shared), CE [] P w H s (fun v _ => Z v) u s2 → (∃ v, RelV v u ∧ Z v) ∧ OldK s.heap s2.heap ∧ s2.os = s.os ∧ AllBare s2.gens := by
    intro H only seq ok else_ apart
    have dictFree : ∀ (b : Addr) (o : Obj) (es : Array DictEntry) (n : Nat), s.heap.get? b = some o → o.data = .dict es n → H b = none := by
      intro b o es n e d
      by_cases z : b = a
      · subst z
        rw [script] at e
        injection e with e
        subst e
        cases d
      · exact else_ b z
    have nsOf : ∀ {b : Addr} {m : Str → Option Value}, s.heap.Ns b m → (hidT s.heap H).Ns b m := by
      rintro b m ⟨o, es, n, e, d, r⟩
      exact ⟨o, es, n, hidT_get e (dictFree b o es n e d), d, r⟩
    have kinB : K.In (hidT s.heap H) := by
      intro b o e
      refine hidT_get (kin b o e) ?_
      by_cases z : b = a
      · subst z
        exact apart o e
      · exact else_ b z
    obtain ⟨mc, lim1, lim2⟩ := lim
    refine ⟨H, hidT s.heap H, seq, kinB, nsOf top, ⟨rfl, ⟨kinB, nsOf top, ⟨mb, nsOf blt, boot⟩, mc, nsOf lim1, lim2⟩, fun b o e => of_hidT e, Nat.le_of_eq (hidT_size _ _), trivial, fun b hb => (nomatch (show b ∈ ([] : List Addr) from hb)), ok, .of_eq gens⟩, ?_⟩
    rintro Z u s2 ⟨v, H2, os, bare, un, ok2, r, z⟩
    refine ⟨⟨v, r, z⟩, OldK.of_keep fun b o e => ?_, os, bare⟩
    rcases only b with n | ⟨o1, xs, n⟩
    · exact un.keep b o e n (fun y => nomatch (show b ∈ ([] : List Addr) from y)) (fun y => nomatch y)
    · obtain ⟨e1, _⟩ := ok b _ n
      obtain ⟨e2, _⟩ := ok2 b _ (un.frzs b o1 _ n)
      rw [e] at e1
      injection e1 with e1
      subst e1
      exact e2
  cases kl : K.lookup a with
  | some o =>
    have e := kin a o kl
    rw [script] at e
    injection e with e
    subst e
    exact fits (fun _ => none) (fun _ => .inl rfl) (.inr ⟨_, vs.toArray, _, kl, rfl, rfl, rfl, by rw [List.size_toArray, lenV]; exact short, by simpa using rel⟩) (fun _ _ z => nomatch z) (fun _ _ => rfl) fun _ _ => rfl
  | none =>
    refine fits (fun b => if b = a then some (.frz { cls := .type "list", data := .seq vs.toArray } (.lst (ns.map V.int))) else none) ?_ (.inl (.inr ⟨_, if_pos rfl⟩)) ?_ (fun b n => if_neg n) fun o z => ?_
    · intro b
      by_cases z : b = a
      · exact .inr ⟨_, _, if_pos z⟩
      · exact .inl (if_neg z)
    · intro b u q
      by_cases z : b = a
      · subst z
        have q := (if_pos rfl).symm.trans q
        injection q with q
        subst q
        exact ⟨script, by rw [List.length_map]; exact short, vs, _, rel, script⟩
      · have q := (if_neg z).symm.trans q
        cases q
    · rw [kl] at z
      cases z
/-- the goal that the head leaves, from the law's promise; the script's numbers have at most 2 ^ 20 bits -/
theorem walkG {l : PySem.W.OpenLaw} {n k : Nat} {q : Program} {loose : List Str} {XP : (Str → Option Value) → Heap → Prop} {YP : World → Heap → Prop} {d : DefRec} {K : Params → PySem.W.Frag} {x : Str} (hn : l.most = some n) (hn2 : n ≤ sizeLine) (hdf : d.params.defaults = []) (room : Room k callerA)
    (hY : ∀ (w : World) (h : Heap), YP w h → (K w.params).In h)
    (F : ∀ (w : World) (mg : Str → Option Value) (fa : Addr) (h : Heap), (K w.params).In h → h.Ns mainGlobals mg → mg d.name = some (.ref fa) →
      ∃ fd : FuncData, (∀ (s : Shared) (u : Value), BindsTo s fd ⟨[u], []⟩ [(x, u)]) ∧ ∀ base : Heap, (K w.params).In base → base.Ns mainGlobals mg → FnG l.prog w (K w.params) mg base CX0 k fa fd [x] (fun vs H Q _ => ∃ (a : Addr) (ns : List Int), vs = [.ref a] ∧ SqL (K w.params) H a (ns.map V.int) ∧ ns.length ≤ n ∧ ∀ H', Q (.bl true) H')) :
    PySem.W.WalkO q loose XP YP l.row.toRowW d [] (fun f vs => PySem.call f vs) := by
  refine Att.attach_call hn hdf ?_
  intro w s₀ s₁ mg mb fa o pm cd doc a vs ns G Y _ _ _ hmg script whole short gens
  have kin := hY w _ Y
  obtain ⟨fd, bind, prom⟩ := F w mg fa _ kin G.T.g hmg
  obtain ⟨H, base, seq, kinB, nsB, env, fin⟩ := law_start (P := l.prog) (w := w) kin G.T.g G.T.b G.T.builtins G.T.nolimit gens script whole (Nat.le_trans short hn2)
  refine codeAny_mono ((prom base kinB nsB).run callerA [] s₁ H ⟨[.ref a], []⟩ [.ref a] [.ref a] (fun v _ => v = .bl true) (fun _ _ _ => False) ⟨room, rfl⟩ env (bind s₁ (.ref a)) (.cons rfl .nil) ⟨a, ns, rfl, seq, short, fun _ => rfl⟩) ?_
  intro r s2 out
  cases r with
  | error e => exact out.elim
  | ok flow =>
    cases flow with
    | ret u =>
      obtain ⟨⟨v, rv, z⟩, h1, h2, h3⟩ := fin (fun v => v = .bl true) u s2 out
      subst z
      obtain rfl : u = Value.bool true := rv
      exact ⟨rfl, h1, h2, h3⟩
    | next => exact out.elim
    | brk => exact out.elim
    | cont => exact out.elim
end Vx
/-! # third part: what a def computes, as a plain function with refusals -/
namespace Vx
open PySem PySem.Spec PyProof.Rows L2
inductive Rx (α : Type) where
  | ok (a : α)
  | er (e : Nat)
  | bad
def Rx.bind {α β : Type} (m : Rx α) (f : α → Rx β) : Rx β :=
  match m with
  | .ok a => f a
  | .er e => .er e
  | .bad => .bad
/-- what is wanted of an outcome -/
@[irreducible] def cW {α : Type} (m : Rx α) (K : α → Prop) (E : Nat → Prop) : Prop :=
  match m with
  | .ok a => K a
  | .er e => E e
  | .bad => False
def grd {α : Type} (p : Prop) [Decidable p] (m : Rx α) : Rx α := if p then m else .bad
/-- within a comprehension nothing may be raised -/
def noEr {α : Type} (m : Rx α) : Rx α :=
  match m with
  | .ok a => .ok a
  | _ => .bad
/-- what the clause does not name may not come -/
def tryR {α β : Type} (m : Rx α) (cs : List Nat) (f : α → Rx β) (h : Nat → Rx β) : Rx β :=
  match m with
  | .ok a => f a
  | .er e => if e ∈ cs then h e else .bad
  | .bad => .bad
def bnd {α β : Type} (a : α) (f : α → Rx β) : Rx β := f a
inductive Lp (σ ρ : Type) where
  | go (s : σ)
  | bk (s : σ)
  | rt (r : ρ)
def Lp.aft {σ ρ τ : Type} (l : Lp σ ρ) (kr : ρ → Rx τ) (k : σ → Rx τ) : Rx τ :=
  match l with
  | .go s => k s
  | .bk s => k s
  | .rt r => kr r
def forS {σ α : Type} : List α → σ → (σ → α → Rx σ) → Rx σ
  | [], s, _ => .ok s
  | x :: r, s, f => (f s x).bind fun s' => forS r s' f
def forR {σ α ρ : Type} : List α → σ → (σ → α → Rx (Lp σ ρ)) → Rx (Lp σ ρ)
  | [], s, _ => .ok (.go s)
  | x :: r, s, f => (f s x).bind fun l =>
    match l with
    | .go s' => forR r s' f
    | .bk s' => .ok (.go s')
    | .rt v => .ok (.rt v)
def whileR {σ ρ : Type} : Nat → σ → (σ → Rx (Lp σ ρ)) → Rx (Lp σ ρ)
  | 0, _, _ => .bad
  | n + 1, s, f => (f s).bind fun l =>
    match l with
    | .go s' => whileR n s' f
    | .bk s' => .ok (.go s')
    | .rt v => .ok (.rt v)
def mapA {α β : Type} : List α → List β → (α → Rx β) → Rx (List β)
  | [], acc, _ => .ok acc
  | x :: r, acc, f => grd (acc.length ≤ 1000000) ((f x).bind fun y => mapA r (acc ++ [y]) f)
def mapF {α β : Type} : List α → List β → (α → Rx (Option β)) → Rx (List β)
  | [], acc, _ => .ok acc
  | x :: r, acc, f => grd (acc.length ≤ 1000000) ((f x).bind fun y =>
    match y with
    | some z => mapF r (acc ++ [z]) f
    | none => mapF r acc f)
section
variable {α β γ σ ρ τ : Type} {K : α → Prop} {E : Nat → Prop}
theorem cW_ok {a : α} (h : cW (.ok a) K E) : K a := by
  unfold cW at h
  exact h
theorem cW_er {e : Nat} (h : cW (.er e : Rx α) K E) : E e := by
  unfold cW at h
  exact h
theorem cW_bad {C : Prop} (h : cW (.bad : Rx α) K E) : C := by
  unfold cW at h
  exact h.elim
theorem cW_mk {a : α} (h : K a) : cW (.ok a) K E := by
  unfold cW
  exact h
theorem cW_mkE {e : Nat} (h : E e) : cW (.er e : Rx α) K E := by
  unfold cW
  exact h
theorem cW_gen {m : Rx α} (h : cW m K E) : ∃ (K' : α → Prop) (E' : Nat → Prop), (∀ v, K' v → K v) ∧ (∀ e, E' e → E e) ∧ cW m K' E' := ⟨K, E, fun _ x => x, fun _ x => x, h⟩
theorem cW_grd {p : Prop} {dp : Decidable p} {m : Rx α} (h : cW (grd p m) K E) : p ∧ cW m K E := by
  unfold grd at h
  split at h
  · exact ⟨‹p›, h⟩
  · exact cW_bad h
theorem cW_pos {p : Prop} {dp : Decidable p} {a b : Rx α} (c : p) (h : cW (if p then a else b) K E) : cW a K E := by rwa [if_pos c] at h
theorem cW_neg {p : Prop} {dp : Decidable p} {a b : Rx α} (c : ¬ p) (h : cW (if p then a else b) K E) : cW b K E := by rwa [if_neg c] at h
theorem cW_call {m : Rx β} {f : β → Rx α} {K2 : β → Prop} {E2 : Nat → Prop} (h : cW (m.bind f) K E) (ho : ∀ v, cW (f v) K E → K2 v) (he : ∀ e, E e → E2 e) : cW m K2 E2 := by
  cases m with
  | ok a => exact cW_mk (ho a h)
  | er e => exact cW_mkE (he e (cW_er (α := α) h))
  | bad => exact cW_bad (α := α) h
theorem cW_push {m : Rx β} {f : β → Rx α} (h : cW (m.bind f) K E) : ∃ K2 : β → Prop, (∀ v, K2 v → cW (f v) K E) ∧ cW m K2 E := ⟨fun v => cW (f v) K E, fun _ x => x, cW_call h (fun _ x => x) fun _ x => x⟩
theorem cW_name {m : Rx α} (h : cW m K E) : ∃ K' : α → Prop, (∀ v, K' v → K v) ∧ cW m K' E := ⟨K, fun _ x => x, h⟩
theorem cW_noEr {m : Rx α} (h : cW (noEr m) K E) : cW m K (fun _ => False) := by
  cases m with
  | ok a => exact cW_mk (cW_ok (α := α) h)
  | er e => exact cW_bad (α := α) h
  | bad => exact cW_bad (α := α) h
theorem cW_try {m : Rx β} {cs : List Nat} {f : β → Rx α} {g : Nat → Rx α} {K2 : β → Prop} {E2 : Nat → Prop} (h : cW (tryR m cs f g) K E) (ho : ∀ v, cW (f v) K E → K2 v) (hc : ∀ e, e ∈ cs → cW (g e) K E → E2 e) : cW m K2 E2 := by
  cases m with
  | ok a => exact cW_mk (ho a h)
  | er e =>
    have h2 : cW (if e ∈ cs then g e else .bad) K E := h
    by_cases q : e ∈ cs
    · exact cW_mkE (hc e q (cW_pos q h2))
    · exact cW_bad (cW_neg q h2)
  | bad => exact cW_bad (α := α) h
theorem cW_bnd {a : β} {f : β → Rx α} (h : cW (bnd a f) K E) : cW (f a) K E := h
theorem cW_negB {b : Bool} {x y : Rx α} (c : b = false) (h : cW (if b = true then x else y) K E) : cW y K E := cW_neg (by rw [c]; decide) h
theorem cW_forS {xs : List β} {i : Nat} {x : β} {s : α} {f : α → β → Rx α} (hx : xs[i]? = some x) (h : cW (forS (xs.drop i) s f) K E) : cW (f s x) (fun s' => cW (forS (xs.drop (i + 1)) s' f) K E) E := by
  rw [List.drop_eq_getElem?_toList_append, hx] at h
  exact cW_call h (fun _ z => z) fun _ z => z
theorem cW_forS0 {xs : List β} {n : Nat} {s : α} {f : α → β → Rx α} (hn : n = xs.length) (h : cW (forS (xs.drop n) s f) K E) : K s := by
  subst hn
  rw [List.drop_length] at h
  exact cW_ok h
theorem cW_forR {K : Lp σ ρ → Prop} {xs : List β} {i : Nat} {x : β} {s : σ} {f : σ → β → Rx (Lp σ ρ)} (hx : xs[i]? = some x) (h : cW (forR (xs.drop i) s f) K E) :
    cW (f s x) (fun l => match l with | .go s' => cW (forR (xs.drop (i + 1)) s' f) K E | .bk s' => K (.go s') | .rt v => K (.rt v)) E := by
  rw [List.drop_eq_getElem?_toList_append, hx] at h
  refine cW_call h (fun l z => ?_) fun _ z => z
  cases l with
  | go s' => exact z
  | bk s' => exact cW_ok (K := K) (a := .go s') z
  | rt v => exact cW_ok (K := K) (a := .rt v) z
theorem cW_forR0 {K : Lp σ ρ → Prop} {xs : List β} {n : Nat} {s : σ} {f : σ → β → Rx (Lp σ ρ)} (hn : n = xs.length) (h : cW (forR (xs.drop n) s f) K E) : K (.go s) := by
  subst hn
  rw [List.drop_length] at h
  exact cW_ok h
theorem cW_whileR {K : Lp σ ρ → Prop} {m : Nat} {s : σ} {f : σ → Rx (Lp σ ρ)} (h : cW (whileR m s f) K E) :
    ∃ n, m = n + 1 ∧ cW (f s) (fun l => match l with | .go s' => cW (whileR n s' f) K E | .bk s' => K (.go s') | .rt v => K (.rt v)) E := by
  cases m with
  | zero => exact cW_bad h
  | succ n =>
    refine ⟨n, rfl, cW_call h (fun l z => ?_) fun _ z => z⟩
    cases l with
    | go s' => exact z
    | bk s' => exact cW_ok (K := K) (a := .go s') z
    | rt v => exact cW_ok (K := K) (a := .rt v) z
theorem cW_mapA {K : List α → Prop} {xs : List β} {acc : List α} {i : Nat} {x : β} {f : β → Rx α} (hx : xs[i]? = some x) (h : cW (mapA (xs.drop i) acc f) K E) :
    acc.length ≤ 1000000 ∧ cW (f x) (fun y => cW (mapA (xs.drop (i + 1)) (acc ++ [y]) f) K E) E := by
  rw [List.drop_eq_getElem?_toList_append, hx] at h
  obtain ⟨z, h⟩ := cW_grd h
  exact ⟨z, cW_call h (fun _ z => z) fun _ z => z⟩
theorem cW_mapA0 {K : List α → Prop} {xs : List β} {acc : List α} {n : Nat} {f : β → Rx α} (hn : n = xs.length) (h : cW (mapA (xs.drop n) acc f) K E) : K acc := by
  subst hn
  rw [List.drop_length] at h
  exact cW_ok h
theorem cW_mapF {K : List α → Prop} {xs : List β} {acc : List α} {i : Nat} {x : β} {f : β → Rx (Option α)} (hx : xs[i]? = some x) (h : cW (mapF (xs.drop i) acc f) K E) :
    acc.length ≤ 1000000 ∧ cW (f x) (fun y => match y with | some z => cW (mapF (xs.drop (i + 1)) (acc ++ [z]) f) K E | none => cW (mapF (xs.drop (i + 1)) acc f) K E) E := by
  rw [List.drop_eq_getElem?_toList_append, hx] at h
  obtain ⟨z, h⟩ := cW_grd h
  refine ⟨z, cW_call h (fun y z => ?_) fun _ z => z⟩
  cases y with
  | none => exact z
  | some w => exact z
theorem cW_mapF0 {K : List α → Prop} {xs : List β} {acc : List α} {n : Nat} {f : β → Rx (Option α)} (hn : n = xs.length) (h : cW (mapF (xs.drop n) acc f) K E) : K acc := by
  subst hn
  rw [List.drop_length] at h
  exact cW_ok h
end
/-- the numbers of a range -/
def rng (lo : Int) (n : Nat) : List Int := (List.range n).map fun (j : Nat) => lo + (j : Int)
theorem rng_get {lo : Int} {n i : Nat} (h : i < n) : (rng lo n)[i]? = some (lo + (i : Int)) := by
  unfold rng
  rw [List.getElem?_map, List.getElem?_range h] <;> rfl
theorem rng_len (lo : Int) (n : Nat) : (rng lo n).length = n := by
  unfold rng
  rw [List.length_map, List.length_range]

def rngD (lo : Int) (n : Nat) : List Int := (List.range n).map fun (j : Nat) => lo + (j : Int) * (-1)
theorem rngD_get {lo : Int} {n i : Nat} (h : i < n) : (rngD lo n)[i]? = some (lo + (i : Int) * (-1)) := by
  unfold rngD
  rw [List.getElem?_map, List.getElem?_range h] <;> rfl
theorem rngD_len (lo : Int) (n : Nat) : (rngD lo n).length = n := by
  unfold rngD
  rw [List.length_map, List.length_range]

/-! ### calls that may raise -/
/-- what a call with n values and keywords ks gives the parameters -/
structure Bnd (K : PySem.W.Frag) (fd : FuncData) (ps : List Str) (n : Nat) (ks : List Str) (g : List V → List V → List V) : Prop where
  to : ∀ (s : Shared) (us ws : List Value) (vs zs : List V), K.In s.heap → vs.length = n → zs.length = ks.length → Vals vs us → Vals zs ws → ∃ vv : List Value, BindsTo s fd ⟨us, ks.zip ws⟩ (ps.zip vv) ∧ Vals (g vs zs) vv
theorem Bnd.of_kbn {K : PySem.W.Frag} {fd : FuncData} {ps ks : List Str} {n : Nat} {g : List Value → List Value → List Value} {gV : List V → List V → List V} (b : KBn K fd ps n ks g gV) : Bnd K fd ps n ks gV :=
  ⟨fun s us ws vs zs X l1 l2 r rz => ⟨g us ws, b.to s us ws X (r.length.symm.trans l1) (rz.length.symm.trans l2), b.rel r rz⟩⟩
theorem Bnd.all {K : PySem.W.Frag} {fd : FuncData} {ps ks : List Str} {n : Nat} {g : List V → List V → List V} (h : ∀ (us ws : List Value) (vs zs : List V), vs.length = n → zs.length = ks.length → Vals vs us → Vals zs ws →
    ∃ vv : List Value, bindArgs fd ⟨us, ks.zip ws⟩ = pure (ps.zip vv) ∧ Vals (g vs zs) vv) : Bnd K fd ps n ks g :=
  ⟨fun s us ws vs zs _ l1 l2 r rz => by
    obtain ⟨vv, e, q⟩ := h us ws vs zs l1 l2 r rz
    exact ⟨vv, BindsTo.of_eq e, q⟩⟩
abbrev Pat := Nat × List Str × (List V → List V → List V)
def Bnd1 (K : PySem.W.Frag) (fd : FuncData) (ps : List Str) (p : Pat) : Prop := Bnd K fd ps p.1 p.2.1 p.2.2
section
variable {P : Program} {w : World} {K : PySem.W.Frag} {mg : Str → Option Value} {base : Heap}
/-- a def of the top, with the ways it is called -/
structure DefX (K : PySem.W.Frag) (mg : Str → Option Value) (x : Str) (st : Stmt) (ps : List Str) (pats : List Pat) : Prop where
  ex : ∃ (f : Addr) (fd : FuncData) (dvs : List V) (kws : List (Str × V)), FunD K x x (defArgs st) (defBody st) (defScope st) dvs kws f fd ∧ mg x = some (.ref f) ∧ ∀ p ∈ pats, Bnd1 K fd ps p
structure CalX (P : Program) (w : World) (K : PySem.W.Frag) (mg : Str → Option Value) (base : Heap) (k : Nat) (x : Str) (sp : Sp) (pats : List Pat) : Prop where
  ex : ∃ (f : Addr) (fd : FuncData) (ps : List Str), FnG P w K mg base (L2.CX P w) k f fd ps sp ∧ mg x = some (.ref f) ∧ PySem.W.keepIn K (.ref f) = true ∧ ∀ p ∈ pats, Bnd1 K fd ps p
abbrev BodyX (P : Program) (w : World) (K : PySem.W.Frag) (mg : Str → Option Value) (base : Heap) (x : Str) (st : Stmt) (N : List Str) (k : Nat) (sp : Sp) : Prop :=
  ∀ (f : Addr) (cdv : Value) (A : Around) (outer : List Env) (s : Shared) (H : Hp) (vs : List V) (Q : VK) (E : XK), RoomG k (A.deeper (envOfC x (defScope st) s.heap.objs.size f cdv)) → sp vs H Q E →
    ∃ t, PSs (cxOf (L2.CX P w) P w K mg base N x (defScope st) f cdv A outer s H E) (defBody st) t ∧ t { nx := fun _ H' => Q .non H', rt := Q } (start N vs) H
theorem DefX.ok {x : Str} {st : Stmt} {N ps : List Str} {pats : List Pat} {k : Nat} {sp : Sp} (D : DefX K mg x st ps pats) (S : FnScope N ps (defScope st)) (len : ∀ vs H Q E, sp vs H Q E → vs.length = ps.length)
    (hbody : BodyX P w K mg base x st N k sp) : CalX P w K mg base (k + 1) x sp pats := by
  obtain ⟨f, fd, dvs, kws, F, hm, b⟩ := D.ex
  exact ⟨f, fd, ps, FnG.body F S len (fun cdv A outer s H vs Q E hr h => hbody f cdv A outer s H vs Q E hr h), hm, F.kp, b⟩
end
section
variable {X : Cx} {k j n : Nat} {f : Addr} {fd : FuncData} {ps ks : List Str} {g : List V → List V → List V} {sp : Sp} {x : Str} {pos p : Pos} {e : Expr} {es : List Expr} {kws : List Keyword} {t tk : TA} {W : WX}
theorem run_X {pins : List (Addr × Obj)} {σ : L2.St} {H : Hp} {s : Shared} {Q : VK} {us ws : List Value} {vs zs : List V} (F : FnG X.prog X.w X.K X.mg X.base (L2.CX X.prog X.w) k f fd ps sp) (hr : RoomG k X.A) (hb : Bnd X.K fd ps n ks g) (tkW : Takes X W)
    (I : Inv X pins σ H s) (r : Vals vs us) (rz : Vals zs ws) (l1 : vs.length = n) (l2 : zs.length = ks.length) (h : sp (g vs zs) H Q (WE W σ)) :
    wpAny (model X.prog X.w) X.A (call (.ref f) us (ks.zip ws)) (EP X pins σ Q) X.xe s := by
  obtain ⟨vv, b, r2⟩ := hb.to s us ws vs zs I.kIn l1 l2 r rz
  refine wpAny_call (codeAny_mono (F.run X.A X.stack s H ⟨us, ks.zip ws⟩ vv (g vs zs) Q (WE W σ) hr I.env0 b r2 h) fun rr s' hq => ?_)
  cases rr with
  | error er => exact passAt tkW σ pins H s er s' I hq
  | ok fl =>
    cases fl with
    | ret u => exact I.after hq
    | next => exact hq.elim
    | brk => exact hq.elim
    | cont => exact hq.elim
/-- f(e, .., k = v, ..) -/
def tCallX (n m : Nat) (sp : Sp) (g : List V → List V → List V) (W : WX) (t tk : TA) : TE := fun σ H Q => t σ H fun vs H1 => tk σ H1 fun zs H2 => vs.length = n ∧ zs.length = m ∧ sp (g vs zs) H2 Q (WE W σ)
theorem vx_callX {pats : List Pat} (c : CalX X.prog X.w X.K X.mg X.base k x sp pats) (pt : Pat) (hpt : pt ∈ pats) (hr : RoomG j X.A) (hk : k ≤ j) (tkW : Takes X W) (hg : Gl X x) (ha : PA X (e :: es) t) (hkw : PK X kws tk)
    (hall : (backToKw pos (keywordEach kws X.env)).all (·.1.isSome) = true := by rfl) (hks : (backToKw pos (keywordEach kws X.env)).filterMap (·.1) = pt.2.1 := by rfl)
    (hdb : (x == ("__debug__" : Str)) = false := by decide) (he : starEach (e :: es) X.env = (false, eval e X.env) :: starEach es X.env := by rfl)
    (hpl : ((backTo pos (starEach (e :: es) X.env)).any (·.1) || (backToKw pos (keywordEach kws X.env)).any (·.1.isNone)) = false := by rfl) :
    PE X (.Call (.Name x p) (e :: es) kws pos) (tCallX pt.1 pt.2.1.length sp pt.2.2 W t tk) := by
  obtain ⟨f, fd, ps, F, hm, kp, b⟩ := c.ex
  refine ⟨fun pins s σ H Q I h => ?_⟩
  refine wpAny_Call_Name_kw (ld_glob I hg hm ?_ hdb)
  refine PySem.W.callWith_KW (h₀ := X.base) I.ok.mod.kin kp hall (thn (ha.run pos pins s σ H _ I h) fun us s1 ⟨vs, H1, I1, r, q⟩ => ?_) hpl he
  refine thn (hkw.run pos pins s1 σ H1 _ I1 q) fun ws s2 ⟨zs, H2, I2, rz, l1, l2, q2⟩ => ⟨I2.kIn, ?_⟩
  rw [hks]
  exact run_X F (hr.low hk) (b pt hpt) tkW I2 r rz l1 l2 q2
theorem vx_callX0 {pats : List Pat} (c : CalX X.prog X.w X.K X.mg X.base k x sp pats) (pt : Pat) (hpt : pt ∈ pats) (hr : RoomG j X.A) (hk : k ≤ j) (tkW : Takes X W) (hg : Gl X x) (hks : pt.2.1 = [] := by rfl)
    (hdb : (x == ("__debug__" : Str)) = false := by decide) : PE X (.Call (.Name x p) [] [] pos) (tCallX pt.1 pt.2.1.length sp pt.2.2 W tNil tNil) := by
  obtain ⟨f, fd, ps, F, hm, kp, b⟩ := c.ex
  refine ⟨fun pins s σ H Q I h => ?_⟩
  refine wpAny_Call_Name_kw (ld_glob I hg hm ?_ hdb)
  obtain ⟨l1, l2, q2⟩ := h
  have hz := run_X (us := []) (ws := []) F (hr.low hk) (b pt hpt) tkW I .nil .nil l1 l2 q2
  rw [hks] at hz
  exact PySem.W.callWith_K0 I.kIn kp hz
end
/-! ### borrowed things -/
theorem Sep.bM {M : List Addr} {H0 G0 G H : Hp} {O : List (Addr)} (S : Sep M H0 G0 G H O) : Same (hideL M H0) H := fun b o e => by
  by_cases h : b ∈ M
  · rw [hideL_in h] at e
    cases e
  · rw [hideL_out h] at e
    exact S.base b o e h
theorem b_ne {M : List Addr} {H0 G0 G H : Hp} {O : List Addr} {a b : Addr} {o : HO} (h : (hideL M H0) a = some o) (S : Sep M H0 G0 G H O) (hb : b ∈ O) : a ≠ b := fun z => by
  subst z
  rcases (S.ow a hb).2.2 with q | q
  · rw [hideL_in q] at h
    cases h
  · by_cases hM : a ∈ M
    · rw [hideL_in hM] at h
      cases h
    · rw [hideL_out hM, q] at h
      cases h
theorem hide0 {H : Hp} : hideL [] H = H := by
  funext b
  unfold hideL
  rw [if_neg List.not_mem_nil]
theorem hide_nil {H : Hp} {a : Addr} {o : HO} (h : H a = some o) : (hideL [] H) a = some o := by
  rw [hide0]
  exact h
theorem Rp.hide_nil {H : Hp} {v : V} {d : PyData} (h : Rp H v d) : Rp (hideL [] H) v d := by
  rw [hide0]
  exact h
theorem Sep.startM {M : List Addr} {G H : Hp} (e : Same G H) (hM : ∀ a ∈ M, H a ≠ none) (hG : ∀ a ∈ M, G a = none) : Sep M H G G H M :=
  ⟨fun _ _ e _ => e, hM, e, Same.refl _, fun _ _ e => e, fun a ha => ⟨hG a ha, hM a ha, .inl ha⟩⟩
theorem Sep.gno {M : List Addr} {H0 G0 G H : Hp} {O L : List Addr} (S : Sep M H0 G0 G H O) (h : ∀ a ∈ L, a ∈ O) : ∀ a ∈ L, G a = none := fun a ha => (S.ow a (h a ha)).1
theorem RpAll.ixD {α : Type} [Inhabited α] {f : α → PyData} {H : Hp} {vs : List V} {xs : List α} {k : Int} (r : RpAll H vs (xs.map f)) (h : -(xs.length : Int) ≤ k ∧ k < xs.length) : ∃ v, atI vs k = some v ∧ Rp H v (f (itD xs k)) := by
  obtain ⟨v, x, h1, h2, h3⟩ := RpAll.ix r h
  refine ⟨v, h1, ?_⟩
  unfold itD
  rw [h2]
  exact h3
theorem tru_all {α : Type} [DecidableEq α] {f : α → PyData} {H : Hp} {vs : List V} {xs : List α} (r : RpAll H vs (xs.map f)) : (!decide (xs = [])) = !vs.isEmpty := by
  have h := r.len
  rw [List.length_map] at h
  cases xs <;> cases vs <;> simp_all
theorem ix_nn {α : Type} {xs : List α} {k : Int} (h0 : 0 ≤ k) (h1 : k < xs.length) : -(xs.length : Int) ≤ k ∧ k < xs.length := ⟨by omega, h1⟩
theorem all_nilQ {α : Type} {P : α → Prop} : ∀ x ∈ ([] : List α), P x := fun x h => by cases h
theorem all_consQ {α : Type} {P : α → Prop} {a : α} {l : List α} (h : P a) (t : ∀ x ∈ l, P x) : ∀ x ∈ a :: l, P x := fun x hx => by
  rcases List.mem_cons.mp hx with rfl | hx
  · exact h
  · exact t x hx
theorem mem_one {a b : Nat} (h : a ∈ [b]) : a = b := by simpa using h
theorem mem_cons2 {a b : Nat} {l : List Nat} (h : a ∈ b :: l) : a = b ∨ a ∈ l := List.mem_cons.mp h
theorem len0 {α : Type} {l : List α} (h : l.length = 0) : l = [] := List.length_eq_zero_iff.mp h
theorem len1 {α : Type} {l : List α} (h : l.length = 1) : ∃ a, l = [a] := List.length_eq_one_iff.mp h
theorem len_s {α : Type} {l : List α} {n : Nat} (h : l.length = n + 1) : ∃ a r, l = a :: r ∧ r.length = n := by
  cases l with
  | nil => cases h
  | cons a r => exact ⟨a, r, rfl, Nat.succ.inj h⟩
theorem len2 {α : Type} {l : List α} (h : l.length = 2) : ∃ a b, l = [a, b] := by
  obtain ⟨a, r, rfl, h2⟩ := len_s h
  obtain ⟨b, rfl⟩ := len1 h2
  exact ⟨a, b, rfl⟩
theorem len3 {α : Type} {l : List α} (h : l.length = 3) : ∃ a b c, l = [a, b, c] := by
  obtain ⟨a, r, rfl, h2⟩ := len_s h
  obtain ⟨b, c, rfl⟩ := len2 h2
  exact ⟨a, b, c, rfl⟩
theorem len4 {α : Type} {l : List α} (h : l.length = 4) : ∃ a b c d, l = [a, b, c, d] := by
  obtain ⟨a, r, rfl, h2⟩ := len_s h
  obtain ⟨b, c, d, rfl⟩ := len3 h2
  exact ⟨a, b, c, d, rfl⟩
theorem len5 {α : Type} {l : List α} (h : l.length = 5) : ∃ a b c d e, l = [a, b, c, d, e] := by
  obtain ⟨a, r, rfl, h2⟩ := len_s h
  obtain ⟨b, c, d, e, rfl⟩ := len4 h2
  exact ⟨a, b, c, d, e, rfl⟩
theorem len6 {α : Type} {l : List α} (h : l.length = 6) : ∃ a b c d e f, l = [a, b, c, d, e, f] := by
  obtain ⟨a, r, rfl, h2⟩ := len_s h
  obtain ⟨b, c, d, e, f, rfl⟩ := len5 h2
  exact ⟨a, b, c, d, e, f, rfl⟩
theorem len7 {α : Type} {l : List α} (h : l.length = 7) : ∃ a b c d e f g, l = [a, b, c, d, e, f, g] := by
  obtain ⟨a, r, rfl, h2⟩ := len_s h
  obtain ⟨b, c, d, e, f, g, rfl⟩ := len6 h2
  exact ⟨a, b, c, d, e, f, g, rfl⟩
def rLenTK (K : PySem.W.Frag) : List V → Hp → VK → Prop := fun xs H Q => ∃ (p : Addr) (vs : List V) (n : Nat), xs = [.ref p] ∧ SqT K H p vs ∧ vs.length = n ∧ Q (.int (n : Int)) H
theorem call_lenTK {X : Cx} {K : PySem.W.Frag} (hK : X.K = K := by rfl) : CallR X (.builtin "len") (rLenTK K) := by
  subst hK
  intro pins s σ H xs us Q I r h
  obtain ⟨p, vs, n, rfl, hs, hn, q⟩ := h
  exact call_len_seq pins s σ H _ us Q I r ⟨p, _, rfl, Or.inr hs, by rw [hn]; exact q⟩
theorem exm_mk {K : PySem.W.Frag} {S C : Addr} (h1 : PySem.W.subIn K (.ref C) (.type "BaseException") = some true) (h2 : PySem.W.isClsIn K C = true) (h3 : PySem.W.typeIn K (.ref C) = some (.type "type")) (h4 : PySem.W.subIn K (.ref S) (.ref C) = some true) :
    PySem.W.exmOne K (.ref S) (.ref C) = some true := by
  unfold PySem.W.isClsIn at h2
  unfold PySem.W.exmOne
  unfold PySem.W.kitCls
  simp only [h1, h2, h3, h4, beq_self_eq_true, Bool.and_self, if_true]
theorem kit_mk {K : PySem.W.Frag} {S C : Addr} (h2 : PySem.W.isClsIn K C = true) (h3 : PySem.W.typeIn K (.ref C) = some (.type "type")) (h4 : PySem.W.subIn K (.ref S) (.ref C) = some true) :
    PySem.W.kitOne K (.ref S) (.ref C) = some true := by
  unfold PySem.W.isClsIn at h2
  unfold PySem.W.kitOne
  split
  · rfl
  · unfold PySem.W.kitCls
    simp only [h2, h3, h4, beq_self_eq_true, Bool.and_self, if_true]
/-- isinstance(e, C) of the exception in hand -/
def rIsX (K : PySem.W.Frag) (a : Addr) (cls : Value) (d : Option Addr) : List V → Hp → VK → Prop := fun xs H Q => ∃ (D C : Addr) (b : Bool), cls = .ref D ∧ d = none ∧ ExcC K D ∧ xs = [.ref a, .ref C] ∧ PySem.W.kitOne K (.ref D) (.ref C) = some b ∧ Q (.bl b) H
theorem call_isX {X : Cx} {K : PySem.W.Frag} {a : Addr} {cls : Value} {d : Option Addr} {oe : Obj} {pn : List (Addr × Obj)} (hz : Zc cls d oe) (hf : ∃ vs, oe.data = .fields vs) (hK : X.K = K := by rfl) : CallR (X.suite a ((a, oe) :: pn)) (.builtin "isinstance") (rIsX K a cls d) := by
  subst hK
  intro pins s σ H xs us Q I r h
  obtain ⟨D, C, b, rfl, rfl, c, rfl, e, q⟩ := h
  exact call_isE c hz hf pins s σ H _ us Q I r ⟨_, _, b, rfl, fun u z => z, e, q⟩
/-! ### unpacking a list -/
section
variable {X : Cx} {K : PySem.W.Frag} {pos : Pos}
theorem pg_seqK {es : List Expr} {k : Nat} {t : TGs} {n : Nat} (h : PGs X es t) (hc : X.calm = true := by rfl) (hK : X.K = K := by rfl)
    (hn : (assignEach es X.env).length = n := by rfl) (hst : (assignEach es X.env).findIdx? (·.1) = none := by rfl) : PG X (.Tuple es k pos) (gLst K n t) := hK ▸ pg_lst hc h hn hst
end
theorem SqL.cast {K : PySem.W.Frag} {H : Hp} {a : Addr} {xs ys : List V} (h : SqL K H a xs) (e : xs = ys) : SqL K H a ys := e ▸ h
section
variable {α : Type} [Inhabited α] {f : α → V}
theorem unp2 {xs : List α} (h : xs.length = 2) : xs.map f = [f (itD xs 0), f (itD xs 1)] := by
  obtain ⟨a, b, rfl⟩ := len2 h
  rfl
theorem unp3 {xs : List α} (h : xs.length = 3) : xs.map f = [f (itD xs 0), f (itD xs 1), f (itD xs 2)] := by
  obtain ⟨a, b, c, rfl⟩ := len3 h
  rfl
theorem unp4 {xs : List α} (h : xs.length = 4) : xs.map f = [f (itD xs 0), f (itD xs 1), f (itD xs 2), f (itD xs 3)] := by
  obtain ⟨a, b, c, d, rfl⟩ := len4 h
  rfl
theorem unp6 {xs : List α} (h : xs.length = 6) : xs.map f = [f (itD xs 0), f (itD xs 1), f (itD xs 2), f (itD xs 3), f (itD xs 4), f (itD xs 5)] := by
  obtain ⟨a, b, c, d, e, g, rfl⟩ := len6 h
  rfl
theorem unp8 {xs : List α} (h : xs.length = 8) : xs.map f = [f (itD xs 0), f (itD xs 1), f (itD xs 2), f (itD xs 3), f (itD xs 4), f (itD xs 5), f (itD xs 6), f (itD xs 7)] := by
  obtain ⟨a, r, rfl, h2⟩ := len_s h
  obtain ⟨b, c, d, e, g, i, j, rfl⟩ := len7 h2
  rfl
end
/-! ### classes -/
section
variable {P : Program} {w : World} {K : PySem.W.Frag} {mg : Str → Option Value} {base : Heap}
structure MethX (K : PySem.W.Frag) (C : Addr) (q m : Str) (st : Stmt) (ps : List Str) (pats : List Pat) : Prop where
  ex : ∃ (f : Addr) (fd : FuncData) (dvs : List V) (kws : List (Str × V)), FunD K m q (defArgs st) (defBody st) (defScope st) dvs kws f fd ∧ Meth K C m f ∧ ∀ p ∈ pats, Bnd1 K fd ps p
structure InitX (K : PySem.W.Frag) (mg : Str → Option Value) (C : Addr) (cn q : Str) (st : Stmt) (ps : List Str) (pats : List Pat) : Prop where
  ex : ∃ (f : Addr) (fd : FuncData) (dvs : List V) (kws : List (Str × V)), FunD K "__init__" q (defArgs st) (defBody st) (defScope st) dvs kws f fd ∧ Mk K C f ∧ mg cn = some (.ref C) ∧ ∀ p ∈ pats, Bnd1 K fd ps p
structure PropX (K : PySem.W.Frag) (C : Addr) (q m : Str) (st : Stmt) (ps : List Str) (pats : List Pat) : Prop where
  ex : ∃ (r f : Addr) (fd : FuncData) (dvs : List V) (kws : List (Str × V)), FunD K m q (defArgs st) (defBody st) (defScope st) dvs kws f fd ∧ PropOf K C m r f ∧ Binds K fd ps []
structure MetX (P : Program) (w : World) (K : PySem.W.Frag) (mg : Str → Option Value) (base : Heap) (k : Nat) (C : Addr) (m : Str) (sp : Sp) (pats : List Pat) : Prop where
  ex : ∃ (f : Addr) (fd : FuncData) (ps : List Str), Cls K C ∧ Meth K C m f ∧ FnG P w K mg base (L2.CX P w) k f fd ps sp ∧ ∀ p ∈ pats, Bnd1 K fd ps p
structure PropY (P : Program) (w : World) (K : PySem.W.Frag) (mg : Str → Option Value) (base : Heap) (k : Nat) (C : Addr) (m : Str) (sp : Sp) (pats : List Pat) : Prop where
  ex : ∃ (q f : Addr) (fd : FuncData) (ps : List Str), Cls K C ∧ PropOf K C m q f ∧ FnG P w K mg base (L2.CX P w) k f fd ps sp ∧ Binds K fd ps []
structure MakX (P : Program) (w : World) (K : PySem.W.Frag) (mg : Str → Option Value) (base : Heap) (k : Nat) (cn : Str) (C : Addr) (sp : Sp) (pats : List Pat) : Prop where
  ex : ∃ (f : Addr) (fd : FuncData) (ps : List Str), Mk K C f ∧ FnG P w K mg base (L2.CX P w) k f fd ps sp ∧ mg cn = some (.ref C) ∧ ∀ p ∈ pats, Bnd1 K fd ps p
theorem MethX.ok {C : Addr} {q m : Str} {st : Stmt} {N ps : List Str} {pats : List Pat} {k : Nat} {sp : Sp} (D : MethX K C q m st ps pats) (c : Cls K C) (S : FnScope N ps (defScope st)) (len : ∀ vs H Q E, sp vs H Q E → vs.length = ps.length)
    (hbody : BodyX P w K mg base q st N k sp) : MetX P w K mg base (k + 1) C m sp pats := by
  obtain ⟨f, fd, dvs, kws, F, me, b⟩ := D.ex
  exact ⟨f, fd, ps, c, me, FnG.body F S len (fun cdv A outer s H vs Q E hr h => hbody f cdv A outer s H vs Q E hr h), b⟩
theorem PropX.ok {C : Addr} {q m : Str} {st : Stmt} {N ps : List Str} {pats : List Pat} {k : Nat} {sp : Sp} (D : PropX K C q m st ps pats) (c : Cls K C) (S : FnScope N ps (defScope st)) (len : ∀ vs H Q E, sp vs H Q E → vs.length = ps.length)
    (hbody : BodyX P w K mg base q st N k sp) : PropY P w K mg base (k + 1) C m sp pats := by
  obtain ⟨r, f, fd, dvs, kws, F, me, b⟩ := D.ex
  exact ⟨r, f, fd, ps, c, me, FnG.body F S len (fun cdv A outer s H vs Q E hr h => hbody f cdv A outer s H vs Q E hr h), b⟩
theorem InitX.ok {C : Addr} {cn q : Str} {st : Stmt} {N ps : List Str} {pats : List Pat} {k : Nat} {sp : Sp} (D : InitX K mg C cn q st ps pats) (S : FnScope N ps (defScope st)) (len : ∀ vs H Q E, sp vs H Q E → vs.length = ps.length)
    (hbody : BodyX P w K mg base q st N k sp) : MakX P w K mg base (k + 1) cn C sp pats := by
  obtain ⟨f, fd, dvs, kws, F, me, hm, b⟩ := D.ex
  exact ⟨f, fd, ps, me, FnG.body F S len (fun cdv A outer s H vs Q E hr h => hbody f cdv A outer s H vs Q E hr h), hm, b⟩
end
theorem cW_callN {α β : Type} {m : Rx β} {f : β → Rx α} {K : α → Prop} {E : Nat → Prop} {K2 : β → Prop} {E2 : Nat → Prop} (h : cW ((noEr m).bind f) K E) (ho : ∀ v, cW (f v) K E → K2 v) (_ : True) : cW m K2 E2 := by
  cases m with
  | ok a => exact cW_mk (ho a h)
  | er e => exact cW_bad (α := α) h
  | bad => exact cW_bad (α := α) h
section
variable {X : Cx} {k j n : Nat} {f C : Addr} {fd : FuncData} {ps ks : List Str} {g : List V → List V → List V} {sp : Sp} {x m : Str} {pos p apos : Pos} {e o : Expr} {es : List Expr} {kws : List Keyword} {ta : TE} {t tk : TA} {W : WX}
theorem run_mkX {pins : List (Addr × Obj)} {σ : L2.St} {H : Hp} {s : Shared} {Q : VK} {us ws : List Value} {vs zs : List V} (M : Mk X.K C f) (F : FnG X.prog X.w X.K X.mg X.base (L2.CX X.prog X.w) k f fd ps sp) (hr : RoomG (k + 1) X.A) (hb : Bnd X.K fd ps n ks g) (tkW : Takes X W)
    (I : Inv X pins σ H s) (r : Vals vs us) (rz : Vals zs ws) (l1 : vs.length + 1 = n) (l2 : zs.length = ks.length)
    (h : ∀ x dx, H x = none → H dx = none → dx ≠ x → sp (g (.ref x :: vs) zs) (upd (upd H dx (.own x)) x (.ins C dx [])) (fun v H2 => v = .non ∧ Q (.ref x) H2) (WE W σ)) :
    wpAny (model X.prog X.w) X.A (call (.ref C) us (ks.zip ws)) (EP X pins σ Q) X.xe s := by
  have hq := h (s.heap.objs.size + 1) s.heap.objs.size (I.hok.fresh (Nat.le_succ _)) (I.hok.fresh (Nat.le_refl _)) (Nat.ne_of_lt (Nat.lt_succ_self _))
  have I2 := Inv.made (C := C) I
  have r1 : Vals (V.ref (s.heap.objs.size + 1) :: vs) (Value.ref (s.heap.objs.size + 1) :: us) := .cons rfl r
  obtain ⟨vv, b, r2⟩ := hb.to _ (Value.ref (s.heap.objs.size + 1) :: us) ws (V.ref (s.heap.objs.size + 1) :: vs) zs I2.kIn (by rw [List.length_cons, l1]) l2 r1 rz
  refine wpAny_call (make_map (f := f) I.kIn M.makes M.init (beq_iff_eq.mp M.fn) (codeAny_mono (F.run _ X.stack _ _ ⟨Value.ref (s.heap.objs.size + 1) :: us, ks.zip ws⟩ vv _ _ (WE W σ) (hr.made C us (ks.zip ws))
    (I2.env0.make C us (ks.zip ws)) b r2 hq) fun r s' hq' => ?_))
  cases r with
  | error e => exact passAt tkW σ pins _ _ e s' I2 hq'
  | ok fl =>
    cases fl with
    | ret u =>
      obtain ⟨v, H', I3, rv, ev, q3⟩ := I2.after hq'
      subst ev
      exact ⟨rv, ⟨V.ref (s.heap.objs.size + 1), H', I3, rfl, q3⟩⟩
    | next => exact False.elim hq'
    | brk => exact False.elim hq'
    | cont => exact False.elim hq'
/-- C(e, .., k = v, ..) -/
def tMakeX (C : Addr) (n m : Nat) (sp : Sp) (g : List V → List V → List V) (W : WX) (t tk : TA) : TE := fun σ H Q => t σ H fun vs H1 => tk σ H1 fun zs H2 => vs.length + 1 = n ∧ zs.length = m ∧ ∀ x dx, H2 x = none → H2 dx = none → dx ≠ x →
  sp (g (.ref x :: vs) zs) (upd (upd H2 dx (.own x)) x (.ins C dx [])) (fun v H3 => v = .non ∧ Q (.ref x) H3) (WE W σ)
theorem vx_makeX {pats : List Pat} (c : MakX X.prog X.w X.K X.mg X.base k x C sp pats) (pt : Pat) (hpt : pt ∈ pats) (hr : RoomG j X.A) (hk : k + 1 ≤ j) (tkW : Takes X W) (hg : Gl X x) (ha : PA X (e :: es) t) (hkw : PK X kws tk)
    (hall : (backToKw pos (keywordEach kws X.env)).all (·.1.isSome) = true := by rfl) (hks : (backToKw pos (keywordEach kws X.env)).filterMap (·.1) = pt.2.1 := by rfl) (hdb : (x == ("__debug__" : Str)) = false := by decide)
    (he : starEach (e :: es) X.env = (false, eval e X.env) :: starEach es X.env := by rfl) (hpl : ((backTo pos (starEach (e :: es) X.env)).any (·.1) || (backToKw pos (keywordEach kws X.env)).any (·.1.isNone)) = false := by rfl) :
    PE X (.Call (.Name x p) (e :: es) kws pos) (tMakeX C pt.1 pt.2.1.length sp pt.2.2 W t tk) := by
  obtain ⟨f, fd, ps, M, F, hm, b⟩ := c.ex
  refine ⟨fun pins s σ H Q I h => ?_⟩
  refine wpAny_Call_Name_kw (ld_glob I hg hm ?_ hdb)
  refine PySem.W.callWith_KW (h₀ := X.base) I.ok.mod.kin M.kp hall (thn (ha.run pos pins s σ H _ I h) fun us s1 ⟨vs, H1, I1, r, q⟩ => ?_) hpl he
  refine thn (hkw.run pos pins s1 σ H1 _ I1 q) fun ws s2 ⟨zs, H2, I2, rz, l1, l2, q2⟩ => ⟨I2.kIn, ?_⟩
  rw [hks]
  exact run_mkX M F (hr.low hk) (b pt hpt) tkW I2 r rz l1 l2 q2
theorem vx_makeX0 {pats : List Pat} (c : MakX X.prog X.w X.K X.mg X.base k x C sp pats) (pt : Pat) (hpt : pt ∈ pats) (hr : RoomG j X.A) (hk : k + 1 ≤ j) (tkW : Takes X W) (hg : Gl X x) (hks : pt.2.1 = [] := by rfl)
    (hdb : (x == ("__debug__" : Str)) = false := by decide) : PE X (.Call (.Name x p) [] [] pos) (tMakeX C pt.1 pt.2.1.length sp pt.2.2 W tNil tNil) := by
  obtain ⟨f, fd, ps, M, F, hm, b⟩ := c.ex
  refine ⟨fun pins s σ H Q I h => ?_⟩
  refine wpAny_Call_Name_kw (ld_glob I hg hm ?_ hdb)
  obtain ⟨l1, l2, q2⟩ := h
  have hz := run_mkX (us := []) (ws := []) M F (hr.low hk) (b pt hpt) tkW I .nil .nil l1 l2 q2
  rw [hks] at hz
  exact PySem.W.callWith_K0 I.kIn M.kp hz
/-- o.m(e, .., k = v, ..) -/
def tMethX (C : Addr) (m : Str) (n mm : Nat) (sp : Sp) (g : List V → List V → List V) (W : WX) (ta : TE) (t tk : TA) : TE := fun σ H Q => ta σ H fun x H1 => ∃ a dx fs, x = .ref a ∧ H1 a = some (.ins C dx fs) ∧ fs.lookup m = none ∧
  t σ H1 fun vs H2 => tk σ H2 fun zs H3 => (x :: vs).length = n ∧ zs.length = mm ∧ sp (g (x :: vs) zs) H3 Q (WE W σ)
theorem vx_methX {pats : List Pat} {pl : Sem Bool} (c : MetX X.prog X.w X.K X.mg X.base k C m sp pats) (pt : Pat) (hpt : pt ∈ pats) (hr : RoomG j X.A) (hk : k ≤ j) (tkW : Takes X W) (he : PE X o ta) (ha : PA X (e :: es) t) (hkw : PK X kws tk)
    (hall : (backToKw pos (keywordEach kws X.env)).all (·.1.isSome) = true := by rfl) (hks : (backToKw pos (keywordEach kws X.env)).filterMap (·.1) = pt.2.1 := by rfl)
    (hst : starEach (e :: es) X.env = (false, eval e X.env) :: starEach es X.env := by rfl) (hpl : ((backTo pos (starEach (e :: es) X.env)).any (·.1) || (backToKw pos (keywordEach kws X.env)).any (·.1.isNone)) = false := by rfl)
    (ht : eval (.Call (.Attribute o m apos) (e :: es) kws pos) X.env = (do
      let ov ← eval o X.env
      standAt apos.atName
      let (f, first) ← holding [ov] (getMethod ov m pl)
      callWith pos f first (backTo pos (starEach (e :: es) X.env)) (backToKw pos (keywordEach kws X.env))) := by rfl) :
    PE X (.Call (.Attribute o m apos) (e :: es) kws pos) (tMethX C m pt.1 pt.2.1.length sp pt.2.2 W ta t tk) := by
  obtain ⟨f, fd, ps, hc, hm, F, b⟩ := c.ex
  refine ⟨fun pins s σ H Q I h => ?_⟩
  refine PySem.W.methodCall_KW (pl := pl) (thn (he.run pins s σ H _ I h) fun u s1 ⟨x, H1, I1, rx, a, dx, fs, ex, ea, l, q⟩ => ?_) ht
  subst ex
  obtain rfl : u = Value.ref a := rx
  refine getmeth_ok I1 ea hc hm l ?_
  refine PySem.W.callWith_KW (first := [.ref a]) (h₀ := X.base) I.ok.mod.kin hm.kp hall (thn (ha.run pos pins s1 σ H1 _ I1 q) fun us s2 ⟨vs, H2, I2, r, q2⟩ => ?_) hpl hst
  refine thn (hkw.run pos pins s2 σ H2 _ I2 q2) fun ws s3 ⟨zs, H3, I3, rz, l1, l2, q3⟩ => ⟨I3.kIn, ?_⟩
  rw [hks]
  exact run_X (us := .ref a :: us) (vs := .ref a :: vs) F (hr.low hk) (b pt hpt) tkW I3 (.cons rfl r) rz l1 l2 q3
theorem vx_methX0 {pats : List Pat} {pl : Sem Bool} (c : MetX X.prog X.w X.K X.mg X.base k C m sp pats) (pt : Pat) (hpt : pt ∈ pats) (hr : RoomG j X.A) (hk : k ≤ j) (tkW : Takes X W) (he : PE X o ta) (hks : pt.2.1 = [] := by rfl)
    (ht : eval (.Call (.Attribute o m apos) [] [] pos) X.env = (do
      let ov ← eval o X.env
      standAt apos.atName
      let (f, first) ← holding [ov] (getMethod ov m pl)
      callWith pos f first (backTo pos (starEach [] X.env)) (backToKw pos (keywordEach [] X.env))) := by rfl) :
    PE X (.Call (.Attribute o m apos) [] [] pos) (tMethX C m pt.1 pt.2.1.length sp pt.2.2 W ta tNil tNil) := by
  obtain ⟨f, fd, ps, hc, hm, F, b⟩ := c.ex
  refine ⟨fun pins s σ H Q I h => ?_⟩
  refine PySem.W.methodCall_KW (pl := pl) (thn (he.run pins s σ H _ I h) fun u s1 ⟨x, H1, I1, rx, a, dx, fs, ex, ea, l, q⟩ => ?_) ht
  subst ex
  obtain rfl : u = Value.ref a := rx
  refine getmeth_ok I1 ea hc hm l ?_
  obtain ⟨l1, l2, q3⟩ := q
  have hz := run_X (us := [.ref a]) (vs := [.ref a]) (ws := []) F (hr.low hk) (b pt hpt) tkW I1 (.cons rfl .nil) .nil l1 l2 q3
  rw [hks] at hz
  exact PySem.W.callWith_K0 (first := [.ref a]) I1.kIn hm.kp hz
theorem vx_propX {pats : List Pat} (c : PropY X.prog X.w X.K X.mg X.base k C m sp pats) (hr : RoomG j X.A) (hk : k + 1 ≤ j) (he : PE X o ta) (hab : attributeBase o m X.env (eval o X.env) = eval o X.env := by rfl) : PE X (.Attribute o m pos) (tProp C sp [] E0 ta) := by
  obtain ⟨q, f, fd, ps, cls, prop, F, bind⟩ := c.ex
  constructor
  intro pins s σ H Q I h
  refine attr_of hab (thn (he.run pins s σ H _ I h) ?_)
  rintro u s1 ⟨x, H1, I1, rx, a, dx, fs, rfl, ea, prom⟩
  cases rx
  obtain ⟨mA, O, _⟩ := ins_get I1.hok ea
  obtain ⟨od, J, _⟩ := O.look
  obtain ⟨rest, rec_⟩ := prop.rec_
  have short : [Value.ref a].length = ps.length := (F.len _ _ _ _ prom).symm ▸ rfl
  have isCls : (PySem.W.clsIn X.K C).isSome = true := by
    obtain ⟨cd, e, _⟩ := PySem.W.any_some cls.hd
    rw [e]
    rfl
  refine PySem.W.get_bind I1.kIn J (PySem.W.plainGet_of (cls.get m)).1 (PySem.W.findObj_data isCls prop.at_ prop.get prop.tak) (PySem.W.plainGet_of (cls.get m)).2 (wpAny_call (PySem.W.prop_get (s := { s1 with toks := s1.toks + 1 }) I1.kIn rec_ ?_))
  have I2 := I1.tok (s1.toks + 1)
  refine codeAny_mono (F.run X.A.in1 X.stack _ H1 ⟨[.ref a], []⟩ [.ref a] [.ref a] Q E0 (hr.low hk).one I2.env0.in1 (by simpa using bind _ [.ref a] I2.kIn (by simpa using short)) (.cons rfl .nil) prom) ?_
  intro r s2 out
  cases r with
  | error er => exact (passL (X := X.nox) pins σ H1 _ er s2 (I2.wish _) out).elim
  | ok flow =>
    cases flow with
    | ret v =>
      obtain ⟨y, H2, I3, ry, qy⟩ := I2.after out
      have given := PySem.W.handedOut_of (handed_of ry)
      show wpAny _ _ (handedOut v) _ _ s2
      rw [given]
      exact wpAny_pure ⟨y, H2, I3, ry, qy⟩
    | next => exact out.elim
    | brk => exact out.elim
    | cont => exact out.elim
end
theorem Sep.news {M : List Addr} {H0 G0 G H H' : Hp} {O : List Addr} (S : Sep M H0 G0 G H O) (e : Same H H') (L : List Addr) (hL : ∀ a ∈ L, H a = none ∧ H' a ≠ none ∧ H0 a = none) : Sep M H0 G0 G H' (L ++ O) := by
  have S2 := S.same e
  refine ⟨S2.base, S2.pm, S2.sG, S2.g0, S2.gn, fun a ha => ?_⟩
  rcases List.mem_append.mp ha with h | h
  · obtain ⟨h1, h2, h3⟩ := hL a h
    exact ⟨S.gfree h1, h2, .inr h3⟩
  · exact S2.ow a h
theorem vv_chain {r r' : R2} {ta tb tc : TE} {σ : L2.St} {H : Hp} {x y z : V} {a b : Bool} (ha : Val ta σ H x) (hb : Val tb σ H y) (hc : Val tc σ H z) (h1 : ∀ Q : VK, Q (.bl a) H → r x y H Q) (h2 : ∀ Q : VK, Q (.bl b) H → r' y z H Q) :
    Val (tChain r r' ta tb tc) σ H (.bl (a && b)) := fun Q q => ha _ (hb _ (h1 _ ⟨a, rfl, by
  cases a with
  | true =>
    rw [if_pos rfl]
    exact hc _ (h2 _ q)
  | false =>
    rw [if_neg Bool.false_ne_true]
    exact q⟩))
/-! ### constants that are tuples, lists backwards, zip -/
theorem inV_ints (x : Int) : ∀ xs : List Int, inV (V.int x) (xs.map V.int) = decide (x ∈ xs)
  | [] => by simp [inV]
  | y :: r => by
    have h := inV_ints x r
    unfold inV at h ⊢
    rw [List.map_cons, List.any_cons, h]
    by_cases c : x = y
    · subst c
      simp [eqV]
    · simp [eqV, c, Ne.symm c]
theorem flat_ints : ∀ xs : List Int, (xs.map V.int).all flatV = true
  | [] => rfl
  | _ :: r => flat_ints r
def rInI (K : PySem.W.Frag) : R2 := fun x y H Q => ∃ (i : Int) (p : Addr) (xs : List Int), x = .int i ∧ y = .ref p ∧ (SqL K H p (xs.map V.int) ∨ SqT K H p (xs.map V.int)) ∧ Q (.bl (decide (i ∈ xs))) H
def rNotInI (K : PySem.W.Frag) : R2 := fun x y H Q => ∃ (i : Int) (p : Addr) (xs : List Int), x = .int i ∧ y = .ref p ∧ (SqL K H p (xs.map V.int) ∨ SqT K H p (xs.map V.int)) ∧ Q (.bl (!decide (i ∈ xs))) H
theorem op_inI {X : Cx} {K : PySem.W.Frag} (hK : X.K = K := by rfl) : OpR X (compareOp .In) (rInI K) := by
  subst hK
  intro pins s σ H x y v u Q I rx ry h
  obtain ⟨i, p, xs, rfl, rfl, hs, q⟩ := h
  refine op_in_seq pins s σ H _ _ v u Q I rx ry ⟨p, _, rfl, hs, rfl, flat_ints xs, ?_⟩
  rw [if_neg Bool.false_ne_true, inV_ints]
  exact q
theorem op_notInI {X : Cx} {K : PySem.W.Frag} (hK : X.K = K := by rfl) : OpR X (compareOp .NotIn) (rNotInI K) := by
  subst hK
  intro pins s σ H x y v u Q I rx ry h
  obtain ⟨i, p, xs, rfl, rfl, hs, q⟩ := h
  refine op_notIn_seq pins s σ H _ _ v u Q I rx ry ⟨p, _, rfl, hs, rfl, flat_ints xs, ?_⟩
  rw [if_pos rfl, inV_ints]
  exact q
theorem pe_revLK {X : Cx} {K : PySem.W.Frag} {e : Expr} {te : TE} {k : Nat} {p1 p2 p3 pos : Pos} (he : PE X e te) (hK : X.K = K := by rfl) : PE X (.Subscript e (.Slice none none (some (.UnaryOp .USub (.Constant (.int 1) k p1) p2)) p3) pos) (tRevL K te) := hK ▸ pe_revL he
theorem rev_map {α : Type} {f : α → V} {xs : List α} {H : Hp} {p : Addr} (h : H p = some (.lst (xs.map f).reverse)) : H p = some (.lst (xs.reverse.map f)) := by
  rw [List.map_reverse]
  exact h
theorem RpAll.rev {G : Hp} : ∀ {vs : List V} {ds : List PyData}, RpAll G vs ds → RpAll G vs.reverse ds.reverse
  | _, _, .nil => .nil
  | _, _, .cons h t => by
    rw [List.reverse_cons, List.reverse_cons]
    exact (RpAll.rev t).append (.one h)
theorem rev_all {α : Type} {f : α → PyData} {xs : List α} {G : Hp} {vs : List V} (a : RpAll G vs (xs.map f)) : RpAll G vs.reverse (xs.reverse.map f) := by
  rw [List.map_reverse]
  exact a.rev
theorem pi_zipK {X : Cx} {K : PySem.W.Frag} {e e2 : Expr} {ta : TA} {p pos tpos : Pos} {elts : List Expr} {kk : Nat} (hg : Gl X "zip") (hm : X.mg "zip" = none) (ha : PA X [e, e2] ta) (hK : X.K = K := by rfl)
    (hs : starEach [e, e2] X.env = (false, eval e X.env) :: starEach [e2] X.env := by rfl) (hpl : (backTo pos (starEach [e2] X.env)).any (·.1) = false := by rfl) :
    PI X (.Tuple elts kk tpos) (.Call (.Name "zip" p) [e, e2] [] pos) (RZ.iZipA K ta) := hK ▸ RZ.pi_zipA hg hm ha hs hpl
/-- a comprehension over zip of two lists of one length -/
theorem lc_zipL {K : PySem.W.Frag} {a b : Addr} {xs ys : List V} {g : TG} {tt : TT} {te : TE} {vs : List Nat} {σ : L2.St} {H1 : Hp} {D : Addr} {Qd : Hp → Prop} (hl : xs.length = ys.length) (Pv : Nat → Hp → Prop) (h0 : Pv 0 (upd H1 D (.lst []))) (hq : ∀ i H, i ≤ xs.length → Pv i H → SqL K H a xs ∧ SqL K H b ys)
    (hs : ∀ (i : Nat) (x y : V) (T : Addr) (H : Hp), xs[i]? = some x → ys[i]? = some y → H T = none → Pv i H → g (.ref T) (wipe σ vs) (upd H T (.tup [x, y])) fun σ2 H2 => wipe σ2 vs = wipe σ vs ∧ tt σ2 H2 fun b H3 =>
      if b = true then te σ2 H3 fun y H4 => ∃ acc, H4 D = some (.lst acc) ∧ acc.length < sizeLine ∧ Pv (i + 1) (upd H4 D (.lst (acc ++ [y]))) else Pv (i + 1) H3) (hd : ∀ H, Pv xs.length H → Qd H) :
    ∃ W : Nat → Nat → Hp → Prop, (∃ m, W 0 m (upd H1 D (.lst []))) ∧ ∀ i m H, W i m H →
      ((Itz K a b).stop i H ∧ Qd H) ∨ ((Itz K a b).go i H ∧ ∃ Nx : Hp → Prop, (∀ H', Nx H' → ∃ m', m' < m ∧ W (i + 1) m' H') ∧ ∀ x H', (Itz K a b).yld i H x H' → g x (wipe σ vs) H' fun σ2 H2 => wipe σ2 vs = wipe σ vs ∧ tt σ2 H2 fun b H3 =>
        if b = true then te σ2 H3 fun y H4 => ∃ acc, H4 D = some (.lst acc) ∧ acc.length < sizeLine ∧ Nx (upd H4 D (.lst (acc ++ [y]))) else Nx H3) := by
  refine ⟨fun i m H => m = xs.length - i ∧ i ≤ xs.length ∧ Pv i H, ⟨xs.length, by simp, Nat.zero_le _, h0⟩, ?_⟩
  rintro i m H ⟨rfl, hi, p⟩
  obtain ⟨qx, qy⟩ := hq i H hi p
  by_cases hlt : i < xs.length
  · have hlt2 : i < ys.length := by omega
    refine .inr ⟨⟨xs, ys, xs[i], ys[i], qx, qy, List.getElem?_eq_getElem hlt, List.getElem?_eq_getElem hlt2⟩, Pv (i + 1), fun H' p' => ⟨xs.length - (i + 1), by omega, rfl, hlt, p'⟩, fun v H' y => ?_⟩
    obtain ⟨T, x', y', rfl, hT, rfl, f1, f2⟩ := y
    exact hs i x' y' T H (f1 xs qx) (f2 ys qy) hT p
  · have e : i = xs.length := by omega
    subst e
    exact .inl ⟨⟨xs, ys, qx, qy, Or.inl (Nat.le_refl _)⟩, hd H p⟩
theorem zip_get {α β : Type} {xs : List α} {ys : List β} {i : Nat} {x : α} {y : β} (h1 : xs[i]? = some x) (h2 : ys[i]? = some y) : (xs.zip ys)[i]? = some (x, y) := by
  rw [List.getElem?_zip_eq_some]
  exact ⟨h1, h2⟩
theorem zip_len {α β : Type} {xs : List α} {ys : List β} {n : Nat} (h : xs.length = ys.length) (e : n = xs.length) : n = (xs.zip ys).length := by
  rw [List.length_zip, ← h, Nat.min_self]
  exact e
theorem zlen {α β : Type} {vs ws : List V} {xs : List α} {ys : List β} (a : vs.length = xs.length) (b : ws.length = ys.length) (h : xs.length = ys.length) : vs.length = ws.length := by rw [a, b, h]
section
variable {t : TT} {ta tb : TE} {σ : L2.St} {H : Hp}
theorem vv_ifP {p : Prop} [Decidable p] {a b : Int} (ht : Ans t σ H (decide p)) (hx : p → Val ta σ H (.int a)) (hy : ¬ p → Val tb σ H (.int b)) : Val (tIf t ta tb) σ H (.int (if p then a else b)) := by
  by_cases h : p
  · have := vv_if (p := p) (a := a) (b := a) ht (hx h) (tb := ta) (hx h)
    intro Q q
    refine ht _ ?_
    rw [decide_eq_true h, if_pos rfl]
    rw [if_pos h] at q
    exact hx h _ q
  · intro Q q
    refine ht _ ?_
    rw [decide_eq_false h, if_neg Bool.false_ne_true]
    rw [if_neg h] at q
    exact hy h _ q
theorem vv_ifQ {c : Bool} {a b : Int} (ht : Ans t σ H c) (hx : c = true → Val ta σ H (.int a)) (hy : c = false → Val tb σ H (.int b)) : Val (tIf t ta tb) σ H (.int (if c = true then a else b)) := by
  intro Q q
  refine ht _ ?_
  cases c with
  | true =>
    rw [if_pos rfl]
    rw [if_pos rfl] at q
    exact hx rfl _ q
  | false =>
    rw [if_neg Bool.false_ne_true]
    rw [if_neg Bool.false_ne_true] at q
    exact hy rfl _ q
end
theorem kit_mk0 {K : PySem.W.Frag} {S C : Addr} (h1 : (Value.ref S == Value.ref C) = false) (h2 : PySem.W.isClsIn K C = true) (h3 : PySem.W.typeIn K (.ref C) = some (.type "type")) (h4 : PySem.W.subIn K (.ref S) (.ref C) = some false) :
    PySem.W.kitOne K (.ref S) (.ref C) = some false := by
  unfold PySem.W.isClsIn at h2
  unfold PySem.W.kitOne
  rw [if_neg (by rw [h1]; exact Bool.false_ne_true)]
  unfold PySem.W.kitCls
  simp only [h2, h3, h4, beq_self_eq_true, Bool.and_self, if_true]
theorem vv_call2 {ta tb : TE} {σ : L2.St} {H : Hp} {x y z : V} {r : List V → Hp → VK → Prop} (ha : Val ta σ H x) (hb : Val tb σ H y) (hr : ∀ Q : VK, Q z H → r [x, y] H Q) : Val (tCB r (tCons ta (tCons tb tNil))) σ H z := fun Q q => ha _ (hb _ (hr Q q))
/-! ### lists of data that the caller owns; values that are a truth value or a number -/
theorem Sep.stepnew {M : List Addr} {H0 G0 G H H' : Hp} {O : List Addr} {p : Addr} {o : HO} (S : Sep M H0 G0 G H O) {G' : Hp} (e : Same H H') (eG : Same G G') (sG : Same G' H') (hn : ∀ b, H b ≠ none → G b = none → G' b = none) (_n : H p = none) (h : H' p = some o) (g : G' p = none) (hm : H0 p = none) : Sep M H0 G0 G' H' (p :: O) := by
  have S2 := S.step e eG sG hn
  refine ⟨S2.base, S2.pm, S2.sG, S2.g0, S2.gn, fun a ha => ?_⟩
  rcases List.mem_cons.mp ha with rfl | ha
  · exact ⟨g, (fun z => by rw [z] at h; cases h), .inr hm⟩
  · exact S2.ow a ha
inductive Bi where
  | b (x : Bool)
  | n (i : Int)
deriving DecidableEq
def biV : Bi → V
  | .b x => .bl x
  | .n i => .int i
def Bi.el {α : Type} (v : Bi) (f : Bool → α) (g : Int → α) : α :=
  match v with
  | .b x => f x
  | .n i => g i
theorem cW_elb {α : Type} {x : Bool} {f : Bool → Rx α} {g : Int → Rx α} {K : α → Prop} {E : Nat → Prop} (h : cW (Bi.el (.b x) f g) K E) : cW (f x) K E := h
theorem cW_eln {α : Type} {x : Int} {f : Bool → Rx α} {g : Int → Rx α} {K : α → Prop} {E : Nat → Prop} (h : cW (Bi.el (.n x) f g) K E) : cW (g x) K E := h
theorem rp_tup4 {α β γ δ : Type} {f : α → PyData} {g : β → PyData} {h : γ → PyData} {i : δ → PyData} {H : Hp} {v : V} {x : α × β × γ × δ} (r : Rp H v (encT4 f g h i x)) : ∃ a v1 v2 v3 v4, v = .ref a ∧ H a = some (.tup [v1, v2, v3, v4]) ∧ Rp H v1 (f x.1) ∧ Rp H v2 (g x.2.1) ∧ Rp H v3 (h x.2.2.1) ∧ Rp H v4 (i x.2.2.2) := by
  unfold encT4 at r
  cases r with
  | tup h1 h2 =>
    cases h2 with
    | cons a b =>
      cases b with
      | cons b c =>
        cases c with
        | cons c d =>
          cases d with
          | cons d e =>
            cases e
            exact ⟨_, _, _, _, _, rfl, h1, a, b, c, d⟩
theorem rp_mk4 {α β γ δ : Type} {f : α → PyData} {g : β → PyData} {h : γ → PyData} {i : δ → PyData} {H : Hp} {a : Addr} {v1 v2 v3 v4 : V} {x : α} {y : β} {z : γ} {w : δ} (h1 : H a = some (.tup [v1, v2, v3, v4])) (r1 : Rp H v1 (f x)) (r2 : Rp H v2 (g y)) (r3 : Rp H v3 (h z)) (r4 : Rp H v4 (i w)) : Rp H (.ref a) (encT4 f g h i (x, y, z, w)) := .tup h1 (.cons r1 (.cons r2 (.cons r3 (.cons r4 .nil))))
theorem Sep.b0M {M : List Addr} {H0 G0 G H : Hp} {O : List Addr} (S : Sep M H0 G0 G H O) (h : ∀ a ∈ M, H a = H0 a) : Same H0 H := fun b o e => by
  by_cases z : b ∈ M
  · rw [h b z]
    exact e
  · exact S.base b o e z
section
variable {X : Cx} {k j n : Nat} {f C : Addr} {fd : FuncData} {ps ks : List Str} {g : List V → List V → List V} {sp : Sp} {x m : Str} {pos p apos : Pos} {e o : Expr} {es : List Expr} {kws : List Keyword} {ta : TE} {t tk : TA} {W : WX}
/-- keywords alone -/
theorem vx_makeXK {pats : List Pat} (c : MakX X.prog X.w X.K X.mg X.base k x C sp pats) (pt : Pat) (hpt : pt ∈ pats) (hr : RoomG j X.A) (hk : k + 1 ≤ j) (tkW : Takes X W) (hg : Gl X x) (hkw : PK X kws tk)
    (hall : (backToKw pos (keywordEach kws X.env)).all (·.1.isSome) = true := by rfl) (hks : (backToKw pos (keywordEach kws X.env)).filterMap (·.1) = pt.2.1 := by rfl) (hdb : (x == ("__debug__" : Str)) = false := by decide)
    (hpl : ((backTo pos (starEach [] X.env)).any (·.1) || (backToKw pos (keywordEach kws X.env)).any (·.1.isNone)) = false := by rfl) :
    PE X (.Call (.Name x p) [] kws pos) (tMakeX C pt.1 pt.2.1.length sp pt.2.2 W tNil tk) := by
  obtain ⟨f, fd, ps, M, F, hm, b⟩ := c.ex
  refine ⟨fun pins s σ H Q I h => ?_⟩
  refine wpAny_Call_Name_kw (ld_glob I hg hm ?_ hdb)
  refine PySem.W.callWith_KW0 (h₀ := X.base) I.ok.mod.kin M.kp hall ?_ hpl
  refine thn (hkw.run pos pins s σ H _ I h) fun ws s2 ⟨zs, H2, I2, rz, l1, l2, q2⟩ => ⟨I2.kIn, ?_⟩
  rw [hks]
  exact run_mkX (us := []) (vs := []) M F (hr.low hk) (b pt hpt) tkW I2 .nil rz l1 l2 q2
theorem vx_callXK {pats : List Pat} (c : CalX X.prog X.w X.K X.mg X.base k x sp pats) (pt : Pat) (hpt : pt ∈ pats) (hr : RoomG j X.A) (hk : k ≤ j) (tkW : Takes X W) (hg : Gl X x) (hkw : PK X kws tk)
    (hall : (backToKw pos (keywordEach kws X.env)).all (·.1.isSome) = true := by rfl) (hks : (backToKw pos (keywordEach kws X.env)).filterMap (·.1) = pt.2.1 := by rfl) (hdb : (x == ("__debug__" : Str)) = false := by decide)
    (hpl : ((backTo pos (starEach [] X.env)).any (·.1) || (backToKw pos (keywordEach kws X.env)).any (·.1.isNone)) = false := by rfl) :
    PE X (.Call (.Name x p) [] kws pos) (tCallX pt.1 pt.2.1.length sp pt.2.2 W tNil tk) := by
  obtain ⟨f, fd, ps, F, hm, kp, b⟩ := c.ex
  refine ⟨fun pins s σ H Q I h => ?_⟩
  refine wpAny_Call_Name_kw (ld_glob I hg hm ?_ hdb)
  refine PySem.W.callWith_KW0 (h₀ := X.base) I.ok.mod.kin kp hall ?_ hpl
  refine thn (hkw.run pos pins s σ H _ I h) fun ws s2 ⟨zs, H2, I2, rz, l1, l2, q2⟩ => ⟨I2.kIn, ?_⟩
  rw [hks]
  exact run_X (us := []) (vs := []) F (hr.low hk) (b pt hpt) tkW I2 .nil rz l1 l2 q2
theorem vx_methXK {pats : List Pat} {pl : Sem Bool} (c : MetX X.prog X.w X.K X.mg X.base k C m sp pats) (pt : Pat) (hpt : pt ∈ pats) (hr : RoomG j X.A) (hk : k ≤ j) (tkW : Takes X W) (he : PE X o ta) (hkw : PK X kws tk)
    (hall : (backToKw pos (keywordEach kws X.env)).all (·.1.isSome) = true := by rfl) (hks : (backToKw pos (keywordEach kws X.env)).filterMap (·.1) = pt.2.1 := by rfl)
    (hpl : ((backTo pos (starEach [] X.env)).any (·.1) || (backToKw pos (keywordEach kws X.env)).any (·.1.isNone)) = false := by rfl)
    (ht : eval (.Call (.Attribute o m apos) [] kws pos) X.env = (do
      let ov ← eval o X.env
      standAt apos.atName
      let (f, first) ← holding [ov] (getMethod ov m pl)
      callWith pos f first (backTo pos (starEach [] X.env)) (backToKw pos (keywordEach kws X.env))) := by rfl) :
    PE X (.Call (.Attribute o m apos) [] kws pos) (tMethX C m pt.1 pt.2.1.length sp pt.2.2 W ta tNil tk) := by
  obtain ⟨f, fd, ps, hc, hm, F, b⟩ := c.ex
  refine ⟨fun pins s σ H Q I h => ?_⟩
  refine PySem.W.methodCall_KW (pl := pl) (thn (he.run pins s σ H _ I h) fun u s1 ⟨x, H1, I1, rx, a, dx, fs, ex, ea, l, q⟩ => ?_) ht
  subst ex
  obtain rfl : u = Value.ref a := rx
  refine getmeth_ok I1 ea hc hm l ?_
  refine PySem.W.callWith_KW0 (first := [.ref a]) (h₀ := X.base) I.ok.mod.kin hm.kp hall ?_ hpl
  refine thn (hkw.run pos pins s1 σ H1 _ I1 q) fun ws s3 ⟨zs, H3, I3, rz, l1, l2, q3⟩ => ⟨I3.kIn, ?_⟩
  rw [hks]
  exact run_X (us := [.ref a]) (vs := [.ref a]) F (hr.low hk) (b pt hpt) tkW I3 (.cons rfl .nil) rz l1 l2 q3
end
end Vx
/-! # lists within lists that are owned as a whole -/
namespace Vx
open PySem PySem.Spec PyProof.Rows L2
inductive Kd where
  | lst
  | tup
  | ins (C dx : Addr) (ns : List Str)
def Kd.ho : Kd → List V → HO
  | .lst, vs => .lst vs
  | .tup, vs => .tup vs
  | .ins C dx ns, vs => .ins C dx (ns.zip vs)
/-- what stands in the heap as a tree: values as they are, data that stay, nodes of its own -/
inductive Dt where
  | val (v : V)
  | frz (d : PyData)
  | nod (k : Kd) (xs : List Dt)
mutual
inductive Ow (G H : Hp) : List Addr → V → Dt → Prop
  | val (v : V) : Ow G H [] v (.val v)
  | frz {v : V} {d : PyData} : Rp G v d → Ow G H [] v (.frz d)
  | nod {a : Addr} {k : Kd} {vs : List V} {ds : List Dt} {L : List Addr} : H a = some (k.ho vs) → OwAll G H L vs ds → a ∉ L → Ow G H (a :: L) (.ref a) (.nod k ds)
inductive OwAll (G H : Hp) : List Addr → List V → List Dt → Prop
  | nil : OwAll G H [] [] []
  | cons {L1 L2 : List Addr} {v : V} {vs : List V} {d : Dt} {ds : List Dt} : Ow G H L1 v d → OwAll G H L2 vs ds → (∀ b ∈ L1, b ∉ L2) → OwAll G H (L1 ++ L2) (v :: vs) (d :: ds)
end
def Keeps (L : List Addr) (H H' : Hp) : Prop := ∀ b ∈ L, ∀ o, H b = some o → H' b = some o
mutual
theorem Ow.mono {G G' H H' : Hp} (e : Same G G') : ∀ {L : List Addr} {v : V} {d : Dt}, Keeps L H H' → Ow G H L v d → Ow G' H' L v d
  | _, _, _, _, .val v => .val v
  | _, _, _, _, .frz r => .frz (r.mono e)
  | _, _, _, k, .nod h r n => .nod (k _ List.mem_cons_self _ h) (OwAll.mono e (fun b hb => k b (List.mem_cons_of_mem _ hb)) r) n
theorem OwAll.mono {G G' H H' : Hp} (e : Same G G') : ∀ {L : List Addr} {vs : List V} {ds : List Dt}, Keeps L H H' → OwAll G H L vs ds → OwAll G' H' L vs ds
  | _, _, _, _, .nil => .nil
  | _, _, _, k, .cons a r d => .cons (Ow.mono e (fun b hb => k b (List.mem_append_left _ hb)) a) (OwAll.mono e (fun b hb => k b (List.mem_append_right _ hb)) r) d
end
mutual
theorem Ow.there {G H : Hp} : ∀ {L : List Addr} {v : V} {d : Dt}, Ow G H L v d → ∀ b ∈ L, H b ≠ none
  | _, _, _, .val _, _, hb => nomatch hb
  | _, _, _, .frz _, _, hb => nomatch hb
  | _, _, _, .nod h r n, b, hb => by
    rcases List.mem_cons.mp hb with rfl | hb
    · exact some_ne h
    · exact OwAll.there r b hb
theorem OwAll.there {G H : Hp} : ∀ {L : List Addr} {vs : List V} {ds : List Dt}, OwAll G H L vs ds → ∀ b ∈ L, H b ≠ none
  | _, _, _, .nil, _, hb => nomatch hb
  | _, _, _, .cons a r d, b, hb => by
    rcases List.mem_append.mp hb with hb | hb
    · exact Ow.there a b hb
    · exact OwAll.there r b hb
end
theorem OwAll.len {G H : Hp} : ∀ {L : List Addr} {vs : List V} {ds : List Dt}, OwAll G H L vs ds → vs.length = ds.length
  | _, _, _, .nil => rfl
  | _, _, _, .cons _ r _ => congrArg Nat.succ r.len
theorem OwAll.snoc {G H : Hp} {L1 : List Addr} {v : V} {d : Dt} (h : Ow G H L1 v d) : ∀ {L : List Addr} {vs : List V} {ds : List Dt}, OwAll G H L vs ds → (∀ b ∈ L, b ∉ L1) → OwAll G H (L ++ L1) (vs ++ [v]) (ds ++ [d])
  | _, _, _, .nil, _ => by
    have z : OwAll G H (L1 ++ []) [v] [d] := .cons h .nil (fun _ _ z => nomatch z)
    rw [List.append_nil] at z
    exact z
  | _, _, _, .cons (L1 := La) (L2 := Lb) a r n, k => by
    have z := OwAll.cons a (OwAll.snoc h r fun b hb => k b (List.mem_append_right _ hb)) (fun b hb q => by
      rcases List.mem_append.mp q with q | q
      · exact n b hb q
      · exact k b (List.mem_append_left _ hb) q)
    rw [← List.append_assoc] at z
    exact z
theorem OwAll.app {G H : Hp} {L2 : List Addr} {ws : List V} {es : List Dt} (h : OwAll G H L2 ws es) : ∀ {L : List Addr} {vs : List V} {ds : List Dt}, OwAll G H L vs ds → (∀ b ∈ L, b ∉ L2) → OwAll G H (L ++ L2) (vs ++ ws) (ds ++ es)
  | _, _, _, .nil, _ => h
  | _, _, _, .cons (L1 := La) (L2 := Lb) a r n, k => by
    have z := OwAll.cons a (OwAll.app h r fun b hb => k b (List.mem_append_right _ hb)) (fun b hb q => by
      rcases List.mem_append.mp q with q | q
      · exact n b hb q
      · exact k b (List.mem_append_left _ hb) q)
    rw [← List.append_assoc] at z
    exact z
/-! ### trees that are data -/
mutual
inductive Dd : Dt → PyData → Prop
  | non : Dd (.val .non) .none
  | bl (b : Bool) : Dd (.val (.bl b)) (.bool b)
  | int (i : Int) : Dd (.val (.int i)) (.int i)
  | str (x : Str) : Dd (.val (.str x)) (.str x)
  | frz (d : PyData) : Dd (.frz d) d
  | lst {xs : List Dt} {ds : List PyData} : DdAll xs ds → Dd (.nod .lst xs) (.list ds)
  | tup {xs : List Dt} {ds : List PyData} : DdAll xs ds → Dd (.nod .tup xs) (.tuple ds)
inductive DdAll : List Dt → List PyData → Prop
  | nil : DdAll [] []
  | cons {x : Dt} {xs : List Dt} {d : PyData} {ds : List PyData} : Dd x d → DdAll xs ds → DdAll (x :: xs) (d :: ds)
end
mutual
/-- read in any heap that holds its nodes -/
theorem Ow.rp {G H I : Hp} (e : Same G I) : ∀ {L : List Addr} {v : V} {d : Dt} {p : PyData}, Keeps L H I → Ow G H L v d → Dd d p → Rp I v p
  | _, _, _, _, _, .val _, .non => .non
  | _, _, _, _, _, .val _, .bl b => .bl b
  | _, _, _, _, _, .val _, .int i => .int i
  | _, _, _, _, _, .val _, .str x => .str x
  | _, _, _, _, _, .frz r, .frz _ => r.mono e
  | _, _, _, _, k, .nod h r _, .lst q => .lst (k _ List.mem_cons_self _ h) (OwAll.rp e (fun b hb => k b (List.mem_cons_of_mem _ hb)) r q)
  | _, _, _, _, k, .nod h r _, .tup q => .tup (k _ List.mem_cons_self _ h) (OwAll.rp e (fun b hb => k b (List.mem_cons_of_mem _ hb)) r q)
theorem OwAll.rp {G H I : Hp} (e : Same G I) : ∀ {L : List Addr} {vs : List V} {ds : List Dt} {ps : List PyData}, Keeps L H I → OwAll G H L vs ds → DdAll ds ps → RpAll I vs ps
  | _, _, _, _, _, .nil, .nil => .nil
  | _, _, _, _, k, .cons a r _, .cons x xs => .cons (Ow.rp e (fun b hb => k b (List.mem_append_left _ hb)) a x) (OwAll.rp e (fun b hb => k b (List.mem_append_right _ hb)) r xs)
end
def oI (i : Int) : Dt := .val (.int i)
def oB (b : Bool) : Dt := .val (.bl b)
def oF {α : Type} (f : α → PyData) (x : α) : Dt := .frz (f x)
def oL {α : Type} (f : α → Dt) (xs : List α) : Dt := .nod .lst (xs.map f)
def EncO {α : Type} (f : α → Dt) (g : α → PyData) : Prop := ∀ x, Dd (f x) (g x)
theorem encO_I : EncO oI PyData.int := fun i => .int i
theorem encO_B : EncO oB PyData.bool := fun i => .bl i
theorem encO_F {α : Type} {f : α → PyData} : EncO (oF f) f := fun _ => .frz _
theorem EncO.all {α : Type} {f : α → Dt} {g : α → PyData} (h : EncO f g) : ∀ xs : List α, DdAll (xs.map f) (xs.map g)
  | [] => .nil
  | x :: xs => .cons (h x) (EncO.all h xs)
theorem encO_L {α : Type} {f : α → Dt} {g : α → PyData} (h : EncO f g) : EncO (oL f) (encL g) := fun xs => .lst (h.all xs)
theorem keeps_same {L : List Addr} {H H' : Hp} (e : Same H H') : Keeps L H H' := fun b _ o q => e b o q
theorem keeps_refl {L : List Addr} {H : Hp} : Keeps L H H := fun _ _ _ q => q
theorem keeps_mut {L : List Addr} {H H' : Hp} {m : Addr} (x : SameX m H H') (n : ∀ b ∈ L, b ≠ m) : Keeps L H H' := fun b hb o q => x b o q (n b hb)
theorem keeps_muts {L M : List Addr} {H H' : Hp} (x : SameXs M H H') (n : ∀ b ∈ L, b ∉ M) : Keeps L H H' := fun b hb o q => x b o q (n b hb)
theorem keeps_hide {L M : List Addr} {H : Hp} (n : ∀ b ∈ L, b ∉ M) : Keeps L H (hideL M H) := fun b hb o q => by
  rw [hideL_out (n b hb)]
  exact q
section
variable {α : Type} {f : α → Dt} {g : α → PyData} {G H I : Hp} {L : List Addr} {vs : List V} {xs : List α}
theorem OwAll.rpA (w : OwAll G H L vs (xs.map f)) (h : EncO f g) (e : Same G H) : RpAll H vs (xs.map g) := OwAll.rp e keeps_refl w (h.all xs)
theorem OwAll.rpH (w : OwAll G H L vs (xs.map f)) (h : EncO f g) (e : Same G I) (k : Keeps L H I) : RpAll I vs (xs.map g) := OwAll.rp e k w (h.all xs)
theorem OwAll.lenM (w : OwAll G H L vs (xs.map f)) : vs.length = xs.length := by rw [w.len, List.length_map]
theorem OwAll.snocM {L1 : List Addr} {v : V} {y : α} (w : OwAll G H L vs (xs.map f)) (h : Ow G H L1 v (f y)) (n : ∀ b ∈ L, b ∉ L1) : OwAll G H (L ++ L1) (vs ++ [v]) ((xs ++ [y]).map f) := by
  rw [List.map_append]
  exact OwAll.snoc h w n
theorem Ow.ints {a : Addr} {ys : List Int} (h : H a = some (.lst (ys.map V.int))) : Ow G H [a] (.ref a) (oL oI ys) := by
  have z : ∀ ys : List Int, OwAll G H [] (ys.map V.int) (ys.map oI) := fun ys => by
    induction ys with
    | nil => exact .nil
    | cons y r ih => exact .cons (L1 := []) (L2 := []) (.val _) ih (fun _ z => nomatch z)
  exact .nod (k := .lst) h (z ys) (fun z => nomatch z)
theorem Ow.list {a : Addr} {xs : List α} {L : List Addr} {vs : List V} (h : H a = some (.lst vs)) (w : OwAll G H L vs (xs.map f)) (n : ∀ b ∈ L, b ≠ a) : Ow G H (a :: L) (.ref a) (oL f xs) := .nod (k := .lst) h w (fun z => n a z rfl)
theorem Ow.toList {v : V} {L : List Addr} {xs : List α} (w : Ow G H L v (oL f xs)) : ∃ a vs L', v = .ref a ∧ L = a :: L' ∧ H a = some (.lst vs) ∧ OwAll G H L' vs (xs.map f) ∧ ∀ b ∈ L', b ≠ a := by
  unfold oL at w
  cases w with
  | nod h r n => exact ⟨_, _, _, rfl, rfl, h, r, fun b hb z => n (z ▸ hb)⟩
theorem OwAll.toInts : ∀ {L : List Addr} {vs : List V} {xs : List Int}, OwAll G H L vs (xs.map oI) → L = [] ∧ vs = xs.map V.int
  | _, _, [], .nil => ⟨rfl, rfl⟩
  | _, _, x :: xs, .cons a r _ => by
    obtain ⟨h1, h2⟩ := OwAll.toInts r
    cases a
    exact ⟨by rw [h1] <;> rfl, by rw [h2] <;> rfl⟩
theorem Ow.toInts {v : V} {L : List Addr} {xs : List Int} (w : Ow G H L v (oL oI xs)) : ∃ a, v = .ref a ∧ L = [a] ∧ H a = some (.lst (xs.map V.int)) := by
  obtain ⟨a, vs, L', rfl, rfl, h, r, _⟩ := w.toList
  obtain ⟨rfl, rfl⟩ := r.toInts
  exact ⟨a, rfl, rfl, h⟩
/-- the part at a place, and how a change of it alone changes the whole -/
theorem OwAll.part : ∀ {L : List Addr} {vs : List V} {ds : List Dt} {i : Nat} {d : Dt}, OwAll G H L vs ds → ds[i]? = some d → ∃ v L1, vs[i]? = some v ∧ Ow G H L1 v d ∧ (∀ b ∈ L1, b ∈ L) ∧
    ∀ H' d', (∀ b ∈ L, b ∉ L1 → ∀ o, H b = some o → H' b = some o) → Ow G H' L1 v d' → OwAll G H' L vs (ds.set i d')
  | _, _, _, _, _, .nil, h => by simp at h
  | _, _, _, 0, _, .cons (L1 := La) (L2 := Lb) a r n, h => by
    simp at h
    subst h
    refine ⟨_, La, rfl, a, fun b hb => List.mem_append_left _ hb, fun H' d' k w => ?_⟩
    exact .cons w (OwAll.mono (Same.refl G) (fun b hb => k b (List.mem_append_right _ hb) fun z => n b z hb) r) n
  | _, _, _, i + 1, _, .cons (L1 := La) (L2 := Lb) a r n, h => by
    obtain ⟨v, L1, h1, h2, h3, h4⟩ := OwAll.part (i := i) r (by simpa using h)
    refine ⟨v, L1, by simpa using h1, h2, fun b hb => List.mem_append_right _ (h3 b hb), fun H' d' k w => ?_⟩
    refine .cons (Ow.mono (Same.refl G) (fun b hb => k b (List.mem_append_left _ hb) fun z => n b hb (h3 b z)) a) (h4 H' d' (fun b hb nb => k b (List.mem_append_right _ hb) nb) w) n
/-- the same, where the part grows: its new footprint is the old one and what is new -/
theorem OwAll.part2 : ∀ {L : List Addr} {vs : List V} {ds : List Dt} {i : Nat} {d : Dt}, OwAll G H L vs ds → ds[i]? = some d → ∃ v L1, vs[i]? = some v ∧ Ow G H L1 v d ∧ (∀ b ∈ L1, b ∈ L) ∧
    (∀ H' d', (∀ b ∈ L, b ∉ L1 → ∀ o, H b = some o → H' b = some o) → Ow G H' L1 v d' → OwAll G H' L vs (ds.set i d')) ∧
    ∀ H' d' Fv L1', (∀ b ∈ L, b ∉ L1 → ∀ o, H b = some o → H' b = some o) → (∀ b ∈ L1', b ∈ L1 ++ Fv) → (∀ b ∈ Fv, b ∉ L) → Ow G H' L1' v d' → ∃ L', (∀ b ∈ L', b ∈ L ++ Fv) ∧ OwAll G H' L' vs (ds.set i d')
  | _, _, _, _, _, .nil, h => by simp at h
  | _, _, _, 0, _, .cons (L1 := La) (L2 := Lb) a r n, h => by
    simp at h
    subst h
    refine ⟨_, La, rfl, a, fun b hb => List.mem_append_left _ hb, fun H' d' k w => ?_, fun H' d' Fv L1' k s nf w => ⟨L1' ++ Lb, fun b hb => ?_, ?_⟩⟩
    · exact .cons w (OwAll.mono (Same.refl G) (fun b hb => k b (List.mem_append_right _ hb) fun z => n b z hb) r) n
    · rcases List.mem_append.mp hb with hb | hb
      · rcases List.mem_append.mp (s b hb) with q | q
        · exact List.mem_append_left _ (List.mem_append_left _ q)
        · exact List.mem_append_right _ q
      · exact List.mem_append_left _ (List.mem_append_right _ hb)
    · refine .cons w (OwAll.mono (Same.refl G) (fun b hb => k b (List.mem_append_right _ hb) fun z => n b z hb) r) fun b hb q => ?_
      rcases List.mem_append.mp (s b hb) with z | z
      · exact n b z q
      · exact nf b z (List.mem_append_right _ q)
  | _, _, _, i + 1, _, .cons (L1 := La) (L2 := Lb) a r n, h => by
    obtain ⟨v, L1, h1, h2, h3, h4, h5⟩ := OwAll.part2 (i := i) r (by simpa using h)
    refine ⟨v, L1, by simpa using h1, h2, fun b hb => List.mem_append_right _ (h3 b hb), fun H' d' k w => ?_, fun H' d' Fv L1' k s nf w => ?_⟩
    · refine .cons (Ow.mono (Same.refl G) (fun b hb => k b (List.mem_append_left _ hb) fun z => n b hb (h3 b z)) a) (h4 H' d' (fun b hb nb => k b (List.mem_append_right _ hb) nb) w) n
    · obtain ⟨L', s2, z⟩ := h5 H' d' Fv L1' (fun b hb nb => k b (List.mem_append_right _ hb) nb) s (fun b hb q => nf b hb (List.mem_append_right _ q)) w
      refine ⟨La ++ L', fun b hb => ?_, .cons (Ow.mono (Same.refl G) (fun b hb => k b (List.mem_append_left _ hb) fun z => n b hb (h3 b z)) a) z fun b hb q => ?_⟩
      · rcases List.mem_append.mp hb with hb | hb
        · exact List.mem_append_left _ (List.mem_append_left _ hb)
        · rcases List.mem_append.mp (s2 b hb) with q | q
          · exact List.mem_append_left _ (List.mem_append_right _ q)
          · exact List.mem_append_right _ q
      · rcases List.mem_append.mp (s2 b q) with y | y
        · exact n b hb y
        · exact nf b y (List.mem_append_left _ hb)
theorem OwAll.partM [Inhabited α] {k : Int} (w : OwAll G H L vs (xs.map f)) (h : -(xs.length : Int) ≤ k ∧ k < xs.length) : ∃ v L1, atI vs k = some v ∧ Ow G H L1 v (f (itD xs k)) ∧ (∀ b ∈ L1, b ∈ L) ∧
    (∀ H' y, (∀ b ∈ L, b ∉ L1 → ∀ o, H b = some o → H' b = some o) → Ow G H' L1 v (f y) → OwAll G H' L vs ((setL xs k y).map f)) ∧
    ∀ H' y Fv L1', (∀ b ∈ L, b ∉ L1 → ∀ o, H b = some o → H' b = some o) → (∀ b ∈ L1', b ∈ L1 ++ Fv) → (∀ b ∈ Fv, b ∉ L) → Ow G H' L1' v (f y) → ∃ L', (∀ b ∈ L', b ∈ L ++ Fv) ∧ OwAll G H' L' vs ((setL xs k y).map f) := by
  obtain ⟨j, e, hj⟩ := ixN_some h
  have hx := List.getElem?_eq_getElem hj
  obtain ⟨v, L1, h1, h2, h3, h4, h5⟩ := OwAll.part2 (i := j) (d := f xs[j]) w (by rw [List.getElem?_map, hx] <;> rfl)
  have ei : itD xs k = xs[j] := by
    unfold itD atI
    rw [e]
    show (xs[j]?).getD default = _
    rw [hx] <;> rfl
  refine ⟨v, L1, ?_, by rw [ei]; exact h2, h3, fun H' y q w2 => ?_, fun H' y Fv L1' q s nf w2 => ?_⟩
  · unfold atI
    rw [w.lenM, e]
    exact h1
  · have z := h4 H' (f y) q w2
    unfold setL
    rw [e, List.map_set]
    exact z
  · obtain ⟨L', s2, z⟩ := h5 H' (f y) Fv L1' q s nf w2
    refine ⟨L', s2, ?_⟩
    unfold setL
    rw [e, List.map_set]
    exact z
theorem grow_keeps {L L1 : List Addr} {m : Addr} {H H1 H2 : Hp} (e : Same H H1) (x : SameX m H1 H2) (hm : m ∈ L1) : ∀ b ∈ L, b ∉ L1 → ∀ o, H b = some o → H2 b = some o := fun b _ n o q => x b o (e b o q) (fun z => n (z ▸ hm))
theorem grow_sub {a : Addr} {L' Lr Fv : List Addr} (h : ∀ b ∈ L', b ∈ Lr ++ Fv) : ∀ b ∈ a :: L', b ∈ (a :: Lr) ++ Fv := fun b hb => by
  rcases List.mem_cons.mp hb with rfl | hb
  · exact List.mem_cons_self
  · exact List.mem_cons_of_mem _ (h b hb)
/-- the item of a turn -/
theorem OwAll.turn {i : Nat} {v : V} (w : OwAll G H L vs (xs.map f)) (h : vs[i]? = some v) : ∃ x L1, xs[i]? = some x ∧ Ow G H L1 v (f x) ∧ ∀ b ∈ L1, b ∈ L := by
  have hl := get_len h
  have e := w.lenM
  have hx := List.getElem?_eq_getElem (show i < xs.length by omega)
  obtain ⟨v2, L1, h1, h2, h3, _⟩ := OwAll.part (i := i) (d := f xs[i]) w (by rw [List.getElem?_map, hx] <;> rfl)
  rw [h] at h1
  cases h1
  exact ⟨_, L1, hx, h2, h3⟩
end
/-! ### what is owned, in pieces -/
theorem all_app {P : Addr → Prop} {L l : List Addr} (h : ∀ x ∈ L, P x) (t : ∀ x ∈ l, P x) : ∀ x ∈ L ++ l, P x := fun x hx => by
  rcases List.mem_append.mp hx with q | q
  · exact h x q
  · exact t x q
theorem nm_nil {a : Addr} : a ∉ ([] : List Addr) := fun z => nomatch z
theorem nm_cons {a m : Addr} {l : List Addr} (h : a ≠ m) (t : a ∉ l) : a ∉ m :: l := fun z => by
  rcases List.mem_cons.mp z with q | q
  · exact h q
  · exact t q
theorem nm_app {a : Addr} {L l : List Addr} (h : a ∉ L) (t : a ∉ l) : a ∉ L ++ l := fun z => by
  rcases List.mem_append.mp z with q | q
  · exact h q
  · exact t q
theorem there_ne {H : Hp} {L : List Addr} {x : Addr} (t : ∀ b ∈ L, H b ≠ none) (n : H x = none) : ∀ b ∈ L, b ≠ x := fun b hb z => t b hb (z ▸ n)
theorem new_ne {H : Hp} {L : List Addr} {x : Addr} {o : HO} (n : ∀ b ∈ L, H b = none) (h : H x = some o) : ∀ b ∈ L, b ≠ x := fun b hb z => by
  have := n b hb
  rw [z, h] at this
  cases this
theorem new_nl {H : Hp} {L L2 : List Addr} (n : ∀ b ∈ L, H b = none) (t : ∀ b ∈ L2, H b ≠ none) : ∀ b ∈ L, b ∉ L2 := fun b hb z => t b z (n b hb)
theorem nl_symm {L L2 : List Addr} (h : ∀ b ∈ L, b ∉ L2) : ∀ b ∈ L2, b ∉ L := fun b hb z => h b z hb
theorem none_of_same {H H' : Hp} {x : Addr} (e : Same H H') (n : H' x = none) : H x = none := by
  cases q : H x with
  | none => rfl
  | some o =>
    rw [e x o q] at n
    cases n
section
variable {M : List Addr} {H0 G0 G H H' : Hp} {O L : List Addr} {p m : Addr} {o : HO}
theorem Sep.h0 (S : Sep M H0 G0 G H O) {b : Addr} (hb : b ∈ O) (hM : b ∉ M) : H0 b = none := (S.ow b hb).2.2.elim (fun z => (hM z).elim) id
theorem g_nl {a : Addr} {o : HO} (h : G a = some o) (S : Sep M H0 G0 G H O) (hL : ∀ b ∈ L, b ∈ O) : ∀ b ∈ L, b ≠ a := fun b hb => (g_ne h S (hL b hb)).symm
theorem b_nl {a : Addr} {o : HO} (h : (hideL M H0) a = some o) (S : Sep M H0 G0 G H O) (hL : ∀ b ∈ L, b ∈ O) : ∀ b ∈ L, b ≠ a := fun b hb => (b_ne h S (hL b hb)).symm
/-- a whole tree that is to stay as it is -/
theorem Sep.freezeL (S : Sep M H0 G0 G H O) {O' : List Addr} (hL : ∀ b ∈ L, b ∈ O) (h0 : ∀ b ∈ L, H0 b = none) (hO : ∀ b ∈ O', b ∈ O ∧ b ∉ L) : ∃ G', Same G G' ∧ Keeps L H G' ∧ Sep M H0 G0 G' H O' := by
  have gn : ∀ b ∈ L, G b = none := fun b hb => (S.ow b (hL b hb)).1
  refine ⟨fun b => if b ∈ L then H b else G b, fun b u q => ?_, fun b hb u q => ?_, S.base, S.pm, fun b u q => ?_, fun b u q => ?_, fun b hb gb => ?_, fun a ha => ?_⟩
  · have n : b ∉ L := fun z => by
      rw [gn b z] at q
      cases q
    show (if b ∈ L then H b else G b) = _
    rw [if_neg n]
    exact q
  · show (if b ∈ L then H b else G b) = _
    rw [if_pos hb]
    exact q
  · by_cases z : b ∈ L
    · exact (if_pos z).symm.trans q
    · exact S.sG b u ((if_neg z).symm.trans q)
  · have z : b ∉ L := fun z => by
      have := S.g0 b u q
      rw [gn b z] at this
      cases this
    show (if b ∈ L then H b else G b) = _
    rw [if_neg z]
    exact S.g0 b u q
  · have z : b ∉ L := fun z => hb (h0 b z)
    show (if b ∈ L then H b else G b) = _
    rw [if_neg z]
    exact S.gn b hb gb
  · obtain ⟨h1, h2⟩ := hO a ha
    refine ⟨?_, (S.ow a h1).2⟩
    show (if a ∈ L then H a else G a) = _
    rw [if_neg h2]
    exact (S.ow a h1).1
/-- a callee hands over a list of lists of its own making -/
theorem Sep.steptree (S : Sep M H0 G0 G H O) {G' : Hp} (e : Same H H') (eG : Same G G') (sG : Same G' H') (hn : ∀ b, H b ≠ none → G b = none → G' b = none) (L : List Addr) (hL : ∀ b ∈ L, H b = none ∧ G' b = none ∧ H' b ≠ none) : Sep M H0 G0 G' H' (L ++ O) := by
  have S2 := S.step e eG sG hn
  refine ⟨S2.base, S2.pm, S2.sG, S2.g0, S2.gn, all_app (fun b hb => ⟨(hL b hb).2.1, (hL b hb).2.2, .inr (S.free (hL b hb).1)⟩) S2.ow⟩
end
theorem Rp.list_of {α : Type} {g : α → PyData} {H : Hp} {a : Addr} {vs : List V} {xs : List α} (h : H a = some (.lst vs)) (r : RpAll H vs (xs.map g)) : Rp H (.ref a) (encL g xs) := .lst h r
/-! ### repr of data -/
mutual
def nodes : PyData → Nat
  | .list xs => 1 + nodesAll xs
  | .tuple xs => 1 + nodesAll xs
  | _ => 1
def nodesAll : List PyData → Nat
  | [] => 0
  | x :: xs => nodes x + nodesAll xs
end
mutual
def smallD : PyData → Bool
  | .none => true
  | .bool _ => true
  | .int i => decide (i.natAbs < 10 ^ 19)
  | .str x => decide ((reprText x).length ≤ 20)
  | .list xs => smallAll xs
  | .tuple xs => smallAll xs
  | _ => false
def smallAll : List PyData → Bool
  | [] => true
  | x :: xs => smallD x && smallAll xs
end
theorem piled_list (ts : List Str) : (listText ts).length ≤ piled ts + 2 := by
  cases ts with
  | nil => exact Nat.le_refl 2
  | cons t r =>
    have e : (listText (t :: r)).length = (textFrom 1 ("[" ++ ("" : String) ++ t) r).length + 1 := by
      show (textFrom 0 "[" (t :: r) ++ "]").length = _
      rw [strLen_append]
      rfl
    rw [e, textFrom_length_pos r 1 _ (by decide), piled_cons, strLen_append, strLen_append]
    have h1 : (("[" : String) : Str).length = 1 := rfl
    have h2 : (("" : String) : Str).length = 0 := rfl
    omega
theorem piled_tup (ts : List Str) : (tupleText ts).length ≤ piled ts + 3 := by
  unfold tupleText
  rw [strLen_append, strLen_append]
  have h1 : (("(" : String) : Str).length = 1 := rfl
  have h2 : (((if ts.length == 1 then ",)" else ")" : String) : Str)).length ≤ 2 := by split <;> decide
  by_cases h : ts = []
  · subst h
    exact Nat.le_of_lt (by decide)
  · have := join_length_add ts h
    omega
mutual
theorem small_shown : ∀ d : PyData, smallD d = true → d.shown.length + 4 ≤ 26 * nodes d ∧ d.showable = true ∧ d.hasDict = false
  | .none, _ => ⟨by simp only [PyData.shown, nodes]; decide, by simp [PyData.showable], by simp [PyData.hasDict]⟩
  | .bool b, _ => ⟨by cases b <;> simp only [PyData.shown, nodes] <;> decide, by simp [PyData.showable], by simp [PyData.hasDict]⟩
  | .int i, h => by
    have h : i.natAbs < 10 ^ 19 := by simpa [smallD] using h
    refine ⟨?_, ?_, by simp [PyData.hasDict]⟩
    · have := int_text_length_le10 (k := 19) (by decide) h
      simp only [PyData.shown, nodes]
      rw [PySem.ofString_length]
      omega
    · simp only [PyData.showable, decide_eq_true_eq]
      have : i.natAbs < 2 ^ 64 := by omega
      rcases Nat.eq_zero_or_pos i.natAbs with z | z
      · rw [z]
        decide
      · have := (Nat.log2_lt (by omega)).mpr this
        omega
  | .str x, h => by
    have h : (reprText x).length ≤ 20 := by simpa [smallD] using h
    refine ⟨by simp only [PyData.shown, nodes]; omega, by simp [PyData.showable], by simp [PyData.hasDict]⟩
  | .list xs, h => by
    obtain ⟨h1, h2, h3⟩ := small_shownAll xs (by simpa [smallD] using h)
    refine ⟨?_, by simpa [PyData.showable] using h2, by simpa [PyData.hasDict] using h3⟩
    have := piled_list (PyData.shownAll xs)
    simp only [PyData.shown, nodes]
    omega
  | .tuple xs, h => by
    obtain ⟨h1, h2, h3⟩ := small_shownAll xs (by simpa [smallD] using h)
    refine ⟨?_, by simpa [PyData.showable] using h2, by simpa [PyData.hasDict] using h3⟩
    have := piled_tup (PyData.shownAll xs)
    simp only [PyData.shown, nodes]
    omega
  | .dict kvs, h => by simp [smallD] at h
theorem small_shownAll : ∀ ds : List PyData, smallAll ds = true → piled (PyData.shownAll ds) ≤ 26 * nodesAll ds ∧ PyData.showableAll ds = true ∧ PyData.hasDictAll ds = false
  | [], _ => ⟨by simp [PyData.shownAll, nodesAll, piled], by simp [PyData.showableAll], by simp [PyData.hasDictAll]⟩
  | d :: ds, h => by
    have h : smallD d = true ∧ smallAll ds = true := by simpa [smallAll] using h
    obtain ⟨a1, a2, a3⟩ := small_shown d h.1
    obtain ⟨b1, b2, b3⟩ := small_shownAll ds h.2
    refine ⟨?_, by simp [PyData.showableAll, a2, b2], by simp [PyData.hasDictAll, a3, b3]⟩
    simp only [PyData.shownAll, nodesAll, piled_cons]
    omega
end
/-- data that repr may show -/
def ShowOk (d : PyData) : Prop := smallD d = true ∧ nodes d ≤ 600000 ∧ d.depth ≤ 60
instance (d : PyData) : Decidable (ShowOk d) := by unfold ShowOk; infer_instance
def rRepr : List V → Hp → VK → Prop := fun xs H Q => ∃ (a : Addr) (d : PyData), xs = [.ref a] ∧ Rp H (.ref a) d ∧ ShowOk d ∧ Q (.str d.shown) H
theorem call_reprD {X : Cx} (hg : X.A.guards = some []) (hu : X.A.units + 64 < cLine) : CallR X (.builtin "repr") rRepr := by
  intro pins s σ H xs us Q I r h
  obtain ⟨a, d, rfl, rp, ⟨ok, nd, dp⟩, q⟩ := h
  obtain ⟨h1, h2, h3⟩ := small_shown d ok
  cases r with
  | cons ra rn =>
    cases rn
    cases ra
    obtain ⟨as, reads⟩ := Dp.reads I d _ _ rp.dp rfl
    refine repr_of_reads' reads h2 (PyData.noDict_hsm h3) hg (by omega) (fun _ _ e => e) (fun h' u tk k => ⟨.str d.shown, H, I.kept k, ⟨u, rfl⟩, q⟩) ?_
    show d.shown.length ≤ 2 ^ 24
    omega
/-- small data: nodes, depth -/
def Sm (n k : Nat) (d : PyData) : Prop := smallD d = true ∧ nodes d ≤ n ∧ d.depth ≤ k
theorem Sm.imp {n k n' k' : Nat} {d : PyData} (h : Sm n k d) (a : n ≤ n') (b : k ≤ k') : Sm n' k' d := ⟨h.1, Nat.le_trans h.2.1 a, Nat.le_trans h.2.2 b⟩
theorem Sm.show {n k : Nat} {d : PyData} (h : Sm n k d) (a : n ≤ 600000 := by decide) (b : k ≤ 60 := by decide) : ShowOk d := h.imp a b
theorem sm_non : Sm 1 0 .none := ⟨by simp [smallD], by simp [nodes], by simp [PyData.depth]⟩
theorem sm_bool (b : Bool) : Sm 1 0 (.bool b) := ⟨by simp [smallD], by simp [nodes], by simp [PyData.depth]⟩
theorem sm_int {i : Int} (h : -10000000000000000000 < i ∧ i < 10000000000000000000) : Sm 1 0 (.int i) := ⟨by simp only [smallD, decide_eq_true_eq]; omega, by simp [nodes], by simp [PyData.depth]⟩
theorem sm_all {α : Type} {f : α → PyData} {n k : Nat} : ∀ {xs : List α}, (∀ x ∈ xs, Sm n k (f x)) → smallAll (xs.map f) = true ∧ nodesAll (xs.map f) ≤ xs.length * n ∧ PyData.depthAll (xs.map f) ≤ k
  | [], _ => ⟨by simp [smallAll], by simp [nodesAll], by simp [PyData.depthAll]⟩
  | x :: xs, h => by
    obtain ⟨a1, a2, a3⟩ := h x List.mem_cons_self
    obtain ⟨b1, b2, b3⟩ := sm_all fun y hy => h y (List.mem_cons_of_mem _ hy)
    refine ⟨by simp [smallAll, a1, b1], ?_, ?_⟩
    · simp only [List.map_cons, nodesAll, List.length_cons, Nat.succ_mul]
      omega
    · simp only [List.map_cons, PyData.depthAll]
      omega
theorem sm_L {α : Type} {f : α → PyData} {n k m : Nat} {xs : List α} (h : ∀ x ∈ xs, Sm n k (f x)) (hm : xs.length ≤ m) : Sm (1 + m * n) (k + 1) (encL f xs) := by
  obtain ⟨a1, a2, a3⟩ := sm_all h
  refine ⟨by simp [encL, smallD, a1], ?_, ?_⟩
  · have := Nat.mul_le_mul_right n hm
    simp only [encL, nodes]
    omega
  · simp only [encL, PyData.depth]
    omega
theorem sm_ints {xs : List Int} {m : Nat} (h : ∀ x ∈ xs, -10000000000000000000 < x ∧ x < 10000000000000000000) (hm : xs.length ≤ m) : Sm (1 + m * 1) 1 (encL PyData.int xs) := sm_L (fun x hx => sm_int (h x hx)) hm
theorem sm_T2 {α β : Type} {f : α → PyData} {g : β → PyData} {n k m j : Nat} {p : α × β} (h1 : Sm n k (f p.1)) (h2 : Sm m j (g p.2)) : Sm (1 + n + m) (max k j + 1) (encT2 f g p) := by
  obtain ⟨a1, a2, a3⟩ := h1
  obtain ⟨b1, b2, b3⟩ := h2
  refine ⟨by simp [encT2, smallD, smallAll, a1, b1], ?_, ?_⟩
  · simp only [encT2, nodes, nodesAll]
    omega
  · simp only [encT2, PyData.depth, PyData.depthAll]
    omega
theorem sm_T3 {α β γ : Type} {f : α → PyData} {g : β → PyData} {h : γ → PyData} {n k m j l i : Nat} {p : α × β × γ} (h1 : Sm n k (f p.1)) (h2 : Sm m j (g p.2.1)) (h3 : Sm l i (h p.2.2)) : Sm (1 + n + m + l) (max k (max j i) + 1) (encT3 f g h p) := by
  obtain ⟨a1, a2, a3⟩ := h1
  obtain ⟨b1, b2, b3⟩ := h2
  obtain ⟨c1, c2, c3⟩ := h3
  refine ⟨by simp [encT3, smallD, smallAll, a1, b1, c1], ?_, ?_⟩
  · simp only [encT3, nodes, nodesAll]
    omega
  · simp only [encT3, PyData.depth, PyData.depthAll]
    omega
end Vx
namespace Vx
open PySem PySem.Spec PyProof.Rows L2
theorem new_ne2 {H : Hp} {L : List Addr} {x : Addr} (n : ∀ b ∈ L, H b = none) (h : H x ≠ none) : ∀ b ∈ L, b ≠ x := fun b hb z => h (z ▸ n b hb)
theorem upd_tree {α : Type} {f : α → Dt} {G H H' : Hp} {L L1 : List Addr} {vs : List V} {xs : List α} {k : Int} {v : V} {m : Addr} {y : α} (up : ∀ H' y, (∀ b ∈ L, b ∉ L1 → ∀ o, H b = some o → H' b = some o) → Ow G H' L1 v (f y) → OwAll G H' L vs ((setL xs k y).map f)) (x : SameX m H H') (hm : m ∈ L1) (w : Ow G H' L1 v (f y)) :
    OwAll G H' L vs ((setL xs k y).map f) := up H' y (fun c _ n o q => x c o q (fun z => n (z ▸ hm))) w
theorem Ow.toFrz {α : Type} {f : α → PyData} {G H : Hp} {L : List Addr} {v : V} {x : α} (w : Ow G H L v (oF f x)) : L = [] ∧ Rp G v (f x) := by
  unfold oF at w
  cases w with
  | frz r => exact ⟨rfl, r⟩
section
variable {α : Type} {f : α → Dt} {G H : Hp} {L : List Addr} {vs : List V} {xs : List α}
theorem OwAll.pin {i : Nat} {v : V} {x : α} (w : OwAll G H L vs (xs.map f)) (h : vs[i]? = some v) (hx : xs[i]? = some x) : ∃ L1, Ow G H L1 v (f x) ∧ ∀ b ∈ L1, b ∈ L := by
  obtain ⟨y, L1, h1, h2, h3⟩ := OwAll.turn w h
  rw [hx] at h1
  cases h1
  exact ⟨L1, h2, h3⟩
theorem OwAll.pinInts {i : Nat} {b : Addr} {xs : List (List Int)} {x : List Int} (w : OwAll G H L vs (xs.map (oL oI))) (h : vs[i]? = some (.ref b)) (hx : xs[i]? = some x) : H b = some (.lst (x.map V.int)) ∧ b ∈ L := by
  obtain ⟨L1, w1, h1⟩ := OwAll.pin w h hx
  obtain ⟨c, e, rfl, h2⟩ := Ow.toInts w1
  cases e
  exact ⟨h2, h1 _ List.mem_cons_self⟩
end
end Vx
namespace Vx
open PySem PySem.Spec PyProof.Rows L2
theorem lookup_relab {c : Str → Bool} {y : Str} : ∀ l : List (Str × NameKind), (l.lookup y = some .cell ∨ l.lookup y = some .free) →
    ((l.map fun (n, k) => if (k == .free && c n) then (n, NameKind.cell) else (n, k)).lookup y = some .cell ∨ (l.map fun (n, k) => if (k == .free && c n) then (n, NameKind.cell) else (n, k)).lookup y = some .free)
  | [], h => by simp at h
  | (n, k) :: r, h => by
    rw [List.map_cons]
    dsimp only
    by_cases e : y == n
    · have hk : k = .cell ∨ k = .free := by
        rw [List.lookup_cons, e] at h
        simpa using h
      by_cases q : (k == .free && c n) = true
      · left
        rw [if_pos q, List.lookup_cons, e]
      · rw [if_neg q, List.lookup_cons, e]
        simpa using hk
    · have e : (y == n) = false := by simpa using e
      rw [List.lookup_cons, e] at h
      have ih := lookup_relab (c := c) r h
      by_cases q : (k == .free && c n) = true
      · rw [if_pos q, List.lookup_cons, e]
        exact ih
      · rw [if_neg q, List.lookup_cons, e]
        exact ih
theorem blk_relabel {N : List Str} {sc scope : Scope} {env : Env} {own : List (Str × Nat)} (h : BlkOk N sc scope own) : BlkOk N (relabel sc env) scope own := by
  refine ⟨h.kind, h.uniq, h.ix, fun y hy e => ?_, h.own⟩
  have z := lookup_relab (c := fun n => env.scope.kind == .function && env.kindOf n == some .cell) (y := y.1) sc.names (h.free y hy e)
  unfold relabel
  simpa only [Bool.and_assoc] using z
end Vx
namespace Vx
open PySem PySem.Spec PyProof.Rows L2
theorem FnG.low {P : Program} {w : World} {K : PySem.W.Frag} {mg : Str → Option Value} {base : Heap} {cx : CXT} {j k : Nat} {f : Addr} {fd : FuncData} {ps : List Str} {sp : Sp} (F : FnG P w K mg base cx j f fd ps sp) (h : j ≤ k) : FnG P w K mg base cx k f fd ps sp := ⟨F.len, fun A o s H a us vs Q E r => F.run A o s H a us vs Q E (r.low h)⟩
/-! ### a local name that holds one of several defs -/
structure HeldX (P : Program) (w : World) (K : PySem.W.Frag) (mg : Str → Option Value) (base : Heap) (k n : Nat) (f : Addr) (sp : Sp) : Prop where
  ex : ∃ (fd : FuncData) (ps : List Str), FnG P w K mg base (L2.CX P w) k f fd ps sp ∧ PySem.W.keepIn K (.ref f) = true ∧ Bnd K fd ps n [] (fun vs _ => vs)
theorem HeldX.of {P : Program} {w : World} {K : PySem.W.Frag} {mg : Str → Option Value} {base : Heap} {j k n : Nat} {x : Str} {sp : Sp} {pats : List Pat} {a : Addr} (c : CalX P w K mg base j x sp pats) (hx : mg x = some (.ref a)) (hp : (n, [], fun vs _ => vs) ∈ pats) (hj : j ≤ k) : HeldX P w K mg base k n a sp := by
  obtain ⟨f, fd, ps, F, hm, kp, b⟩ := c.ex
  rw [hx] at hm
  injection hm with hm
  injection hm with hm
  subst hm
  exact ⟨fd, ps, F.low hj, kp, b _ hp⟩
def tCallF (i n : Nat) (L : List (Addr × Sp)) (W : WX) (t : TA) : TE := fun σ H Q => ∃ f sp, σ[i]? = some (some (.ref f)) ∧ (f, sp) ∈ L ∧ t σ H fun vs H1 => vs.length = n ∧ ([] : List V).length = 0 ∧ sp vs H1 Q (WE W σ)
theorem vx_callF {X : Cx} {k j i n : Nat} {x : Str} {p pos : Pos} {e : Expr} {es : List Expr} {t : TA} {W : WX} (L : List (Addr × Sp)) (A : ∀ q ∈ L, HeldX X.prog X.w X.K X.mg X.base k n q.1 q.2) (hr : RoomG j X.A) (hk : k ≤ j) (tkW : Takes X W) (hN : X.N[i]? = some x) (hv : Vis X.env.scope x) (ha : PA X (e :: es) t)
    (hdb : (x == ("__debug__" : Str)) = false := by decide) (hcd : (x == ("__classdict__" : Str)) = false := by decide) (he : starEach (e :: es) X.env = (false, eval e X.env) :: starEach es X.env := by rfl) (hpl : (backTo pos (starEach es X.env)).any (·.1) = false := by rfl) :
    PE X (.Call (.Name x p) (e :: es) [] pos) (tCallF i n L W t) := by
  constructor
  intro pins s σ H Q I h
  obtain ⟨f, sp, slot, mem, rest⟩ := h
  obtain ⟨fd, ps, F, kp, b⟩ := (A _ mem).ex
  refine wpAny_Call_Name_kw (thn ((pe_var (pos := p) hN hv hdb hcd).run pins s σ H (fun v H1 => v = .ref f ∧ H1 = H) I ⟨.ref f, slot, rfl, rfl⟩) ?_)
  rintro u s1 ⟨v, H1, I1, r1, rfl, rfl⟩
  cases r1
  refine PySem.W.callWith_K (h₀ := X.base) I.ok.mod.kin kp (thn (ha.run pos pins s1 σ _ _ I1 rest) ?_) he hpl
  rintro us s2 ⟨vs, H2, I2, r, l1, l2, q⟩
  exact ⟨I2.kIn, run_X (us := us) (ws := []) (zs := []) F (hr.low hk) b tkW I2 r .nil l1 l2 q⟩
/-! ### the least of a list, the place of an item -/
def minL : List Int → Int
  | [] => 0
  | [x] => x
  | x :: y :: r => if x ≤ minL (y :: r) then x else minL (y :: r)
theorem minL_spec : ∀ (xs : List Int), xs ≠ [] → minL xs ∈ xs ∧ ∀ y ∈ xs, minL xs ≤ y
  | [], h => absurd rfl h
  | [x], _ => ⟨List.mem_cons_self, fun y hy => by rw [List.mem_singleton.mp hy]; exact Int.le_refl x⟩
  | x :: y :: r, _ => by
    obtain ⟨h1, h2⟩ := minL_spec (y :: r) (fun z => nomatch z)
    unfold minL
    split
    · refine ⟨List.mem_cons_self, fun z hz => ?_⟩
      rcases List.mem_cons.mp hz with rfl | hz
      · exact Int.le_refl _
      · have := h2 z hz
        omega
    · refine ⟨List.mem_cons_of_mem _ h1, fun z hz => ?_⟩
      rcases List.mem_cons.mp hz with rfl | hz
      · omega
      · exact h2 z hz
def maxL (xs : List Int) : Int := -(minL (xs.map fun x => -x))
theorem maxL_spec (xs : List Int) (h : xs ≠ []) : maxL xs ∈ xs ∧ ∀ y ∈ xs, y ≤ maxL xs := by
  obtain ⟨h1, h2⟩ := minL_spec (xs.map fun x => -x) (by simpa using h)
  obtain ⟨z, hz, e⟩ := List.mem_map.mp h1
  unfold maxL
  refine ⟨by rw [← e, Int.neg_neg]; exact hz, fun y hy => ?_⟩
  have := h2 _ (List.mem_map_of_mem hy)
  omega
section
variable {X : Cx} {K : PySem.W.Frag}
def rMinL (K : PySem.W.Frag) : List V → Hp → VK → Prop := fun vs H Q => ∃ (a : Addr) (ns : List Int), vs = [V.ref a] ∧ SqL K H a (ns.map V.int) ∧ ns ≠ [] ∧ Q (.int (minL ns)) H
def rMaxL (K : PySem.W.Frag) : List V → Hp → VK → Prop := fun vs H Q => ∃ (a : Addr) (ns : List Int), vs = [V.ref a] ∧ SqL K H a (ns.map V.int) ∧ ns ≠ [] ∧ Q (.int (maxL ns)) H
theorem cr_minL (hc : X.calm = true) (hK : X.K = K := by rfl) : CallR X (.builtin "min") (rMinL K) := by
  subst hK
  intro pins s σ H vs us Q I r h
  obtain ⟨a, ns, rfl, hs, hn, q⟩ := h
  refine cr_min hc pins s σ H _ us Q I r ⟨a, ns, rfl, hs, List.length_pos_iff.mpr hn, fun m hm hle => ?_⟩
  obtain ⟨h1, h2⟩ := minL_spec ns hn
  have e : m = minL ns := Int.le_antisymm (by have := hle _ h1; omega) (h2 m hm)
  rw [e]
  exact q
theorem cr_maxL (hc : X.calm = true) (hK : X.K = K := by rfl) : CallR X (.builtin "max") (rMaxL K) := by
  subst hK
  intro pins s σ H vs us Q I r h
  obtain ⟨a, ns, rfl, hs, hn, q⟩ := h
  refine cr_max hc pins s σ H _ us Q I r ⟨a, ns, rfl, hs, List.length_pos_iff.mpr hn, fun m hm hle => ?_⟩
  obtain ⟨h1, h2⟩ := maxL_spec ns hn
  have e : m = maxL ns := Int.le_antisymm (h2 m hm) (by have := hle _ h1; omega)
  rw [e]
  exact q
end
end Vx
namespace Vx
open PySem PySem.Spec PyProof.Rows L2
def idxL (ns : List Int) (i : Int) : Int := (ns.idxOf i : Nat)
def rIndexI (K : PySem.W.Frag) : V → List V → Hp → VK → Prop := fun x xs H Q => ∃ (a : Addr) (ns : List Int) (i : Int), x = V.ref a ∧ xs = [.int i] ∧ SqL K H a (ns.map V.int) ∧ i ∈ ns ∧ Q (.int (idxL ns i)) H
theorem mt_indexI {X : Cx} {K : PySem.W.Frag} (hK : X.K = K := by rfl) : MtR X "list.index" (rIndexI K) := by
  subst hK
  intro pins s σ H x xs v us Q I rx rxs h
  obtain ⟨a, ns, i, rfl, rfl, hs, hi, q⟩ := h
  have hl := List.idxOf_lt_length_of_mem hi
  refine mt_index pins s σ H _ _ v us Q I rx rxs ⟨a, _, .int i, ns.idxOf i, .int i, rfl, rfl, hs, rfl, flat_ints ns, ?_, by simp [eqV], fun m z hm hz => ?_, q⟩
  · rw [List.getElem?_map, List.getElem?_eq_getElem hl, List.getElem_idxOf hl] <;> rfl
  · rw [List.getElem?_map] at hz
    cases e : ns[m]? with
    | none => rw [e] at hz; cases hz
    | some y =>
      rw [e] at hz
      cases hz
      have hml : m < ns.length := by omega
      have hy : ns[m] = y := by
        rw [List.getElem?_eq_getElem hml] at e
        exact Option.some.inj e
      have := List.not_of_lt_findIdx (p := (· == i)) (xs := ns) (i := m) hm
      simp only [beq_iff_eq, hy] at this
      simp [eqV, this]
theorem cW_aftgo {σ ρ τ : Type} {s : σ} {kr : ρ → Rx τ} {k : σ → Rx τ} {K : τ → Prop} {E : Nat → Prop} (h : cW ((Lp.go s : Lp σ ρ).aft kr k) K E) : cW (k s) K E := h
end Vx
/-! # fourth part: reckoning with functions that may refuse -/
namespace Vx
open PySem PySem.Spec PyProof.Rows L2
section
variable {α β σ ρ τ : Type}
theorem bind_ok (a : α) (f : α → Rx β) : (Rx.ok a).bind f = f a := rfl
theorem bind_er (e : Nat) (f : α → Rx β) : (Rx.er e : Rx α).bind f = .er e := rfl
theorem grd_pos {p : Prop} {dp : Decidable p} {m : Rx α} (h : p) : grd p m = m := if_pos h
theorem bnd_eq (a : α) (f : α → Rx β) : bnd a f = f a := rfl
theorem noEr_ok (a : α) : noEr (.ok a : Rx α) = .ok a := rfl
theorem tryR_ok {cs : List Nat} (a : α) (f : α → Rx β) (g : Nat → Rx β) : tryR (.ok a) cs f g = f a := rfl
theorem tryR_er {cs : List Nat} {e : Nat} (h : e ∈ cs) (f : α → Rx β) (g : Nat → Rx β) : tryR (.er e) cs f g = g e := if_pos h
theorem aft_go (s : σ) (kr : ρ → Rx τ) (k : σ → Rx τ) : (Lp.go s : Lp σ ρ).aft kr k = k s := rfl
theorem aft_rt (r : ρ) (kr : ρ → Rx τ) (k : σ → Rx τ) : (Lp.rt r : Lp σ ρ).aft kr k = kr r := rfl
/-- gives a value of which P holds -/
def Gv (m : Rx α) (P : α → Prop) : Prop := ∃ v, m = .ok v ∧ P v
theorem Gv.ok {a : α} {P : α → Prop} (h : P a) : Gv (.ok a) P := ⟨a, rfl, h⟩
theorem Gv.of_eq {m : Rx α} {a : α} {P : α → Prop} (e : m = .ok a) (h : P a) : Gv m P := ⟨a, e, h⟩
theorem Gv.bind {m : Rx α} {f : α → Rx β} {P : α → Prop} {Q : β → Prop} (h : Gv m P) (k : ∀ v, P v → Gv (f v) Q) : Gv (m.bind f) Q := by
  obtain ⟨v, rfl, p⟩ := h
  exact k v p
theorem Gv.bind_eq {m : Rx α} {f : α → Rx β} {a : α} {Q : β → Prop} (h : m = .ok a) (k : Gv (f a) Q) : Gv (m.bind f) Q := by
  subst h
  exact k
theorem Gv.grd {p : Prop} {dp : Decidable p} {m : Rx α} {Q : α → Prop} (h : p) (k : Gv m Q) : Gv (Vx.grd p m) Q := by
  rw [grd_pos h]
  exact k
theorem Gv.bnd {a : α} {f : α → Rx β} {Q : β → Prop} (k : ∀ x, x = a → Gv (f x) Q) : Gv (Vx.bnd a f) Q := k a rfl
theorem Gv.ite {p : Prop} {dp : Decidable p} {a b : Rx α} {Q : α → Prop} (h1 : p → Gv a Q) (h2 : ¬ p → Gv b Q) : Gv (if p then a else b) Q := by
  split
  · exact h1 ‹_›
  · exact h2 ‹_›
theorem Gv.pos {p : Prop} {dp : Decidable p} {a b : Rx α} {Q : α → Prop} (h : p) (k : Gv a Q) : Gv (if p then a else b) Q := by rwa [if_pos h]
theorem Gv.neg {p : Prop} {dp : Decidable p} {a b : Rx α} {Q : α → Prop} (h : ¬ p) (k : Gv b Q) : Gv (if p then a else b) Q := by rwa [if_neg h]
theorem Gv.imp {m : Rx α} {P Q : α → Prop} (h : Gv m P) (k : ∀ v, P v → Q v) : Gv m Q := by
  obtain ⟨v, e, p⟩ := h
  exact ⟨v, e, k v p⟩
theorem Gv.noEr {m : Rx α} {P : α → Prop} (h : Gv m P) : Gv (Vx.noEr m) P := by
  obtain ⟨v, rfl, p⟩ := h
  exact ⟨v, rfl, p⟩
theorem Gv.tryOk {m : Rx α} {cs : List Nat} {f : α → Rx β} {g : Nat → Rx β} {P : α → Prop} {Q : β → Prop} (h : Gv m P) (k : ∀ v, P v → Gv (f v) Q) : Gv (tryR m cs f g) Q := by
  obtain ⟨v, rfl, p⟩ := h
  exact k v p
theorem Gv.tryEr {m : Rx α} {cs : List Nat} {e : Nat} {f : α → Rx β} {g : Nat → Rx β} {Q : β → Prop} (h : m = .er e) (hm : e ∈ cs) (k : Gv (g e) Q) : Gv (tryR m cs f g) Q := by
  subst h
  rw [tryR_er hm]
  exact k
theorem Gv.get {m : Rx α} {a : α} (h : Gv m (fun v => v = a)) : m = .ok a := by
  obtain ⟨v, e, rfl⟩ := h
  exact e
theorem Gv.eq {m : Rx α} {P : α → Prop} (h : Gv m P) : ∃ v, m = .ok v ∧ P v := h
/-- a loop that keeps P -/
theorem Gv.forS {P : Nat → σ → Prop} {xs : List α} {s : σ} {f : σ → α → Rx σ} (h0 : P 0 s) (hs : ∀ i x s, xs[i]? = some x → P i s → Gv (f s x) (P (i + 1))) : Gv (Vx.forS xs s f) (P xs.length) := by
  induction xs generalizing s P with
  | nil => exact .ok h0
  | cons x r ih =>
    refine Gv.bind (hs 0 x s rfl h0) fun s' p => ?_
    exact ih (P := fun i => P (i + 1)) p fun i y s hy q => hs (i + 1) y s (by simpa using hy) q
theorem Gv.forR {P : Nat → σ → Prop} {xs : List α} {s : σ} {f : σ → α → Rx (Lp σ ρ)} (h0 : P 0 s) (hs : ∀ i x s, xs[i]? = some x → P i s → Gv (f s x) (fun l => ∃ s', l = .go s' ∧ P (i + 1) s')) : Gv (Vx.forR xs s f) (fun l => ∃ s', l = .go s' ∧ P xs.length s') := by
  induction xs generalizing s P with
  | nil => exact .ok ⟨s, rfl, h0⟩
  | cons x r ih =>
    refine Gv.bind (hs 0 x s rfl h0) ?_
    rintro _ ⟨s', rfl, p⟩
    exact ih (P := fun i => P (i + 1)) p fun i y s hy q => hs (i + 1) y s (by simpa using hy) q
/-- a loop that carries nothing -/
theorem forR_unit {xs : List α} {f : Unit → α → Rx (Lp Unit ρ)} (h : ∀ x ∈ xs, f () x = .ok (.go ())) : Vx.forR xs () f = .ok (.go ()) := by
  induction xs with
  | nil => rfl
  | cons x r ih =>
    show (f () x).bind _ = _
    rw [h x List.mem_cons_self]
    exact ih fun y hy => h y (List.mem_cons_of_mem _ hy)
theorem forS_pure {xs : List α} {s : σ} {f : σ → α → Rx σ} {g : σ → α → σ} (h : ∀ s x, x ∈ xs → f s x = .ok (g s x)) : Vx.forS xs s f = .ok (xs.foldl g s) := by
  induction xs generalizing s with
  | nil => rfl
  | cons x r ih =>
    show (f s x).bind _ = _
    rw [h s x List.mem_cons_self]
    exact ih fun s y hy => h s y (List.mem_cons_of_mem _ hy)
theorem mapA_pure {xs : List α} {acc : List β} {f : α → Rx β} {g : α → β} (h : ∀ x ∈ xs, f x = .ok (g x)) (hl : acc.length + xs.length ≤ 1000000) : mapA xs acc f = .ok (acc ++ xs.map g) := by
  induction xs generalizing acc with
  | nil => simp [mapA]
  | cons x r ih =>
    rw [List.length_cons] at hl
    unfold mapA
    rw [grd_pos (by omega), h x List.mem_cons_self, bind_ok, ih (fun y hy => h y (List.mem_cons_of_mem _ hy)) (by rw [List.length_append, List.length_cons, List.length_nil]; omega)]
    simp
theorem mapA_pure0 {xs : List α} {f : α → Rx β} {g : α → β} (h : ∀ x ∈ xs, f x = .ok (g x)) (hl : xs.length ≤ 1000000) : mapA xs [] f = .ok (xs.map g) := by
  rw [mapA_pure h (by simpa using hl)]
  rfl
theorem mapF_pure {xs : List α} {acc : List β} {f : α → Rx (Option β)} {g : α → Option β} (h : ∀ x ∈ xs, f x = .ok (g x)) (hl : acc.length + xs.length ≤ 1000000) : mapF xs acc f = .ok (acc ++ xs.filterMap g) := by
  induction xs generalizing acc with
  | nil => simp [mapF]
  | cons x r ih =>
    rw [List.length_cons] at hl
    unfold mapF
    rw [grd_pos (by omega), h x List.mem_cons_self, bind_ok]
    cases e : g x with
    | none =>
      show mapF r acc f = _
      rw [ih (fun y hy => h y (List.mem_cons_of_mem _ hy)) (by omega), List.filterMap_cons, e]
    | some z =>
      show mapF r (acc ++ [z]) f = _
      rw [ih (fun y hy => h y (List.mem_cons_of_mem _ hy)) (by rw [List.length_append, List.length_cons, List.length_nil]; omega), List.filterMap_cons, e]
      simp
/-- a while that ends: m falls -/
theorem Gv.whileR {P : σ → Prop} {R : σ → Prop} (m : σ → Nat) {f : σ → Rx (Lp σ ρ)} (hs : ∀ s, P s → Gv (f s) (fun l => (∃ s', l = .go s' ∧ P s' ∧ m s' < m s) ∨ ∃ s', l = .bk s' ∧ R s')) : ∀ {n : Nat} {s : σ}, P s → m s < n → Gv (Vx.whileR n s f) (fun l => ∃ s', l = .go s' ∧ R s') := by
  intro n
  induction n with
  | zero => intro s _ h; exact absurd h (Nat.not_lt_zero _)
  | succ n ih =>
    intro s p h
    refine Gv.bind (hs s p) ?_
    rintro _ (⟨s', rfl, p', l⟩ | ⟨s', rfl, r⟩)
    · exact ih p' (by omega)
    · exact .ok ⟨s', rfl, r⟩
end
theorem rng_mem {lo x : Int} {n : Nat} (h : x ∈ rng lo n) : lo ≤ x ∧ x < lo + n := by
  unfold rng at h
  obtain ⟨j, hj, rfl⟩ := List.mem_map.mp h
  have := List.mem_range.mp hj
  omega
theorem rng_at {lo x : Int} {n i : Nat} (h : (rng lo n)[i]? = some x) : x = lo + i ∧ i < n := by
  have hl := get_len h
  rw [rng_len] at hl
  rw [rng_get hl] at h
  exact ⟨(Option.some.inj h).symm, hl⟩
end Vx
namespace Vx
open PySem PySem.Spec PyProof.Rows L2
structure St_Encoder where
  probs : (List Int)
  front : (List Int)
  low : Int
  span : Int
deriving DecidableEq
structure St_SymbolWriter where
  enc : St_Encoder
deriving DecidableEq
structure St_Decoder where
  probs : (List Int)
  octs : (List Int)
  place : Int
  span : Int
  value : Int
deriving DecidableEq
structure St_SymbolReader where
  dec : St_Decoder
deriving DecidableEq
def F_Encoder___init__  : Rx St_Encoder :=
  grd (-(2 ^ 63) ≤ (256 : Int) ∧ (256 : Int) < 2 ^ 63 ∧ ([2048]).length * Int.toNat (256) ≤ 1000000) <| bnd ((4294967296 - 1)) fun _span_49 => .ok (⟨repL ([2048]) (256), ([] : (List Int)), 0, _span_49⟩ : St_Encoder)

def F_SymbolWriter___init__ (encoder' : St_Encoder) : Rx St_SymbolWriter :=
  .ok (⟨encoder'⟩ : St_SymbolWriter)

def F_SymbolReader___init__ (decoder' : St_Decoder) : Rx St_SymbolReader :=
  .ok (⟨decoder'⟩ : St_SymbolReader)

def F__law_draws_b1 (free_84 : Bool) (found_102 : (List Int)) (rest_103 : Int) (state_104 : Int) (it107 : Int) : Rx ((List Int) × Int × Int) :=
  (if free_84 = true then (if 1 < rest_103 then grd (0 < (it107 : Int)) <| grd ((found_102).length ≤ 1000000) <| bnd ((found_102) ++ [(rest_103 % it107)]) fun y118 => grd (0 < (it107 : Int) ∧ (it107 : Int) < 2 ^ 128) <| bnd ((rest_103 / it107)) fun rest_120 => .ok ((y118), (rest_120), (state_104)) else bnd ((((state_104 * 48271) + 11) % 2147483647)) fun state_121 => bnd ((((state_121 * 69621) + 7) % 2147483647)) fun state_122 => grd (0 < (it107 : Int)) <| grd ((found_102).length ≤ 1000000) <| bnd ((found_102) ++ [((state_122 / 13) % it107)]) fun y131 => .ok ((y131), (rest_103), (state_122))) else bnd ((((state_104 * 48271) + 11) % 2147483647)) fun state_132 => bnd ((((state_132 * 69621) + 7) % 2147483647)) fun state_133 => grd (0 < (it107 : Int)) <| grd ((found_102).length ≤ 1000000) <| bnd ((found_102) ++ [((state_133 / 13) % it107)]) fun y142 => .ok ((y142), (rest_103), (state_133)))

def F__law_draws_r1 (found_148 : (List Int)) (rest_149 : Int) (state_150 : Int) : Rx (List Int) :=
  .ok (found_148)

def F__law_draws (cell' : Int) (limits' : (List Int)) : Rx (List Int) :=
  bnd ((if cell' < 0 then -cell' else cell')) fun rest_79 => bnd ((rest_79 % 2147483647)) fun state_80 => bnd ((decide (cell' < 0) || decide (((10 : Int) ^ Int.toNat 18) ≤ cell'))) fun free_83 => Rx.bind (forS (limits') ((([] : (List Int))), (rest_79), (state_80)) (fun s x => F__law_draws_b1 (free_83) (s.1) (s.2.1) (s.2.2) x)) fun s => F__law_draws_r1  (s.1) (s.2.1) (s.2.2)

def F__law_symbol_k1 (draws_220 : (List Int)) (kind_221 : Int) (count_222 : Int) (base_223 : Int) : Rx (Int × Int × Int × Int) :=
  (if (count_222 : Int) = 1 then grd (-((draws_220).length : Int) ≤ 2 ∧ 2 < ((draws_220).length : Int)) <| .ok ((1, (((itD (draws_220) (2)) % 901) - 300), 0, 1)) else grd (-((draws_220).length : Int) ≤ 2 ∧ 2 < ((draws_220).length : Int)) <| grd (0 < (count_222 : Int)) <| grd (-((draws_220).length : Int) ≤ 1 ∧ 1 < ((draws_220).length : Int)) <| grd (-(([0, (count_222 - 1), ((itD (draws_220) (2)) % count_222)]).length : Int) ≤ ((itD (draws_220) (1)) % 3) ∧ ((itD (draws_220) (1)) % 3) < (([0, (count_222 - 1), ((itD (draws_220) (2)) % count_222)]).length : Int)) <| .ok ((1, (if 255 < base_223 then 255 else base_223), (itD ([0, (count_222 - 1), ((itD (draws_220) (2)) % count_222)]) (((itD (draws_220) (1)) % 3))), count_222)))

def F__law_symbol_k2 (draws_281 : (List Int)) (kind_282 : Int) (most_283 : Int) (base_284 : Int) : Rx (Int × Int × Int × Int) :=
  grd (-((draws_281).length : Int) ≤ 2 ∧ 2 < ((draws_281).length : Int)) <| grd (0 < ((most_283 + 1) : Int)) <| grd (-((draws_281).length : Int) ≤ 1 ∧ 1 < ((draws_281).length : Int)) <| grd (-(([0, most_283, ((itD (draws_281) (2)) % (most_283 + 1))]).length : Int) ≤ ((itD (draws_281) (1)) % 3) ∧ ((itD (draws_281) (1)) % 3) < (([0, most_283, ((itD (draws_281) (2)) % (most_283 + 1))]).length : Int)) <| .ok ((2, base_284, (itD ([0, most_283, ((itD (draws_281) (2)) % (most_283 + 1))]) (((itD (draws_281) (1)) % 3))), most_283))

def F__law_symbol_k3 (kind_353 : Int) (base_354 : Int) (value_355 : Int) : Rx (Int × Int × Int × Int) :=
  .ok ((kind_353, base_354, value_355, 0))

def F__law_symbol (cell' : Int) : Rx (Int × Int × Int × Int) :=
  Rx.bind (F__law_draws cell' ([6, 6, (1048576 + 1), 6, 256, 65, 2])) fun v160 => grd (-((v160).length : Int) ≤ 0 ∧ 0 < ((v160).length : Int)) <| bnd ((itD (v160) (0))) fun kind_170 => (if (kind_170 : Int) = 5 then grd (-((v160).length : Int) ≤ 6 ∧ 6 < ((v160).length : Int)) <| .ok ((5, 0, (itD (v160) (6)), 0)) else (if (kind_170 : Int) = 0 then grd (-((v160).length : Int) ≤ 4 ∧ 4 < ((v160).length : Int)) <| grd (-((v160).length : Int) ≤ 4 ∧ 4 < ((v160).length : Int)) <| grd (-((v160).length : Int) ≤ 3 ∧ 3 < ((v160).length : Int)) <| grd (-(([0, 255, 128, 3, (itD (v160) (4)), (itD (v160) (4))]).length : Int) ≤ (itD (v160) (3)) ∧ (itD (v160) (3)) < (([0, 255, 128, 3, (itD (v160) (4)), (itD (v160) (4))]).length : Int)) <| grd (-((v160).length : Int) ≤ 6 ∧ 6 < ((v160).length : Int)) <| .ok ((0, (itD ([0, 255, 128, 3, (itD (v160) (4)), (itD (v160) (4))]) ((itD (v160) (3)))), (itD (v160) (6)), 0)) else (if (kind_170 : Int) = 1 then grd (-((v160).length : Int) ≤ 5 ∧ 5 < ((v160).length : Int)) <| bnd ((1 + ((itD (v160) (5)) % 16))) fun count_215 => bnd (((PySem.Builtin.Int.intBits ((count_215 - 1)) : Nat) : Int)) fun width_216 => grd (-((v160).length : Int) ≤ 4 ∧ 4 < ((v160).length : Int)) <| grd (0 < ((258 - 16) : Int)) <| bnd (((itD (v160) (4)) % (258 - 16))) fun base_219 => Rx.bind ((grd (-((v160).length : Int) ≤ 3 ∧ 3 < ((v160).length : Int)) <| (if ((itD (v160) (3)) : Int) = 0 then grd ((0 : Int) ≤ width_216 ∧ (width_216 : Int) ≤ 4096 ∧ -(2 ^ 4096) < (1 : Int) ∧ (1 : Int) < 2 ^ 4096) <| bnd ((257 - (1 * 2 ^ Int.toNat (width_216)))) fun base_230 => .ok (base_230) else .ok (base_219)) : Rx (Int))) fun s => F__law_symbol_k1 (v160) (kind_170) (count_215) s else (if (kind_170 : Int) = 2 then grd (-((v160).length : Int) ≤ 5 ∧ 5 < ((v160).length : Int)) <| bnd ((itD (v160) (5))) fun most_278 => grd (-((v160).length : Int) ≤ 4 ∧ 4 < ((v160).length : Int)) <| bnd ((if (255 - (if 7 < (if 0 > (most_278 - 1) then 0 else (most_278 - 1)) then 7 else (if 0 > (most_278 - 1) then 0 else (most_278 - 1)))) < (itD (v160) (4)) then (255 - (if 7 < (if 0 > (most_278 - 1) then 0 else (most_278 - 1)) then 7 else (if 0 > (most_278 - 1) then 0 else (most_278 - 1)))) else (itD (v160) (4)))) fun base_280 => Rx.bind (((if (most_278 : Int) = 0 then grd (-((v160).length : Int) ≤ 2 ∧ 2 < ((v160).length : Int)) <| bnd ((((itD (v160) (2)) % 901) - 300)) fun base_290 => .ok (base_290) else .ok (base_280)) : Rx (Int))) fun s => F__law_symbol_k2 (v160) (kind_170) (most_278) s else grd (-((v160).length : Int) ≤ 4 ∧ 4 < ((v160).length : Int)) <| grd (-((v160).length : Int) ≤ 4 ∧ 4 < ((v160).length : Int)) <| grd (-((v160).length : Int) ≤ 3 ∧ 3 < ((v160).length : Int)) <| grd (-(([0, 240, 25, 41, ((itD (v160) (4)) % 241), ((itD (v160) (4)) % 241)]).length : Int) ≤ (itD (v160) (3)) ∧ (itD (v160) (3)) < (([0, 240, 25, 41, ((itD (v160) (4)) % 241), ((itD (v160) (4)) % 241)]).length : Int)) <| bnd ((itD ([0, 240, 25, 41, ((itD (v160) (4)) % 241), ((itD (v160) (4)) % 241)]) ((itD (v160) (3))))) fun base_336 => grd (-((v160).length : Int) ≤ 2 ∧ 2 < ((v160).length : Int)) <| grd (-((v160).length : Int) ≤ 2 ∧ 2 < ((v160).length : Int)) <| grd (-((v160).length : Int) ≤ 2 ∧ 2 < ((v160).length : Int)) <| grd (-((v160).length : Int) ≤ 1 ∧ 1 < ((v160).length : Int)) <| grd (-(([0, 1048576, (1048576 - 1), ((itD (v160) (2)) % 40), ((itD (v160) (2)) % 1000), (itD (v160) (2))]).length : Int) ≤ (itD (v160) (1)) ∧ (itD (v160) (1)) < (([0, 1048576, (1048576 - 1), ((itD (v160) (2)) % 40), ((itD (v160) (2)) % 1000), (itD (v160) (2))]).length : Int)) <| bnd ((itD ([0, 1048576, (1048576 - 1), ((itD (v160) (2)) % 40), ((itD (v160) (2)) % 1000), (itD (v160) (2))]) ((itD (v160) (1))))) fun value_352 => Rx.bind (((if (kind_170 : Int) = 4 then grd (-((v160).length : Int) ≤ 6 ∧ 6 < ((v160).length : Int)) <| (if ((itD (v160) (6)) : Int) = 1 then bnd ((-value_352)) fun value_362 => .ok (value_362) else .ok (value_352)) else .ok (value_352)) : Rx (Int))) fun s => F__law_symbol_k3 (kind_170) (base_336) s))))

def F__check_contexts (base' : Int) (count' : Int) : Rx Unit :=
  (if 0 < count' then (if 0 ≤ base' then (if base' ≤ (256 - count') then .ok (()) else .er 1) else .er 1) else .ok (()))

def F__check_context (context' : Int) : Rx Unit :=
  (if 0 ≤ context' then (if context' < 256 then .ok (()) else .er 1) else .er 1)

def F__check_decision (decision' : Int) : Rx Unit :=
  (if 0 ≤ decision' then (if decision' ≤ 1 then .ok (()) else .er 1) else .er 1)

def F__adapted (chance' : Int) (decision' : Int) : Rx Int :=
  (if (decision' : Int) = 0 then .ok ((chance' + ((4096 - chance') / 32))) else .ok ((chance' - (chance' / 32))))

def F_Encoder__carry_r1 (self_418 : St_Encoder) (place_419 : Int) : Rx St_Encoder :=
  grd ((0 : Int) ≤ place_419 ∧ place_419 < 2 ^ 62 ∧ place_419 < ((self_418.front).length : Int)) <| grd (-((self_418.front).length : Int) ≤ place_419 ∧ place_419 < ((self_418.front).length : Int)) <| bnd (setL (self_418.front) (place_419) (((itD (self_418.front) (place_419)) + 1))) fun y428 => .ok (⟨self_418.probs, y428, self_418.low, self_418.span⟩ : St_Encoder)

def F_Encoder__carry_b1 (self_401 : St_Encoder) (place_402 : Int) : Rx (Lp (St_Encoder × Int) St_Encoder) :=
  grd (-((self_401.front).length : Int) ≤ place_402 ∧ place_402 < ((self_401.front).length : Int)) <| (if ((itD (self_401.front) (place_402)) : Int) = 255 then grd (-((self_401.front).length : Int) ≤ place_402 ∧ place_402 < ((self_401.front).length : Int)) <| bnd (setL (self_401.front) (place_402) (0)) fun y414 => bnd ((place_402 - 1)) fun place_415 => .ok (.go (((⟨self_401.probs, y414, self_401.low, self_401.span⟩ : St_Encoder)), (place_415))) else .ok (.bk ((self_401), (place_402))))

def F_Encoder__carry (self' : St_Encoder) : Rx St_Encoder :=
  bnd (((((self'.front) : (List Int)).length : Int) - 1)) fun place_388 => Rx.bind ((whileR 1000000 ((self'), (place_388)) (fun s => F_Encoder__carry_b1  (s.1) (s.2)) : Rx (Lp (St_Encoder × Int) St_Encoder))) fun l => l.aft Rx.ok fun s => F_Encoder__carry_r1  (s.1) (s.2)

def F_Encoder__narrow_r2 (self_532 : St_Encoder) : Rx St_Encoder :=
  .ok self_532

def F_Encoder__narrow_b2 (self_501 : St_Encoder) : Rx (Lp (St_Encoder) St_Encoder) :=
  (if self_501.span < 16777216 then grd ((self_501.front).length ≤ 1000000) <| bnd ((self_501.front) ++ [(self_501.low / 16777216)]) fun y512 => grd ((0 : Int) ≤ 8 ∧ (8 : Int) ≤ 4096 ∧ -(2 ^ 4096) < (self_501.low : Int) ∧ (self_501.low : Int) < 2 ^ 4096) <| bnd ((PySem.Builtin.bitAnd ((self_501.low * 2 ^ Int.toNat (8))) ((4294967296 - 1)))) fun _low_515 => grd ((0 : Int) ≤ 8 ∧ (8 : Int) ≤ 4096 ∧ -(2 ^ 4096) < (self_501.span : Int) ∧ (self_501.span : Int) < 2 ^ 4096) <| bnd ((self_501.span * 2 ^ Int.toNat (8))) fun _span_523 => .ok (.go ((⟨self_501.probs, y512, _low_515, _span_523⟩ : St_Encoder))) else .ok (.bk (self_501)))

def F_Encoder__narrow_k1 (self_433 : St_Encoder) : Rx St_Encoder :=
  Rx.bind ((whileR 1000000 (self_433) (fun s => F_Encoder__narrow_b2  s) : Rx (Lp (St_Encoder) St_Encoder))) fun l => l.aft Rx.ok fun s => F_Encoder__narrow_r2  s

def F_Encoder__narrow (self' : St_Encoder) (chance' : Int) (decision' : Int) : Rx St_Encoder :=
  grd ((-(2 ^ 64) < ((self'.span / 4096) : Int) ∧ ((self'.span / 4096) : Int) < 2 ^ 64) ∨ (-(2 ^ 64) < (chance' : Int) ∧ (chance' : Int) < 2 ^ 64)) <| bnd (((self'.span / 4096) * chance')) fun part_432 => Rx.bind (((if (decision' : Int) = 0 then .ok ((⟨self'.probs, self'.front, self'.low, part_432⟩ : St_Encoder)) else bnd ((self'.span - part_432)) fun _span_446 => bnd ((self'.low + part_432)) fun _low_453 => (if 4294967296 ≤ _low_453 then bnd ((_low_453 - 4294967296)) fun _low_461 => Rx.bind (noEr (F_Encoder__carry ((⟨self'.probs, self'.front, _low_461, _span_446⟩ : St_Encoder)))) fun v470 => .ok (v470) else .ok ((⟨self'.probs, self'.front, _low_453, _span_446⟩ : St_Encoder)))) : Rx (St_Encoder))) fun s => F_Encoder__narrow_k1  s

def F_Encoder_code (self' : St_Encoder) (context' : Int) (decision' : Int) : Rx St_Encoder :=
  Rx.bind (F__check_context context') fun v533 => Rx.bind (F__check_decision decision') fun v534 => grd (-((self'.probs).length : Int) ≤ context' ∧ context' < ((self'.probs).length : Int)) <| bnd ((itD (self'.probs) (context'))) fun chance_536 => Rx.bind (F_Encoder__narrow (self') chance_536 decision') fun v537 => Rx.bind (noEr (F__adapted chance_536 decision')) fun v548 => grd (-((v537.probs).length : Int) ≤ context' ∧ context' < ((v537.probs).length : Int)) <| bnd (setL (v537.probs) (context') (v548)) fun y556 => .ok (⟨y556, v537.front, v537.low, v537.span⟩ : St_Encoder)

def F_SymbolWriter_flag (self' : St_SymbolWriter) (base' : Int) (value' : Bool) : Rx St_SymbolWriter :=
  Rx.bind (F__check_contexts base' 1) fun v559 => Rx.bind (F_Encoder_code (self'.enc) base' ((if value' = true then 1 else 0))) fun v563 => .ok (⟨v563⟩ : St_SymbolWriter)

def F_Decoder__shift_k1 (self_575 : St_Decoder) (octet_576 : Int) : Rx St_Decoder :=
  grd ((0 : Int) ≤ 8 ∧ (8 : Int) ≤ 4096 ∧ -(2 ^ 4096) < (self_575.value : Int) ∧ (self_575.value : Int) < 2 ^ 4096) <| bnd ((PySem.Builtin.bitOr ((self_575.value * 2 ^ Int.toNat (8))) (octet_576))) fun _value_601 => .ok (⟨self_575.probs, self_575.octs, self_575.place, self_575.span, _value_601⟩ : St_Decoder)

def F_Decoder__shift (self' : St_Decoder) : Rx St_Decoder :=
  Rx.bind (((if self'.place < (((self'.octs) : (List Int)).length : Int) then grd (-((self'.octs).length : Int) ≤ self'.place ∧ self'.place < ((self'.octs).length : Int)) <| bnd ((itD (self'.octs) (self'.place))) fun octet_583 => bnd ((self'.place + 1)) fun _place_584 => .ok (((⟨self'.probs, self'.octs, _place_584, self'.span, self'.value⟩ : St_Decoder)), (octet_583)) else .ok ((self'), (0))) : Rx (St_Decoder × Int))) fun s => F_Decoder__shift_k1  (s.1) (s.2)

def F_Decoder__decide_r2 (decision_653 : Int) (self_690 : St_Decoder) : Rx (Int × St_Decoder) :=
  .ok (decision_653, self_690)

def F_Decoder__decide_b2 (self_665 : St_Decoder) : Rx (Lp (St_Decoder) (Int × St_Decoder)) :=
  (if self_665.span < 16777216 then Rx.bind (noEr (F_Decoder__shift (self_665))) fun v669 => grd ((0 : Int) ≤ 8 ∧ (8 : Int) ≤ 4096 ∧ -(2 ^ 4096) < (v669.span : Int) ∧ (v669.span : Int) < 2 ^ 4096) <| bnd ((v669.span * 2 ^ Int.toNat (8))) fun _span_681 => .ok (.go ((⟨v669.probs, v669.octs, v669.place, _span_681, v669.value⟩ : St_Decoder))) else .ok (.bk (self_665)))

def F_Decoder__decide_k1 (decision_616 : Int) (self_617 : St_Decoder) : Rx (Int × St_Decoder) :=
  Rx.bind ((whileR 1000000 (self_617) (fun s => F_Decoder__decide_b2  s) : Rx (Lp (St_Decoder) (Int × St_Decoder)))) fun l => l.aft Rx.ok fun s => F_Decoder__decide_r2 (decision_616) s

def F_Decoder__decide (self' : St_Decoder) (chance' : Int) : Rx (Int × St_Decoder) :=
  grd ((-(2 ^ 64) < ((self'.span / 4096) : Int) ∧ ((self'.span / 4096) : Int) < 2 ^ 64) ∨ (-(2 ^ 64) < (chance' : Int) ∧ (chance' : Int) < 2 ^ 64)) <| bnd (((self'.span / 4096) * chance')) fun part_611 => bnd ((if self'.value < part_611 then 0 else 1)) fun decision_615 => Rx.bind (((if (decision_615 : Int) = 0 then .ok ((⟨self'.probs, self'.octs, self'.place, part_611, self'.value⟩ : St_Decoder)) else bnd ((self'.value - part_611)) fun _value_630 => bnd ((self'.span - part_611)) fun _span_637 => .ok ((⟨self'.probs, self'.octs, self'.place, _span_637, _value_630⟩ : St_Decoder))) : Rx (St_Decoder))) fun s => F_Decoder__decide_k1 (decision_615) s

def F_Decoder_read (self' : St_Decoder) (context' : Int) : Rx (Int × St_Decoder) :=
  Rx.bind (F__check_context context') fun v691 => grd (-((self'.probs).length : Int) ≤ context' ∧ context' < ((self'.probs).length : Int)) <| bnd ((itD (self'.probs) (context'))) fun chance_693 => Rx.bind (F_Decoder__decide (self') chance_693) fun v694 => Rx.bind (noEr (F__adapted chance_693 v694.1)) fun v705 => grd (-((v694.2.probs).length : Int) ≤ context' ∧ context' < ((v694.2.probs).length : Int)) <| bnd (setL (v694.2.probs) (context') (v705)) fun y713 => .ok (v694.1, (⟨y713, v694.2.octs, v694.2.place, v694.2.span, v694.2.value⟩ : St_Decoder))

def F_SymbolReader_flag (self' : St_SymbolReader) (base' : Int) : Rx (Bool × St_SymbolReader) :=
  Rx.bind (F__check_contexts base' 1) fun v716 => Rx.bind (F_Decoder_read (self'.dec) base') fun v717 => .ok (decide ((v717.1 : Int) = 1), (⟨v717.2⟩ : St_SymbolReader))

def F__choice_digits (base' : Int) (count' : Int) : Rx Int :=
  (if 1 ≤ count' then (if count' ≤ 16 then bnd (((PySem.Builtin.Int.intBits ((count' - 1)) : Nat) : Int)) fun digits_731 => grd ((0 : Int) ≤ digits_731 ∧ (digits_731 : Int) ≤ 4096 ∧ -(2 ^ 4096) < (1 : Int) ∧ (1 : Int) < 2 ^ 4096) <| Rx.bind (F__check_contexts base' (((1 * 2 ^ Int.toNat (digits_731)) - 1))) fun v733 => .ok (digits_731) else .er 1) else .er 1)

def F_SymbolWriter_choice_b1 (base_741 : Int) (value_742 : Int) (self_762 : St_SymbolWriter) (path_763 : Int) (it766 : Int) : Rx (St_SymbolWriter × Int) :=
  grd ((0 : Int) ≤ it766) <| bnd ((PySem.Builtin.bitAnd ((value_742 / 2 ^ Int.toNat (it766))) (1))) fun digit_768 => Rx.bind (noEr (F_Encoder_code (self_762.enc) (((base_741 + path_763) - 1)) digit_768)) fun v769 => bnd (((2 * path_763) + digit_768)) fun path_780 => .ok (((⟨v769⟩ : St_SymbolWriter)), (path_780))

def F_SymbolWriter_choice_r1 (self_790 : St_SymbolWriter) (path_791 : Int) : Rx St_SymbolWriter :=
  .ok self_790

def F_SymbolWriter_choice (self' : St_SymbolWriter) (base' : Int) (value' : Int) (count' : Int) : Rx St_SymbolWriter :=
  Rx.bind (F__choice_digits base' count') fun v734 => (if 0 ≤ value' then (if value' < count' then grd (-(2 ^ 62) ≤ ((v734 - 1) : Int) ∧ ((v734 - 1) : Int) < 2 ^ 62 ∧ -(2 ^ 62) ≤ ((-1) : Int) ∧ ((-1) : Int) < 2 ^ 62) <| Rx.bind (forS (rngD ((v734 - 1)) (Int.toNat ((v734 - 1) - (-1)))) ((self'), (1)) (fun s x => F_SymbolWriter_choice_b1 (base') (value') (s.1) (s.2) x)) fun s => F_SymbolWriter_choice_r1  (s.1) (s.2) else .er 1) else .er 1)

def F_SymbolReader_choice_b1 (base_797 : Int) (self_818 : St_SymbolReader) (path_819 : Int) (it822 : Int) : Rx (St_SymbolReader × Int) :=
  Rx.bind (noEr (F_Decoder_read (self_818.dec) (((base_797 + path_819) - 1)))) fun v823 => bnd (((2 * path_819) + v823.1)) fun path_834 => .ok (((⟨v823.2⟩ : St_SymbolReader)), (path_834))

def F_SymbolReader_choice_r1 (count_798 : Int) (digits_799 : Int) (self_844 : St_SymbolReader) (path_845 : Int) : Rx (Int × St_SymbolReader) :=
  grd ((0 : Int) ≤ digits_799 ∧ (digits_799 : Int) ≤ 4096 ∧ -(2 ^ 4096) < (1 : Int) ∧ (1 : Int) < 2 ^ 4096) <| .ok ((if (count_798 - 1) < (path_845 - (1 * 2 ^ Int.toNat (digits_799))) then (count_798 - 1) else (path_845 - (1 * 2 ^ Int.toNat (digits_799)))), self_844)

def F_SymbolReader_choice (self' : St_SymbolReader) (base' : Int) (count' : Int) : Rx (Int × St_SymbolReader) :=
  Rx.bind (F__choice_digits base' count') fun v792 => grd (-(2 ^ 62) ≤ v792 ∧ v792 < 2 ^ 62) <| Rx.bind (forS (rng (0) (Int.toNat (v792))) ((self'), (1)) (fun s x => F_SymbolReader_choice_b1 (base') (s.1) (s.2) x)) fun s => F_SymbolReader_choice_r1 (count') (v792) (s.1) (s.2)

def F__check_unary (base' : Int) (most' : Int) : Rx Unit :=
  (if 0 ≤ most' then (if most' ≤ 64 then Rx.bind (F__check_contexts base' ((if 8 < most' then 8 else most'))) fun v849 => .ok (()) else .er 1) else .er 1)

def F_SymbolWriter_unary_b1 (base_854 : Int) (self_871 : St_SymbolWriter) (it874 : Int) : Rx (St_SymbolWriter) :=
  Rx.bind (noEr (F_Encoder_code (self_871.enc) ((base_854 + (if (8 - 1) < it874 then (8 - 1) else it874))) 1)) fun v875 => .ok ((⟨v875⟩ : St_SymbolWriter))

def F_SymbolWriter_unary_r1 (base_855 : Int) (value_856 : Int) (most_857 : Int) (self_895 : St_SymbolWriter) : Rx St_SymbolWriter :=
  (if value_856 < most_857 then Rx.bind (noEr (F_Encoder_code (self_895.enc) ((base_855 + (if (8 - 1) < value_856 then (8 - 1) else value_856))) 0)) fun v897 => .ok (⟨v897⟩ : St_SymbolWriter) else .ok self_895)

def F_SymbolWriter_unary (self' : St_SymbolWriter) (base' : Int) (value' : Int) (most' : Int) : Rx St_SymbolWriter :=
  Rx.bind (F__check_unary base' most') fun v850 => (if 0 ≤ value' then (if value' ≤ most' then grd (-(2 ^ 62) ≤ value' ∧ value' < 2 ^ 62) <| Rx.bind (forS (rng (0) (Int.toNat (value'))) (self') (fun s x => F_SymbolWriter_unary_b1 (base') s x)) fun s => F_SymbolWriter_unary_r1 (base') (value') (most') s else .er 1) else .er 1)

def F_SymbolReader_unary_r1 (self_944 : St_SymbolReader) (value_945 : Int) : Rx (Int × St_SymbolReader) :=
  .ok (value_945, self_944)

def F_SymbolReader_unary_b1 (base_910 : Int) (most_911 : Int) (self_925 : St_SymbolReader) (value_926 : Int) : Rx (Lp (St_SymbolReader × Int) (Int × St_SymbolReader)) :=
  (if value_926 < most_911 then Rx.bind (noEr (F_Decoder_read (self_925.dec) ((base_910 + (if (8 - 1) < value_926 then (8 - 1) else value_926))))) fun v930 => (if (v930.1 : Int) = 1 then bnd ((value_926 + 1)) fun value_942 => .ok (.go (((⟨v930.2⟩ : St_SymbolReader)), (value_942))) else .ok (.bk (((⟨v930.2⟩ : St_SymbolReader)), (value_926)))) else .ok (.bk ((self_925), (value_926))))

def F_SymbolReader_unary (self' : St_SymbolReader) (base' : Int) (most' : Int) : Rx (Int × St_SymbolReader) :=
  Rx.bind (F__check_unary base' most') fun v909 => Rx.bind ((whileR 1000000 ((self'), (0)) (fun s => F_SymbolReader_unary_b1 (base') (most') (s.1) (s.2)) : Rx (Lp (St_SymbolReader × Int) (Int × St_SymbolReader)))) fun l => l.aft Rx.ok fun s => F_SymbolReader_unary_r1  (s.1) (s.2)

def F__digit_context (base' : Int) (digits' : Int) : Rx Int :=
  .ok (((base' + 8) + (if (8 - 1) < (digits' - 1) then (8 - 1) else (digits' - 1))))

def F_Encoder_code_even (self' : St_Encoder) (decision' : Int) : Rx St_Encoder :=
  Rx.bind (F__check_decision decision') fun v949 => Rx.bind (F_Encoder__narrow (self') 2048 decision') fun v950 => .ok v950

def F_SymbolWriter_number_b1 (base_978 : Int) (value_979 : Int) (digits_980 : Int) (self_995 : St_SymbolWriter) (it998 : Int) : Rx (St_SymbolWriter) :=
  grd ((0 : Int) ≤ it998) <| bnd ((PySem.Builtin.bitAnd (((value_979 + 1) / 2 ^ Int.toNat (it998))) (1))) fun digit_1000 => (if (it998 : Int) = (digits_980 - 1) then Rx.bind (noEr (F__digit_context base_978 digits_980)) fun v1002 => Rx.bind (noEr (F_Encoder_code (self_995.enc) v1002 digit_1000)) fun v1003 => .ok ((⟨v1003⟩ : St_SymbolWriter)) else Rx.bind (noEr (F_Encoder_code_even (self_995.enc) digit_1000)) fun v1015 => .ok ((⟨v1015⟩ : St_SymbolWriter)))

def F_SymbolWriter_number_r1 (self_1035 : St_SymbolWriter) : Rx St_SymbolWriter :=
  .ok self_1035

def F_SymbolWriter_number (self' : St_SymbolWriter) (base' : Int) (value' : Int) : Rx St_SymbolWriter :=
  Rx.bind (F__check_contexts base' ((2 * 8))) fun v961 => (if 0 ≤ value' then (if value' ≤ 1048576 then bnd ((((PySem.Builtin.Int.intBits ((value' + 1)) : Nat) : Int) - 1)) fun digits_964 => Rx.bind (F_SymbolWriter_unary (self') base' digits_964 20) fun v965 => grd (-(2 ^ 62) ≤ ((digits_964 - 1) : Int) ∧ ((digits_964 - 1) : Int) < 2 ^ 62 ∧ -(2 ^ 62) ≤ ((-1) : Int) ∧ ((-1) : Int) < 2 ^ 62) <| Rx.bind (forS (rngD ((digits_964 - 1)) (Int.toNat ((digits_964 - 1) - (-1)))) (v965) (fun s x => F_SymbolWriter_number_b1 (base') (value') (digits_964) s x)) fun s => F_SymbolWriter_number_r1  s else .er 1) else .er 1)

def F_Decoder_read_even (self' : St_Decoder) : Rx (Int × St_Decoder) :=
  Rx.bind (F_Decoder__decide (self') 2048) fun v1036 => .ok (v1036.1, v1036.2)

def F_SymbolReader_number_b2 (self_1105 : St_SymbolReader) (grown_1106 : Int) (it1109 : Int) : Rx (St_SymbolReader × Int) :=
  Rx.bind (noEr (F_Decoder_read_even (self_1105.dec))) fun v1110 => bnd (((2 * grown_1106) + v1110.1)) fun grown_1121 => .ok (((⟨v1110.2⟩ : St_SymbolReader)), (grown_1121))

def F_SymbolReader_number_r2 (self_1131 : St_SymbolReader) (grown_1132 : Int) : Rx (Int × St_SymbolReader) :=
  .ok ((if 1048576 < (grown_1132 - 1) then 1048576 else (grown_1132 - 1)), self_1131)

def F_SymbolReader_number_k1 (digits_1060 : Int) (self_1061 : St_SymbolReader) (grown_1062 : Int) : Rx (Int × St_SymbolReader) :=
  grd (-(2 ^ 62) ≤ (digits_1060 - 1) ∧ (digits_1060 - 1) < 2 ^ 62) <| Rx.bind (forS (rng (0) (Int.toNat ((digits_1060 - 1)))) ((self_1061), (grown_1062)) (fun s x => F_SymbolReader_number_b2  (s.1) (s.2) x)) fun s => F_SymbolReader_number_r2  (s.1) (s.2)

def F_SymbolReader_number (self' : St_SymbolReader) (base' : Int) : Rx (Int × St_SymbolReader) :=
  Rx.bind (F__check_contexts base' ((2 * 8))) fun v1047 => Rx.bind (F_SymbolReader_unary (self') base' 20) fun v1048 => Rx.bind (((if 0 < v1048.1 then Rx.bind (noEr (F__digit_context base' v1048.1)) fun v1068 => Rx.bind (noEr (F_Decoder_read (v1048.2.dec) v1068)) fun v1069 => bnd ((2 + v1069.1)) fun grown_1080 => .ok (((⟨v1069.2⟩ : St_SymbolReader)), (grown_1080)) else .ok ((v1048.2), (1))) : Rx (St_SymbolReader × Int))) fun s => F_SymbolReader_number_k1 (v1048.1) (s.1) (s.2)

def F_SymbolWriter_signed (self' : St_SymbolWriter) (base' : Int) (value' : Int) : Rx St_SymbolWriter :=
  Rx.bind (F_SymbolWriter_number (self') base' ((if value' < 0 then -value' else value'))) fun v1133 => (if (value' : Int) = 0 then .ok v1133 else Rx.bind (noEr (F_Encoder_code_even (v1133.enc) ((if value' < 0 then 1 else 0)))) fun v1149 => .ok (⟨v1149⟩ : St_SymbolWriter))

def F_SymbolReader_signed (self' : St_SymbolReader) (base' : Int) : Rx (Int × St_SymbolReader) :=
  Rx.bind (F_SymbolReader_number (self') base') fun v1161 => (if (v1161.1 : Int) = 0 then .ok (v1161.1, v1161.2) else Rx.bind (noEr (F_Decoder_read_even (v1161.2.dec))) fun v1174 => (if (v1174.1 : Int) = 1 then .ok ((-v1161.1), (⟨v1174.2⟩ : St_SymbolReader)) else .ok (v1161.1, (⟨v1174.2⟩ : St_SymbolReader))))

def F_SymbolWriter_even (self' : St_SymbolWriter) (decision' : Int) : Rx St_SymbolWriter :=
  Rx.bind (F_Encoder_code_even (self'.enc) decision') fun v1188 => .ok (⟨v1188⟩ : St_SymbolWriter)

def F_SymbolReader_even (self' : St_SymbolReader) : Rx (Int × St_SymbolReader) :=
  Rx.bind (F_Decoder_read_even (self'.dec)) fun v1200 => .ok (v1200.1, (⟨v1200.2⟩ : St_SymbolReader))

def F__law_put (writer' : St_SymbolWriter) (symbol' : (Int × Int × Int × Int)) : Rx St_SymbolWriter :=
  (if (symbol'.1 : Int) = 0 then Rx.bind (F_SymbolWriter_flag (writer') symbol'.2.1 (decide ((symbol'.2.2.1 : Int) = 1))) fun v1223 => (if (symbol'.1 : Int) = 1 then Rx.bind (noEr (F_SymbolWriter_choice (v1223) symbol'.2.1 symbol'.2.2.1 symbol'.2.2.2)) fun v1236 => (if (symbol'.1 : Int) = 2 then Rx.bind (noEr (F_SymbolWriter_unary (v1236) symbol'.2.1 symbol'.2.2.1 symbol'.2.2.2)) fun v1249 => (if (symbol'.1 : Int) = 3 then Rx.bind (noEr (F_SymbolWriter_number (v1249) symbol'.2.1 symbol'.2.2.1)) fun v1262 => (if (symbol'.1 : Int) = 4 then Rx.bind (noEr (F_SymbolWriter_signed (v1262) symbol'.2.1 symbol'.2.2.1)) fun v1275 => (if (symbol'.1 : Int) = 5 then Rx.bind (noEr (F_SymbolWriter_even (v1275) symbol'.2.2.1)) fun v1288 => .ok v1288 else .ok v1275) else (if (symbol'.1 : Int) = 5 then Rx.bind (noEr (F_SymbolWriter_even (v1262) symbol'.2.2.1)) fun v1301 => .ok v1301 else .ok v1262)) else (if (symbol'.1 : Int) = 4 then Rx.bind (noEr (F_SymbolWriter_signed (v1249) symbol'.2.1 symbol'.2.2.1)) fun v1314 => (if (symbol'.1 : Int) = 5 then Rx.bind (noEr (F_SymbolWriter_even (v1314) symbol'.2.2.1)) fun v1327 => .ok v1327 else .ok v1314) else (if (symbol'.1 : Int) = 5 then Rx.bind (noEr (F_SymbolWriter_even (v1249) symbol'.2.2.1)) fun v1340 => .ok v1340 else .ok v1249))) else (if (symbol'.1 : Int) = 3 then Rx.bind (noEr (F_SymbolWriter_number (v1236) symbol'.2.1 symbol'.2.2.1)) fun v1353 => (if (symbol'.1 : Int) = 4 then Rx.bind (noEr (F_SymbolWriter_signed (v1353) symbol'.2.1 symbol'.2.2.1)) fun v1366 => (if (symbol'.1 : Int) = 5 then Rx.bind (noEr (F_SymbolWriter_even (v1366) symbol'.2.2.1)) fun v1379 => .ok v1379 else .ok v1366) else (if (symbol'.1 : Int) = 5 then Rx.bind (noEr (F_SymbolWriter_even (v1353) symbol'.2.2.1)) fun v1392 => .ok v1392 else .ok v1353)) else (if (symbol'.1 : Int) = 4 then Rx.bind (noEr (F_SymbolWriter_signed (v1236) symbol'.2.1 symbol'.2.2.1)) fun v1405 => (if (symbol'.1 : Int) = 5 then Rx.bind (noEr (F_SymbolWriter_even (v1405) symbol'.2.2.1)) fun v1418 => .ok v1418 else .ok v1405) else (if (symbol'.1 : Int) = 5 then Rx.bind (noEr (F_SymbolWriter_even (v1236) symbol'.2.2.1)) fun v1431 => .ok v1431 else .ok v1236)))) else (if (symbol'.1 : Int) = 2 then Rx.bind (noEr (F_SymbolWriter_unary (v1223) symbol'.2.1 symbol'.2.2.1 symbol'.2.2.2)) fun v1444 => (if (symbol'.1 : Int) = 3 then Rx.bind (noEr (F_SymbolWriter_number (v1444) symbol'.2.1 symbol'.2.2.1)) fun v1457 => (if (symbol'.1 : Int) = 4 then Rx.bind (noEr (F_SymbolWriter_signed (v1457) symbol'.2.1 symbol'.2.2.1)) fun v1470 => (if (symbol'.1 : Int) = 5 then Rx.bind (noEr (F_SymbolWriter_even (v1470) symbol'.2.2.1)) fun v1483 => .ok v1483 else .ok v1470) else (if (symbol'.1 : Int) = 5 then Rx.bind (noEr (F_SymbolWriter_even (v1457) symbol'.2.2.1)) fun v1496 => .ok v1496 else .ok v1457)) else (if (symbol'.1 : Int) = 4 then Rx.bind (noEr (F_SymbolWriter_signed (v1444) symbol'.2.1 symbol'.2.2.1)) fun v1509 => (if (symbol'.1 : Int) = 5 then Rx.bind (noEr (F_SymbolWriter_even (v1509) symbol'.2.2.1)) fun v1522 => .ok v1522 else .ok v1509) else (if (symbol'.1 : Int) = 5 then Rx.bind (noEr (F_SymbolWriter_even (v1444) symbol'.2.2.1)) fun v1535 => .ok v1535 else .ok v1444))) else (if (symbol'.1 : Int) = 3 then Rx.bind (noEr (F_SymbolWriter_number (v1223) symbol'.2.1 symbol'.2.2.1)) fun v1548 => (if (symbol'.1 : Int) = 4 then Rx.bind (noEr (F_SymbolWriter_signed (v1548) symbol'.2.1 symbol'.2.2.1)) fun v1561 => (if (symbol'.1 : Int) = 5 then Rx.bind (noEr (F_SymbolWriter_even (v1561) symbol'.2.2.1)) fun v1574 => .ok v1574 else .ok v1561) else (if (symbol'.1 : Int) = 5 then Rx.bind (noEr (F_SymbolWriter_even (v1548) symbol'.2.2.1)) fun v1587 => .ok v1587 else .ok v1548)) else (if (symbol'.1 : Int) = 4 then Rx.bind (noEr (F_SymbolWriter_signed (v1223) symbol'.2.1 symbol'.2.2.1)) fun v1600 => (if (symbol'.1 : Int) = 5 then Rx.bind (noEr (F_SymbolWriter_even (v1600) symbol'.2.2.1)) fun v1613 => .ok v1613 else .ok v1600) else (if (symbol'.1 : Int) = 5 then Rx.bind (noEr (F_SymbolWriter_even (v1223) symbol'.2.2.1)) fun v1626 => .ok v1626 else .ok v1223))))) else (if (symbol'.1 : Int) = 1 then Rx.bind (F_SymbolWriter_choice (writer') symbol'.2.1 symbol'.2.2.1 symbol'.2.2.2) fun v1639 => (if (symbol'.1 : Int) = 2 then Rx.bind (noEr (F_SymbolWriter_unary (v1639) symbol'.2.1 symbol'.2.2.1 symbol'.2.2.2)) fun v1652 => (if (symbol'.1 : Int) = 3 then Rx.bind (noEr (F_SymbolWriter_number (v1652) symbol'.2.1 symbol'.2.2.1)) fun v1665 => (if (symbol'.1 : Int) = 4 then Rx.bind (noEr (F_SymbolWriter_signed (v1665) symbol'.2.1 symbol'.2.2.1)) fun v1678 => (if (symbol'.1 : Int) = 5 then Rx.bind (noEr (F_SymbolWriter_even (v1678) symbol'.2.2.1)) fun v1691 => .ok v1691 else .ok v1678) else (if (symbol'.1 : Int) = 5 then Rx.bind (noEr (F_SymbolWriter_even (v1665) symbol'.2.2.1)) fun v1704 => .ok v1704 else .ok v1665)) else (if (symbol'.1 : Int) = 4 then Rx.bind (noEr (F_SymbolWriter_signed (v1652) symbol'.2.1 symbol'.2.2.1)) fun v1717 => (if (symbol'.1 : Int) = 5 then Rx.bind (noEr (F_SymbolWriter_even (v1717) symbol'.2.2.1)) fun v1730 => .ok v1730 else .ok v1717) else (if (symbol'.1 : Int) = 5 then Rx.bind (noEr (F_SymbolWriter_even (v1652) symbol'.2.2.1)) fun v1743 => .ok v1743 else .ok v1652))) else (if (symbol'.1 : Int) = 3 then Rx.bind (noEr (F_SymbolWriter_number (v1639) symbol'.2.1 symbol'.2.2.1)) fun v1756 => (if (symbol'.1 : Int) = 4 then Rx.bind (noEr (F_SymbolWriter_signed (v1756) symbol'.2.1 symbol'.2.2.1)) fun v1769 => (if (symbol'.1 : Int) = 5 then Rx.bind (noEr (F_SymbolWriter_even (v1769) symbol'.2.2.1)) fun v1782 => .ok v1782 else .ok v1769) else (if (symbol'.1 : Int) = 5 then Rx.bind (noEr (F_SymbolWriter_even (v1756) symbol'.2.2.1)) fun v1795 => .ok v1795 else .ok v1756)) else (if (symbol'.1 : Int) = 4 then Rx.bind (noEr (F_SymbolWriter_signed (v1639) symbol'.2.1 symbol'.2.2.1)) fun v1808 => (if (symbol'.1 : Int) = 5 then Rx.bind (noEr (F_SymbolWriter_even (v1808) symbol'.2.2.1)) fun v1821 => .ok v1821 else .ok v1808) else (if (symbol'.1 : Int) = 5 then Rx.bind (noEr (F_SymbolWriter_even (v1639) symbol'.2.2.1)) fun v1834 => .ok v1834 else .ok v1639)))) else (if (symbol'.1 : Int) = 2 then Rx.bind (F_SymbolWriter_unary (writer') symbol'.2.1 symbol'.2.2.1 symbol'.2.2.2) fun v1847 => (if (symbol'.1 : Int) = 3 then Rx.bind (noEr (F_SymbolWriter_number (v1847) symbol'.2.1 symbol'.2.2.1)) fun v1860 => (if (symbol'.1 : Int) = 4 then Rx.bind (noEr (F_SymbolWriter_signed (v1860) symbol'.2.1 symbol'.2.2.1)) fun v1873 => (if (symbol'.1 : Int) = 5 then Rx.bind (noEr (F_SymbolWriter_even (v1873) symbol'.2.2.1)) fun v1886 => .ok v1886 else .ok v1873) else (if (symbol'.1 : Int) = 5 then Rx.bind (noEr (F_SymbolWriter_even (v1860) symbol'.2.2.1)) fun v1899 => .ok v1899 else .ok v1860)) else (if (symbol'.1 : Int) = 4 then Rx.bind (noEr (F_SymbolWriter_signed (v1847) symbol'.2.1 symbol'.2.2.1)) fun v1912 => (if (symbol'.1 : Int) = 5 then Rx.bind (noEr (F_SymbolWriter_even (v1912) symbol'.2.2.1)) fun v1925 => .ok v1925 else .ok v1912) else (if (symbol'.1 : Int) = 5 then Rx.bind (noEr (F_SymbolWriter_even (v1847) symbol'.2.2.1)) fun v1938 => .ok v1938 else .ok v1847))) else (if (symbol'.1 : Int) = 3 then Rx.bind (F_SymbolWriter_number (writer') symbol'.2.1 symbol'.2.2.1) fun v1951 => (if (symbol'.1 : Int) = 4 then Rx.bind (noEr (F_SymbolWriter_signed (v1951) symbol'.2.1 symbol'.2.2.1)) fun v1964 => (if (symbol'.1 : Int) = 5 then Rx.bind (noEr (F_SymbolWriter_even (v1964) symbol'.2.2.1)) fun v1977 => .ok v1977 else .ok v1964) else (if (symbol'.1 : Int) = 5 then Rx.bind (noEr (F_SymbolWriter_even (v1951) symbol'.2.2.1)) fun v1990 => .ok v1990 else .ok v1951)) else (if (symbol'.1 : Int) = 4 then Rx.bind (F_SymbolWriter_signed (writer') symbol'.2.1 symbol'.2.2.1) fun v2003 => (if (symbol'.1 : Int) = 5 then Rx.bind (noEr (F_SymbolWriter_even (v2003) symbol'.2.2.1)) fun v2016 => .ok v2016 else .ok v2003) else (if (symbol'.1 : Int) = 5 then Rx.bind (F_SymbolWriter_even (writer') symbol'.2.2.1) fun v2029 => .ok v2029 else .ok writer'))))))

def F_Decoder___init___b1 (self_2116 : St_Decoder) (it2119 : Int) : Rx (St_Decoder) :=
  Rx.bind (noEr (F_Decoder__shift (self_2116))) fun v2120 => .ok (v2120)

def F_Decoder___init___r1 (self_2138 : St_Decoder) : Rx St_Decoder :=
  bnd ((if (4294967296 - 2) < self_2138.value then (4294967296 - 2) else self_2138.value)) fun _value_2139 => .ok (⟨self_2138.probs, self_2138.octs, self_2138.place, self_2138.span, _value_2139⟩ : St_Decoder)

def F_Decoder___init__ (octets' : (List Int)) : Rx St_Decoder :=
  grd (-(2 ^ 63) ≤ (256 : Int) ∧ (256 : Int) < 2 ^ 63 ∧ ([2048]).length * Int.toNat (256) ≤ 1000000) <| bnd ((4294967296 - 1)) fun _span_2089 => Rx.bind (forS (rng (0) (Int.toNat (4))) ((⟨repL ([2048]) (256), octets', 0, _span_2089, 0⟩ : St_Decoder)) (fun s x => F_Decoder___init___b1  s x)) fun s => F_Decoder___init___r1  s

def F__law_get (reader' : St_SymbolReader) (symbol' : (Int × Int × Int × Int)) : Rx (Bi × St_SymbolReader) :=
  (if (symbol'.1 : Int) = 0 then Rx.bind (F_SymbolReader_flag (reader') symbol'.2.1) fun v2159 => .ok (Bi.b (v2159.1), v2159.2) else (if (symbol'.1 : Int) = 1 then Rx.bind (F_SymbolReader_choice (reader') symbol'.2.1 symbol'.2.2.2) fun v2172 => .ok (Bi.n (v2172.1), v2172.2) else (if (symbol'.1 : Int) = 2 then Rx.bind (F_SymbolReader_unary (reader') symbol'.2.1 symbol'.2.2.2) fun v2185 => .ok (Bi.n (v2185.1), v2185.2) else (if (symbol'.1 : Int) = 3 then Rx.bind (F_SymbolReader_number (reader') symbol'.2.1) fun v2198 => .ok (Bi.n (v2198.1), v2198.2) else (if (symbol'.1 : Int) = 5 then Rx.bind (F_SymbolReader_even (reader')) fun v2211 => .ok (Bi.n (v2211.1), v2211.2) else Rx.bind (F_SymbolReader_signed (reader') symbol'.2.1) fun v2223 => .ok (Bi.n (v2223.1), v2223.2))))))

def F_Encoder_octets_c1 (self_2247 : St_Encoder) (it2288 : Int) : Rx Int :=
  grd ((0 : Int) ≤ it2288) <| .ok ((PySem.Builtin.bitAnd ((self_2247.low / 2 ^ Int.toNat (it2288))) (255)))

def F_Encoder_octets_r2 (octets_2341 : (List Int)) : Rx (List Int) :=
  .ok (octets_2341)

def F_Encoder_octets_b2 (octets_2327 : (List Int)) : Rx (Lp ((List Int)) (List Int)) :=
  (if (octets_2327 : (List Int)) = [] then .ok (.bk (octets_2327)) else grd (-((octets_2327).length : Int) ≤ (-1) ∧ (-1) < ((octets_2327).length : Int)) <| (if ((itD (octets_2327) ((-1))) : Int) = 0 then grd ((octets_2327) ≠ []) <| bnd ((octets_2327).dropLast) fun y2340 => .ok (.go (y2340)) else .ok (.bk (octets_2327))))

def F_Encoder_octets (self' : St_Encoder) : Rx (List Int) :=
  Rx.bind (mapA ([24, 16, 8, 0]) [] (fun x => noEr (F_Encoder_octets_c1 (self') x))) fun v2248 => grd ((self'.front).length + (v2248).length ≤ 1000000) <| Rx.bind ((whileR 1000000 ((self'.front) ++ (v2248)) (fun s => F_Encoder_octets_b2  s) : Rx (Lp ((List Int)) (List Int)))) fun l => l.aft Rx.ok fun s => F_Encoder_octets_r2  s

def F_law_c1 (it2383 : Int) : Rx (Int × Int × Int × Int) :=
  Rx.bind (F__law_symbol it2383) fun v2384 => .ok v2384

def F_law_b2 (writer_2506 : St_SymbolWriter) (it2509 : (Int × Int × Int × Int)) : Rx (St_SymbolWriter) :=
  Rx.bind (F__law_put (writer_2506) (it2509)) fun v2510 => .ok (v2510)

def F_law_b3 (reader_2638 : St_SymbolReader) (it2641 : (Int × Int × Int × Int)) : Rx (Lp (St_SymbolReader) Bool) :=
  Rx.bind (F__law_get (reader_2638) (it2641)) fun v2642 => Bi.el (v2642.1) (fun x2655 => (if (it2641.1 : Int) = 0 then (if V.bl (x2655) = V.bl (decide ((it2641.2.2.1 : Int) = 1)) then (if 0 < it2641.1 then .ok (.rt (false)) else .ok (.go (v2642.2))) else .ok (.rt (false))) else (if 0 < it2641.1 then .ok (.rt (false)) else .ok (.go (v2642.2))))) (fun x2655 => (if (it2641.1 : Int) = 0 then .ok (.rt (false)) else (if 0 < it2641.1 then (if (x2655 : Int) = it2641.2.2.1 then .ok (.go (v2642.2)) else .ok (.rt (false))) else .ok (.go (v2642.2)))))

def F_law_r3 (reader_2696 : St_SymbolReader) : Rx Bool :=
  .ok (true)

def F_law_r2 (symbols_2468 : (List (Int × Int × Int × Int))) (writer_2532 : St_SymbolWriter) : Rx Bool :=
  Rx.bind (F_Encoder_octets (writer_2532.enc)) fun v2533 => Rx.bind (F_Decoder___init__ (v2533)) fun v2554 => Rx.bind (F_SymbolReader___init__ (v2554)) fun v2582 => Rx.bind (forR (symbols_2468) ((⟨v2554⟩ : St_SymbolReader)) (fun s x => F_law_b3  s x)) fun l => l.aft Rx.ok fun s => F_law_r3  s

def F_law (script' : (List Int)) : Rx Bool :=
  Rx.bind (mapA (script') [] (fun x => noEr (F_law_c1  x))) fun v2343 => Rx.bind F_Encoder___init__ fun v2434 => Rx.bind (F_SymbolWriter___init__ (v2434)) fun v2462 => Rx.bind (forS (v2343) ((⟨v2434⟩ : St_SymbolWriter)) (fun s x => F_law_b2  s x)) fun s => F_law_r2 (v2343) s
def Inb : List Int → List Int → Prop
  | [], [] => True
  | v :: vs, l :: ls => 0 ≤ v ∧ v < l ∧ Inb vs ls
  | _, _ => False
theorem Inb.snoc : ∀ {vs ls : List Int} {y l : Int}, Inb vs ls → 0 ≤ y → y < l → Inb (vs ++ [y]) (ls ++ [l])
  | [], [], _, _, _, h0, h1 => ⟨h0, h1, trivial⟩
  | _ :: _, _ :: _, _, _, h, h0, h1 => ⟨h.1, h.2.1, Inb.snoc h.2.2 h0 h1⟩
  | [], _ :: _, _, _, h, _, _ => h.elim
  | _ :: _, [], _, _, h, _, _ => h.elim
theorem Inb.len : ∀ {vs ls : List Int}, Inb vs ls → vs.length = ls.length
  | [], [], _ => rfl
  | _ :: _, _ :: _, h => congrArg Nat.succ (Inb.len h.2.2)
  | [], _ :: _, h => h.elim
  | _ :: _, [], h => h.elim
theorem Inb.cons {v ls : List Int} {l : Int} (h : Inb v (l :: ls)) : ∃ a r, v = a :: r ∧ 0 ≤ a ∧ a < l ∧ Inb r ls := by
  cases v with
  | nil => exact h.elim
  | cons a r => exact ⟨a, r, rfl, h.1, h.2.1, h.2.2⟩
theorem Inb.nil {v : List Int} (h : Inb v []) : v = [] := by
  cases v with
  | nil => rfl
  | cons a r => exact h.elim
theorem draws_gv (cell : Int) (limits : List Int) (hl : ∀ l ∈ limits, 0 < l ∧ l < 18446744073709551616) (hn : limits.length ≤ 1000000) : Gv (F__law_draws cell limits) (fun v => Inb v limits) := by
  unfold F__law_draws
  refine Gv.bnd fun rest _ => Gv.bnd fun state _ => Gv.bnd fun free _ => Gv.bind (Gv.forS (P := fun i s => Inb s.1 (limits.take i)) ?_ fun i x s hx p => ?_) fun s p => .ok ?_
  · rw [List.take_zero]
    trivial
  · have hb0 := hl x (List.mem_of_getElem? hx)
    have hb : 0 < x ∧ x < 2 ^ 128 := ⟨hb0.1, by omega⟩
    have hlen := p.len
    have hi := get_len hx
    rw [List.length_take] at hlen
    have nx : ∀ y : Int, 0 ≤ y → y < x → Inb (s.1 ++ [y]) (limits.take (i + 1)) := fun y h0 h1 => by
      rw [take_succ_get hx]
      exact p.snoc h0 h1
    unfold F__law_draws_b1
    refine Gv.ite (fun _ => Gv.ite (fun _ => Gv.grd hb.1 (Gv.grd (by omega) (Gv.bnd fun y hy => Gv.grd ⟨hb.1, hb.2⟩ (Gv.bnd fun _ _ => .ok ?_)))) fun _ => Gv.bnd fun _ _ => Gv.bnd fun _ _ => Gv.grd hb.1 (Gv.grd (by omega) (Gv.bnd fun y hy => .ok ?_))) fun _ => Gv.bnd fun _ _ => Gv.bnd fun _ _ => Gv.grd hb.1 (Gv.grd (by omega) (Gv.bnd fun y hy => .ok ?_))
    · subst hy
      exact nx _ (Int.emod_nonneg _ (by omega)) (Int.emod_lt_of_pos _ hb.1)
    · subst hy
      exact nx _ (Int.emod_nonneg _ (by omega)) (Int.emod_lt_of_pos _ hb.1)
    · subst hy
      exact nx _ (Int.emod_nonneg _ (by omega)) (Int.emod_lt_of_pos _ hb.1)
  · rw [List.take_length] at p
    exact p
theorem ixg {xs : List Int} {k : Int} {n : Nat} (e : xs.length = n) (h : -(n : Int) ≤ k ∧ k < n) : -(xs.length : Int) ≤ k ∧ k < xs.length := by
  rw [e]
  exact h
theorem itD_lit {xs : List Int} {a k : Int} (n : Nat) (e : k = (n : Int)) (h : xs[n]? = some a) : itD xs k = a := by
  subst e
  have hl := get_len h
  unfold itD atI ixN
  rw [if_pos (by omega), if_pos (by omega)]
  show (xs[n]?).getD default = a
  rw [h]
  rfl
theorem sIx_in {n d : Nat} {v : Int} (h0 : 0 ≤ v) (h1 : v ≤ n) : HT.sIx n d (some v) = v.toNat := by
  show (if v < 0 then (v + (n : Int)).toNat else min v.toNat n) = v.toNat
  rw [if_neg (by omega)]
  omega
theorem itD_nat {α : Type} [Inhabited α] {xs : List α} {k : Int} (n : Nat) (e : k = (n : Int)) {a : α} (h : xs[n]? = some a) : itD xs k = a := by
  subst e
  have hl := get_len h
  unfold itD atI ixN
  rw [if_pos (by omega), if_pos (by omega)]
  show (xs[n]?).getD default = a
  rw [h]
  rfl
theorem rng_at' {lo : Int} {n i : Nat} (h : i < n) : (rng lo n)[i]? = some (lo + (i : Int)) := rng_get h
theorem cut_rng {α : Type} [Inhabited α] {xs : List α} {a n : Int} (h0 : 0 ≤ a) (hn : 0 ≤ n) (h1 : a + n ≤ xs.length) : cutL xs (some a) (some (a + n)) = (rng 0 n.toNat).map (fun j => itD xs (a + j)) := by
  unfold cutL
  rw [sIx_in h0 (by omega), sIx_in (by omega) h1]
  apply List.ext_getElem?
  intro i
  by_cases hi : i < n.toNat
  · rw [List.getElem?_take_of_lt (by omega), List.getElem?_drop, List.getElem?_map, rng_get hi]
    have hl : a.toNat + i < xs.length := by omega
    rw [List.getElem?_eq_getElem hl]
    show some _ = some (itD xs (a + (0 + (i : Int))))
    rw [itD_nat (a.toNat + i) (by omega) (List.getElem?_eq_getElem hl)]
  · rw [List.getElem?_eq_none (by rw [List.length_take, List.length_drop]; omega), List.getElem?_eq_none (by rw [List.length_map, rng_len]; omega)]
theorem cut_len {α : Type} {xs : List α} {a b : Int} (h0 : 0 ≤ a) (hn : a ≤ b) (h1 : b ≤ xs.length) : ((cutL xs (some a) (some b)).length : Int) = b - a := by
  unfold cutL
  rw [sIx_in h0 (by omega), sIx_in (by omega) h1, List.length_take, List.length_drop]
  omega
theorem rep1 {α : Type} (a : α) (n : Int) : repL [a] n = List.replicate n.toNat a := by
  unfold repL
  induction n.toNat with
  | zero => rfl
  | succ k ih => rw [List.replicate_succ, List.flatten_cons, ih, List.replicate_succ]; rfl
theorem rep1_len {α : Type} (a : α) {n : Int} (h : 0 ≤ n) : ((repL [a] n).length : Int) = n := by
  rw [rep1, List.length_replicate]
  omega
theorem rep1_at {α : Type} [Inhabited α] (a : α) {n : Int} (h : 0 < n) : itD (repL [a] n) 0 = a := by
  rw [rep1]
  obtain ⟨k, hk⟩ : ∃ k, n.toNat = k + 1 := ⟨n.toNat - 1, by omega⟩
  rw [hk, List.replicate_succ]
  exact itD_nat 0 rfl rfl
theorem rep1_mem {α : Type} {a b : α} {n : Int} (h : b ∈ repL [a] n) : b = a := by
  rw [rep1] at h
  exact List.eq_of_mem_replicate h
theorem itD_mem {α : Type} [Inhabited α] {xs : List α} {k : Int} (h0 : 0 ≤ k) (h1 : k < xs.length) : itD xs k ∈ xs := by
  have hl : k.toNat < xs.length := by omega
  rw [itD_nat k.toNat (by omega) (List.getElem?_eq_getElem hl)]
  exact List.getElem_mem hl
namespace Pu
theorem len_rep1 {α : Type} (a : α) (k : Int) : (repL [a] k).length = k.toNat := by
  unfold repL
  simp
theorem mem_rep1 {α : Type} {a x : α} {k : Int} (h : x ∈ repL [a] k) : x = a := by
  unfold repL at h
  simp at h
  exact h.2
theorem itD_nat {α : Type} [Inhabited α] {e : List α} {k : Nat} {x : α} (h : e[k]? = some x) : itD e (k : Int) = x := by
  unfold itD atI ixN
  have hk := (List.getElem?_eq_some_iff.mp h).1
  rw [if_pos (by omega), if_pos (by omega)]
  simp [h]
theorem itD_mem {α : Type} [Inhabited α] {e : List α} {k : Int} (h : -(e.length : Int) ≤ k ∧ k < e.length) : itD e k ∈ e := by
  obtain ⟨j, hj, hl⟩ := ixN_some h
  unfold itD atI
  rw [hj]
  show (e[j]?).getD default ∈ e
  rw [List.getElem?_eq_getElem hl]
  exact List.getElem_mem hl
abbrev EncS := St_Encoder
def adaptE (p d : Int) : Int := if d = 0 then p + (4096 - p) / 32 else p - p / 32
theorem adaptE_in {p d : Int} (h : 31 ≤ p ∧ p ≤ 4065) : 31 ≤ adaptE p d ∧ adaptE p d ≤ 4065 := by
  unfold adaptE
  split <;> omega
def num (xs : List Int) : Int := xs.foldl (fun a x => a * 256 + x) 0
theorem num_snoc (xs : List Int) (x : Int) : num (xs ++ [x]) = num xs * 256 + x := by
  unfold num
  rw [List.foldl_append] <;> rfl
def incR : List Int → List Int
  | [] => []
  | x :: r => if x = 255 then 0 :: incR r else (x + 1) :: r
def incE (xs : List Int) : List Int := (incR xs.reverse).reverse
theorem incR_rep (x : Int) (r : List Int) (hx : x ≠ 255) : ∀ j : Nat, incR (List.replicate j 255 ++ x :: r) = List.replicate j 0 ++ (x + 1) :: r
  | 0 => by simp [incR, hx]
  | j + 1 => by
    rw [List.replicate_succ, List.cons_append, incR, if_pos rfl, incR_rep x r hx j, List.replicate_succ, List.cons_append]
theorem incE_mid {A : List Int} {x : Int} {j : Nat} (hx : x ≠ 255) : incE (A ++ [x] ++ List.replicate j 255) = A ++ [x + 1] ++ List.replicate j 0 := by
  unfold incE
  rw [show (A ++ [x] ++ List.replicate j (255 : Int)).reverse = List.replicate j 255 ++ x :: A.reverse by simp, incR_rep x _ hx]
  simp
theorem mid_in {F A : List Int} {x pl : Int} {j : Nat} (h : F = A ++ [x] ++ List.replicate j 0) (hp : pl = (A.length : Int)) : -(F.length : Int) ≤ pl ∧ pl < F.length := by
  subst h hp
  simp only [List.length_append, List.length_cons, List.length_nil, List.length_replicate]
  omega
theorem get_mid {α : Type} {A R : List α} {x : α} : (A ++ [x] ++ R)[A.length]? = some x := by simp
theorem mid_at {F A : List Int} {x pl : Int} {j : Nat} (h : F = A ++ [x] ++ List.replicate j 0) (hp : pl = (A.length : Int)) : itD F pl = x := by
  subst h hp
  exact itD_nat get_mid
theorem ixN_nat' {n j : Nat} (hj : j < n) : ixN n (j : Int) = some j := by
  unfold ixN
  rw [if_pos (by omega), if_pos (by omega)]
  simp
theorem setL_mid {A R : List Int} {x y : Int} : setL (A ++ [x] ++ R) (A.length : Int) y = A ++ [y] ++ R := by
  unfold setL
  rw [ixN_nat' (by simp)]
  simp
theorem all255 {F : List Int} {j : Nat} (h : ∃ y ∈ F, y ≠ 255) (e : F = List.replicate j 255) : False := by
  obtain ⟨y, hy, hn⟩ := h
  rw [e] at hy
  exact hn (List.eq_of_mem_replicate hy)
theorem carry_start {F : List Int} (h : ∃ y ∈ F, y ≠ 255) : ∃ (A : List Int) (x : Int) (j : Nat), F = A ++ [x] ++ List.replicate j 255 ∧ F = A ++ [x] ++ List.replicate j 0 ∧ ((F.length : Int) - 1) = (A.length : Int) := by
  have hn : F ≠ [] := by
    obtain ⟨y, hy, _⟩ := h
    intro z
    rw [z] at hy
    cases hy
  refine ⟨F.dropLast, F.getLast hn, 0, ?_, ?_, ?_⟩
  · rw [List.dropLast_concat_getLast]
    simp
  · rw [List.dropLast_concat_getLast]
    simp
  · have := List.length_pos_iff.mpr hn
    rw [List.length_dropLast]
    omega
theorem carry_A {F A : List Int} {x : Int} {j : Nat} (h : ∃ y ∈ F, y ≠ 255) (e : F = A ++ [x] ++ List.replicate j 255) (hx : x = 255) : A ≠ [] := by
  intro z
  subst z hx
  refine all255 (j := j + 1) h ?_
  rw [e, List.replicate_succ] <;> rfl
theorem carry_turn {F F' A : List Int} {x pl : Int} {j : Nat} (h : ∃ y ∈ F, y ≠ 255) (e : F = A ++ [x] ++ List.replicate j 255) (e' : F' = A ++ [x] ++ List.replicate j 0) (hp : pl = (A.length : Int)) (hx : x = 255) :
    ∃ (B : List Int) (y : Int) (k : Nat), F = B ++ [y] ++ List.replicate k 255 ∧ setL F' pl 0 = B ++ [y] ++ List.replicate k 0 ∧ pl - 1 = (B.length : Int) := by
  have hA := carry_A h e hx
  refine ⟨A.dropLast, A.getLast hA, j + 1, ?_, ?_, ?_⟩
  · rw [e, hx, List.dropLast_concat_getLast hA, List.replicate_succ]
    simp
  · rw [e', hp, setL_mid, List.dropLast_concat_getLast hA, List.replicate_succ]
    simp
  · have := List.length_pos_iff.mpr hA
    rw [hp, List.length_dropLast]
    omega
theorem carry_less {F A : List Int} {x pl : Int} {j : Nat} (h : ∃ y ∈ F, y ≠ 255) (e : F = A ++ [x] ++ List.replicate j 255) (hp : pl = (A.length : Int)) (hx : x = 255) : (pl - 1).toNat < pl.toNat := by
  have := List.length_pos_iff.mpr (carry_A h e hx)
  omega
theorem carry_end {F F' A : List Int} {x pl : Int} {j : Nat} (e : F = A ++ [x] ++ List.replicate j 255) (e' : F' = A ++ [x] ++ List.replicate j 0) (hp : pl = (A.length : Int)) (hx : x ≠ 255) : setL F' pl (itD F' pl + 1) = incE F := by
  rw [mid_at e' hp, e', hp, setL_mid, e, incE_mid hx]

def encInit : EncS := ⟨repL [2048] 256, [], 0, 4294967296 - 1⟩
def encPre (e : EncS) (p d : Int) : EncS :=
  if d = 0 then ⟨e.probs, e.front, e.low, e.span / 4096 * p⟩
  else if 4294967296 ≤ e.low + e.span / 4096 * p then ⟨e.probs, incE e.front, e.low + e.span / 4096 * p - 4294967296, e.span - e.span / 4096 * p⟩
  else ⟨e.probs, e.front, e.low + e.span / 4096 * p, e.span - e.span / 4096 * p⟩
def encNorm1 (e : EncS) : EncS := ⟨e.probs, e.front ++ [e.low / 16777216], e.low * 256 % 4294967296, e.span * 256⟩
def encNorm (e : EncS) : EncS := if e.span < 16777216 then encNorm1 e else e
def encNarrow (e : EncS) (p d : Int) : EncS := encNorm (encPre e p d)
def encCode (e : EncS) (c d : Int) : EncS := ⟨setL (encNarrow e (itD e.probs c) d).probs c (adaptE (itD e.probs c) d), (encNarrow e (itD e.probs c) d).front, (encNarrow e (itD e.probs c) d).low, (encNarrow e (itD e.probs c) d).span⟩
structure EncMid (e : EncS) : Prop where
  oct : ∀ x ∈ e.front, 0 ≤ x ∧ x ≤ 255
  low : 0 ≤ e.low ∧ e.low < 4294967296
  span0 : 0 < e.span
  span : 65536 ≤ e.span ∧ e.span < 4294967296
  fit : num e.front * 4294967296 + e.low + e.span ≤ 256 ^ e.front.length * 4294967296
structure EncG (e : EncS) : Prop where
  len : e.probs.length = 256
  prob : ∀ p ∈ e.probs, 31 ≤ p ∧ p ≤ 4065
  mid : EncMid e
  big : 16777216 ≤ e.span
theorem EncG.chance {e : EncS} (h : EncG e) {c : Int} (h0 : 0 ≤ c) (h1 : c < 256) : 31 ≤ itD e.probs c ∧ itD e.probs c ≤ 4065 := h.prob _ (itD_mem (by rw [h.len]; omega))
theorem part_in {s p : Int} (hs : 16777216 ≤ s ∧ s < 4294967296) (hp : 31 ≤ p ∧ p ≤ 4065) : 65536 ≤ s / 4096 * p ∧ 65536 ≤ s - s / 4096 * p := by
  have h1 : 4096 ≤ s / 4096 := by omega
  have h2 : s / 4096 * 4096 ≤ s := by omega
  have a : s / 4096 * 31 ≤ s / 4096 * p := Int.mul_le_mul_of_nonneg_left hp.1 (by omega)
  have b : s / 4096 * p ≤ s / 4096 * 4065 := Int.mul_le_mul_of_nonneg_left hp.2 (by omega)
  omega
theorem snocInd {α : Type} {motive : List α → Prop} (nil : motive []) (snoc : ∀ xs x, motive xs → motive (xs ++ [x])) (xs : List α) : motive xs := by
  have : ∀ l : List α, motive l.reverse := by
    intro l
    induction l with
    | nil => exact nil
    | cons x r ih =>
      rw [List.reverse_cons]
      exact snoc _ _ ih
  have h := this xs.reverse
  rwa [List.reverse_reverse] at h
theorem num_nn : ∀ {xs : List Int}, (∀ x ∈ xs, 0 ≤ x ∧ x ≤ 255) → 0 ≤ num xs := by
  intro xs
  induction xs using snocInd with
  | nil => intro _; decide
  | snoc xs x ih =>
    intro h
    rw [num_snoc]
    have h1 := ih fun y hy => h y (List.mem_append_left _ hy)
    have h2 := h x (List.mem_append_right _ List.mem_cons_self)
    omega
theorem inc_len (xs : List Int) : (incE xs).length = xs.length := by
  have : ∀ l : List Int, (incR l).length = l.length := by
    intro l
    induction l with
    | nil => rfl
    | cons x r ih =>
      unfold incR
      split
      · rw [List.length_cons, List.length_cons, ih]
      · rfl
  unfold incE
  rw [List.length_reverse, this, List.length_reverse]
theorem split255 : ∀ {xs : List Int}, (∃ y ∈ xs, y ≠ 255) → ∃ (A : List Int) (x : Int) (j : Nat), xs = A ++ [x] ++ List.replicate j 255 ∧ x ≠ 255 := by
  intro xs
  induction xs using snocInd with
  | nil => rintro ⟨y, hy, _⟩; cases hy
  | snoc xs x ih =>
    intro h
    by_cases hx : x = 255
    · subst hx
      obtain ⟨y, hy, hn⟩ := h
      have : ∃ y ∈ xs, y ≠ 255 := by
        rcases List.mem_append.mp hy with z | z
        · exact ⟨y, z, hn⟩
        · simp at z
          exact absurd z hn
      obtain ⟨A, x, j, e, hx⟩ := ih this
      refine ⟨A, x, j + 1, ?_, hx⟩
      rw [e, List.replicate_succ', List.append_assoc]
    · exact ⟨xs, x, 0, by simp, hx⟩
theorem num_rep (A : List Int) (x : Int) : ∀ j : Nat, num (A ++ [x + 1] ++ List.replicate j 0) = num (A ++ [x] ++ List.replicate j 255) + 1
  | 0 => by simp [num_snoc]; omega
  | j + 1 => by
    rw [List.replicate_succ', List.replicate_succ', ← List.append_assoc, ← List.append_assoc, num_snoc, num_snoc, num_rep A x j]
    omega
theorem inc_num {xs : List Int} (h : ∃ y ∈ xs, y ≠ 255) : num (incE xs) = num xs + 1 := by
  obtain ⟨A, x, j, e, hx⟩ := split255 h
  rw [e, incE_mid hx, num_rep]
theorem inc_oct {xs : List Int} (h : ∃ y ∈ xs, y ≠ 255) (ho : ∀ x ∈ xs, 0 ≤ x ∧ x ≤ 255) : ∀ x ∈ incE xs, 0 ≤ x ∧ x ≤ 255 := by
  obtain ⟨A, x, j, e, hx⟩ := split255 h
  subst e
  rw [incE_mid hx]
  intro y hy
  have hxo := ho x (by simp)
  simp at hy
  rcases hy with z | z | z
  · exact ho y (by simp [z])
  · omega
  · omega
theorem num_all255 : ∀ {xs : List Int}, (∀ y ∈ xs, y = 255) → num xs = 256 ^ xs.length - 1 := by
  intro xs
  induction xs using snocInd with
  | nil => intro _; decide
  | snoc xs x ih =>
    intro h
    rw [num_snoc, ih fun y hy => h y (List.mem_append_left _ hy), h x (List.mem_append_right _ List.mem_cons_self), List.length_append, List.length_cons, List.length_nil, Int.pow_succ]
    omega
theorem carry_pre {e : EncS} (h : EncG e) {p : Int} (hp : 31 ≤ p ∧ p ≤ 4065) (c : 4294967296 ≤ e.low + e.span / 4096 * p) : ∃ y ∈ e.front, y ≠ 255 := by
  by_cases z : ∃ y ∈ e.front, y ≠ 255
  · exact z
  · have a : ∀ y ∈ e.front, y = 255 := fun y hy => by
      by_cases q : y = 255
      · exact q
      · exact absurd ⟨y, hy, q⟩ z
    have n := num_all255 a
    have f := h.mid.fit
    have q := part_in ⟨h.big, h.mid.span.2⟩ hp
    rw [n] at f
    have : (256 ^ e.front.length - 1 : Int) * 4294967296 = 256 ^ e.front.length * 4294967296 - 4294967296 := by rw [Int.sub_mul]; omega
    omega
theorem encPre_ok {e : EncS} (h : EncG e) {p : Int} (hp : 31 ≤ p ∧ p ≤ 4065) (d : Int) : EncMid (encPre e p d) := by
  have q := part_in ⟨h.big, h.mid.span.2⟩ hp
  have f := h.mid.fit
  have l := h.mid.low
  have s := h.mid.span
  unfold encPre
  split
  · exact ⟨h.mid.oct, l, by show 0 < e.span / 4096 * p; omega, by show 65536 ≤ e.span / 4096 * p ∧ e.span / 4096 * p < 4294967296; omega, by show num e.front * 4294967296 + e.low + e.span / 4096 * p ≤ 256 ^ e.front.length * 4294967296; omega⟩
  · split
    · rename_i c
      have cp := carry_pre h hp c
      refine ⟨inc_oct cp h.mid.oct, ?_, ?_, ?_, ?_⟩
      · show 0 ≤ e.low + e.span / 4096 * p - 4294967296 ∧ e.low + e.span / 4096 * p - 4294967296 < 4294967296
        omega
      · show 0 < e.span - e.span / 4096 * p
        omega
      · show 65536 ≤ e.span - e.span / 4096 * p ∧ e.span - e.span / 4096 * p < 4294967296
        omega
      · show num (incE e.front) * 4294967296 + (e.low + e.span / 4096 * p - 4294967296) + (e.span - e.span / 4096 * p) ≤ 256 ^ (incE e.front).length * 4294967296
        rw [inc_num cp, inc_len]
        omega
    · refine ⟨h.mid.oct, ?_, ?_, ?_, ?_⟩
      · show 0 ≤ e.low + e.span / 4096 * p ∧ e.low + e.span / 4096 * p < 4294967296
        omega
      · show 0 < e.span - e.span / 4096 * p
        omega
      · show 65536 ≤ e.span - e.span / 4096 * p ∧ e.span - e.span / 4096 * p < 4294967296
        omega
      · show num e.front * 4294967296 + (e.low + e.span / 4096 * p) + (e.span - e.span / 4096 * p) ≤ 256 ^ e.front.length * 4294967296
        omega
theorem norm_span {e : EncS} (h : EncMid e) : 16777216 ≤ (encNorm1 e).span := by
  have := h.span
  show 16777216 ≤ e.span * 256
  omega
theorem shl32 {i j : Int} (h : 0 ≤ i ∧ i < 4294967296) (hj : 0 ≤ j ∧ j ≤ 64) : CShl i j := by
  obtain ⟨k, rfl⟩ := Int.eq_ofNat_of_zero_le hj.1
  exact shl_ok (n := 64) (by omega) (by omega)
theorem encNorm_eq (e : EncS) : (⟨e.probs, e.front ++ [e.low / 16777216], PySem.Builtin.bitAnd (e.low * 256) (4294967296 - 1), e.span * 256⟩ : EncS) = encNorm1 e := by
  unfold encNorm1
  rw [show (4294967296 - 1 : Int) = 4294967295 by decide, bitAnd_m32] <;> rfl
theorem norm_ok {e : EncS} (h : EncMid e) : EncMid (encNorm e) ∧ 16777216 ≤ (encNorm e).span := by
  unfold encNorm
  split
  · rename_i c
    have l := h.low
    have s := h.span
    have f := h.fit
    refine ⟨⟨?_, ?_, ?_, ?_, ?_⟩, norm_span h⟩
    · intro x hx
      rcases List.mem_append.mp hx with z | z
      · exact h.oct x z
      · simp at z
        omega
    · show 0 ≤ e.low * 256 % 4294967296 ∧ e.low * 256 % 4294967296 < 4294967296
      omega
    · show 0 < e.span * 256
      omega
    · show 65536 ≤ e.span * 256 ∧ e.span * 256 < 4294967296
      omega
    · show num (e.front ++ [e.low / 16777216]) * 4294967296 + e.low * 256 % 4294967296 + e.span * 256 ≤ 256 ^ (e.front ++ [e.low / 16777216]).length * 4294967296
      rw [num_snoc, List.length_append, List.length_cons, List.length_nil, Int.pow_succ]
      have e1 : (num e.front * 256 + e.low / 16777216) * 4294967296 + e.low * 256 % 4294967296 = (num e.front * 4294967296 + e.low) * 256 := by omega
      have e2 : (256 : Int) ^ e.front.length * 256 * 4294967296 = 256 ^ e.front.length * 4294967296 * 256 := by rw [Int.mul_right_comm]
      rw [e1, e2]
      omega
  · exact ⟨h, by omega⟩
theorem probs_pre (e : EncS) (p d : Int) : (encPre e p d).probs = e.probs := by
  unfold encPre
  split
  · rfl
  · split <;> rfl
theorem len_pre (e : EncS) (p d : Int) : (encPre e p d).front.length = e.front.length := by
  unfold encPre
  split
  · rfl
  · split
    · exact inc_len _
    · rfl
theorem len_narrow (e : EncS) (p d : Int) : (encNarrow e p d).front.length ≤ e.front.length + 1 := by
  have := len_pre e p d
  unfold encNarrow encNorm
  split
  · show ((encPre e p d).front ++ [(encPre e p d).low / 16777216]).length ≤ e.front.length + 1
    rw [List.length_append, List.length_cons, List.length_nil]
    omega
  · omega
theorem probs_narrow (e : EncS) (p d : Int) : (encNarrow e p d).probs = e.probs := by
  unfold encNarrow encNorm
  split
  · exact probs_pre e p d
  · exact probs_pre e p d
theorem narrow_ok {e : EncS} (h : EncG e) {p : Int} (hp : 31 ≤ p ∧ p ≤ 4065) (d : Int) : EncG (encNarrow e p d) := by
  obtain ⟨m, b⟩ := norm_ok (encPre_ok h hp d)
  exact ⟨by rw [probs_narrow]; exact h.len, by rw [probs_narrow]; exact h.prob, m, b⟩
theorem even_ok {e : EncS} (h : EncG e) (d : Int) : EncG (encNarrow e 2048 d) := narrow_ok h (by decide) d
theorem setL_len {α : Type} (xs : List α) (k : Int) (y : α) : (setL xs k y).length = xs.length := by
  unfold setL
  rw [List.length_set]
theorem setL_mem {α : Type} {xs : List α} {k : Int} {x y : α} (h : x ∈ setL xs k y) : x ∈ xs ∨ x = y := by
  unfold setL at h
  exact List.mem_or_eq_of_mem_set h
theorem code_ok {e : EncS} (h : EncG e) {c d : Int} (h0 : 0 ≤ c) (h1 : c < 256) : EncG (encCode e c d) := by
  have hc := h.chance h0 h1
  have n := narrow_ok h hc d
  refine ⟨?_, ?_, ⟨n.mid.oct, n.mid.low, n.mid.span0, n.mid.span, n.mid.fit⟩, n.big⟩
  · show (setL _ _ _).length = 256
    rw [setL_len]
    exact n.len
  · intro p hp
    rcases setL_mem hp with z | z
    · exact n.prob p z
    · rw [z]
      exact adaptE_in hc
theorem init_ok : EncG encInit := by
  refine ⟨by decide, fun p hp => ?_, ⟨fun x hx => (by cases hx), by decide, by decide, by decide, by decide⟩, by decide⟩
  rw [mem_rep1 hp]
  decide
/-! the octets -/
def stripZ (xs : List Int) : List Int := (xs.reverse.dropWhile (fun x => decide (x = 0))).reverse
def digits4 (n : Int) : List Int := ([24, 16, 8, 0] : List Int).map (fun k => PySem.Builtin.bitAnd (n / 2 ^ Int.toNat k) 255)
def encOctets (e : EncS) : List Int := stripZ (e.front ++ digits4 e.low)
theorem shifts_nn {k : Int} (h : k ∈ ([24, 16, 8, 0] : List Int)) : 0 ≤ k := by
  simp at h
  omega
theorem last_in {xs : List Int} (h : xs ≠ []) : -(xs.length : Int) ≤ -1 ∧ -1 < (xs.length : Int) := by
  have := List.length_pos_iff.mpr h
  omega
theorem itD_last {xs : List Int} (h : xs ≠ []) : itD xs (-1) = xs.getLast h := by
  unfold itD atI ixN
  have := List.length_pos_iff.mpr h
  rw [if_neg (by omega), if_pos (by omega)]
  have e : (-1 + (xs.length : Int)).toNat = xs.length - 1 := by omega
  show (xs[(-1 + (xs.length : Int)).toNat]?).getD default = _
  rw [e, ← List.getLast?_eq_getElem?, List.getLast?_eq_some_getLast h] <;> rfl
theorem strip_pop {xs : List Int} (h : xs ≠ []) (hz : itD xs (-1) = 0) : stripZ xs.dropLast = stripZ xs := by
  rw [itD_last h] at hz
  unfold stripZ
  have e : xs.reverse = 0 :: xs.dropLast.reverse := by
    conv => lhs; rw [← List.dropLast_concat_getLast h, List.reverse_append, hz]
    rfl
  rw [e, List.dropWhile_cons, if_pos (by decide)]
theorem drop_less {xs : List Int} (h : xs ≠ []) : xs.dropLast.length < xs.length := by
  have := List.length_pos_iff.mpr h
  rw [List.length_dropLast]
  omega
theorem strip_nil : stripZ [] = [] := rfl
theorem strip_last {xs : List Int} (h : xs ≠ []) (hz : ¬ itD xs (-1) = 0) : stripZ xs = xs := by
  rw [itD_last h] at hz
  unfold stripZ
  have e : xs.reverse = xs.getLast h :: xs.dropLast.reverse := by
    conv => lhs; rw [← List.dropLast_concat_getLast h, List.reverse_append]
    rfl
  rw [e, List.dropWhile_cons, if_neg (by simpa using hz), ← e, List.reverse_reverse]
theorem strip_done {xs : List Int} (h : xs = [] ∨ ¬ itD xs (-1) = 0) : stripZ xs = xs := by
  by_cases n : xs = []
  · rw [n] <;> rfl
  · rcases h with z | z
    · exact absurd z n
    · exact strip_last n z
abbrev DecS := St_Decoder
structure DecO (d : DecS) : Prop where
  place : 0 ≤ d.place
  oct : ∀ x ∈ d.octs, 0 ≤ x ∧ x ≤ 255
def decOct (d : DecS) : Int := if d.place < (d.octs.length : Int) then itD d.octs d.place else 0
def decShift (d : DecS) : DecS := ⟨d.probs, d.octs, if d.place < (d.octs.length : Int) then d.place + 1 else d.place, d.span, d.value * 256 + decOct d⟩
def decPre (d : DecS) (p : Int) : DecS :=
  if d.value < d.span / 4096 * p then ⟨d.probs, d.octs, d.place, d.span / 4096 * p, d.value⟩ else ⟨d.probs, d.octs, d.place, d.span - d.span / 4096 * p, d.value - d.span / 4096 * p⟩
def decBit (d : DecS) (p : Int) : Int := if d.value < d.span / 4096 * p then 0 else 1
def decNorm1 (d : DecS) : DecS := ⟨(decShift d).probs, (decShift d).octs, (decShift d).place, (decShift d).span * 256, (decShift d).value⟩
def decNorm (d : DecS) : DecS := if d.span < 16777216 then decNorm1 d else d
def decDecide (d : DecS) (p : Int) : DecS := decNorm (decPre d p)
def decRead (d : DecS) (c : Int) : DecS := ⟨setL (decDecide d (itD d.probs c)).probs c (adaptE (itD d.probs c) (decBit d (itD d.probs c))), (decDecide d (itD d.probs c)).octs, (decDecide d (itD d.probs c)).place, (decDecide d (itD d.probs c)).span, (decDecide d (itD d.probs c)).value⟩
def decBlank (o : List Int) : DecS := ⟨repL [2048] 256, o, 0, 4294967296 - 1, 0⟩
def decShifts : Nat → DecS → DecS
  | 0, d => d
  | n + 1, d => decShift (decShifts n d)
def decInit (o : List Int) : DecS := ⟨(decShifts 4 (decBlank o)).probs, (decShifts 4 (decBlank o)).octs, (decShifts 4 (decBlank o)).place, (decShifts 4 (decBlank o)).span, if 4294967296 - 2 < (decShifts 4 (decBlank o)).value then 4294967296 - 2 else (decShifts 4 (decBlank o)).value⟩
structure DecG (d : DecS) : Prop where
  o : DecO d
  len : d.probs.length = 256
  prob : ∀ p ∈ d.probs, 31 ≤ p ∧ p ≤ 4065
  span : 16777216 ≤ d.span ∧ d.span < 4294967296
  value : 0 ≤ d.value ∧ d.value < d.span
structure DecMid (d : DecS) : Prop where
  o : DecO d
  len : d.probs.length = 256
  prob : ∀ p ∈ d.probs, 31 ≤ p ∧ p ≤ 4065
  span : 65536 ≤ d.span ∧ d.span < 4294967296
  value : 0 ≤ d.value ∧ d.value < d.span
theorem DecG.chance {d : DecS} (h : DecG d) {c : Int} (h0 : 0 ≤ c) (h1 : c < 256) : 31 ≤ itD d.probs c ∧ itD d.probs c ≤ 4065 := h.prob _ (itD_mem (by rw [h.len]; omega))
theorem ite01 {p : Prop} [Decidable p] (h : (if p then (0 : Int) else 1) = 0) : p := by
  by_cases c : p
  · exact c
  · rw [if_neg c] at h
    exact absurd h (by decide)
theorem ite10 {p : Prop} [Decidable p] (h : ¬ (if p then (0 : Int) else 1) = 0) : ¬ p := by
  intro c
  rw [if_pos c] at h
  exact h rfl
theorem low_or {v o : Int} (h : 0 ≤ v) (h0 : 0 ≤ o) (h1 : o ≤ 255) : PySem.Builtin.bitOr (v * 256) o = v * 256 + o := by
  obtain ⟨a, rfl⟩ := Int.eq_ofNat_of_zero_le h
  obtain ⟨b, rfl⟩ := Int.eq_ofNat_of_zero_le h0
  have z : (a * 256) &&& b = 0 := by
    apply Nat.eq_of_testBit_eq
    intro i
    rw [Nat.testBit_and, Nat.zero_testBit, show a * 256 = a * 2 ^ 8 from rfl, Nat.testBit_mul_two_pow]
    by_cases hi : 8 ≤ i
    · have e : b.testBit i = false := Nat.testBit_lt_two_pow (Nat.lt_of_lt_of_le (by omega : b < 2 ^ 8) (Nat.pow_le_pow_right (by decide) hi))
      rw [e, Bool.and_false]
    · simp [hi]
  rw [PyProof.Rows.bitOr_and, PyProof.Rows.bitAnd_pp (by omega) (by omega)]
  rw [show ((a : Int) * 256).toNat = a * 256 from by omega, show ((b : Int)).toNat = b from rfl, z]
  exact Int.sub_zero _
theorem oct_in {d : DecS} (h : DecO d) : 0 ≤ decOct d ∧ decOct d ≤ 255 := by
  unfold decOct
  split
  · exact h.oct _ (itD_mem (by have := h.place; omega))
  · decide
theorem shift_in {d : DecS} (c : d.place < (d.octs.length : Int)) (h : DecO d) (hv : 0 ≤ d.value) : decShift d = ⟨d.probs, d.octs, d.place + 1, d.span, PySem.Builtin.bitOr (d.value * 256) (itD d.octs d.place)⟩ := by
  have ho := oct_in h
  unfold decShift decOct at *
  rw [if_pos c] at *
  rw [low_or hv ho.1 ho.2]
  simp [c]
theorem shift_out {d : DecS} (c : ¬ d.place < (d.octs.length : Int)) (hv : 0 ≤ d.value) : decShift d = ⟨d.probs, d.octs, d.place, d.span, PySem.Builtin.bitOr (d.value * 256) 0⟩ := by
  unfold decShift decOct
  rw [if_neg c, if_neg c]
  rw [low_or hv (by decide) (by decide)]
theorem decPre_ok {d : DecS} (h : DecG d) {p : Int} (hp : 31 ≤ p ∧ p ≤ 4065) : DecMid (decPre d p) := by
  have hi := part_in h.span hp
  have hv := h.value
  have hs := h.span
  unfold decPre
  split
  · exact ⟨⟨h.o.place, h.o.oct⟩, h.len, h.prob, ⟨hi.1, by show d.span / 4096 * p < 4294967296; omega⟩, ⟨hv.1, by show d.value < d.span / 4096 * p; omega⟩⟩
  · exact ⟨⟨h.o.place, h.o.oct⟩, h.len, h.prob, ⟨hi.2, by show d.span - d.span / 4096 * p < 4294967296; omega⟩, ⟨by show 0 ≤ d.value - d.span / 4096 * p; omega, by show d.value - d.span / 4096 * p < d.span - d.span / 4096 * p; omega⟩⟩
theorem shift_o {d : DecS} (h : DecO d) : DecO (decShift d) := by
  refine ⟨?_, h.oct⟩
  have := h.place
  show 0 ≤ (if d.place < (d.octs.length : Int) then d.place + 1 else d.place)
  split <;> omega
theorem decNorm_ok {d : DecS} (h : DecMid d) : DecG (decNorm d) := by
  have hv := h.value
  have hs := h.span
  have ho := oct_in h.o
  unfold decNorm
  split
  · exact ⟨⟨(shift_o h.o).place, (shift_o h.o).oct⟩, h.len, h.prob, ⟨by show 16777216 ≤ d.span * 256; omega, by show d.span * 256 < 4294967296; omega⟩, ⟨by show 0 ≤ d.value * 256 + decOct d; omega, by show d.value * 256 + decOct d < d.span * 256; omega⟩⟩
  · exact ⟨h.o, h.len, h.prob, ⟨by omega, hs.2⟩, hv⟩
theorem decide_ok {d : DecS} (h : DecG d) {p : Int} (hp : 31 ≤ p ∧ p ≤ 4065) : DecG (decDecide d p) := decNorm_ok (decPre_ok h hp)
theorem probs_decide (d : DecS) (p : Int) : (decDecide d p).probs = d.probs := by
  unfold decDecide decNorm decPre
  split <;> split <;> rfl
theorem bit_in (d : DecS) (p : Int) : 0 ≤ decBit d p ∧ decBit d p ≤ 1 := by
  unfold decBit
  split <;> decide
theorem read_ok {d : DecS} (h : DecG d) {c : Int} (h0 : 0 ≤ c) (h1 : c < 256) : DecG (decRead d c) := by
  have hp := h.chance h0 h1
  have hd := decide_ok h hp
  refine ⟨⟨hd.o.place, hd.o.oct⟩, ?_, fun p hm => ?_, hd.span, hd.value⟩
  · show (setL _ c _).length = 256
    rw [setL_len]
    exact hd.len
  · rcases setL_mem hm with z | z
    · exact hd.prob p z
    · rw [z]
      exact adaptE_in hp
theorem blank_ok {o : List Int} (h : ∀ x ∈ o, 0 ≤ x ∧ x ≤ 255) : DecO (decBlank o) := ⟨Int.le_refl 0, h⟩
theorem shifts_ok {d : DecS} (h : DecO d) (hv : d.value = 0) : ∀ n : Nat, DecO (decShifts n d) ∧ 0 ≤ (decShifts n d).value ∧ (decShifts n d).value < 256 ^ n
  | 0 => ⟨h, by show 0 ≤ d.value; omega, by show d.value < 1; omega⟩
  | n + 1 => by
    have ih := shifts_ok h hv n
    have ho := oct_in ih.1
    refine ⟨shift_o ih.1, ?_, ?_⟩
    · show 0 ≤ (decShifts n d).value * 256 + decOct (decShifts n d)
      omega
    · show (decShifts n d).value * 256 + decOct (decShifts n d) < 256 ^ (n + 1)
      rw [Int.pow_succ]
      omega
theorem shifts_probs (d : DecS) : ∀ n : Nat, (decShifts n d).probs = d.probs
  | 0 => rfl
  | n + 1 => shifts_probs d n
theorem shifts_span (d : DecS) : ∀ n : Nat, (decShifts n d).span = d.span
  | 0 => rfl
  | n + 1 => shifts_span d n
theorem shifts_octs (d : DecS) : ∀ n : Nat, (decShifts n d).octs = d.octs
  | 0 => rfl
  | n + 1 => shifts_octs d n
theorem pow_turn {i : Nat} (hi : i < 4) {v : Int} (h : v < 256 ^ i) : v < 4294967296 := by
  have : (256 : Int) ^ i ≤ 256 ^ 3 := by
    have := Nat.pow_le_pow_right (n := 256) (by decide) (show i ≤ 3 by omega)
    exact_mod_cast this
  omega
theorem decInit_ok {o : List Int} (h : ∀ x ∈ o, 0 ≤ x ∧ x ≤ 255) : DecG (decInit o) := by
  have hs := shifts_ok (blank_ok h) rfl 4
  refine ⟨⟨hs.1.place, hs.1.oct⟩, ?_, ?_, ?_, ?_⟩
  · show (decShifts 4 (decBlank o)).probs.length = 256
    rw [shifts_probs]
    exact init_ok.len
  · show ∀ p ∈ (decShifts 4 (decBlank o)).probs, _
    rw [shifts_probs]
    exact init_ok.prob
  · show 16777216 ≤ (decShifts 4 (decBlank o)).span ∧ (decShifts 4 (decBlank o)).span < 4294967296
    rw [shifts_span]
    show (16777216 : Int) ≤ 4294967296 - 1 ∧ (4294967296 - 1 : Int) < 4294967296
    decide
  · show 0 ≤ (if 4294967296 - 2 < (decShifts 4 (decBlank o)).value then 4294967296 - 2 else (decShifts 4 (decBlank o)).value) ∧ (if 4294967296 - 2 < (decShifts 4 (decBlank o)).value then 4294967296 - 2 else (decShifts 4 (decBlank o)).value) < (decShifts 4 (decBlank o)).span
    rw [shifts_span]
    show _ ∧ _ < (4294967296 - 1 : Int)
    have := hs.2
    split <;> omega
def ItemsOk (items : List (Int × Int)) : Prop := ∀ it ∈ items, (-1 ≤ it.1 ∧ it.1 ≤ 255) ∧ 0 ≤ it.2 ∧ it.2 ≤ 1
def encItem (e : EncS) (it : Int × Int) : EncS := if 0 ≤ it.1 then encCode e it.1 it.2 else encNarrow e 2048 it.2
def encItems (e : EncS) (items : List (Int × Int)) : EncS := items.foldl encItem e
theorem items_turn {e : EncS} {items : List (Int × Int)} {i : Nat} {it : Int × Int} {e' : EncS} (hi : items[i]? = some it) (h : encItem (encItems e (items.take i)) it = e') : e' = encItems e (items.take (i + 1)) := by
  unfold encItems at h ⊢
  rw [take_succ_get hi, List.foldl_append, ← h] <;> rfl
theorem len_code (e : EncS) (c d : Int) : (encCode e c d).front.length ≤ e.front.length + 1 := len_narrow e _ d
theorem item_ok {e : EncS} {it : Int × Int} (h : EncG e) (hi : (-1 ≤ it.1 ∧ it.1 ≤ 255) ∧ 0 ≤ it.2 ∧ it.2 ≤ 1) : EncG (encItem e it) := by
  unfold encItem
  split
  · exact code_ok h (by omega) (by omega)
  · exact even_ok h _
theorem item_len (e : EncS) (it : Int × Int) : (encItem e it).front.length ≤ e.front.length + 1 := by
  unfold encItem
  split
  · exact len_code _ _ _
  · exact len_narrow _ _ _
theorem items_ok : ∀ {items : List (Int × Int)} {e : EncS}, EncG e → ItemsOk items → EncG (encItems e items)
  | [], _, h, _ => h
  | it :: r, e, h, hi => items_ok (items := r) (item_ok h (hi it List.mem_cons_self)) fun x hx => hi x (List.mem_cons_of_mem _ hx)
theorem items_len : ∀ (items : List (Int × Int)) (e : EncS), (encItems e items).front.length ≤ e.front.length + items.length
  | [], e => Nat.le_refl _
  | it :: r, e => by
    have h1 := item_len e it
    have h2 := items_len r (encItem e it)
    have h3 : encItems e (it :: r) = encItems (encItem e it) r := rfl
    rw [h3, List.length_cons]
    omega
theorem items_app (e : EncS) (xs ys : List (Int × Int)) : encItems e (xs ++ ys) = encItems (encItems e xs) ys := by
  unfold encItems
  rw [List.foldl_append]
structure CodeN (e : EncS) (low span count : Int) : Prop where
  low : low = num e.front * 4294967296 + e.low
  span : span = e.span
  count : count = (e.front.length : Int)
structure CodeR (e : EncS) (chances : List Int) (low span count : Int) : Prop where
  toN : CodeN e low span count
  chances : chances = e.probs ++ [2048]
theorem codeR_init : CodeR encInit (repL [2048] 257) 0 (4294967296 - 1) 0 := ⟨⟨rfl, rfl, rfl⟩, by decide⟩
theorem itD_app {e : List Int} {a c : Int} (h0 : 0 ≤ c) (h1 : c < e.length) : itD (e ++ [a]) c = itD e c := by
  obtain ⟨k, rfl⟩ := Int.eq_ofNat_of_zero_le h0
  have hk : k < e.length := by omega
  rw [itD_nat (List.getElem?_eq_getElem hk), itD_nat (x := e[k]) (by rw [List.getElem?_append_left hk, List.getElem?_eq_getElem hk])]
theorem itD_end {e : List Int} {a : Int} : itD (e ++ [a]) (-1) = a := by
  rw [itD_last (by simp), List.getLast_append] <;> simp
theorem setL_app {e : List Int} {a c y : Int} (h0 : 0 ≤ c) (h1 : c < e.length) : setL (e ++ [a]) c y = setL e c y ++ [a] := by
  obtain ⟨k, rfl⟩ := Int.eq_ofNat_of_zero_le h0
  have hk : k < e.length := by omega
  unfold setL
  rw [ixN_nat' hk, ixN_nat' (by rw [List.length_append]; omega)]
  exact List.set_append_left _ _ hk
theorem codeR_chance {e : EncS} {chances : List Int} {low span count c : Int} (hg : EncG e) (hr : CodeR e chances low span count) (hc : -1 ≤ c ∧ c ≤ 255) :
    (-(chances.length : Int) ≤ c ∧ c < chances.length) ∧ 31 ≤ itD chances c ∧ itD chances c ≤ 4065 := by
  have hl := hg.len
  refine ⟨by rw [hr.chances, List.length_append, hl]; simp; omega, ?_⟩
  rw [hr.chances]
  by_cases h : 0 ≤ c
  · rw [itD_app h (by omega)]
    exact hg.chance h (by omega)
  · rw [show c = -1 from by omega, itD_end]
    decide
theorem codeN_pre {e : EncS} {p d low span count low' span' : Int} (hg : EncG e) (hp : 31 ≤ p ∧ p ≤ 4065) (h : CodeN e low span count) (hl : low' = if d = 0 then low else low + span / 4096 * p)
    (hs : span' = if d = 0 then span / 4096 * p else span - span / 4096 * p) : CodeN (encPre e p d) low' span' count := by
  have h1 := h.low
  have h2 := h.span
  have h3 := h.count
  unfold encPre
  split
  · rw [if_pos ‹_›] at hl hs
    exact ⟨by rw [hl, h1], by rw [hs, h2], h3⟩
  · rw [if_neg ‹_›] at hl hs
    split
    · have hy := carry_pre hg hp ‹_›
      have hn := inc_num hy
      rw [h2] at hl hs
      exact ⟨by show low' = num (incE e.front) * 4294967296 + (e.low + e.span / 4096 * p - 4294967296); rw [hl, hn, h1, Int.add_mul]; omega, hs, by show count = ((incE e.front).length : Int); rw [inc_len]; exact h3⟩
    · rw [h2] at hl hs
      exact ⟨by show low' = num e.front * 4294967296 + (e.low + e.span / 4096 * p); rw [hl, h1]; omega, hs, h3⟩
theorem codeN_norm {e : EncS} {low span count : Int} (h : CodeN e low span count) : CodeN (encNorm1 e) (low * 256) (span * 256) (count + 1) := by
  have h1 := h.low
  have h2 := h.span
  have h3 := h.count
  refine ⟨?_, by rw [h2]; rfl, by show count + 1 = (((e.front ++ [e.low / 16777216]).length : Nat) : Int); rw [List.length_append]; simp; omega⟩
  show low * 256 = num (e.front ++ [e.low / 16777216]) * 4294967296 + e.low * 256 % 4294967296
  rw [num_snoc]
  omega
theorem codeN_turn {em : EncS} {low span count cn0 low' span' count' : Int} {i : Nat} (hm : EncMid em) (h : CodeN (if i = 0 then em else encNorm em) low span count) (h0 : cn0 ≤ count) (h1 : count ≤ cn0 + 1) (h2 : i = 0 → count = cn0)
    (hs : (span < 16777216 ∧ low' = low * 256 ∧ span' = span * 256 ∧ count' = count + 1) ∨ (¬ span < 16777216 ∧ low' = low ∧ span' = span ∧ count' = count)) :
    CodeN (if i + 1 = 0 then em else encNorm em) low' span' count' ∧ cn0 ≤ count' ∧ count' ≤ cn0 + 1 ∧ (i + 1 = 0 → count' = cn0) := by
  rw [if_neg (by omega)]
  have hb := (norm_ok hm).2
  by_cases hi : i = 0
  · rw [if_pos hi] at h
    have hc := h2 hi
    have hsp := h.span
    rcases hs with ⟨a, rfl, rfl, rfl⟩ | ⟨a, rfl, rfl, rfl⟩
    · have e1 : encNorm em = encNorm1 em := if_pos (by omega)
      rw [e1]
      exact ⟨codeN_norm h, by omega, by omega, by omega⟩
    · have e1 : encNorm em = em := if_neg (by omega)
      rw [e1]
      exact ⟨h, by omega, by omega, by omega⟩
  · rw [if_neg hi] at h
    have hsp := h.span
    rcases hs with ⟨a, rfl, rfl, rfl⟩ | ⟨a, rfl, rfl, rfl⟩
    · omega
    · exact ⟨h, by omega, by omega, by omega⟩
def codeChances (chances : List Int) (c d : Int) : List Int := if 0 ≤ c then setL chances c (adaptE (itD chances c) d) else chances
theorem codeR_turn {items : List (Int × Int)} {i : Nat} {item : Int × Int} {chances chances' : List Int} {low span count low' span' count' : Int} {em : EncS} (hi : items[i]? = some item) (hg : EncG (encItems encInit (items.take i)))
    (hr : CodeR (encItems encInit (items.take i)) chances low span count) (hit : (-1 ≤ item.1 ∧ item.1 ≤ 255) ∧ 0 ≤ item.2 ∧ item.2 ≤ 1)
    (hme : em = encPre (encItems encInit (items.take i)) (itD chances item.1) item.2) (hc : codeChances chances item.1 item.2 = chances') (hn : CodeN (encNorm em) low' span' count') :
    CodeR (encItems encInit (items.take (i + 1))) chances' low' span' count' := by
  have hl := hg.len
  rw [← items_turn hi rfl]
  generalize encItems encInit (items.take i) = e at *
  rw [hr.chances] at hc hme
  unfold encItem
  unfold codeChances at hc
  by_cases h : 0 ≤ item.1
  · rw [if_pos h] at hc ⊢
    rw [itD_app h (by omega)] at hc hme
    rw [setL_app h (by omega)] at hc
    rw [hme] at hn
    refine ⟨⟨hn.low, hn.span, hn.count⟩, ?_⟩
    rw [← hc]
    show _ = setL (encNarrow e (itD e.probs item.1) item.2).probs item.1 _ ++ [2048]
    rw [probs_narrow]
  · rw [if_neg h] at hc ⊢
    rw [show item.1 = -1 from by omega, itD_end] at hme
    rw [hme] at hn
    refine ⟨hn, ?_⟩
    rw [← hc, probs_narrow]
def digs (n : Int) (k : Nat) : List Int := (List.range k).map fun j => n / 2 ^ (8 * (k - 1 - j)) % 256
theorem digs_snoc (n x : Int) (k : Nat) (hx : 0 ≤ x ∧ x ≤ 255) : digs (n * 256 + x) (k + 1) = digs n k ++ [x] := by
  unfold digs
  rw [List.range_succ, List.map_append]
  congr 1
  · apply List.map_congr_left
    intro j hj
    have hj := List.mem_range.mp hj
    show (n * 256 + x) / 2 ^ (8 * (k + 1 - 1 - j)) % 256 = n / 2 ^ (8 * (k - 1 - j)) % 256
    rw [show 8 * (k + 1 - 1 - j) = 8 + 8 * (k - 1 - j) from by omega, Int.pow_add, ← Int.ediv_ediv_of_nonneg (by decide)]
    rw [show (n * 256 + x) / 2 ^ 8 = n from by omega]
  · show [(n * 256 + x) / 2 ^ (8 * (k + 1 - 1 - k)) % 256] = [x]
    rw [show 8 * (k + 1 - 1 - k) = 0 from by omega]
    congr 1
    simp
    omega
theorem digs_num : ∀ {xs : List Int}, (∀ x ∈ xs, 0 ≤ x ∧ x ≤ 255) → digs (num xs) xs.length = xs := by
  intro xs
  refine snocInd (motive := fun xs => (∀ x ∈ xs, 0 ≤ x ∧ x ≤ 255) → digs (num xs) xs.length = xs) (fun _ => rfl) (fun ys y ih h => ?_) xs
  rw [num_snoc, List.length_append]
  show digs _ (ys.length + 1) = _
  rw [digs_snoc _ _ _ (h y (by simp)), ih fun x hx => h x (by simp [hx])]
theorem digits4_eq {n : Int} : digits4 n = [n / 16777216 % 256, n / 65536 % 256, n / 256 % 256, n % 256] := by
  unfold digits4
  simp only [List.map_cons, List.map_nil, bitAnd_m8]
  simp
theorem digits4_len (n : Int) : (digits4 n).length = 4 := rfl
theorem code_digits {e : EncS} (h : EncMid e) : digs (num e.front * 4294967296 + e.low) (e.front.length + 4) = e.front ++ digits4 e.low := by
  have ho : ∀ x ∈ e.front ++ digits4 e.low, 0 ≤ x ∧ x ≤ 255 := by
    intro x hx
    rcases List.mem_append.mp hx with z | z
    · exact h.oct x z
    · rw [digits4_eq] at z
      simp only [List.mem_cons, List.not_mem_nil, or_false] at z
      omega
  have hl := h.low
  have hd := digs_num ho
  rw [List.length_append, digits4_len] at hd
  rw [← hd]
  congr 1
  rw [digits4_eq, show e.front ++ [e.low / 16777216 % 256, e.low / 65536 % 256, e.low / 256 % 256, e.low % 256] = e.front ++ [e.low / 16777216 % 256] ++ [e.low / 65536 % 256] ++ [e.low / 256 % 256] ++ [e.low % 256] from by simp]
  rw [num_snoc, num_snoc, num_snoc, num_snoc]
  omega
theorem ne_len {xs : List Int} (h : 0 < (xs.length : Int)) : xs ≠ [] := by
  intro z
  rw [z] at h
  simp at h
theorem nil_len {xs : List Int} (h : ¬ 0 < (xs.length : Int)) : xs = [] := by
  cases xs with
  | nil => rfl
  | cons a r => exact absurd (by rw [List.length_cons]; omega) h
theorem code_oct {e : EncS} {low span count : Int} (hm : EncMid e) (hn : CodeN e low span count) :
    (List.range (count + 4).toNat).map (fun (j : Nat) => PySem.Builtin.bitAnd (low / 2 ^ Int.toNat (8 * (count + 3 - (0 + (j : Int))))) 255) = e.front ++ digits4 e.low := by
  rw [← code_digits hm, hn.low, hn.count]
  unfold digs
  rw [show ((e.front.length : Int) + 4).toNat = e.front.length + 4 from by omega]
  apply List.map_congr_left
  intro j hj
  have hj := List.mem_range.mp hj
  rw [bitAnd_m8, show Int.toNat (8 * ((e.front.length : Int) + 3 - (0 + (j : Int)))) = 8 * (e.front.length + 4 - 1 - j) from by omega]
theorem strip_len (xs : List Int) : (stripZ xs).length ≤ xs.length := by
  unfold stripZ
  rw [List.length_reverse]
  have h := (List.dropWhile_sublist (fun x => decide (x = 0)) (l := xs.reverse)).length_le
  rw [List.length_reverse] at h
  exact h
theorem oct_turn {octets o E : List Int} {i : Nat} {count : Int} (hs : stripZ octets = E) (hl : octets = E ∨ (octets.length : Int) + i ≤ count + 4)
    (h : (octets ≠ [] ∧ itD octets (-1) = 0 ∧ o = octets.dropLast) ∨ ((¬ itD octets (-1) = 0 ∨ octets = []) ∧ o = octets)) : stripZ o = E ∧ (o = E ∨ (o.length : Int) + ((i + 1 : Nat) : Int) ≤ count + 4) := by
  rcases h with ⟨h1, h2, rfl⟩ | ⟨h1, rfl⟩
  · have e1 := strip_pop h1 h2
    have e2 := drop_less h1
    have e3 := strip_len octets.dropLast
    refine ⟨e1.trans hs, .inr ?_⟩
    rcases hl with z | z
    · rw [e1, hs, ← z] at e3
      omega
    · omega
  · have e1 := strip_done (xs := o) (by rcases h1 with z | z; exact .inr z; exact .inl z)
    exact ⟨hs, .inl (e1.symm.trans hs)⟩
theorem oct_end {octets E : List Int} {count : Int} (hs : stripZ octets = E) (hl : octets = E ∨ (octets.length : Int) + ((count + 4).toNat : Int) ≤ count + 4) (hc : 0 ≤ count) : octets = E := by
  rcases hl with z | z
  · exact z
  · have e : octets = [] := nil_len (by omega)
    rw [← hs, e]
    rfl
theorem chances_cut {e : EncS} {chances : List Int} {low span count : Int} (hg : EncG e) (hr : CodeR e chances low span count) : cutL chances none (some 256) = e.probs := by
  rw [hr.chances]
  have hl := hg.len
  unfold cutL
  rw [HT.sIx_none, show (256 : Int) = ((256 : Nat) : Int) from rfl, HT.sIx_nat, List.length_append, hl]
  show List.take 256 (List.drop 0 (e.probs ++ [2048])) = e.probs
  rw [List.drop_zero, List.take_append_of_le_length (by omega), List.take_of_length_le (by omega)]
def decItem (d : DecS) (it : Int × Int) : DecS := if 0 ≤ it.1 then decRead d it.1 else decDecide d 2048
def decItemBit (d : DecS) (it : Int × Int) : Int := if 0 ≤ it.1 then decBit d (itD d.probs it.1) else decBit d 2048
def accO (o : List Int) : Nat → Int
  | 0 => 0
  | k + 1 => accO o k * 256 + (o[k]?).getD 0
def bigL (e : EncS) : Int := num e.front * 4294967296 + e.low
def vAt (E e : EncS) : Int := bigL E / 256 ^ (E.front.length - e.front.length)
structure Within (E e : EncS) : Prop where
  n : e.front.length ≤ E.front.length
  lo : bigL e ≤ vAt E e
  hi : vAt E e < bigL e + e.span
theorem codeN_self (e : EncS) : CodeN e (bigL e) e.span (e.front.length : Int) := ⟨rfl, rfl, rfl⟩
theorem within_self {E : EncS} (h : 0 < E.span) : Within E E := by
  have e : vAt E E = bigL E := by
    unfold vAt
    rw [Nat.sub_self]
    exact Int.ediv_one _
  exact ⟨Nat.le_refl _, by rw [e]; exact Int.le_refl _, by rw [e]; omega⟩
theorem within_norm1 {E e : EncS} (h : Within E (encNorm1 e)) : Within E e := by
  have c := codeN_norm (codeN_self e)
  have hn : (encNorm1 e).front.length = e.front.length + 1 := by
    have := c.count
    omega
  have h1 := h.n
  have h2 := h.lo
  have h3 := h.hi
  rw [show bigL (encNorm1 e) = bigL e * 256 from c.low.symm] at h2 h3
  rw [show (encNorm1 e).span = e.span * 256 from rfl] at h3
  have hv : vAt E e = vAt E (encNorm1 e) / 256 := by
    unfold vAt
    rw [hn, show E.front.length - e.front.length = (E.front.length - (e.front.length + 1)) + 1 from by omega, Int.pow_succ, Int.ediv_ediv_of_nonneg]
    have : (0 : Nat) < 256 ^ (E.front.length - (e.front.length + 1)) := Nat.pow_pos (by decide)
    exact_mod_cast Nat.le_of_lt this
  exact ⟨by omega, by rw [hv]; omega, by rw [hv]; omega⟩
theorem within_norm {E e : EncS} (h : Within E (encNorm e)) : Within E e := by
  unfold encNorm at h
  split at h
  · exact within_norm1 h
  · exact h
theorem within_pre {E e : EncS} {p d : Int} (hg : EncG e) (hp : 31 ≤ p ∧ p ≤ 4065) (h : Within E (encPre e p d)) : Within E e ∧ (d = 0 → vAt E e < bigL e + e.span / 4096 * p) ∧ (d ≠ 0 → bigL e + e.span / 4096 * p ≤ vAt E e) := by
  have hsp := hg.mid.span
  have hb := hg.big
  have hi := part_in ⟨hb, hsp.2⟩ hp
  have c := codeN_pre (d := d) hg hp (codeN_self e) rfl rfl
  have hn : (encPre e p d).front.length = e.front.length := len_pre e p d
  have h1 := h.n
  have h2 := h.lo
  have h3 := h.hi
  have hv : vAt E (encPre e p d) = vAt E e := by
    unfold vAt
    rw [hn]
  rw [hv, show bigL (encPre e p d) = _ from c.low.symm] at h2 h3
  rw [← c.span] at h3
  rw [hn] at h1
  by_cases hd : d = 0
  · rw [if_pos hd] at h2 h3
    rw [if_pos hd] at h3
    exact ⟨⟨h1, h2, by omega⟩, fun _ => h3, fun z => absurd hd z⟩
  · rw [if_neg hd] at h2 h3
    rw [if_neg hd] at h3
    exact ⟨⟨h1, by omega, by omega⟩, fun z => absurd z hd, fun _ => h2⟩
theorem within_congr {E e e' : EncS} (hf : e'.front = e.front) (hl : e'.low = e.low) (hs : e'.span = e.span) (h : Within E e') : Within E e := by
  have h1 := h.n
  have h2 := h.lo
  have h3 := h.hi
  unfold bigL vAt at *
  rw [hf] at h1
  rw [hf, hl] at h2
  rw [hf, hl, hs] at h3
  exact ⟨h1, h2, h3⟩
def chanceOf (e : EncS) (it : Int × Int) : Int := if 0 ≤ it.1 then itD e.probs it.1 else 2048
theorem chance_in {e : EncS} {it : Int × Int} (h : EncG e) (hc : it.1 ≤ 255) : 31 ≤ chanceOf e it ∧ chanceOf e it ≤ 4065 := by
  unfold chanceOf
  split
  · exact h.chance ‹_› (by omega)
  · decide
theorem within_item0 {E e : EncS} {it : Int × Int} (h : Within E (encItem e it)) : Within E (encNorm (encPre e (chanceOf e it) it.2)) := by
  unfold encItem at h
  unfold chanceOf
  split at h
  · rw [if_pos ‹_›]
    exact within_congr (e' := encCode e it.1 it.2) rfl rfl rfl h
  · rw [if_neg ‹_›]
    exact h
theorem within_item {E e : EncS} {it : Int × Int} (hg : EncG e) (hc : it.1 ≤ 255) (h : Within E (encItem e it)) :
    Within E e ∧ (it.2 = 0 → vAt E e < bigL e + e.span / 4096 * chanceOf e it) ∧ (it.2 ≠ 0 → bigL e + e.span / 4096 * chanceOf e it ≤ vAt E e) :=
  within_pre hg (chance_in hg hc) (within_norm (within_item0 h))
theorem within_items : ∀ {items : List (Int × Int)} {E e : EncS}, EncG e → ItemsOk items → Within E (encItems e items) → Within E e
  | [], _, _, _, _, h => h
  | it :: r, E, e, hg, hi, h => by
    have h0 := hi it List.mem_cons_self
    exact (within_item hg h0.1.2 (within_items (items := r) (item_ok hg h0) (fun x hx => hi x (List.mem_cons_of_mem _ hx)) h)).1
theorem acc_div {o : List Int} (h : ∀ x ∈ o, 0 ≤ x ∧ x ≤ 255) (k : Nat) : ∀ m : Nat, accO o (k + m) / 256 ^ m = accO o k
  | 0 => Int.ediv_one _
  | m + 1 => by
    have ho : 0 ≤ (o[k + m]?).getD 0 ∧ (o[k + m]?).getD 0 ≤ 255 := by
      cases hx : o[k + m]? with
      | none => decide
      | some x => exact h x (List.mem_of_getElem? hx)
    rw [Int.pow_succ, Int.mul_comm, ← Int.ediv_ediv_of_nonneg (by decide)]
    rw [show accO o (k + (m + 1)) = accO o (k + m) * 256 + (o[k + m]?).getD 0 from rfl, show (accO o (k + m) * 256 + (o[k + m]?).getD 0) / 256 = accO o (k + m) from by omega]
    exact acc_div h k m
theorem acc_app (ys zs : List Int) : ∀ k : Nat, k ≤ ys.length → accO (ys ++ zs) k = accO ys k
  | 0, _ => rfl
  | k + 1, h => by
    show accO (ys ++ zs) k * 256 + ((ys ++ zs)[k]?).getD 0 = accO ys k * 256 + (ys[k]?).getD 0
    rw [acc_app ys zs k (by omega), List.getElem?_append_left (by omega)]
theorem acc_num (xs : List Int) : accO xs xs.length = num xs := by
  refine snocInd (motive := fun xs => accO xs xs.length = num xs) rfl (fun ys y ih => ?_) xs
  rw [List.length_append, num_snoc]
  show accO (ys ++ [y]) ys.length * 256 + ((ys ++ [y])[ys.length]?).getD 0 = _
  rw [acc_app ys [y] _ (Nat.le_refl _), ih, List.getElem?_append_right (Nat.le_refl _), Nat.sub_self]
  rfl
theorem acc_congr {xs ys : List Int} (h : ∀ j : Nat, (xs[j]?).getD 0 = (ys[j]?).getD 0) : ∀ k : Nat, accO xs k = accO ys k
  | 0 => rfl
  | k + 1 => by
    show accO xs k * 256 + _ = accO ys k * 256 + _
    rw [acc_congr h k, h k]
theorem get_zeros (ys : List Int) (m j : Nat) : ((ys ++ List.replicate m 0)[j]?).getD 0 = (ys[j]?).getD 0 := by
  by_cases h : j < ys.length
  · rw [List.getElem?_append_left h]
  · rw [List.getElem?_append_right (by omega), List.getElem?_eq_none (l := ys) (by omega)]
    by_cases hm : j - ys.length < m
    · rw [List.getElem?_eq_getElem (by rw [List.length_replicate]; exact hm), List.getElem_replicate]
      rfl
    · rw [List.getElem?_eq_none (by rw [List.length_replicate]; omega)]
theorem dw_split : ∀ ys : List Int, ∃ m : Nat, ys = List.replicate m 0 ++ ys.dropWhile (fun x => decide (x = 0))
  | [] => ⟨0, rfl⟩
  | y :: r => by
    rw [List.dropWhile_cons]
    split
    · obtain ⟨m, e⟩ := dw_split r
      refine ⟨m + 1, ?_⟩
      have hy : decide (y = 0) = true := ‹_›
      rw [List.replicate_succ, List.cons_append, ← e, of_decide_eq_true hy]
    · exact ⟨0, rfl⟩
theorem strip_split (xs : List Int) : ∃ m : Nat, xs = stripZ xs ++ List.replicate m 0 := by
  obtain ⟨m, e⟩ := dw_split xs.reverse
  refine ⟨m, ?_⟩
  have e2 := congrArg List.reverse e
  rw [List.reverse_reverse, List.reverse_append, List.reverse_replicate] at e2
  exact e2
theorem acc_code {E : EncS} (hm : EncMid E) (m : Nat) : accO (encOctets E ++ List.replicate m 0) (E.front.length + 4) = bigL E := by
  obtain ⟨q, e⟩ := strip_split (E.front ++ digits4 E.low)
  have a1 : accO (encOctets E ++ List.replicate m 0) (E.front.length + 4) = accO (E.front ++ digits4 E.low) (E.front.length + 4) := by
    apply acc_congr
    intro j
    rw [get_zeros, e, get_zeros]
    rfl
  have a2 := acc_num (E.front ++ digits4 E.low)
  rw [List.length_append, digits4_len] at a2
  have hl := hm.low
  rw [a1, a2, digits4_eq, show E.front ++ [E.low / 16777216 % 256, E.low / 65536 % 256, E.low / 256 % 256, E.low % 256] = E.front ++ [E.low / 16777216 % 256] ++ [E.low / 65536 % 256] ++ [E.low / 256 % 256] ++ [E.low % 256] from by simp]
  rw [num_snoc, num_snoc, num_snoc, num_snoc]
  unfold bigL
  omega
theorem strip_mem {xs : List Int} {x : Int} (h : x ∈ stripZ xs) : x ∈ xs := by
  obtain ⟨m, e⟩ := strip_split xs
  rw [e]
  exact List.mem_append_left _ h
theorem code_oct_in {E : EncS} (h : EncMid E) : ∀ x ∈ encOctets E, 0 ≤ x ∧ x ≤ 255 := by
  intro x hx
  rcases List.mem_append.mp (strip_mem hx) with z | z
  · exact h.oct x z
  · rw [digits4_eq] at z
    have hl := h.low
    simp only [List.mem_cons, List.not_mem_nil, or_false] at z
    omega
structure Rel (o : List Int) (e : EncS) (d : DecS) : Prop where
  g : DecG d
  octs : d.octs = o
  probs : d.probs = e.probs
  span : d.span = e.span
  place : d.place = if (o.length : Int) < (e.front.length : Int) + 4 then (o.length : Int) else (e.front.length : Int) + 4
  value : d.value = accO o (e.front.length + 4) - bigL e
theorem dec_oct {o : List Int} {d : DecS} {n : Nat} (ho : d.octs = o) (hp : d.place = if (o.length : Int) < (n : Int) then (o.length : Int) else (n : Int)) : decOct d = (o[n]?).getD 0 := by
  unfold decOct
  rw [ho, hp]
  by_cases h : n < o.length
  · rw [if_neg (show ¬ (o.length : Int) < (n : Int) from by omega), if_pos (by omega), itD_nat (List.getElem?_eq_getElem h), List.getElem?_eq_getElem h]
    rfl
  · rw [if_neg (by split <;> omega), List.getElem?_eq_none (by omega)]
    rfl
theorem place_turn {n : Nat} {l pl : Int} (h : pl = if l < (n : Int) then l else (n : Int)) (h0 : 0 ≤ l) : (if pl < l then pl + 1 else pl) = if l < ((n + 1 : Nat) : Int) then l else ((n + 1 : Nat) : Int) := by
  rw [h]
  split <;> split <;> split <;> omega
theorem shifts_val (o : List Int) : ∀ n : Nat, (decShifts n (decBlank o)).value = accO o n ∧ (decShifts n (decBlank o)).place = if (o.length : Int) < (n : Int) then (o.length : Int) else (n : Int)
  | 0 => ⟨rfl, by rw [if_neg (by omega)]; rfl⟩
  | n + 1 => by
    have ih := shifts_val o n
    have ho := shifts_octs (decBlank o) n
    have hd := dec_oct (o := o) ho ih.2
    refine ⟨?_, ?_⟩
    · show (decShifts n (decBlank o)).value * 256 + decOct (decShifts n (decBlank o)) = accO o n * 256 + _
      rw [ih.1, hd]
    · show (if (decShifts n (decBlank o)).place < ((decShifts n (decBlank o)).octs.length : Int) then (decShifts n (decBlank o)).place + 1 else (decShifts n (decBlank o)).place) = _
      rw [ho]
      exact place_turn ih.2 (by show (0 : Int) ≤ (o.length : Int); omega)
theorem acc_at {E e : EncS} {o : List Int} (ho : ∀ x ∈ o, 0 ≤ x ∧ x ≤ 255) (hc : accO o (E.front.length + 4) = bigL E) (h : e.front.length ≤ E.front.length) : accO o (e.front.length + 4) = vAt E e := by
  have a := acc_div ho (e.front.length + 4) (E.front.length - e.front.length)
  rw [show e.front.length + 4 + (E.front.length - e.front.length) = E.front.length + 4 from by omega, hc] at a
  exact a.symm
theorem rel_init {E : EncS} {o : List Int} (ho : ∀ x ∈ o, 0 ≤ x ∧ x ≤ 255) (hc : accO o (E.front.length + 4) = bigL E) (h : Within E encInit) : Rel o encInit (decInit o) := by
  have s := shifts_val o 4
  have a := acc_at ho hc h.n
  have hv : accO o 4 = vAt E encInit := a
  have hi : vAt E encInit < 0 + (4294967296 - 1) := h.hi
  refine ⟨decInit_ok ho, shifts_octs _ 4, shifts_probs _ 4, shifts_span _ 4, s.2, ?_⟩
  show (if 4294967296 - 2 < (decShifts 4 (decBlank o)).value then 4294967296 - 2 else (decShifts 4 (decBlank o)).value) = accO o 4 - 0
  rw [s.1, if_neg (by omega)]
  omega
theorem rel_norm {o : List Int} {e : EncS} {d : DecS} (hg : DecG (decNorm d)) (octs : d.octs = o) (probs : d.probs = e.probs) (span : d.span = e.span)
    (place : d.place = if (o.length : Int) < (e.front.length : Int) + 4 then (o.length : Int) else (e.front.length : Int) + 4) (value : d.value = accO o (e.front.length + 4) - bigL e) : Rel o (encNorm e) (decNorm d) := by
  unfold decNorm at hg ⊢
  unfold encNorm
  rw [span] at hg ⊢
  by_cases h : e.span < 16777216
  · rw [if_pos h] at hg
    rw [if_pos h, if_pos h]
    have c := codeN_norm (codeN_self e)
    have hn : (encNorm1 e).front.length = e.front.length + 1 := by
      have := c.count
      omega
    have hb : bigL (encNorm1 e) = bigL e * 256 := c.low.symm
    have hd := dec_oct (n := e.front.length + 4) octs (by rw [place] <;> rfl)
    refine ⟨hg, octs, probs, ?_, ?_, ?_⟩
    · show d.span * 256 = e.span * 256
      rw [span]
    · show (if d.place < (d.octs.length : Int) then d.place + 1 else d.place) = _
      rw [hn, octs]
      exact place_turn (n := e.front.length + 4) place (by omega)
    · show d.value * 256 + decOct d = accO o ((encNorm1 e).front.length + 4) - bigL (encNorm1 e)
      rw [hn, hb, hd, value, show e.front.length + 1 + 4 = e.front.length + 4 + 1 from by omega]
      show _ = accO o (e.front.length + 4) * 256 + _ - _
      omega
  · rw [if_neg h] at hg
    rw [if_neg h, if_neg h]
    exact ⟨hg, octs, probs, span, place, value⟩
theorem rel_step {E e : EncS} {o : List Int} {d : DecS} {p b : Int} (ho : ∀ x ∈ o, 0 ≤ x ∧ x ≤ 255) (hc : accO o (E.front.length + 4) = bigL E) (hr : Rel o e d) (hg : EncG e) (hp : 31 ≤ p ∧ p ≤ 4065) (hb : 0 ≤ b ∧ b ≤ 1) (hw : Within E e)
    (h0 : b = 0 → vAt E e < bigL e + e.span / 4096 * p) (h1 : b ≠ 0 → bigL e + e.span / 4096 * p ≤ vAt E e) : decBit d p = b ∧ Rel o (encNarrow e p b) (decDecide d p) := by
  have hv := hr.value
  rw [acc_at ho hc hw.n] at hv
  have hs := hr.span
  have c := codeN_pre (d := b) hg hp (codeN_self e) rfl rfl
  have hn : (encPre e p b).front.length = e.front.length := len_pre e p b
  have hl : bigL (encPre e p b) = _ := c.low.symm
  have hsp := c.span.symm
  have hgd := decNorm_ok (decPre_ok hr.g hp)
  by_cases hb0 : b = 0
  · have hlt : d.value < d.span / 4096 * p := by
      rw [hs, hv]
      have := h0 hb0
      omega
    rw [if_pos hb0] at hl hsp
    refine ⟨by unfold decBit; rw [if_pos hlt, hb0], ?_⟩
    unfold encNarrow decDecide
    have e1 : decPre d p = ⟨d.probs, d.octs, d.place, d.span / 4096 * p, d.value⟩ := by
      unfold decPre
      rw [if_pos hlt]
    rw [e1] at hgd ⊢
    refine rel_norm hgd hr.octs ?_ ?_ ?_ ?_
    · show d.probs = _
      rw [probs_pre]
      exact hr.probs
    · show d.span / 4096 * p = _
      rw [hsp, hs]
    · show d.place = _
      rw [hn]
      exact hr.place
    · show d.value = _
      rw [hn, hl]
      exact hr.value
  · have hlt : ¬ d.value < d.span / 4096 * p := by
      rw [hs, hv]
      have := h1 hb0
      omega
    rw [if_neg hb0] at hl hsp
    refine ⟨by unfold decBit; rw [if_neg hlt]; omega, ?_⟩
    unfold encNarrow decDecide
    have e1 : decPre d p = ⟨d.probs, d.octs, d.place, d.span - d.span / 4096 * p, d.value - d.span / 4096 * p⟩ := by
      unfold decPre
      rw [if_neg hlt]
    rw [e1] at hgd ⊢
    refine rel_norm hgd hr.octs ?_ ?_ ?_ ?_
    · show d.probs = _
      rw [probs_pre]
      exact hr.probs
    · show d.span - d.span / 4096 * p = _
      rw [hsp, hs]
    · show d.place = _
      rw [hn]
      exact hr.place
    · show d.value - d.span / 4096 * p = _
      rw [hn, hl, hr.value, hs]
      omega
theorem rel_item {E e : EncS} {o : List Int} {d : DecS} {it : Int × Int} (ho : ∀ x ∈ o, 0 ≤ x ∧ x ≤ 255) (hc : accO o (E.front.length + 4) = bigL E) (hr : Rel o e d) (hg : EncG e) (hi : (-1 ≤ it.1 ∧ it.1 ≤ 255) ∧ 0 ≤ it.2 ∧ it.2 ≤ 1)
    (h : Within E (encItem e it)) : decItemBit d it = it.2 ∧ Rel o (encItem e it) (decItem d it) := by
  have w := within_item hg hi.1.2 h
  have r := rel_step ho hc hr hg (chance_in hg hi.1.2) hi.2 w.1 w.2.1 w.2.2
  unfold decItemBit decItem encItem
  unfold chanceOf at r
  by_cases z : 0 ≤ it.1
  · rw [if_pos z] at r
    rw [if_pos z, if_pos z, if_pos z, hr.probs]
    refine ⟨r.1, ?_⟩
    have q := r.2
    have hg2 := read_ok hr.g z (by omega : it.1 < 256)
    have hp := hr.probs
    refine ⟨hg2, ?_, ?_, ?_, ?_, ?_⟩
    · show (decDecide d (itD d.probs it.1)).octs = o
      rw [hp]
      exact q.octs
    · show setL (decDecide d (itD d.probs it.1)).probs it.1 (adaptE (itD d.probs it.1) (decBit d (itD d.probs it.1))) = setL (encNarrow e (itD e.probs it.1) it.2).probs it.1 (adaptE (itD e.probs it.1) it.2)
      rw [hp, r.1, q.probs]
    · show (decDecide d (itD d.probs it.1)).span = (encNarrow e (itD e.probs it.1) it.2).span
      rw [hp]
      exact q.span
    · show (decDecide d (itD d.probs it.1)).place = if (o.length : Int) < ((encNarrow e (itD e.probs it.1) it.2).front.length : Int) + 4 then (o.length : Int) else ((encNarrow e (itD e.probs it.1) it.2).front.length : Int) + 4
      rw [hp]
      exact q.place
    · show (decDecide d (itD d.probs it.1)).value = accO o ((encNarrow e (itD e.probs it.1) it.2).front.length + 4) - bigL (encNarrow e (itD e.probs it.1) it.2)
      rw [hp]
      exact q.value
  · rw [if_neg z] at r
    rw [if_neg z, if_neg z, if_neg z]
    exact r
theorem items_split (e : EncS) (items : List (Int × Int)) (i : Nat) : encItems e items = encItems (encItems e (items.take i)) (items.drop i) := by
  rw [← items_app, List.take_append_drop]
theorem rel_turn {o : List Int} {items : List (Int × Int)} {i : Nat} {it : Int × Int} {d : DecS} (hi : items[i]? = some it) (hok : ItemsOk items) (ho : ∀ x ∈ o, 0 ≤ x ∧ x ≤ 255)
    (hc : accO o ((encItems encInit items).front.length + 4) = bigL (encItems encInit items)) (hr : Rel o (encItems encInit (items.take i)) d) :
    decItemBit d it = it.2 ∧ Rel o (encItems encInit (items.take (i + 1))) (decItem d it) := by
  have hg : EncG (encItems encInit (items.take i)) := items_ok init_ok (fun x hx => hok x (List.mem_of_mem_take hx))
  have hE : EncG (encItems encInit items) := items_ok init_ok hok
  have hit := hok _ (List.mem_of_getElem? hi)
  have e1 := items_turn (e := encInit) hi rfl
  have hw : Within (encItems encInit items) (encItem (encItems encInit (items.take i)) it) := by
    have hw := within_self hE.mid.span0
    have hs := items_split encInit items (i + 1)
    rw [← e1] at hs
    exact within_items (item_ok hg hit) (fun x hx => hok x (List.mem_of_mem_drop hx)) (by rw [← hs]; exact hw)
  rw [← e1]
  exact rel_item ho hc hr hg hit hw
theorem rel_start {o : List Int} {items : List (Int × Int)} (hok : ItemsOk items) (ho : ∀ x ∈ o, 0 ≤ x ∧ x ≤ 255) (hc : accO o ((encItems encInit items).front.length + 4) = bigL (encItems encInit items)) : Rel o encInit (decInit o) :=
  rel_init ho hc (within_items init_ok hok (within_self (items_ok init_ok hok).mid.span0))
end Pu
open Pu
theorem gd {α : Type} {xs : List α} {k n : Int} (e : (xs.length : Int) = n) (h0 : 0 ≤ k) (h1 : k < n) : -(xs.length : Int) ≤ k ∧ k < (xs.length : Int) := by omega
theorem big {x : Int} (h0 : 0 ≤ x) (h1 : x < 2 ^ 64) : -(2 ^ 4096) < x ∧ x < 2 ^ 4096 := by
  have h : (0 : Int) < 2 ^ 4032 := Int.pow_pos (by decide)
  have e : (2 : Int) ^ 4096 = 2 ^ 4032 * 2 ^ 64 := Int.pow_add 2 4032 64
  have l : (1 : Int) * 2 ^ 64 ≤ 2 ^ 4032 * 2 ^ 64 := Int.mul_le_mul_of_nonneg_right h (by decide)
  rw [← e] at l
  generalize (2 : Int) ^ 4096 = z at l ⊢
  omega
theorem e8 : (2 : Int) ^ Int.toNat 8 = 256 := by decide
theorem while_bk {σ ρ : Type} {n : Nat} {s s' : σ} {f : σ → Rx (Lp σ ρ)} (h : f s = .ok (.bk s')) : whileR (n + 1) s f = .ok (.go s') := by
  show (f s).bind _ = _
  rw [h]
  rfl
theorem while_go {σ ρ : Type} {n : Nat} {s s' : σ} {f : σ → Rx (Lp σ ρ)} (h : f s = .ok (.go s')) : whileR (n + 1) s f = whileR n s' f := by
  show (f s).bind _ = _
  rw [h]
  rfl
/-! the encoder -/
theorem carry_eq {e : EncS} (h : ∃ y ∈ e.front, y ≠ 255) (hl : e.front.length ≤ 900000) : F_Encoder__carry e = .ok ⟨e.probs, incE e.front, e.low, e.span⟩ := by
  refine Gv.get ?_
  unfold F_Encoder__carry
  refine Gv.bnd fun pl hpl => Gv.bind (Gv.whileR (P := fun s => s.1 = ⟨e.probs, s.1.front, e.low, e.span⟩ ∧ ∃ (A : List Int) (x : Int) (j : Nat), e.front = A ++ [x] ++ List.replicate j 255 ∧ s.1.front = A ++ [x] ++ List.replicate j 0 ∧ s.2 = (A.length : Int))
    (R := fun s => s.1 = ⟨e.probs, s.1.front, e.low, e.span⟩ ∧ ∃ (A : List Int) (x : Int) (j : Nat), e.front = A ++ [x] ++ List.replicate j 255 ∧ s.1.front = A ++ [x] ++ List.replicate j 0 ∧ s.2 = (A.length : Int) ∧ x ≠ 255) (fun s => s.2.toNat) (fun s p => ?_) ?_ ?_) ?_
  · obtain ⟨es, A, x, j, h1, h2, h3⟩ := p
    have hin := mid_in h2 h3
    have hat := mid_at h2 h3
    unfold F_Encoder__carry_b1
    refine Gv.grd hin ?_
    rw [hat]
    refine Gv.ite (fun c => Gv.grd hin (Gv.bnd fun y hy => Gv.bnd fun q hq => .ok (.inl ⟨_, rfl, ⟨by rw [es], ?_⟩, ?_⟩))) fun c => .ok (.inr ⟨_, rfl, es, A, x, j, h1, h2, h3, c⟩)
    · obtain ⟨B, z, k, b1, b2, b3⟩ := carry_turn h h1 h2 h3 c
      exact ⟨B, z, k, b1, by show y = _; rw [hy]; exact b2, by show q = _; rw [hq]; exact b3⟩
    · show q.toNat < s.2.toNat
      rw [hq]
      exact carry_less h h1 h3 c
  · obtain ⟨A, x, j, h1, h2, h3⟩ := carry_start h
    exact ⟨rfl, A, x, j, h1, h2, by show pl = _; rw [hpl]; exact h3⟩
  · show pl.toNat < 1000000
    omega
  · rintro l ⟨s, rfl, es, A, x, j, h1, h2, h3, hx⟩
    show Gv (F_Encoder__carry_r1 s.1 s.2) _
    have hin := mid_in h2 h3
    have hlen : s.1.front.length = e.front.length := by
      rw [h1, h2]
      simp
    unfold F_Encoder__carry_r1
    refine Gv.grd ⟨by omega, by omega, hin.2⟩ (Gv.grd hin (Gv.bnd fun y hy => .ok ?_))
    rw [hy, carry_end h1 h2 h3 hx, es]
theorem norm_eq {e : EncS} (h : EncMid e) (hl : e.front.length ≤ 900000) : F_Encoder__narrow_k1 e = .ok (encNorm e) := by
  have hs := h.span
  have hw := h.low
  unfold F_Encoder__narrow_k1 encNorm
  by_cases c : e.span < 16777216
  · rw [if_pos c, show (1000000 : Nat) = 999999 + 1 from rfl, while_go (s' := encNorm1 e)]
    · rw [show (999999 : Nat) = 999998 + 1 from rfl, while_bk (s' := encNorm1 e)]
      · rfl
      · unfold F_Encoder__narrow_b2
        rw [if_neg (by have := norm_span h; omega)]
    · unfold F_Encoder__narrow_b2
      rw [if_pos c, grd_pos (by omega), bnd_eq, grd_pos ⟨by decide, by decide, big hw.1 (by omega)⟩, bnd_eq, grd_pos ⟨by decide, by decide, big (by omega) (by omega)⟩, bnd_eq, e8, ← encNorm_eq]
  · rw [if_neg c, show (1000000 : Nat) = 999999 + 1 from rfl, while_bk (s' := e)]
    · rfl
    · unfold F_Encoder__narrow_b2
      rw [if_neg c]
theorem narrow_eq {e : EncS} (g : EncG e) {p d : Int} (hp : 31 ≤ p ∧ p ≤ 4065) (hl : e.front.length ≤ 900000) : F_Encoder__narrow e p d = .ok (encNarrow e p d) := by
  have hm := encPre_ok g hp d
  have hlp := len_pre e p d
  have hn := norm_eq hm (by omega)
  unfold F_Encoder__narrow encNarrow
  rw [grd_pos (.inr ⟨by omega, by omega⟩), bnd_eq, ← hn]
  have hc := carry_pre g hp
  unfold encPre
  by_cases c : d = 0
  · rw [if_pos c, if_pos c, bind_ok]
  · rw [if_neg c, if_neg c, bnd_eq, bnd_eq]
    by_cases q : 4294967296 ≤ e.low + e.span / 4096 * p
    · rw [if_pos q, if_pos q, bnd_eq, carry_eq (e := ⟨e.probs, e.front, e.low + e.span / 4096 * p - 4294967296, e.span - e.span / 4096 * p⟩) (hc q) hl, noEr_ok, bind_ok, bind_ok]
    · rw [if_neg q, if_neg q, bind_ok]
theorem adapted_eq (c b : Int) : F__adapted c b = .ok (adaptE c b) := by
  unfold F__adapted adaptE
  split <;> rfl
theorem ctx_ok {c : Int} (h0 : 0 ≤ c) (h1 : c < 256) : F__check_context c = .ok () := by
  unfold F__check_context
  rw [if_pos h0, if_pos h1]
theorem ctx_er {c : Int} (h : c < 0 ∨ 256 ≤ c) : F__check_context c = .er 1 := by
  unfold F__check_context
  split
  · rw [if_neg (by omega)]
  · rfl
theorem dec_ok {d : Int} (h0 : 0 ≤ d) (h1 : d ≤ 1) : F__check_decision d = .ok () := by
  unfold F__check_decision
  rw [if_pos h0, if_pos h1]
theorem dec_er {d : Int} (h : d < 0 ∨ 1 < d) : F__check_decision d = .er 1 := by
  unfold F__check_decision
  split
  · rw [if_neg (by omega)]
  · rfl
theorem code_eq {e : EncS} (g : EncG e) {c d : Int} (h0 : 0 ≤ c) (h1 : c < 256) (d0 : 0 ≤ d) (d1 : d ≤ 1) (hl : e.front.length ≤ 900000) : F_Encoder_code e c d = .ok (encCode e c d) := by
  have l := g.len
  have gi := gd (show (e.probs.length : Int) = 256 by omega) h0 h1
  unfold F_Encoder_code
  rw [ctx_ok h0 h1, bind_ok, dec_ok d0 d1, bind_ok, grd_pos gi, bnd_eq, narrow_eq g (g.chance h0 h1) hl, bind_ok, adapted_eq, noEr_ok, bind_ok, grd_pos (by rw [probs_narrow]; exact gi), bnd_eq]
  rfl
theorem even_eq {e : EncS} (g : EncG e) {d : Int} (d0 : 0 ≤ d) (d1 : d ≤ 1) (hl : e.front.length ≤ 900000) : F_Encoder_code_even e d = .ok (encNarrow e 2048 d) := by
  unfold F_Encoder_code_even
  rw [dec_ok d0 d1, bind_ok, narrow_eq g (by decide) hl, bind_ok]
theorem octets_eq {e : EncS} (hl : e.front.length ≤ 900000) : F_Encoder_octets e = .ok (encOctets e) := by
  refine Gv.get ?_
  unfold F_Encoder_octets
  refine Gv.bind_eq (mapA_pure0 (g := fun k => PySem.Builtin.bitAnd (e.low / 2 ^ Int.toNat k) 255) (fun k hk => ?_) (by decide)) (Gv.grd (by show e.front.length + 4 ≤ 1000000; omega) (Gv.bind (Gv.whileR (P := fun s => stripZ s = encOctets e) (R := fun s => s = encOctets e) (fun s => s.length) (fun s p => ?_) rfl ?_) ?_))
  · unfold F_Encoder_octets_c1
    rw [grd_pos (shifts_nn hk)]
    rfl
  · unfold F_Encoder_octets_b2
    refine Gv.ite (fun c => .ok (.inr ⟨_, rfl, ?_⟩)) fun c => Gv.grd (last_in c) (Gv.ite (fun z => Gv.grd c (Gv.bnd fun y hy => .ok (.inl ⟨_, rfl, ?_, ?_⟩))) fun z => .ok (.inr ⟨_, rfl, ?_⟩))
    · rw [← p, strip_done (.inl c)]
    · rw [hy, strip_pop c z]
      exact p
    · rw [hy]
      exact drop_less c
    · rw [← p, strip_done (.inr z)]
  · show (e.front ++ _).length < 1000000
    rw [List.length_append]
    show e.front.length + 4 < 1000000
    omega
  · rintro l ⟨s, rfl, h⟩
    exact .ok h
/-! the decoder -/
theorem shift_eq {d : DecS} (h : DecO d) (hv : 0 ≤ d.value) (hv2 : d.value < 2 ^ 64) : F_Decoder__shift d = .ok (decShift d) := by
  have ho := oct_in h
  have hp := h.place
  have k : ∀ (q : St_Decoder) (o : Int), q.value = d.value → 0 ≤ o → o ≤ 255 → F_Decoder__shift_k1 q o = .ok ⟨q.probs, q.octs, q.place, q.span, d.value * 256 + o⟩ := fun q o e h0 h1 => by
    unfold F_Decoder__shift_k1
    rw [e, grd_pos ⟨by decide, by decide, big hv hv2⟩, bnd_eq, e8, low_or hv h0 h1]
  unfold F_Decoder__shift decShift
  unfold decOct at ho ⊢
  by_cases c : d.place < (d.octs.length : Int)
  · rw [if_pos c] at ho
    rw [if_pos c, if_pos c, if_pos c, grd_pos ⟨by omega, c⟩, bnd_eq, bnd_eq, bind_ok]
    exact k ⟨d.probs, d.octs, d.place + 1, d.span, d.value⟩ (itD d.octs d.place) rfl ho.1 ho.2
  · rw [if_neg c] at ho
    rw [if_neg c, if_neg c, if_neg c, bind_ok]
    exact k d 0 rfl ho.1 ho.2
theorem dnorm_eq {d : DecS} (h : DecMid d) (b : Int) : F_Decoder__decide_k1 b d = .ok (b, decNorm d) := by
  have hs := h.span
  have hv := h.value
  unfold F_Decoder__decide_k1 decNorm
  by_cases c : d.span < 16777216
  · rw [if_pos c, show (1000000 : Nat) = 999999 + 1 from rfl, while_go (s' := decNorm1 d)]
    · rw [show (999999 : Nat) = 999998 + 1 from rfl, while_bk (s' := decNorm1 d)]
      · rfl
      · unfold F_Decoder__decide_b2
        rw [if_neg (show ¬ (decNorm1 d).span < 16777216 by show ¬ d.span * 256 < 16777216; omega)]
    · unfold F_Decoder__decide_b2
      rw [if_pos c, shift_eq h.o hv.1 (by omega), noEr_ok, bind_ok, grd_pos ⟨by decide, by decide, big (show 0 ≤ d.span by omega) (show d.span < 2 ^ 64 by omega)⟩, bnd_eq, e8]
      rfl
  · rw [if_neg c, show (1000000 : Nat) = 999999 + 1 from rfl, while_bk (s' := d)]
    · rfl
    · unfold F_Decoder__decide_b2
      rw [if_neg c]
theorem decide_eq {d : DecS} (g : DecG d) {p : Int} (hp : 31 ≤ p ∧ p ≤ 4065) : F_Decoder__decide d p = .ok (decBit d p, decDecide d p) := by
  have hn := dnorm_eq (decPre_ok g hp)
  unfold F_Decoder__decide decDecide
  rw [grd_pos (.inr ⟨by omega, by omega⟩), bnd_eq, bnd_eq]
  unfold decBit
  unfold decPre at hn ⊢
  by_cases c : d.value < d.span / 4096 * p
  · rw [if_pos c] at hn ⊢
    rw [if_pos c, if_pos rfl, bind_ok]
    exact hn 0
  · rw [if_neg c] at hn ⊢
    rw [if_neg c, if_neg (by decide), bnd_eq, bnd_eq, bind_ok]
    exact hn 1
theorem read_eq {d : DecS} (g : DecG d) {c : Int} (h0 : 0 ≤ c) (h1 : c < 256) : F_Decoder_read d c = .ok (decBit d (itD d.probs c), decRead d c) := by
  have l := g.len
  have gi := gd (show (d.probs.length : Int) = 256 by omega) h0 h1
  unfold F_Decoder_read
  rw [ctx_ok h0 h1, bind_ok, grd_pos gi, bnd_eq, decide_eq g (g.chance h0 h1), bind_ok, adapted_eq, noEr_ok, bind_ok, grd_pos (by rw [probs_decide]; exact gi), bnd_eq]
  rfl
theorem reven_eq {d : DecS} (g : DecG d) : F_Decoder_read_even d = .ok (decBit d 2048, decDecide d 2048) := by
  unfold F_Decoder_read_even
  rw [decide_eq g (by decide), bind_ok]
theorem dinit_eq {o : List Int} (h : ∀ x ∈ o, 0 ≤ x ∧ x ≤ 255) : F_Decoder___init__ o = .ok (decInit o) := by
  have st : ∀ (i : Nat) (x : Int), i < 4 → F_Decoder___init___b1 (decShifts i (decBlank o)) x = .ok (decShifts (i + 1) (decBlank o)) := fun i x hi => by
    have hs := shifts_ok (blank_ok h) rfl i
    have := pow_turn hi hs.2.2
    unfold F_Decoder___init___b1
    rw [shift_eq hs.1 hs.2.1 (by omega), noEr_ok, bind_ok]
    rfl
  unfold F_Decoder___init__
  rw [grd_pos ⟨by decide, by decide, by decide +kernel⟩, bnd_eq, show rng 0 (Int.toNat 4) = [0, 1, 2, 3] from by decide]
  have e : forS [0, 1, 2, 3] (decBlank o) (fun s x => F_Decoder___init___b1 s x) = .ok (decShifts 4 (decBlank o)) := by
    show (F_Decoder___init___b1 (decShifts 0 (decBlank o)) 0).bind _ = _
    rw [st 0 0 (by decide), bind_ok]
    show (F_Decoder___init___b1 (decShifts 1 (decBlank o)) 1).bind _ = _
    rw [st 1 1 (by decide), bind_ok]
    show (F_Decoder___init___b1 (decShifts 2 (decBlank o)) 2).bind _ = _
    rw [st 2 2 (by decide), bind_ok]
    show (F_Decoder___init___b1 (decShifts 3 (decBlank o)) 3).bind _ = _
    rw [st 3 3 (by decide), bind_ok]
    rfl
  show (forS [0, 1, 2, 3] (decBlank o) (fun s x => F_Decoder___init___b1 s x)).bind _ = _
  rw [e, bind_ok]
  rfl
abbrev intW (c : Int) : Int := ((PySem.Builtin.Int.intBits (c - 1) : Nat) : Int)
theorem bits16 : ∀ n : Nat, n < 16 → PySem.Builtin.Int.intBits (n : Int) ≤ 4 := by decide
theorem intW_in {c : Int} (h0 : 1 ≤ c) (h1 : c ≤ 16) : 0 ≤ intW c ∧ intW c ≤ 4 := by
  have e : c - 1 = ((c - 1).toNat : Int) := by omega
  have := bits16 (c - 1).toNat (by omega)
  rw [← e] at this
  show (0 : Int) ≤ ((PySem.Builtin.Int.intBits (c - 1) : Nat) : Int) ∧ ((PySem.Builtin.Int.intBits (c - 1) : Nat) : Int) ≤ 4
  omega
theorem pow4 {w : Int} (h0 : 0 ≤ w) (h1 : w ≤ 4) : (1 : Int) * 2 ^ Int.toNat w = 2 ^ Int.toNat w ∧ 1 ≤ (2 : Int) ^ Int.toNat w ∧ (2 : Int) ^ Int.toNat w ≤ 16 := by
  have : w = 0 ∨ w = 1 ∨ w = 2 ∨ w = 3 ∨ w = 4 := by omega
  rcases this with rfl | rfl | rfl | rfl | rfl <;> decide
theorem fst_ne {α : Type} {k j : Int} {r : α} (h : ¬ k = j) : ¬ ((k, r).1 = j) := h
theorem one_big : (0 : Int) ≤ 4 → -(2 ^ 4096) < (1 : Int) ∧ (1 : Int) < 2 ^ 4096 := fun _ => big (by decide) (by decide)
/-- what a symbol must keep -/
def Sy (y : Int × Int × Int × Int) : Prop :=
  (y.1 = 0 ∧ 0 ≤ y.2.1 ∧ y.2.1 ≤ 255) ∨ (y.1 = 1 ∧ 1 ≤ y.2.2.2 ∧ y.2.2.2 ≤ 16 ∧ (y.2.2.2 = 1 ∨ (0 ≤ y.2.1 ∧ y.2.1 + 2 ^ Int.toNat (intW y.2.2.2) ≤ 257))) ∨
  (y.1 = 2 ∧ 0 ≤ y.2.2.2 ∧ y.2.2.2 ≤ 64 ∧ (y.2.2.2 = 0 ∨ (0 ≤ y.2.1 ∧ y.2.1 ≤ 256 - (if 8 < y.2.2.2 then 8 else y.2.2.2)))) ∨ ((y.1 = 3 ∨ y.1 = 4) ∧ 0 ≤ y.2.1 ∧ y.2.1 ≤ 240) ∨ y.1 = 5
/-- and its value -/
def Sv (y : Int × Int × Int × Int) : Prop :=
  (y.1 = 0 → 0 ≤ y.2.2.1 ∧ y.2.2.1 ≤ 1) ∧ (y.1 = 1 → 0 ≤ y.2.2.1 ∧ y.2.2.1 < y.2.2.2) ∧ (y.1 = 2 → 0 ≤ y.2.2.1 ∧ y.2.2.1 ≤ y.2.2.2) ∧ (y.1 = 3 → 0 ≤ y.2.2.1 ∧ y.2.2.1 ≤ 1048576) ∧
  (y.1 = 4 → -1048576 ≤ y.2.2.1 ∧ y.2.2.1 ≤ 1048576) ∧ (y.1 = 5 → 0 ≤ y.2.2.1 ∧ y.2.2.1 ≤ 1)
theorem grdi {n : Int} {xs : List Int} {k : Int} (e : (xs.length : Int) = n) (h0 : 0 ≤ k) (h1 : k < n) : -(xs.length : Int) ≤ k ∧ k < (xs.length : Int) := by omega
theorem pick {xs : List Int} {k : Int} (h0 : 0 ≤ k) (h1 : k < xs.length) : itD xs k ∈ xs := itD_mem h0 h1
theorem symbol_gv (cell : Int) : Gv (F__law_symbol cell) (fun y => Sy y ∧ Sv y) := by
  unfold F__law_symbol
  refine Gv.bind (draws_gv _ _ (fun l hl => ?_) (by show 7 ≤ 1000000; decide)) fun ds hd => ?_
  · simp only [List.mem_cons, List.not_mem_nil, or_false] at hl
    rcases hl with rfl | rfl | rfl | rfl | rfl | rfl | rfl <;> omega
  obtain ⟨d0, r0, rfl, a0, b0, hd⟩ := hd.cons
  obtain ⟨d1, r1, rfl, a1, b1, hd⟩ := hd.cons
  obtain ⟨d2, r2, rfl, a2, b2, hd⟩ := hd.cons
  obtain ⟨d3, r3, rfl, a3, b3, hd⟩ := hd.cons
  obtain ⟨d4, r4, rfl, a4, b4, hd⟩ := hd.cons
  obtain ⟨d5, r5, rfl, a5, b5, hd⟩ := hd.cons
  obtain ⟨d6, r6, rfl, a6, b6, hd⟩ := hd.cons
  obtain rfl := hd.nil
  have i0 : itD [d0, d1, d2, d3, d4, d5, d6] 0 = d0 := itD_lit 0 rfl rfl
  have i1 : itD [d0, d1, d2, d3, d4, d5, d6] 1 = d1 := itD_lit 1 rfl rfl
  have i2 : itD [d0, d1, d2, d3, d4, d5, d6] 2 = d2 := itD_lit 2 rfl rfl
  have i3 : itD [d0, d1, d2, d3, d4, d5, d6] 3 = d3 := itD_lit 3 rfl rfl
  have i4 : itD [d0, d1, d2, d3, d4, d5, d6] 4 = d4 := itD_lit 4 rfl rfl
  have i5 : itD [d0, d1, d2, d3, d4, d5, d6] 5 = d5 := itD_lit 5 rfl rfl
  have i6 : itD [d0, d1, d2, d3, d4, d5, d6] 6 = d6 := itD_lit 6 rfl rfl
  have hl : (([d0, d1, d2, d3, d4, d5, d6] : List Int).length : Int) = 7 := rfl
  generalize [d0, d1, d2, d3, d4, d5, d6] = ds at i0 i1 i2 i3 i4 i5 i6 hl
  have ix : ∀ k : Int, 0 ≤ k → k < 7 → -(ds.length : Int) ≤ k ∧ k < (ds.length : Int) := fun k h0 h1 => grdi hl h0 h1
  rw [i0, i1, i2, i3, i4, i5, i6]
  refine Gv.grd (ix 0 (by decide) (by decide)) (Gv.bnd fun kind hk => ?_)
  refine Gv.ite (fun k5 => Gv.grd (ix 6 (by decide) (by decide)) (.ok ⟨.inr (.inr (.inr (.inr rfl))), ?_⟩)) fun k5 => ?_
  · refine ⟨fun h => absurd h (fst_ne (by decide)), fun h => absurd h (fst_ne (by decide)), fun h => absurd h (fst_ne (by decide)), fun h => absurd h (fst_ne (by decide)), fun h => absurd h (fst_ne (by decide)), fun _ => ⟨a6, by show d6 ≤ 1; omega⟩⟩
  refine Gv.ite (fun k0 => Gv.grd (ix 4 (by decide) (by decide)) (Gv.grd (ix 4 (by decide) (by decide)) (Gv.grd (ix 3 (by decide) (by decide)) (Gv.grd (grdi (n := 6) rfl a3 b3) (Gv.grd (ix 6 (by decide) (by decide)) (.ok ⟨.inl ⟨rfl, ?_⟩, ?_⟩)))))) fun k0 => ?_
  · have hm := pick (xs := [0, 255, 128, 3, d4, d4]) a3 b3
    simp only [List.mem_cons, List.not_mem_nil, or_false] at hm
    show 0 ≤ itD [0, 255, 128, 3, d4, d4] d3 ∧ itD [0, 255, 128, 3, d4, d4] d3 ≤ 255
    omega
  · refine ⟨fun _ => ⟨a6, by show d6 ≤ 1; omega⟩, fun h => absurd h (fst_ne (by decide)), fun h => absurd h (fst_ne (by decide)), fun h => absurd h (fst_ne (by decide)), fun h => absurd h (fst_ne (by decide)), fun h => absurd h (fst_ne (by decide))⟩
  refine Gv.ite (fun k1 => Gv.grd (ix 5 (by decide) (by decide)) (Gv.bnd fun count hc => Gv.bnd fun width hw => Gv.grd (ix 4 (by decide) (by decide)) (Gv.grd (by decide) (Gv.bnd fun base hb => ?_)))) fun k1 => ?_
  · have c0 : 1 ≤ count ∧ count ≤ 16 := by omega
    have hwc : width = intW count := hw
    have w0 := intW_in c0.1 c0.2
    rw [← hwc] at w0
    obtain ⟨p1, p2, p3⟩ := pow4 w0.1 w0.2
    have hb0 : 0 ≤ base ∧ base ≤ 241 := by omega
    clear hw hb hc
    refine Gv.bind (P := fun z => 0 ≤ z ∧ z + 2 ^ Int.toNat width ≤ 257) (Gv.grd (ix 3 (by decide) (by decide)) (Gv.ite (fun _ => Gv.grd ⟨w0.1, by omega, one_big (by decide)⟩ (Gv.bnd fun z hz => .ok (by rw [hz, p1]; omega))) fun _ => .ok (by omega))) fun z hz => ?_
    unfold F__law_symbol_k1
    rw [i1, i2]
    refine Gv.ite (fun c1 => Gv.grd (ix 2 (by decide) (by decide)) (.ok ⟨.inr (.inl ⟨rfl, by show (1 : Int) ≤ 1; decide, by show (1 : Int) ≤ 16; decide, .inl rfl⟩), ?_⟩)) fun c1 => Gv.grd (ix 2 (by decide) (by decide)) (Gv.grd (by omega) (Gv.grd (ix 1 (by decide) (by decide)) (Gv.grd (grdi (n := 3) rfl (by omega) (by omega)) (.ok ⟨.inr (.inl ⟨rfl, c0.1, c0.2, .inr ?_⟩), ?_⟩))))
    · exact ⟨fun h => absurd h (fst_ne (by decide)), fun _ => ⟨by show (0 : Int) ≤ 0; decide, by show (0 : Int) < 1; decide⟩, fun h => absurd h (fst_ne (by decide)), fun h => absurd h (fst_ne (by decide)), fun h => absurd h (fst_ne (by decide)), fun h => absurd h (fst_ne (by decide))⟩
    · show 0 ≤ (if 255 < z then 255 else z) ∧ (if 255 < z then 255 else z) + 2 ^ Int.toNat (intW count) ≤ 257
      rw [← hwc]
      generalize (2 : Int) ^ Int.toNat width = p at p2 p3 hz
      split <;> omega
    · have hm := pick (xs := [0, count - 1, d2 % count]) (k := d1 % 3) (by omega) (by show d1 % 3 < (3 : Int); omega)
      simp only [List.mem_cons, List.not_mem_nil, or_false] at hm
      have e0 := Int.emod_nonneg d2 (show count ≠ 0 by omega)
      have e1 := Int.emod_lt_of_pos d2 (show 0 < count by omega)
      refine ⟨fun h => absurd h (fst_ne (by decide)), fun _ => ?_, fun h => absurd h (fst_ne (by decide)), fun h => absurd h (fst_ne (by decide)), fun h => absurd h (fst_ne (by decide)), fun h => absurd h (fst_ne (by decide))⟩
      show 0 ≤ itD [0, count - 1, d2 % count] (d1 % 3) ∧ itD [0, count - 1, d2 % count] (d1 % 3) < count
      generalize d2 % count = u at hm e0 e1 ⊢
      omega
  refine Gv.ite (fun k2 => Gv.grd (ix 5 (by decide) (by decide)) (Gv.bnd fun most hm => Gv.grd (ix 4 (by decide) (by decide)) (Gv.bnd fun base hb => ?_))) fun k2 => ?_
  · have hb0 : most = 0 ∨ (0 ≤ base ∧ base ≤ 256 - (if 8 < most then 8 else most)) := by
      rw [hb]
      repeat' split
      all_goals omega
    clear hb
    refine Gv.bind (P := fun z => most = 0 ∨ (0 ≤ z ∧ z ≤ 256 - (if 8 < most then 8 else most))) (Gv.ite (fun h => Gv.grd (ix 2 (by decide) (by decide)) (Gv.bnd fun z _ => .ok (.inl h))) fun _ => .ok hb0) fun z hz => ?_
    unfold F__law_symbol_k2
    rw [i1, i2]
    refine Gv.grd (ix 2 (by decide) (by decide)) (Gv.grd (by omega) (Gv.grd (ix 1 (by decide) (by decide)) (Gv.grd (grdi (n := 3) rfl (by omega) (by omega)) (.ok ⟨.inr (.inr (.inl ⟨rfl, by show 0 ≤ most; omega, by show most ≤ 64; omega, hz⟩)), ?_⟩))))
    have hmm := pick (xs := [0, most, d2 % (most + 1)]) (k := d1 % 3) (by omega) (by show d1 % 3 < (3 : Int); omega)
    simp only [List.mem_cons, List.not_mem_nil, or_false] at hmm
    have e0 := Int.emod_nonneg d2 (show most + 1 ≠ 0 by omega)
    have e1 := Int.emod_lt_of_pos d2 (show 0 < most + 1 by omega)
    refine ⟨fun h => absurd h (fst_ne (by decide)), fun h => absurd h (fst_ne (by decide)), fun _ => ?_, fun h => absurd h (fst_ne (by decide)), fun h => absurd h (fst_ne (by decide)), fun h => absurd h (fst_ne (by decide))⟩
    show 0 ≤ itD [0, most, d2 % (most + 1)] (d1 % 3) ∧ itD [0, most, d2 % (most + 1)] (d1 % 3) ≤ most
    generalize d2 % (most + 1) = u at hmm e0 e1 ⊢
    omega
  refine Gv.grd (ix 4 (by decide) (by decide)) (Gv.grd (ix 4 (by decide) (by decide)) (Gv.grd (ix 3 (by decide) (by decide)) (Gv.grd (grdi (n := 6) rfl a3 b3) (Gv.bnd fun base hb => Gv.grd (ix 2 (by decide) (by decide)) (Gv.grd (ix 2 (by decide) (by decide)) (Gv.grd (ix 2 (by decide) (by decide)) (Gv.grd (ix 1 (by decide) (by decide)) (Gv.grd (grdi (n := 6) rfl a1 b1) (Gv.bnd fun value hv => ?_)))))))))
  have hb0 : 0 ≤ base ∧ base ≤ 240 := by
    have hm := pick (xs := [0, 240, 25, 41, d4 % 241, d4 % 241]) a3 b3
    rw [← hb] at hm
    simp only [List.mem_cons, List.not_mem_nil, or_false] at hm
    omega
  have hv0 : 0 ≤ value ∧ value ≤ 1048576 := by
    have hm := pick (xs := [0, 1048576, 1048576 - 1, d2 % 40, d2 % 1000, d2]) a1 b1
    rw [← hv] at hm
    simp only [List.mem_cons, List.not_mem_nil, or_false] at hm
    omega
  clear hb hv
  have hkk : kind = 3 ∨ kind = 4 := by omega
  refine Gv.bind (P := fun z => (kind = 3 → z = value) ∧ (z = value ∨ z = -value)) (Gv.ite (fun h => Gv.grd (ix 6 (by decide) (by decide)) (Gv.ite (fun _ => Gv.bnd fun z hz => .ok ⟨fun h3 => by omega, .inr hz⟩) fun _ => .ok ⟨fun _ => rfl, .inl rfl⟩)) fun _ => .ok ⟨fun _ => rfl, .inl rfl⟩) fun z hz => ?_
  unfold F__law_symbol_k3
  refine .ok ⟨.inr (.inr (.inr (.inl ⟨hkk, hb0.1, hb0.2⟩))), ?_⟩
  refine ⟨fun (h : kind = 0) => by omega, fun (h : kind = 1) => by omega, fun (h : kind = 2) => by omega, fun (h : kind = 3) => ?_, fun (h : kind = 4) => ?_, fun (h : kind = 5) => by omega⟩
  · show 0 ≤ z ∧ z ≤ 1048576
    omega
  · show -1048576 ≤ z ∧ z ≤ 1048576
    omega
theorem dbl (v : Int) (a : Nat) : v / 2 ^ a = 2 * (v / 2 ^ (a + 1)) + v / 2 ^ a % 2 := by
  have e : v / 2 ^ (a + 1) = v / 2 ^ a / 2 := by
    rw [Int.pow_succ, ← Int.ediv_ediv_of_nonneg (Int.le_of_lt (Int.pow_pos (by decide)))]
  rw [e]
  omega
theorem bit_and (x : Int) : PySem.Builtin.bitAnd x 1 = x % 2 := by
  have h := Bits.bit_at (x := x) 0
  simpa using h
theorem div_lt {v : Int} {a b : Nat} (h1 : v < 2 ^ (a + b)) : v / 2 ^ a < 2 ^ b := by
  have p : (0 : Int) < 2 ^ a := Int.pow_pos (by decide)
  refine Int.ediv_lt_of_lt_mul p ?_
  rw [← Int.pow_add, Nat.add_comm b a]
  exact h1
theorem div_nn {v : Int} {a : Nat} (h0 : 0 ≤ v) : 0 ≤ v / 2 ^ a := Int.ediv_nonneg h0 (Int.le_of_lt (Int.pow_pos (by decide)))
theorem pow_s (a : Nat) : (2 : Int) ^ (a + 1) = 2 * 2 ^ a := by rw [Int.pow_succ]; omega
theorem pow_p (a : Nat) : (1 : Int) ≤ 2 ^ a := by
  have : (0 : Int) < 2 ^ a := Int.pow_pos (by decide)
  omega
theorem powmono {i w : Nat} (h : i ≤ w) : (2 : Int) ^ i ≤ 2 ^ w := by
  obtain ⟨k, rfl⟩ := Nat.exists_eq_add_of_le h
  rw [Int.pow_add]
  have h1 := pow_p i
  have := Int.mul_le_mul_of_nonneg_left (pow_p k) (show (0 : Int) ≤ 2 ^ i by omega)
  omega
/-- the digits of a number and their length -/
def bl (v : Int) : Nat := PySem.Builtin.Int.intBits v
theorem bl_in {v : Int} (h : 1 ≤ v) : 1 ≤ bl v ∧ (2 : Int) ^ (bl v - 1) ≤ v ∧ v < 2 ^ (bl v) := by
  obtain ⟨n, rfl⟩ := Int.eq_ofNat_of_zero_le (show 0 ≤ v by omega)
  have hn : n ≠ 0 := by omega
  have e : bl (n : Int) = n.log2 + 1 := by
    unfold bl PySem.Builtin.Int.intBits
    rw [if_neg (by simp; omega)]
    rfl
  rw [e]
  have h1 : 2 ^ n.log2 ≤ n := Nat.log2_self_le hn
  have h2 : n < 2 ^ (n.log2 + 1) := Nat.lt_log2_self
  refine ⟨by omega, ?_, ?_⟩
  · rw [Nat.add_sub_cancel]
    exact_mod_cast h1
  · exact_mod_cast h2
theorem bl_small {v : Int} {k : Nat} (h0 : 1 ≤ v) (h : v < 2 ^ k) : bl v ≤ k := by
  have hb := bl_in h0
  rcases Nat.lt_or_ge k (bl v) with c | c
  · have := powmono (i := k) (w := bl v - 1) (by omega)
    omega
  · exact c
def cap (k : Int) : Int := if 7 < k then 7 else k
def unI (base v most : Int) : List (Int × Int) := ((rng 0 v.toNat).map fun k => (base + cap k, 1)) ++ (if v < most then [(base + cap v, 0)] else [])
def chI (base v : Int) (w : Nat) : List (Int × Int) := (List.range w).map fun k => (base + (2 ^ k + v / 2 ^ (w - k)) - 1, v / 2 ^ (w - 1 - k) % 2)
def nuD (v : Int) : Nat := bl (v + 1) - 1
def nuR (base v : Int) : List (Int × Int) := (List.range (nuD v)).map fun k => (if k = 0 then base + 8 + cap ((nuD v : Int) - 1) else -1, (v + 1) / 2 ^ (nuD v - 1 - k) % 2)
def nuI (base v : Int) : List (Int × Int) := unI base (nuD v : Nat) 20 ++ nuR base v
def absI (v : Int) : Int := if v < 0 then -v else v
def symI (y : Int × Int × Int × Int) : List (Int × Int) :=
  if y.1 = 0 then [(y.2.1, y.2.2.1)] else if y.1 = 1 then chI y.2.1 y.2.2.1 (intW y.2.2.2).toNat else if y.1 = 2 then unI y.2.1 y.2.2.1 y.2.2.2
  else if y.1 = 5 then [(-1, y.2.2.1)] else nuI y.2.1 (absI y.2.2.1) ++ (if y.1 = 4 ∧ y.2.2.1 ≠ 0 then [(-1, if y.2.2.1 < 0 then 1 else 0)] else [])
def ItOk (it : Int × Int) : Prop := (-1 ≤ it.1 ∧ it.1 ≤ 255) ∧ 0 ≤ it.2 ∧ it.2 ≤ 1
theorem items_app_ok {a b : List (Int × Int)} (ha : ItemsOk a) (hb : ItemsOk b) : ItemsOk (a ++ b) := fun x hx => (List.mem_append.mp hx).elim (ha x) (hb x)
theorem cap_in {k : Int} (h : 0 ≤ k) : 0 ≤ cap k ∧ cap k ≤ 7 ∧ cap k ≤ k := by
  unfold cap
  split <;> omega
/-- what unary values need of their contexts -/
def UnOk (base most : Int) : Prop := 0 ≤ most ∧ most ≤ 64 ∧ (most = 0 ∨ (0 ≤ base ∧ base ≤ 256 - (if 8 < most then 8 else most)))
theorem un_ctx {base most k : Int} (h : UnOk base most) (h0 : 0 ≤ k) (h1 : k < most) : 0 ≤ base + cap k ∧ base + cap k ≤ 255 := by
  obtain ⟨a, b, c⟩ := h
  rcases c with c | c
  · omega
  · unfold cap
    have := c.2
    split at this <;> split <;> omega
theorem unI_ok {base v most : Int} (h : UnOk base most) (h0 : 0 ≤ v) (h1 : v ≤ most) : ItemsOk (unI base v most) := by
  unfold unI
  refine items_app_ok (fun x hx => ?_) ?_
  · obtain ⟨k, hk, rfl⟩ := List.mem_map.mp hx
    have hk := rng_mem hk
    have := un_ctx (k := k) h hk.1 (by omega)
    exact ⟨⟨by show -1 ≤ base + cap k; omega, this.2⟩, by show (0 : Int) ≤ 1; decide, by show (1 : Int) ≤ 1; decide⟩
  · split
    · intro x hx
      rw [List.mem_singleton.mp hx]
      have := un_ctx (k := v) h h0 ‹_›
      exact ⟨⟨by show -1 ≤ base + cap v; omega, this.2⟩, by show (0 : Int) ≤ 0; decide, by show (0 : Int) ≤ 1; decide⟩
    · intro x hx
      nomatch hx
def ChOk (base v : Int) (w : Nat) : Prop := w ≤ 4 ∧ 0 ≤ v ∧ v < 2 ^ w ∧ (w = 0 ∨ (0 ≤ base ∧ base + 2 ^ w ≤ 257))
theorem ch_path {v : Int} {w k : Nat} (h0 : 0 ≤ v) (h1 : v < 2 ^ w) (hk : k ≤ w) : (1 : Int) ≤ 2 ^ k + v / 2 ^ (w - k) ∧ 2 ^ k + v / 2 ^ (w - k) < 2 * 2 ^ k := by
  have a := pow_p k
  have b : 0 ≤ v / 2 ^ (w - k) := div_nn h0
  have c : v / 2 ^ (w - k) < 2 ^ k := div_lt (by rw [show w - k + k = w by omega]; exact h1)
  omega
theorem ch_step {v : Int} {w k : Nat} (hk : k < w) : (2 : Int) ^ (k + 1) + v / 2 ^ (w - (k + 1)) = 2 * (2 ^ k + v / 2 ^ (w - k)) + v / 2 ^ (w - 1 - k) % 2 := by
  have d := dbl v (w - 1 - k)
  rw [show w - 1 - k + 1 = w - k by omega] at d
  rw [pow_s, show w - (k + 1) = w - 1 - k by omega]
  omega
theorem chI_ok {base v : Int} {w : Nat} (h : ChOk base v w) : ItemsOk (chI base v w) := fun x hx => by
  unfold chI at hx
  obtain ⟨k, hk, rfl⟩ := List.mem_map.mp hx
  have hk := List.mem_range.mp hk
  obtain ⟨_, h0, h1, hb⟩ := h
  have hb : 0 ≤ base ∧ base + 2 ^ w ≤ 257 := by
    rcases hb with h | h
    · omega
    · exact h
  have p := ch_path h0 h1 (show k ≤ w by omega)
  have q := powmono (i := k + 1) (w := w) (by omega)
  rw [pow_s] at q
  have m := Int.emod_nonneg (v / 2 ^ (w - 1 - k)) (show (2 : Int) ≠ 0 by decide)
  have m2 := Int.emod_lt_of_pos (v / 2 ^ (w - 1 - k)) (show (0 : Int) < 2 by decide)
  exact ⟨⟨by show -1 ≤ base + (2 ^ k + v / 2 ^ (w - k)) - 1; omega, by show base + (2 ^ k + v / 2 ^ (w - k)) - 1 ≤ 255; omega⟩, m, by show v / 2 ^ (w - 1 - k) % 2 ≤ 1; omega⟩
def NuOk (base v : Int) : Prop := 0 ≤ base ∧ base ≤ 240 ∧ 0 ≤ v ∧ v ≤ 1048576
theorem nuD_in {v : Int} (h0 : 0 ≤ v) (h1 : v ≤ 1048576) : nuD v ≤ 20 ∧ (2 : Int) ^ nuD v ≤ v + 1 ∧ v + 1 < 2 * 2 ^ nuD v := by
  have hb := bl_in (v := v + 1) (by omega)
  have hs := bl_small (v := v + 1) (k := 21) (by omega) (by show v + 1 < 2097152; omega)
  unfold nuD
  refine ⟨by omega, hb.2.1, ?_⟩
  rw [← pow_s, show bl (v + 1) - 1 + 1 = bl (v + 1) by omega]
  exact hb.2.2
theorem nuI_un {base v : Int} (h : NuOk base v) : UnOk base 20 := ⟨by decide, by decide, .inr ⟨h.1, by rw [if_pos (by decide)]; have := h.2.1; omega⟩⟩
theorem nuI_ok {base v : Int} (h : NuOk base v) : ItemsOk (nuI base v) := by
  obtain ⟨b0, b1, v0, v1⟩ := h
  have hd := nuD_in v0 v1
  unfold nuI
  refine items_app_ok (unI_ok (nuI_un ⟨b0, b1, v0, v1⟩) (by omega) (by omega)) fun x hx => ?_
  unfold nuR at hx
  obtain ⟨k, hk, rfl⟩ := List.mem_map.mp hx
  have hk := List.mem_range.mp hk
  have c := cap_in (k := (nuD v : Int) - 1) (by omega)
  have m := Int.emod_nonneg ((v + 1) / 2 ^ (nuD v - 1 - k)) (show (2 : Int) ≠ 0 by decide)
  have m2 := Int.emod_lt_of_pos ((v + 1) / 2 ^ (nuD v - 1 - k)) (show (0 : Int) < 2 by decide)
  refine ⟨?_, m, by show (v + 1) / 2 ^ (nuD v - 1 - k) % 2 ≤ 1; omega⟩
  show -1 ≤ (if k = 0 then base + 8 + cap ((nuD v : Int) - 1) else -1) ∧ (if k = 0 then base + 8 + cap ((nuD v : Int) - 1) else -1) ≤ 255
  split <;> omega
theorem Sy.ch {y : Int × Int × Int × Int} (h : Sy y) (hv : Sv y) (h1 : y.1 = 1) : ChOk y.2.1 y.2.2.1 (intW y.2.2.2).toNat := by
  have hvv := hv.2.1 h1
  rcases h with h | h | h | h | h
  · omega
  · obtain ⟨_, c0, c1, c2⟩ := h
    have w := intW_in c0 c1
    have hl : y.2.2.2 - 1 < 2 ^ (intW y.2.2.2).toNat := by
      by_cases e : y.2.2.2 = 1
      · rw [e]
        decide
      · have := (bl_in (v := y.2.2.2 - 1) (by omega)).2.2
        exact this
    refine ⟨by omega, hvv.1, by omega, ?_⟩
    rcases c2 with c2 | c2
    · left
      rw [c2]
      decide
    · exact .inr c2
  · omega
  · omega
  · omega
theorem Sy.un {y : Int × Int × Int × Int} (h : Sy y) (h1 : y.1 = 2) : UnOk y.2.1 y.2.2.2 := by
  rcases h with h | h | h | h | h
  · omega
  · omega
  · exact h.2
  · omega
  · omega
theorem Sy.nu {y : Int × Int × Int × Int} (h : Sy y) (hv : Sv y) (h1 : y.1 = 3 ∨ y.1 = 4) : NuOk y.2.1 (absI y.2.2.1) := by
  rcases h with h | h | h | h | h
  · omega
  · omega
  · omega
  · refine ⟨h.2.1, h.2.2, ?_⟩
    unfold absI
    rcases h1 with h1 | h1
    · have := hv.2.2.2.1 h1
      split <;> omega
    · have := hv.2.2.2.2.1 h1
      split <;> omega
  · omega
theorem sym_kind {y : Int × Int × Int × Int} (h : Sy y) : y.1 = 0 ∨ y.1 = 1 ∨ y.1 = 2 ∨ y.1 = 3 ∨ y.1 = 4 ∨ y.1 = 5 := by
  rcases h with h | h | h | h | h <;> omega
theorem symI_ok {y : Int × Int × Int × Int} (h : Sy y) (hv : Sv y) : ItemsOk (symI y) := by
  unfold symI
  split
  · intro x hx
    rw [List.mem_singleton.mp hx]
    have := hv.1 ‹_›
    rcases h with h | h | h | h | h
    · exact ⟨⟨by show -1 ≤ y.2.1; omega, h.2.2⟩, this.1, this.2⟩
    all_goals omega
  split
  · exact chI_ok (h.ch hv ‹_›)
  split
  · have := hv.2.2.1 ‹_›
    exact unI_ok (h.un ‹_›) this.1 this.2
  split
  · intro x hx
    rw [List.mem_singleton.mp hx]
    have := hv.2.2.2.2.2 ‹_›
    exact ⟨⟨by show (-1 : Int) ≤ -1; decide, by show (-1 : Int) ≤ 255; decide⟩, this.1, this.2⟩
  · have hk := sym_kind h
    refine items_app_ok (nuI_ok (h.nu hv (by omega))) ?_
    split
    · intro x hx
      rw [List.mem_singleton.mp hx]
      refine ⟨⟨by show (-1 : Int) ≤ -1; decide, by show (-1 : Int) ≤ 255; decide⟩, ?_⟩
      show 0 ≤ (if y.2.2.1 < 0 then (1 : Int) else 0) ∧ (if y.2.2.1 < 0 then (1 : Int) else 0) ≤ 1
      split <;> decide
    · intro x hx
      nomatch hx
theorem unI_len (base v most : Int) (h : v ≤ 64) : (unI base v most).length ≤ 65 := by
  unfold unI
  rw [List.length_append, List.length_map, rng_len]
  split
  · rw [List.length_singleton]
    omega
  · rw [List.length_nil]
    omega
theorem symI_len {y : Int × Int × Int × Int} (h : Sy y) (hv : Sv y) : (symI y).length ≤ 100 := by
  unfold symI
  split
  · simp
  split
  · unfold chI
    rw [List.length_map, List.length_range]
    have := (h.ch hv ‹_›).1
    omega
  split
  · have := hv.2.2.1 ‹_›
    have := h.un ‹_›
    have := unI_len y.2.1 y.2.2.1 y.2.2.2 (by have := this.2.1; omega)
    omega
  split
  · simp
  · have hk := sym_kind h
    have hn := h.nu hv (by omega)
    have hd := nuD_in hn.2.2.1 hn.2.2.2
    have l1 := unI_len y.2.1 (nuD (absI y.2.2.1) : Nat) 20 (by omega)
    unfold nuI nuR
    rw [List.length_append, List.length_append, List.length_map, List.length_range]
    have : (if y.1 = 4 ∧ y.2.2.1 ≠ 0 then [((-1 : Int), (if y.2.2.1 < 0 then (1 : Int) else 0))] else []).length ≤ 1 := by
      split <;> simp
    omega
theorem checks_ok {base count : Int} (h : count ≤ 0 ∨ (0 ≤ base ∧ base ≤ 256 - count)) : F__check_contexts base count = .ok () := by
  unfold F__check_contexts
  by_cases c : 0 < count
  · rw [if_pos c, if_pos (by omega), if_pos (by omega)]
  · rw [if_neg c]
theorem un_check {base most : Int} (h : UnOk base most) : F__check_unary base most = .ok () := by
  obtain ⟨m0, m1, hb⟩ := h
  unfold F__check_unary
  rw [if_pos m0, if_pos m1, checks_ok]
  · rfl
  · rcases hb with h | h
    · left
      rw [if_neg (by omega)]
      omega
    · right
      exact h
theorem ch_check {base count : Int} {v : Int} (c0 : 1 ≤ count) (c1 : count ≤ 16) (h : ChOk base v (intW count).toNat) : F__choice_digits base count = .ok (intW count) := by
  have hw := intW_in c0 c1
  obtain ⟨p1, p2, p3⟩ := pow4 hw.1 hw.2
  unfold F__choice_digits
  rw [if_pos c0, if_pos c1, bnd_eq, grd_pos ⟨hw.1, by show intW count ≤ 4096; omega, one_big (by decide)⟩, p1, checks_ok]
  · rfl
  · rcases h.2.2.2 with e | e
    · left
      rw [e]
      decide
    · right
      omega
/-! the writer -/
theorem code_item {e : EncS} (g : EncG e) {c b : Int} (c0 : 0 ≤ c) (h : ItOk (c, b)) (hl : e.front.length ≤ 900000) : F_Encoder_code e c b = .ok (encItem e (c, b)) := by
  rw [code_eq g c0 (by have : c ≤ 255 := h.1.2; omega) h.2.1 h.2.2 hl]
  unfold encItem
  rw [if_pos c0]
theorem even_item {e : EncS} (g : EncG e) {b : Int} (h : ItOk (-1, b)) (hl : e.front.length ≤ 900000) : F_Encoder_code_even e b = .ok (encItem e (-1, b)) := by
  rw [even_eq g h.2.1 h.2.2 hl]
  unfold encItem
  rw [if_neg (by show ¬ (0 : Int) ≤ -1; decide)]
theorem enc_loop {α σ : Type} {f : σ → α → Rx σ} : ∀ {xs : List α} {its : List (Int × Int)} (mk : Nat → EncS → σ) {e : EncS}, xs.length = its.length → ItemsOk its → EncG e → e.front.length + its.length ≤ 900000 →
    (∀ j x t e, xs[j]? = some x → its[j]? = some t → EncG e → e.front.length ≤ 900000 → f (mk j e) x = .ok (mk (j + 1) (encItem e t))) → forS xs (mk 0 e) f = .ok (mk its.length (encItems e its))
  | [], [], mk, e, _, _, _, _, _ => rfl
  | x :: xs, t :: its, mk, e, hl, ok, g, hf, st => by
    have h1 := st 0 x t e rfl rfl g (by omega)
    have g1 := item_ok g (ok t List.mem_cons_self)
    have l1 := item_len e t
    have ih := enc_loop (xs := xs) (its := its) (f := f) (fun j e => mk (j + 1) e) (e := encItem e t) (by simpa using hl) (fun x hx => ok x (List.mem_cons_of_mem _ hx)) g1 (by rw [List.length_cons] at hf; omega) fun j x t e hx ht g l => st (j + 1) x t e (by simpa using hx) (by simpa using ht) g l
    show (f (mk 0 e) x).bind _ = _
    rw [h1]
    exact ih
  | [], _ :: _, _, _, h, _, _, _, _ => nomatch h
  | _ :: _, [], _, _, h, _, _, _, _ => nomatch h
theorem put_unary {e : EncS} (g : EncG e) {base v most : Int} (h : UnOk base most) (h0 : 0 ≤ v) (h1 : v ≤ most) (hl : e.front.length ≤ 899000) : F_SymbolWriter_unary ⟨e⟩ base v most = .ok ⟨encItems e (unI base v most)⟩ := by
  have hm := h.2.1
  have ok := unI_ok h h0 h1
  have okl : ItemsOk ((rng 0 v.toNat).map fun k => (base + cap k, (1 : Int))) := fun x hx => ok x (List.mem_append_left _ hx)
  have ll : ((rng 0 v.toNat).map fun k => (base + cap k, (1 : Int))).length = v.toNat := by rw [List.length_map, rng_len]
  unfold F_SymbolWriter_unary
  rw [un_check h, bind_ok, if_pos h0, if_pos h1, grd_pos ⟨by omega, by omega⟩]
  have hx := enc_loop (f := fun s x => F_SymbolWriter_unary_b1 base s x) (xs := rng 0 v.toNat) (its := (rng 0 v.toNat).map fun k => (base + cap k, (1 : Int))) (fun _ e => (⟨e⟩ : St_SymbolWriter)) (e := e) (by rw [ll, rng_len]) okl g (by rw [ll]; omega) fun j x t e hx ht g l => by
    have hj := rng_at hx
    rw [List.getElem?_map, hx] at ht
    obtain rfl := Option.some.inj ht
    have c := un_ctx (k := x) h (by omega) (by omega)
    show F_SymbolWriter_unary_b1 base ⟨e⟩ x = _
    unfold F_SymbolWriter_unary_b1
    have q := code_item (c := base + cap x) (b := 1) g c.1 ⟨⟨by show -1 ≤ base + cap x; omega, c.2⟩, by show (0 : Int) ≤ 1; decide, by show (1 : Int) ≤ 1; decide⟩ l
    unfold cap at q ⊢
    rw [show (8 : Int) - 1 = 7 from rfl, q]
    rfl
  rw [hx, bind_ok]
  have g1 := items_ok g okl
  have l1 := items_len ((rng 0 v.toNat).map fun k => (base + cap k, (1 : Int))) e
  rw [ll] at l1
  unfold F_SymbolWriter_unary_r1 unI
  rw [items_app]
  by_cases c : v < most
  · have cc := un_ctx (k := v) h h0 c
    have q := code_item (c := base + cap v) (b := 0) g1 cc.1 ⟨⟨by show -1 ≤ base + cap v; omega, cc.2⟩, by show (0 : Int) ≤ 0; decide, by show (0 : Int) ≤ 1; decide⟩ (by omega)
    rw [if_pos c, if_pos c]
    unfold cap at q ⊢
    rw [show (8 : Int) - 1 = 7 from rfl, q]
    rfl
  · rw [if_neg c, if_neg c]
    rfl
theorem rngD_at {lo x : Int} {n i : Nat} (h : (rngD lo n)[i]? = some x) : x = lo - i ∧ i < n := by
  have hl := get_len h
  have hn : i < n := by
    unfold rngD at hl
    rw [List.length_map, List.length_range] at hl
    exact hl
  rw [rngD_get hn] at h
  have := Option.some.inj h
  omega
theorem rngD_length (lo : Int) (n : Nat) : (rngD lo n).length = n := by
  unfold rngD
  rw [List.length_map, List.length_range]
theorem range_at {α : Type} {f : Nat → α} {w i : Nat} {t : α} (h : ((List.range w).map f)[i]? = some t) : i < w ∧ t = f i := by
  have hl := get_len h
  rw [List.length_map, List.length_range] at hl
  rw [List.getElem?_map, List.getElem?_range hl] at h
  exact ⟨hl, (Option.some.inj h).symm⟩
theorem put_choice {e : EncS} (g : EncG e) {base v count : Int} (c0 : 1 ≤ count) (c1 : count ≤ 16) (h : ChOk base v (intW count).toNat) (hv : v < count) (hl : e.front.length ≤ 899000) : F_SymbolWriter_choice ⟨e⟩ base v count = .ok ⟨encItems e (chI base v (intW count).toNat)⟩ := by
  have ok := chI_ok h
  have hw := intW_in c0 c1
  have ll : (chI base v (intW count).toNat).length = (intW count).toNat := by unfold chI; rw [List.length_map, List.length_range]
  unfold F_SymbolWriter_choice
  rw [ch_check c0 c1 h, bind_ok, if_pos h.2.1, if_pos hv, grd_pos ⟨by omega, by omega, by decide, by decide⟩]
  obtain ⟨w, hw'⟩ := Int.eq_ofNat_of_zero_le hw.1
  rw [hw'] at h ll ok hw ⊢
  rw [Int.toNat_natCast] at h ll ok ⊢
  rw [show Int.toNat ((w : Int) - 1 - -1) = w by omega]
  have hx := enc_loop (f := fun s x => F_SymbolWriter_choice_b1 base v s.1 s.2 x) (xs := rngD ((w : Int) - 1) w) (its := chI base v w) (fun j e => ((⟨e⟩ : St_SymbolWriter), (2 : Int) ^ j + v / 2 ^ (w - j))) (e := e) (by rw [ll, rngD_length]) ok g (by rw [ll]; omega) fun j x t e hx ht g l => by
    obtain ⟨hj, hjw⟩ := rngD_at hx
    have ho := ok t (List.mem_of_getElem? ht)
    unfold chI at ht
    obtain ⟨_, rfl⟩ := range_at ht
    show F_SymbolWriter_choice_b1 base v ⟨e⟩ (2 ^ j + v / 2 ^ (w - j)) x = _
    unfold F_SymbolWriter_choice_b1
    rw [grd_pos (by omega), bit_and, bnd_eq, show Int.toNat x = w - 1 - j by omega]
    have p := ch_path h.2.1 h.2.2.1 (show j ≤ w by omega)
    have hb : 0 ≤ base := by
      rcases h.2.2.2 with e | e
      · omega
      · exact e.1
    rw [code_item g (by omega) ho l, noEr_ok, bind_ok, bnd_eq, ← ch_step hjw]
  have e0 : (2 : Int) ^ 0 + v / 2 ^ (w - 0) = 1 := by
    have : v / 2 ^ (w - 0) = 0 := by
      rw [Nat.sub_zero]
      exact Int.ediv_eq_zero_of_lt h.2.1 h.2.2.1
    omega
  rw [e0] at hx
  rw [hx, bind_ok]
  rfl
theorem put_number {e : EncS} (g : EncG e) {base v : Int} (h : NuOk base v) (hl : e.front.length ≤ 899000) : F_SymbolWriter_number ⟨e⟩ base v = .ok ⟨encItems e (nuI base v)⟩ := by
  have ok := nuI_ok h
  have hd := nuD_in h.2.2.1 h.2.2.2
  have hu := nuI_un h
  have oku := unI_ok (v := (nuD v : Nat)) hu (by omega) (by omega)
  have okr : ItemsOk (nuR base v) := fun x hx => ok x (List.mem_append_right _ hx)
  have lr : (nuR base v).length = nuD v := by unfold nuR; rw [List.length_map, List.length_range]
  have lu := unI_len base (nuD v : Nat) 20 (by omega)
  unfold F_SymbolWriter_number
  rw [checks_ok (.inr ⟨h.1, by have := h.2.1; omega⟩), bind_ok, if_pos h.2.2.1, if_pos h.2.2.2, bnd_eq]
  have eb : ((PySem.Builtin.Int.intBits (v + 1) : Nat) : Int) - 1 = (nuD v : Nat) := by
    have := (bl_in (v := v + 1) (by have := h.2.2.1; omega)).1
    unfold nuD
    show ((bl (v + 1) : Nat) : Int) - 1 = _
    omega
  rw [eb, put_unary g hu (by omega) (by omega) hl, bind_ok, grd_pos ⟨by omega, by omega, by decide, by decide⟩, show Int.toNat (((nuD v : Nat) : Int) - 1 - -1) = nuD v by omega]
  have g1 := items_ok g oku
  have l1 := items_len (unI base (nuD v : Nat) 20) e
  have hx := enc_loop (f := fun s x => F_SymbolWriter_number_b1 base v (nuD v : Nat) s x) (xs := rngD (((nuD v : Nat) : Int) - 1) (nuD v)) (its := nuR base v) (fun j e => (⟨e⟩ : St_SymbolWriter)) (e := encItems e (unI base (nuD v : Nat) 20)) (by rw [lr, rngD_length]) okr g1 (by rw [lr]; omega) fun j x t e hx ht g l => by
    obtain ⟨hj, hjw⟩ := rngD_at hx
    have ho := okr t (List.mem_of_getElem? ht)
    unfold nuR at ht
    obtain ⟨_, rfl⟩ := range_at ht
    show F_SymbolWriter_number_b1 base v (nuD v : Nat) ⟨e⟩ x = _
    unfold F_SymbolWriter_number_b1
    rw [grd_pos (by omega), bit_and, bnd_eq, show Int.toNat x = nuD v - 1 - j by omega]
    by_cases c : j = 0
    · subst c
      have cc := cap_in (k := ((nuD v : Nat) : Int) - 1) (by omega)
      rw [if_pos rfl] at ho
      rw [if_pos (by omega), if_pos rfl]
      have ed : F__digit_context base ((nuD v : Nat) : Int) = .ok (base + 8 + cap (((nuD v : Nat) : Int) - 1)) := rfl
      rw [ed, noEr_ok, bind_ok, code_item g (by have := h.1; omega) ho l]
      rfl
    · rw [if_neg c] at ho
      rw [if_neg (by omega), if_neg c, even_item g ho l]
      rfl
  rw [hx, bind_ok]
  unfold nuI
  rw [items_app]
  rfl
theorem absI_eq (v : Int) : (if v < 0 then -v else v) = absI v := rfl
theorem put_ok {e : EncS} (g : EncG e) {y : Int × Int × Int × Int} (h : Sy y) (hv : Sv y) (hl : e.front.length ≤ 899000) : F__law_put ⟨e⟩ y = .ok ⟨encItems e (symI y)⟩ := by
  have ok := symI_ok h hv
  obtain ⟨k, base, v, c⟩ := y
  have hk := sym_kind h
  unfold F__law_put
  rcases hk with hk | hk | hk | hk | hk | hk
  · have hk : k = 0 := hk
    subst hk
    have ok : ItemsOk [(base, v)] := ok
    have o := ok _ (List.mem_singleton.mpr rfl)
    have hb : 0 ≤ base := by
      rcases h with h | h | h | h | h
      · exact h.2.1
      all_goals first | exact absurd h.1 (by simp) | exact absurd h (by simp)
    have e1 : F_SymbolWriter_flag ⟨e⟩ base (decide (v = 1)) = .ok ⟨encItems e [(base, v)]⟩ := by
      unfold F_SymbolWriter_flag
      have hb2 : base ≤ 255 := o.1.2
      have ev : (if decide (v = 1) = true then (1 : Int) else 0) = v := by
        have v0 : 0 ≤ v := o.2.1
        have v1 : v ≤ 1 := o.2.2
        by_cases c : v = 1
        · rw [if_pos (decide_eq_true c), c]
        · rw [if_neg (by rw [decide_eq_false c]; exact Bool.false_ne_true)]
          omega
      rw [checks_ok (.inr ⟨hb, by omega⟩), bind_ok, ev, code_item g hb o (by omega)]
      rfl
    rw [if_pos rfl]
    show (F_SymbolWriter_flag ⟨e⟩ base (decide (v = 1))).bind _ = _
    rw [e1, bind_ok, if_neg (fst_ne (by decide)), if_neg (fst_ne (by decide)), if_neg (fst_ne (by decide)), if_neg (fst_ne (by decide)), if_neg (fst_ne (by decide))]
    rfl
  · have hk : k = 1 := hk
    subst hk
    have hc := h.ch hv rfl
    have hvv := hv.2.1 rfl
    have hcc : 1 ≤ c ∧ c ≤ 16 := by
      rcases h with h | h | h | h | h
      · exact absurd h.1 (by simp)
      · exact ⟨h.2.1, h.2.2.1⟩
      · exact absurd h.1 (by simp)
      · exact absurd h.1 (by simp)
      · exact absurd h (by simp)
    rw [if_neg (fst_ne (by decide)), if_pos rfl]
    show (F_SymbolWriter_choice ⟨e⟩ base v c).bind _ = _
    rw [put_choice g hcc.1 hcc.2 hc hvv.2 hl, bind_ok, if_neg (fst_ne (by decide)), if_neg (fst_ne (by decide)), if_neg (fst_ne (by decide)), if_neg (fst_ne (by decide))]
    rfl
  · have hk : k = 2 := hk
    subst hk
    have hvv := hv.2.2.1 rfl
    rw [if_neg (fst_ne (by decide)), if_neg (fst_ne (by decide)), if_pos rfl]
    show (F_SymbolWriter_unary ⟨e⟩ base v c).bind _ = _
    rw [put_unary g (h.un rfl) hvv.1 hvv.2 hl, bind_ok, if_neg (fst_ne (by decide)), if_neg (fst_ne (by decide)), if_neg (fst_ne (by decide))]
    rfl
  · have hk : k = 3 := hk
    subst hk
    have hvv := hv.2.2.2.1 rfl
    have hn := h.nu hv (.inl rfl)
    have ea : absI v = v := by
      have h0 : 0 ≤ v := hvv.1
      unfold absI
      rw [if_neg (by omega)]
    have hn : NuOk base (absI v) := hn
    rw [ea] at hn
    rw [if_neg (fst_ne (by decide)), if_neg (fst_ne (by decide)), if_neg (fst_ne (by decide)), if_pos rfl]
    show (F_SymbolWriter_number ⟨e⟩ base v).bind _ = _
    rw [put_number g hn hl, bind_ok, if_neg (fst_ne (by decide)), if_neg (fst_ne (by decide))]
    have es : symI (3, base, v, c) = nuI base v := by
      show nuI base (absI v) ++ _ = _
      rw [ea]
      exact List.append_nil _
    rw [es]
  · have hk : k = 4 := hk
    subst hk
    have hn : NuOk base (absI v) := h.nu hv (.inr rfl)
    have okn := nuI_ok hn
    have e1 : F_SymbolWriter_signed ⟨e⟩ base v = .ok ⟨encItems e (symI (4, base, v, c))⟩ := by
      unfold F_SymbolWriter_signed
      rw [absI_eq, put_number g hn hl, bind_ok]
      show _ = Rx.ok (⟨encItems e (nuI base (absI v) ++ (if (4 : Int) = 4 ∧ v ≠ 0 then [((-1 : Int), if v < 0 then (1 : Int) else 0)] else []))⟩ : St_SymbolWriter)
      by_cases c : v = 0
      · rw [if_pos c, if_neg (fun h => h.2 c), List.append_nil]
      · have g1 := items_ok g okn
        have l1 := items_len (nuI base (absI v)) e
        have hd := nuD_in hn.2.2.1 hn.2.2.2
        have l2 : (nuI base (absI v)).length ≤ 85 := by
          have := unI_len base (nuD (absI v) : Nat) 20 (by omega)
          unfold nuI nuR
          rw [List.length_append, List.length_map, List.length_range]
          omega
        rw [if_neg c, if_pos (show (4 : Int) = 4 ∧ v ≠ 0 from ⟨rfl, c⟩), items_app, even_item g1 ⟨⟨by show (-1 : Int) ≤ -1; decide, by show (-1 : Int) ≤ 255; decide⟩, by show 0 ≤ (if v < 0 then (1 : Int) else 0); split <;> decide, by show (if v < 0 then (1 : Int) else 0) ≤ 1; split <;> decide⟩ (by omega)]
        rfl
    rw [if_neg (fst_ne (by decide)), if_neg (fst_ne (by decide)), if_neg (fst_ne (by decide)), if_neg (fst_ne (by decide)), if_pos rfl]
    show (F_SymbolWriter_signed ⟨e⟩ base v).bind _ = _
    rw [e1, bind_ok, if_neg (fst_ne (by decide))]
  · have hk : k = 5 := hk
    subst hk
    have ok : ItemsOk [(-1, v)] := ok
    have o := ok _ (List.mem_singleton.mpr rfl)
    rw [if_neg (fst_ne (by decide)), if_neg (fst_ne (by decide)), if_neg (fst_ne (by decide)), if_neg (fst_ne (by decide)), if_neg (fst_ne (by decide)), if_pos rfl]
    have e1 : F_SymbolWriter_even ⟨e⟩ v = .ok ⟨encItems e [(-1, v)]⟩ := by
      unfold F_SymbolWriter_even
      rw [even_item g o (by omega)]
      rfl
    show (F_SymbolWriter_even ⟨e⟩ v).bind _ = _
    rw [e1]
    rfl
theorem mapA_gv {α β : Type} {f : α → Rx β} {P : β → Prop} : ∀ {xs : List α} {acc : List β}, (∀ x, Gv (f x) P) → (∀ y ∈ acc, P y) → acc.length + xs.length ≤ 1000000 → Gv (mapA xs acc f) (fun ys => (∀ y ∈ ys, P y) ∧ ys.length = acc.length + xs.length)
  | [], acc, _, h, _ => .ok ⟨h, rfl⟩
  | x :: xs, acc, hf, h, hl => by
    obtain ⟨y, e, hy⟩ := hf x
    have ih := mapA_gv (f := f) (xs := xs) (acc := acc ++ [y]) hf (fun z hz => by
      rcases List.mem_append.mp hz with hz | hz
      · exact h z hz
      · rw [List.mem_singleton.mp hz]
        exact hy) (by rw [List.length_append, List.length_singleton]; rw [List.length_cons] at hl; omega)
    rw [List.length_append, List.length_singleton] at ih
    obtain ⟨ys, e2, h2⟩ := ih
    refine ⟨ys, ?_, h2.1, by rw [h2.2, List.length_cons]; omega⟩
    unfold mapA
    rw [e]
    rw [List.length_cons] at hl
    first | (rw [grd_pos (by omega)]; exact e2) | (simp only [bind_ok]; rw [if_pos (by omega)]; exact e2) | exact e2
theorem init_put : F_Encoder___init__ = .ok encInit := by
  unfold F_Encoder___init__
  rw [grd_pos ⟨by decide, by decide, by decide +kernel⟩, bnd_eq]
  rfl
def Seg (items L : List (Int × Int)) (i : Nat) : Prop := ∀ j t, L[j]? = some t → items[i + j]? = some t
theorem Seg.left {items A B : List (Int × Int)} {i : Nat} (h : Seg items (A ++ B) i) : Seg items A i := fun j t ht => h j t (by rw [List.getElem?_append_left (get_len ht)]; exact ht)
theorem Seg.right {items A B : List (Int × Int)} {i : Nat} (h : Seg items (A ++ B) i) : Seg items B (i + A.length) := fun j t ht => by
  have := h (A.length + j) t (by rw [List.getElem?_append_right (by omega), show A.length + j - A.length = j by omega]; exact ht)
  rw [Nat.add_assoc]
  exact this
structure Whole (O : List Int) (items : List (Int × Int)) : Prop where
  ok : ItemsOk items
  o : ∀ x ∈ O, 0 ≤ x ∧ x ≤ 255
  a : accO O ((encItems encInit items).front.length + 4) = bigL (encItems encInit items)
def At (O : List Int) (items : List (Int × Int)) (i : Nat) (d : DecS) : Prop := Pu.Rel O (encItems encInit (items.take i)) d
section
variable {O : List Int} {items : List (Int × Int)} {i : Nat} {d : DecS}
theorem read_item (K : Whole O items) (A : At O items i d) {c b : Int} (c0 : 0 ≤ c) (h : items[i]? = some (c, b)) : F_Decoder_read d c = .ok (b, decItem d (c, b)) ∧ At O items (i + 1) (decItem d (c, b)) := by
  obtain ⟨h1, h2⟩ := rel_turn h K.ok K.o K.a A
  refine ⟨?_, h2⟩
  have b1 : c ≤ 255 := (K.ok _ (List.mem_of_getElem? h)).1.2
  unfold decItemBit at h1
  rw [if_pos c0] at h1
  have h1 : decBit d (itD d.probs c) = b := h1
  unfold decItem
  rw [if_pos c0, read_eq A.g c0 (by omega), h1]
theorem even_read (K : Whole O items) (A : At O items i d) {b : Int} (h : items[i]? = some (-1, b)) : F_Decoder_read_even d = .ok (b, decItem d (-1, b)) ∧ At O items (i + 1) (decItem d (-1, b)) := by
  obtain ⟨h1, h2⟩ := rel_turn h K.ok K.o K.a A
  refine ⟨?_, h2⟩
  have n : ¬ (0 : Int) ≤ -1 := by decide
  unfold decItemBit at h1
  rw [if_neg n] at h1
  have h1 : decBit d 2048 = b := h1
  unfold decItem
  rw [if_neg n, reven_eq A.g, h1]
theorem dec_loop {α σ : Type} {f : σ → α → Rx σ} : ∀ {xs : List α} (mk : Nat → DecS → σ) {i : Nat} {d : DecS}, At O items i d →
    (∀ j x d, xs[j]? = some x → At O items (i + j) d → ∃ d', f (mk j d) x = .ok (mk (j + 1) d') ∧ At O items (i + j + 1) d') → ∃ d', forS xs (mk 0 d) f = .ok (mk xs.length d') ∧ At O items (i + xs.length) d'
  | [], mk, i, d, A, _ => ⟨d, rfl, A⟩
  | x :: xs, mk, i, d, A, st => by
    obtain ⟨d1, e1, A1⟩ := st 0 x d rfl A
    obtain ⟨d2, e2, A2⟩ := dec_loop (xs := xs) (f := f) (fun j d => mk (j + 1) d) (i := i + 1) (d := d1) A1 fun j x d hx A => by
      have := st (j + 1) x d (by simpa using hx) (by rw [show i + (j + 1) = i + 1 + j by omega]; exact A)
      rw [show i + (j + 1) + 1 = i + 1 + j + 1 by omega] at this
      exact this
    refine ⟨d2, ?_, by rw [List.length_cons, show i + (xs.length + 1) = i + 1 + xs.length by omega]; exact A2⟩
    show (f (mk 0 d) x).bind _ = _
    rw [e1]
    exact e2
theorem unI_at {base v most : Int} {j : Nat} (h : (j : Int) < v) : (unI base v most)[j]? = some (base + cap j, 1) := by
  unfold unI
  rw [List.getElem?_append_left (by rw [List.length_map, rng_len]; omega), List.getElem?_map, rng_get (by omega)]
  show some (base + cap (0 + (j : Int)), (1 : Int)) = _
  rw [Int.zero_add]
theorem unI_end {base v most : Int} (h0 : 0 ≤ v) (h : v < most) : (unI base v most)[v.toNat]? = some (base + cap v, 0) := by
  unfold unI
  rw [List.getElem?_append_right (by rw [List.length_map, rng_len]; omega), List.length_map, rng_len, if_pos h, Nat.sub_self]
  rfl
theorem unI_length {base v most : Int} (h0 : 0 ≤ v) : (unI base v most).length = v.toNat + (if v < most then 1 else 0) := by
  unfold unI
  rw [List.length_append, List.length_map, rng_len]
  split <;> rfl
theorem unary_rd (K : Whole O items) {base v most : Int} (h : UnOk base most) (v0 : 0 ≤ v) (v1 : v ≤ most) (S : Seg items (unI base v most) i) : ∀ (n k m : Nat) {d : DecS}, (k : Int) + n = v → n < m → At O items (i + k) d →
    ∃ d', whileR m ((⟨d⟩ : St_SymbolReader), (k : Int)) (fun s => F_SymbolReader_unary_b1 base most s.1 s.2) = .ok (.go (⟨d'⟩, v)) ∧ At O items (i + (unI base v most).length) d'
  | 0, k, m, d, hk, hm, A => by
    obtain ⟨m, rfl⟩ : ∃ j, m = j + 1 := ⟨m - 1, by omega⟩
    have hk : (k : Int) = v := by omega
    rw [unI_length v0]
    by_cases c : v < most
    · have cc := un_ctx h v0 c
      obtain ⟨e, A1⟩ := read_item K A cc.1 (S k _ (by rw [show k = v.toNat by omega]; exact unI_end v0 c))
      rw [if_pos c, show i + (v.toNat + 1) = i + k + 1 by omega]
      refine ⟨_, while_bk ?_, A1⟩
      show F_SymbolReader_unary_b1 base most ⟨d⟩ (k : Int) = _
      unfold F_SymbolReader_unary_b1
      unfold cap at e
      rw [hk, if_pos c, show (8 : Int) - 1 = 7 from rfl, e]
      rfl
    · rw [if_neg c, show i + (v.toNat + 0) = i + k by omega]
      refine ⟨d, while_bk ?_, A⟩
      show F_SymbolReader_unary_b1 base most ⟨d⟩ (k : Int) = _
      unfold F_SymbolReader_unary_b1
      rw [hk, if_neg c]
  | n + 1, k, m, d, hk, hm, A => by
    obtain ⟨m, rfl⟩ : ∃ j, m = j + 1 := ⟨m - 1, by omega⟩
    have hkv : (k : Int) < v := by omega
    have cc := un_ctx (k := k) h (by omega) (by omega)
    obtain ⟨e, A1⟩ := read_item K A cc.1 (S k _ (unI_at hkv))
    obtain ⟨d', w, A2⟩ := unary_rd K h v0 v1 S n (k + 1) m (d := decItem d (base + cap k, 1)) (by omega) (by omega) A1
    refine ⟨d', ?_, A2⟩
    rw [while_go (s' := ((⟨decItem d (base + cap k, 1)⟩ : St_SymbolReader), ((k + 1 : Nat) : Int)))]
    · exact w
    · show F_SymbolReader_unary_b1 base most ⟨d⟩ (k : Int) = _
      unfold F_SymbolReader_unary_b1
      unfold cap at e ⊢
      rw [if_pos (by omega), show (8 : Int) - 1 = 7 from rfl, e]
      rfl
theorem get_unary (K : Whole O items) (A : At O items i d) {base v most : Int} (h : UnOk base most) (v0 : 0 ≤ v) (v1 : v ≤ most) (S : Seg items (unI base v most) i) :
    ∃ d', F_SymbolReader_unary ⟨d⟩ base most = .ok (v, ⟨d'⟩) ∧ At O items (i + (unI base v most).length) d' := by
  have hm := h.2.1
  obtain ⟨d', w, A'⟩ := unary_rd K h v0 v1 S v.toNat 0 1000000 (by omega) (by omega) A
  refine ⟨d', ?_, A'⟩
  unfold F_SymbolReader_unary
  rw [un_check h, bind_ok]
  show ((whileR 1000000 ((⟨d⟩ : St_SymbolReader), ((0 : Nat) : Int)) (fun s => F_SymbolReader_unary_b1 base most s.1 s.2)).bind _) = _
  rw [w]
  rfl
theorem get_choice (K : Whole O items) (A : At O items i d) {base v count : Int} (c0 : 1 ≤ count) (c1 : count ≤ 16) (h : ChOk base v (intW count).toNat) (hv : v < count) (S : Seg items (chI base v (intW count).toNat) i) :
    ∃ d', F_SymbolReader_choice ⟨d⟩ base count = .ok (v, ⟨d'⟩) ∧ At O items (i + (chI base v (intW count).toNat).length) d' := by
  have hw := intW_in c0 c1
  have ll : (chI base v (intW count).toNat).length = (intW count).toNat := by unfold chI; rw [List.length_map, List.length_range]
  rw [ll]
  unfold F_SymbolReader_choice
  rw [ch_check c0 c1 h, bind_ok, grd_pos ⟨by omega, by omega⟩]
  obtain ⟨w, hw'⟩ := Int.eq_ofNat_of_zero_le hw.1
  rw [hw'] at h ll S hw ⊢
  rw [Int.toNat_natCast] at h ll S ⊢
  obtain ⟨d', e, A'⟩ := dec_loop (O := O) (items := items) (f := fun s x => F_SymbolReader_choice_b1 base s.1 s.2 x) (xs := rng 0 w) (fun j d => ((⟨d⟩ : St_SymbolReader), (2 : Int) ^ j + v / 2 ^ (w - j))) A fun j x d hx A => by
    obtain ⟨_, hjw⟩ := rng_at hx
    have p := ch_path h.2.1 h.2.2.1 (show j ≤ w by omega)
    have hb : 0 ≤ base := by
      rcases h.2.2.2 with e | e
      · omega
      · exact e.1
    have hi := S j (base + (2 ^ j + v / 2 ^ (w - j)) - 1, v / 2 ^ (w - 1 - j) % 2) (by unfold chI; rw [List.getElem?_map, List.getElem?_range hjw]; rfl)
    obtain ⟨e1, A1⟩ := read_item K A (by omega) hi
    refine ⟨_, ?_, A1⟩
    show F_SymbolReader_choice_b1 base ⟨d⟩ (2 ^ j + v / 2 ^ (w - j)) x = _
    unfold F_SymbolReader_choice_b1
    rw [e1, noEr_ok, bind_ok, bnd_eq, ← ch_step hjw]
  rw [rng_len] at e A'
  have e0 : (2 : Int) ^ 0 + v / 2 ^ (w - 0) = 1 := by
    have : v / 2 ^ (w - 0) = 0 := by
      rw [Nat.sub_zero]
      exact Int.ediv_eq_zero_of_lt h.2.1 h.2.2.1
    omega
  have e2 : (2 : Int) ^ w + v / 2 ^ (w - w) = 2 ^ w + v := by
    rw [Nat.sub_self]
    show (2 : Int) ^ w + v / 1 = _
    rw [Int.ediv_one]
  rw [e0, e2] at e
  refine ⟨d', ?_, A'⟩
  rw [e, bind_ok]
  unfold F_SymbolReader_choice_r1
  rw [Int.toNat_natCast, Int.one_mul, grd_pos ⟨by omega, by show ((w : Nat) : Int) ≤ 4096; omega, one_big (by decide)⟩]
  have : (2 : Int) ^ w + v - 2 ^ w = v := by omega
  show Rx.ok ((if count - 1 < 2 ^ w + v - 2 ^ w then count - 1 else 2 ^ w + v - 2 ^ w), (⟨d'⟩ : St_SymbolReader)) = _
  rw [this, if_neg (by omega)]
theorem nu_step {V : Int} {D k : Nat} (hk : k < D) : V / 2 ^ (D - (k + 1)) = 2 * (V / 2 ^ (D - k)) + V / 2 ^ (D - 1 - k) % 2 := by
  have d := dbl V (D - 1 - k)
  rw [show D - 1 - k + 1 = D - k by omega] at d
  rw [show D - (k + 1) = D - 1 - k by omega]
  exact d
theorem get_number (K : Whole O items) (A : At O items i d) {base v : Int} (h : NuOk base v) (S : Seg items (nuI base v) i) :
    ∃ d', F_SymbolReader_number ⟨d⟩ base = .ok (v, ⟨d'⟩) ∧ At O items (i + (nuI base v).length) d' := by
  have hd := nuD_in h.2.2.1 h.2.2.2
  have hu := nuI_un h
  have lr : (nuR base v).length = nuD v := by unfold nuR; rw [List.length_map, List.length_range]
  unfold nuI at S
  have S1 := S.left
  have S2 := S.right
  obtain ⟨d1, u1, A1⟩ := get_unary K A hu (v := (nuD v : Nat)) (by omega) (by omega) S1
  have at_r : ∀ k, k < nuD v → items[i + (unI base (nuD v : Nat) 20).length + k]? = some (if k = 0 then base + 8 + cap ((nuD v : Int) - 1) else -1, (v + 1) / 2 ^ (nuD v - 1 - k) % 2) := fun k hk =>
    S2 k _ (by unfold nuR; rw [List.getElem?_map, List.getElem?_range hk]; rfl)
  have el : (nuI base v).length = (unI base (nuD v : Nat) 20).length + nuD v := by
    unfold nuI
    rw [List.length_append, lr]
  rw [el, ← Nat.add_assoc]
  generalize i + (unI base (nuD v : Nat) 20).length = i1 at A1 at_r ⊢
  have e0 : (v + 1) / 2 ^ (nuD v - 0) = 1 := by
    rw [Nat.sub_zero]
    have p := pow_p (nuD v)
    have a : (v + 1) / 2 ^ nuD v < 2 := Int.ediv_lt_of_lt_mul (by omega) (by omega)
    have b : 1 ≤ (v + 1) / 2 ^ nuD v := by
      refine Int.le_ediv_of_mul_le (by omega) ?_
      omega
    omega
  have hm : ∀ z : Int, z = v + 1 → (if 1048576 < z - 1 then (1048576 : Int) else z - 1) = v := fun z hz => by
    have := h.2.2.2
    rw [hz, if_neg (by omega)]
    omega
  unfold F_SymbolReader_number
  rw [checks_ok (.inr ⟨h.1, by have := h.2.1; omega⟩), bind_ok, u1, bind_ok]
  generalize hD : nuD v = D at hd at_r e0 ⊢
  cases D with
  | zero =>
    refine ⟨d1, ?_, A1⟩
    rw [if_neg (show ¬ (0 : Int) < ((0 : Nat) : Int) by decide), bind_ok]
    unfold F_SymbolReader_number_k1
    rw [grd_pos ⟨by show -(2 ^ 62) ≤ ((0 : Nat) : Int) - 1; decide, by show ((0 : Nat) : Int) - 1 < 2 ^ 62; decide⟩]
    have : (1 : Int) = v + 1 := by
      rw [Nat.sub_zero] at e0
      have h2 : (v + 1) / 1 = 1 := e0
      rw [Int.ediv_one] at h2
      omega
    show Rx.ok ((if 1048576 < (1 : Int) - 1 then (1048576 : Int) else 1 - 1), (⟨d1⟩ : St_SymbolReader)) = _
    rw [hm 1 this]
  | succ D =>
    have cc := cap_in (k := ((D + 1 : Nat) : Int) - 1) (by omega)
    have h0 := at_r 0 (by omega)
    rw [if_pos rfl] at h0
    obtain ⟨r1, A2⟩ := read_item K A1 (by have := h.1; omega) h0
    have ed : F__digit_context base ((D + 1 : Nat) : Int) = .ok (base + 8 + cap (((D + 1 : Nat) : Int) - 1)) := rfl
    rw [if_pos (show (0 : Int) < ((D + 1 : Nat) : Int) by omega)]
    show ∃ d', ((((noEr (F__digit_context base ((D + 1 : Nat) : Int))).bind _).bind _) : Rx (Int × St_SymbolReader)) = _ ∧ _
    rw [ed, noEr_ok, bind_ok]
    show ∃ d', ((((noEr (F_Decoder_read d1 (base + 8 + cap (((D + 1 : Nat) : Int) - 1)))).bind _).bind _) : Rx (Int × St_SymbolReader)) = _ ∧ _
    rw [r1, noEr_ok, bind_ok, bnd_eq, bind_ok]
    have g1 := nu_step (V := v + 1) (show 0 < D + 1 by omega)
    rw [e0] at g1
    unfold F_SymbolReader_number_k1
    rw [grd_pos ⟨by show -(2 ^ 62) ≤ ((D + 1 : Nat) : Int) - 1; omega, by show ((D + 1 : Nat) : Int) - 1 < 2 ^ 62; omega⟩]
    obtain ⟨d', e, A'⟩ := dec_loop (O := O) (items := items) (f := fun s x => F_SymbolReader_number_b2 s.1 s.2 x) (xs := rng 0 D) (fun j d => ((⟨d⟩ : St_SymbolReader), (v + 1) / 2 ^ (D + 1 - (j + 1)))) A2 fun j x d hx A => by
      obtain ⟨_, hjw⟩ := rng_at hx
      have hi := at_r (j + 1) (by omega)
      rw [if_neg (by omega)] at hi
      obtain ⟨e1, A1⟩ := even_read K (i := i1 + 1 + j) A (by rw [show i1 + 1 + j = i1 + (j + 1) by omega]; exact hi)
      refine ⟨_, ?_, A1⟩
      show F_SymbolReader_number_b2 ⟨d⟩ ((v + 1) / 2 ^ (D + 1 - (j + 1))) x = _
      unfold F_SymbolReader_number_b2
      rw [e1, noEr_ok, bind_ok, bnd_eq, ← nu_step (V := v + 1) (show j + 1 < D + 1 by omega)]
    rw [rng_len] at e A'
    refine ⟨d', ?_, by rw [show i1 + (D + 1) = i1 + 1 + D by omega]; exact A'⟩
    show ((forS (rng 0 (Int.toNat (((D + 1 : Nat) : Int) - 1))) ((⟨decItem d1 _⟩ : St_SymbolReader), 2 + (v + 1) / 2 ^ (D + 1 - 1 - 0) % 2) (fun s x => F_SymbolReader_number_b2 s.1 s.2 x)).bind _) = _
    rw [show Int.toNat (((D + 1 : Nat) : Int) - 1) = D by omega, show (2 : Int) + (v + 1) / 2 ^ (D + 1 - 1 - 0) % 2 = (v + 1) / 2 ^ (D + 1 - (0 + 1)) by rw [g1]; omega, e, bind_ok]
    unfold F_SymbolReader_number_r2
    have ee : (v + 1) / 2 ^ (D + 1 - (D + 1)) = v + 1 := by
      rw [Nat.sub_self]
      show (v + 1) / 1 = _
      rw [Int.ediv_one]
    show Rx.ok ((if 1048576 < (v + 1) / 2 ^ (D + 1 - (D + 1)) - 1 then (1048576 : Int) else (v + 1) / 2 ^ (D + 1 - (D + 1)) - 1), (⟨d'⟩ : St_SymbolReader)) = _
    rw [hm _ ee]
def bi (k v : Int) : Bi := if k = 0 then .b (decide (v = 1)) else .n v
theorem get_ok (K : Whole O items) (A : At O items i d) {y : Int × Int × Int × Int} (h : Sy y) (hv : Sv y) (S : Seg items (symI y) i) :
    ∃ d', F__law_get ⟨d⟩ y = .ok (bi y.1 y.2.2.1, ⟨d'⟩) ∧ At O items (i + (symI y).length) d' := by
  have ok := symI_ok h hv
  obtain ⟨k, base, v, c⟩ := y
  have hk := sym_kind h
  unfold F__law_get
  rcases hk with hk | hk | hk | hk | hk | hk
  · have hk : k = 0 := hk
    subst hk
    have ok : ItemsOk [(base, v)] := ok
    have S : Seg items [(base, v)] i := S
    have o := ok _ (List.mem_singleton.mpr rfl)
    have hb : 0 ≤ base := by
      rcases h with h | h | h | h | h
      · exact h.2.1
      all_goals first | exact absurd h.1 (by simp) | exact absurd h (by simp)
    obtain ⟨e1, A1⟩ := read_item K A hb (S 0 _ rfl)
    refine ⟨_, ?_, A1⟩
    rw [if_pos rfl]
    unfold F_SymbolReader_flag
    show (((F__check_contexts base 1).bind _).bind _) = _
    rw [checks_ok (.inr ⟨hb, by have : base ≤ 255 := o.1.2; omega⟩), bind_ok]
    show (((F_Decoder_read d base).bind _).bind _) = _
    rw [e1]
    rfl
  · have hk : k = 1 := hk
    subst hk
    have hc := h.ch hv rfl
    have hvv := hv.2.1 rfl
    have hcc : 1 ≤ c ∧ c ≤ 16 := by
      rcases h with h | h | h | h | h
      · exact absurd h.1 (by simp)
      · exact ⟨h.2.1, h.2.2.1⟩
      · exact absurd h.1 (by simp)
      · exact absurd h.1 (by simp)
      · exact absurd h (by simp)
    obtain ⟨d', e, A'⟩ := get_choice K A hcc.1 hcc.2 hc hvv.2 S
    refine ⟨d', ?_, A'⟩
    rw [if_neg (fst_ne (by decide)), if_pos rfl]
    show ((F_SymbolReader_choice ⟨d⟩ base c).bind _) = _
    rw [e]
    rfl
  · have hk : k = 2 := hk
    subst hk
    have hvv := hv.2.2.1 rfl
    obtain ⟨d', e, A'⟩ := get_unary K A (h.un rfl) hvv.1 hvv.2 S
    refine ⟨d', ?_, A'⟩
    rw [if_neg (fst_ne (by decide)), if_neg (fst_ne (by decide)), if_pos rfl]
    show ((F_SymbolReader_unary ⟨d⟩ base c).bind _) = _
    rw [e]
    rfl
  · have hk : k = 3 := hk
    subst hk
    have hvv := hv.2.2.2.1 rfl
    have hn : NuOk base (absI v) := h.nu hv (.inl rfl)
    have ea : absI v = v := by
      have h0 : 0 ≤ v := hvv.1
      unfold absI
      rw [if_neg (by omega)]
    have es : symI (3, base, v, c) = nuI base v := by
      show nuI base (absI v) ++ _ = _
      rw [ea]
      exact List.append_nil _
    rw [ea] at hn
    rw [es] at S ⊢
    obtain ⟨d', e, A'⟩ := get_number K A hn S
    refine ⟨d', ?_, A'⟩
    rw [if_neg (fst_ne (by decide)), if_neg (fst_ne (by decide)), if_neg (fst_ne (by decide)), if_pos rfl]
    show ((F_SymbolReader_number ⟨d⟩ base).bind _) = _
    rw [e]
    rfl
  · have hk : k = 4 := hk
    subst hk
    have hn : NuOk base (absI v) := h.nu hv (.inr rfl)
    have S : Seg items (nuI base (absI v) ++ (if (4 : Int) = 4 ∧ v ≠ 0 then [((-1 : Int), if v < 0 then (1 : Int) else 0)] else [])) i := S
    have el : symI (4, base, v, c) = nuI base (absI v) ++ (if (4 : Int) = 4 ∧ v ≠ 0 then [((-1 : Int), if v < 0 then (1 : Int) else 0)] else []) := rfl
    rw [el]
    obtain ⟨d1, e1, A1⟩ := get_number K A hn S.left
    rw [if_neg (fst_ne (by decide)), if_neg (fst_ne (by decide)), if_neg (fst_ne (by decide)), if_neg (fst_ne (by decide)), if_neg (fst_ne (by decide))]
    unfold F_SymbolReader_signed
    by_cases z : v = 0
    · subst z
      refine ⟨d1, ?_, ?_⟩
      · show (((F_SymbolReader_number ⟨d⟩ base).bind _).bind _) = _
        rw [e1, bind_ok, if_pos (show absI 0 = 0 from rfl)]
        rfl
      · rw [if_neg (show ¬ ((4 : Int) = 4 ∧ (0 : Int) ≠ 0) from fun h => h.2 rfl), List.append_nil]
        exact A1
    · have hp : (4 : Int) = 4 ∧ v ≠ 0 := ⟨rfl, z⟩
      have S2 := S.right
      rw [if_pos hp] at S2 ⊢
      obtain ⟨e2, A2⟩ := even_read K A1 (S2 0 _ rfl)
      refine ⟨_, ?_, by rw [List.length_append]; exact A2⟩
      show (((F_SymbolReader_number ⟨d⟩ base).bind _).bind _) = _
      have za : absI v ≠ 0 := by
        unfold absI
        split <;> omega
      rw [e1, bind_ok, if_neg za]
      show (((noEr (F_Decoder_read_even d1)).bind _).bind _) = _
      rw [e2, noEr_ok, bind_ok]
      by_cases q : v < 0
      · have ea : absI v = -v := if_pos q
        rw [if_pos q, if_pos rfl, bind_ok]
        show Rx.ok (Bi.n (-(absI v)), (⟨_⟩ : St_SymbolReader)) = Rx.ok (Bi.n v, _)
        rw [ea, Int.neg_neg]
      · have ea : absI v = v := if_neg q
        rw [if_neg q, if_neg (show ¬ (0 : Int) = 1 by decide), bind_ok]
        show Rx.ok (Bi.n (absI v), (⟨_⟩ : St_SymbolReader)) = Rx.ok (Bi.n v, _)
        rw [ea]
  · have hk : k = 5 := hk
    subst hk
    have S : Seg items [(-1, v)] i := S
    obtain ⟨e1, A1⟩ := even_read K A (S 0 _ rfl)
    refine ⟨_, ?_, A1⟩
    rw [if_neg (fst_ne (by decide)), if_neg (fst_ne (by decide)), if_neg (fst_ne (by decide)), if_neg (fst_ne (by decide)), if_pos rfl]
    unfold F_SymbolReader_even
    show (((F_Decoder_read_even d).bind _).bind _) = _
    rw [e1]
    rfl
end
theorem acc_code0 {E : EncS} (hm : EncMid E) : accO (encOctets E) (E.front.length + 4) = bigL E := by
  have h := acc_code hm 0
  rw [List.replicate_zero, List.append_nil] at h
  exact h
theorem sym_all (xs : List Int) (h : xs.length ≤ 63) : Gv (mapA xs [] (fun x => noEr (F_law_c1 x))) (fun ys => (∀ y ∈ ys, Sy y ∧ Sv y) ∧ ys.length = xs.length) := by
  have := mapA_gv (f := fun x => noEr (F_law_c1 x)) (P := fun y => Sy y ∧ Sv y) (xs := xs) (acc := []) (fun x => Gv.noEr (by unfold F_law_c1; exact Gv.bind (symbol_gv x) fun y hy => .ok hy)) (fun y hy => nomatch hy) (by show 0 + xs.length ≤ 1000000; omega)
  rw [List.length_nil, Nat.zero_add] at this
  exact this
def allI (ys : List (Int × Int × Int × Int)) : List (Int × Int) := (ys.map symI).flatten
theorem allI_ok {ys : List (Int × Int × Int × Int)} (h : ∀ y ∈ ys, Sy y ∧ Sv y) : ItemsOk (allI ys) := fun x hx => by
  unfold allI at hx
  obtain ⟨l, hl, hx⟩ := List.mem_flatten.mp hx
  obtain ⟨y, hy, rfl⟩ := List.mem_map.mp hl
  exact symI_ok (h y hy).1 (h y hy).2 x hx
theorem allI_len : ∀ {ys : List (Int × Int × Int × Int)}, (∀ y ∈ ys, Sy y ∧ Sv y) → (allI ys).length ≤ 100 * ys.length
  | [], _ => Nat.le_refl 0
  | y :: ys, h => by
    have h1 := symI_len (h y List.mem_cons_self).1 (h y List.mem_cons_self).2
    have h2 := allI_len (ys := ys) fun z hz => h z (List.mem_cons_of_mem _ hz)
    have e : allI (y :: ys) = symI y ++ allI ys := rfl
    rw [e, List.length_append, List.length_cons]
    omega
theorem allI_snoc (ys : List (Int × Int × Int × Int)) (y : Int × Int × Int × Int) : allI (ys ++ [y]) = allI ys ++ symI y := by
  unfold allI
  rw [List.map_append, List.flatten_append]
  simp
theorem allI_seg {ys : List (Int × Int × Int × Int)} {i : Nat} {y : Int × Int × Int × Int} (h : ys[i]? = some y) : Seg (allI ys) (symI y) (allI (ys.take i)).length ∧ (allI (ys.take i)).length + (symI y).length = (allI (ys.take (i + 1))).length := by
  have e : allI (ys.take (i + 1)) = allI (ys.take i) ++ symI y := by rw [take_succ_get h, allI_snoc]
  refine ⟨fun j t ht => ?_, by rw [e, List.length_append]⟩
  have e2 : allI ys = allI (ys.take (i + 1)) ++ allI (ys.drop (i + 1)) := by
    unfold allI
    rw [← List.flatten_append, ← List.map_append, List.take_append_drop]
  have hj := get_len ht
  rw [e2, e, List.getElem?_append_left (by rw [List.length_append]; omega), List.getElem?_append_right (by omega), show (allI (ys.take i)).length + j - (allI (ys.take i)).length = j by omega]
  exact ht
theorem law_true (xs : List Int) (h : xs.length ≤ 63) : F_law xs = .ok true := by
  refine Gv.get ?_
  unfold F_law
  refine Gv.bind (sym_all xs h) fun ys hy => ?_
  have hl := allI_len hy.1
  have ok := allI_ok hy.1
  have part : ∀ i, ItemsOk (allI (ys.take i)) ∧ (allI (ys.take i)).length ≤ 100 * 63 := fun i => by
    have h1 : ∀ y ∈ ys.take i, Sy y ∧ Sv y := fun y hz => hy.1 y (List.mem_of_mem_take hz)
    have := allI_len h1
    rw [List.length_take] at this
    exact ⟨allI_ok h1, by omega⟩
  have fl : ∀ i, (encItems encInit (allI (ys.take i))).front.length ≤ 6300 := fun i => by
    have := items_len (allI (ys.take i)) encInit
    have e0 : encInit.front.length = 0 := rfl
    have := (part i).2
    omega
  refine Gv.bind_eq init_put (Gv.bind_eq (a := (⟨encInit⟩ : St_SymbolWriter)) rfl (Gv.bind (Gv.forS (P := fun i s => s = (⟨encItems encInit (allI (ys.take i))⟩ : St_SymbolWriter)) rfl fun i y s hi p => ?_) fun s p => ?_))
  · subst p
    have b := hy.1 y (List.mem_of_getElem? hi)
    unfold F_law_b2
    refine Gv.bind_eq (put_ok (items_ok init_ok (part i).1) b.1 b.2 (by have := fl i; omega)) (.ok ?_)
    rw [take_succ_get hi, allI_snoc, items_app]
  · rw [List.take_length] at p
    subst p
    have g := items_ok init_ok ok
    have f1 := fl ys.length
    rw [List.take_length] at f1
    have K : Whole (encOctets (encItems encInit (allI ys))) (allI ys) := ⟨ok, code_oct_in g.mid, acc_code0 g.mid⟩
    unfold F_law_r2
    refine Gv.bind_eq (octets_eq (by show (encItems encInit (allI ys)).front.length ≤ 900000; omega)) (Gv.bind_eq (dinit_eq K.o) (Gv.bind_eq (a := (⟨decInit (encOctets (encItems encInit (allI ys)))⟩ : St_SymbolReader)) rfl (Gv.bind (Gv.forR (P := fun i (s : St_SymbolReader) => At (encOctets (encItems encInit (allI ys))) (allI ys) (allI (ys.take i)).length s.dec) (show At _ (allI ys) 0 (decInit (encOctets (encItems encInit (allI ys)))) from rel_start K.ok K.o K.a) fun i y s hi p => ?_) ?_)))
    · have b := hy.1 y (List.mem_of_getElem? hi)
      obtain ⟨S, e⟩ := allI_seg hi
      obtain ⟨d', e1, A'⟩ := get_ok K p b.1 b.2 S
      unfold F_law_b3
      refine Gv.bind_eq (a := (bi y.1 y.2.2.1, ⟨d'⟩)) e1 ?_
      rw [e] at A'
      have hk := sym_kind b.1
      by_cases h0 : y.1 = 0
      · have eb : bi y.1 y.2.2.1 = .b (decide (y.2.2.1 = 1)) := if_pos h0
        show Gv (Bi.el (bi y.1 y.2.2.1) _ _) _
        rw [eb]
        exact Gv.pos h0 (Gv.pos rfl (Gv.neg (by omega) (.ok ⟨⟨d'⟩, rfl, A'⟩)))
      · have eb : bi y.1 y.2.2.1 = .n y.2.2.1 := if_neg h0
        show Gv (Bi.el (bi y.1 y.2.2.1) _ _) _
        rw [eb]
        exact Gv.neg h0 (Gv.pos (by omega) (Gv.pos rfl (.ok ⟨⟨d'⟩, rfl, A'⟩)))
    · rintro l ⟨s, rfl, _⟩
      exact .of_eq rfl rfl

end Vx
namespace Vx
open PySem PySem.Spec PyProof.Rows L2
def topS (i : Nat) : Stmt := PySem.Challenge.pw_thaumatrope_k16_whole_symbols_read_back.main.body.getD i (.Pass ⟨0, 0, 0, 0⟩)
abbrev s_Encoder___init__ : Stmt := inClass (topS 24) 0
abbrev s_SymbolWriter___init__ : Stmt := inClass (topS 10) 0
abbrev s_SymbolReader___init__ : Stmt := inClass (topS 11) 0
abbrev s__law_draws : Stmt := topS 31
abbrev s__law_symbol : Stmt := topS 32
abbrev s__check_contexts : Stmt := topS 12
abbrev s__check_context : Stmt := topS 26
abbrev s__check_decision : Stmt := topS 27
abbrev s__adapted : Stmt := topS 28
abbrev s_Encoder__carry : Stmt := inClass (topS 24) 6
abbrev s_Encoder__narrow : Stmt := inClass (topS 24) 5
abbrev s_Encoder_code : Stmt := inClass (topS 24) 1
abbrev s_SymbolWriter_flag : Stmt := inClass (topS 10) 1
abbrev s_Decoder__shift : Stmt := inClass (topS 25) 5
abbrev s_Decoder__decide : Stmt := inClass (topS 25) 4
abbrev s_Decoder_read : Stmt := inClass (topS 25) 1
abbrev s_SymbolReader_flag : Stmt := inClass (topS 11) 1
abbrev s__choice_digits : Stmt := topS 13
abbrev s_SymbolWriter_choice : Stmt := inClass (topS 10) 2
abbrev s_SymbolReader_choice : Stmt := inClass (topS 11) 2
abbrev s__check_unary : Stmt := topS 14
abbrev s_SymbolWriter_unary : Stmt := inClass (topS 10) 3
abbrev s_SymbolReader_unary : Stmt := inClass (topS 11) 3
abbrev s__digit_context : Stmt := topS 15
abbrev s_Encoder_code_even : Stmt := inClass (topS 24) 2
abbrev s_SymbolWriter_number : Stmt := inClass (topS 10) 4
abbrev s_Decoder_read_even : Stmt := inClass (topS 25) 2
abbrev s_SymbolReader_number : Stmt := inClass (topS 11) 4
abbrev s_SymbolWriter_signed : Stmt := inClass (topS 10) 5
abbrev s_SymbolReader_signed : Stmt := inClass (topS 11) 5
abbrev s_SymbolWriter_even : Stmt := inClass (topS 10) 6
abbrev s_SymbolReader_even : Stmt := inClass (topS 11) 6
abbrev s__law_put : Stmt := topS 33
abbrev s_Decoder___init__ : Stmt := inClass (topS 25) 0
abbrev s__law_get : Stmt := topS 34
abbrev s_Encoder_octets : Stmt := inClass (topS 24) 3
abbrev s_law : Stmt := topS 35
structure Ads where
  c_Encoder : Addr
  c_SymbolWriter : Addr
  c_Decoder : Addr
  c_SymbolReader : Addr
  x_CodecError : Addr
  x_OutOfRange : Addr
  z0 : Addr
def excA (AD : Ads) : Nat → Addr
  | 0 => AD.x_CodecError
  | 1 => AD.x_OutOfRange
  | _ => AD.z0
structure Txt (K : PySem.W.Frag) (mg : Str → Option Value) (AD : Ads) : Prop where
  g_EVEN : ∃ u, mg "EVEN" = some u ∧ RelV (V.int 2048) u
  g_CONTEXTS_coder : ∃ u, mg "CONTEXTS_coder" = some u ∧ RelV (V.int 256) u
  g_WORD : ∃ u, mg "WORD" = some u ∧ RelV (V.int 4294967296) u
  b_abs : mg "abs" = none
  b_int : mg "int" = none
  b_min : mg "min" = none
  b_max : mg "max" = none
  g_CONTEXTS_symbols : ∃ u, mg "CONTEXTS_symbols" = some u ∧ RelV (V.int 256) u
  g_SCALE : ∃ u, mg "SCALE" = some u ∧ RelV (V.int 4096) u
  g_RATE : ∃ u, mg "RATE" = some u ∧ RelV (V.int 5) u
  b_len : mg "len" = none
  g_SCALE_BITS : ∃ u, mg "SCALE_BITS" = some u ∧ RelV (V.int 12) u
  g_LEAST_SPAN : ∃ u, mg "LEAST_SPAN" = some u ∧ RelV (V.int 16777216) u
  g_MOST_CHOICES : ∃ u, mg "MOST_CHOICES" = some u ∧ RelV (V.int 16) u
  b_range : mg "range" = none
  g_GREATEST_UNARY : ∃ u, mg "GREATEST_UNARY" = some u ∧ RelV (V.int 64) u
  g_SHARED : ∃ u, mg "SHARED" = some u ∧ RelV (V.int 8) u
  g_GREATEST_NUMBER : ∃ u, mg "GREATEST_NUMBER" = some u ∧ RelV (V.int 1048576) u
  g_MOST_DIGITS : ∃ u, mg "MOST_DIGITS" = some u ∧ RelV (V.int 20) u
  b_list : mg "list" = none
  b_isinstance : mg "isinstance" = none
  b_bool : mg "bool" = none
  cl_Encoder : Cls K AD.c_Encoder
  n_Encoder__probabilities : NoAttr K AD.c_Encoder "_probabilities"
  n_Encoder__front : NoAttr K AD.c_Encoder "_front"
  n_Encoder__low : NoAttr K AD.c_Encoder "_low"
  n_Encoder__span : NoAttr K AD.c_Encoder "_span"
  cl_SymbolWriter : Cls K AD.c_SymbolWriter
  n_SymbolWriter__encoder : NoAttr K AD.c_SymbolWriter "_encoder"
  cl_SymbolReader : Cls K AD.c_SymbolReader
  n_SymbolReader__decoder : NoAttr K AD.c_SymbolReader "_decoder"
  cl_Decoder : Cls K AD.c_Decoder
  n_Decoder__probabilities : NoAttr K AD.c_Decoder "_probabilities"
  n_Decoder__octets : NoAttr K AD.c_Decoder "_octets"
  n_Decoder__place : NoAttr K AD.c_Decoder "_place"
  n_Decoder__span : NoAttr K AD.c_Decoder "_span"
  n_Decoder__value : NoAttr K AD.c_Decoder "_value"
  xg_OutOfRange : mg "OutOfRange" = some (.ref AD.x_OutOfRange)
  xx_OutOfRange : PySem.W.excIn K AD.x_OutOfRange [.type "ValueError", .type "Exception", .type "BaseException", .type "object"] "ValueError.__new__" = true
  xk_OutOfRange : PySem.W.keepIn K (.ref AD.x_OutOfRange) = true
  xb_OutOfRange : PySem.W.subIn K (.ref AD.x_OutOfRange) (.type "BaseException") = some true
  xt_OutOfRange : PySem.W.typeIn K (.ref AD.x_OutOfRange) = some (.type "type")
abbrev pat_Encoder___init___0 : Pat := (1, [], fun vs _ => vs)
abbrev pats_Encoder___init__ : List Pat := [pat_Encoder___init___0]
abbrev pat_SymbolWriter___init___0 : Pat := (2, [], fun vs _ => vs)
abbrev pats_SymbolWriter___init__ : List Pat := [pat_SymbolWriter___init___0]
abbrev pat_SymbolReader___init___0 : Pat := (2, [], fun vs _ => vs)
abbrev pats_SymbolReader___init__ : List Pat := [pat_SymbolReader___init___0]
abbrev pat__law_draws_0 : Pat := (2, [], fun vs _ => vs)
abbrev pats__law_draws : List Pat := [pat__law_draws_0]
abbrev pat__law_symbol_0 : Pat := (1, [], fun vs _ => vs)
abbrev pats__law_symbol : List Pat := [pat__law_symbol_0]
abbrev pat__check_contexts_0 : Pat := (2, [], fun vs _ => vs)
abbrev pats__check_contexts : List Pat := [pat__check_contexts_0]
abbrev pat__check_context_0 : Pat := (1, [], fun vs _ => vs)
abbrev pats__check_context : List Pat := [pat__check_context_0]
abbrev pat__check_decision_0 : Pat := (1, [], fun vs _ => vs)
abbrev pats__check_decision : List Pat := [pat__check_decision_0]
abbrev pat__adapted_0 : Pat := (2, [], fun vs _ => vs)
abbrev pats__adapted : List Pat := [pat__adapted_0]
abbrev pat_Encoder__carry_0 : Pat := (1, [], fun vs _ => vs)
abbrev pats_Encoder__carry : List Pat := [pat_Encoder__carry_0]
abbrev pat_Encoder__narrow_0 : Pat := (3, [], fun vs _ => vs)
abbrev pats_Encoder__narrow : List Pat := [pat_Encoder__narrow_0]
abbrev pat_Encoder_code_0 : Pat := (3, [], fun vs _ => vs)
abbrev pats_Encoder_code : List Pat := [pat_Encoder_code_0]
abbrev pat_SymbolWriter_flag_0 : Pat := (3, [], fun vs _ => vs)
abbrev pats_SymbolWriter_flag : List Pat := [pat_SymbolWriter_flag_0]
abbrev pat_Decoder__shift_0 : Pat := (1, [], fun vs _ => vs)
abbrev pats_Decoder__shift : List Pat := [pat_Decoder__shift_0]
abbrev pat_Decoder__decide_0 : Pat := (2, [], fun vs _ => vs)
abbrev pats_Decoder__decide : List Pat := [pat_Decoder__decide_0]
abbrev pat_Decoder_read_0 : Pat := (2, [], fun vs _ => vs)
abbrev pats_Decoder_read : List Pat := [pat_Decoder_read_0]
abbrev pat_SymbolReader_flag_0 : Pat := (2, [], fun vs _ => vs)
abbrev pats_SymbolReader_flag : List Pat := [pat_SymbolReader_flag_0]
abbrev pat__choice_digits_0 : Pat := (2, [], fun vs _ => vs)
abbrev pats__choice_digits : List Pat := [pat__choice_digits_0]
abbrev pat_SymbolWriter_choice_0 : Pat := (3, ["count"], fun vs zs => match vs, zs with | [a0, a1, a2], [b0] => [a0, a1, a2, b0] | _, _ => [])
abbrev pats_SymbolWriter_choice : List Pat := [pat_SymbolWriter_choice_0]
abbrev pat_SymbolReader_choice_0 : Pat := (2, ["count"], fun vs zs => match vs, zs with | [a0, a1], [b0] => [a0, a1, b0] | _, _ => [])
abbrev pats_SymbolReader_choice : List Pat := [pat_SymbolReader_choice_0]
abbrev pat__check_unary_0 : Pat := (2, [], fun vs _ => vs)
abbrev pats__check_unary : List Pat := [pat__check_unary_0]
abbrev pat_SymbolWriter_unary_0 : Pat := (3, ["most"], fun vs zs => match vs, zs with | [a0, a1, a2], [b0] => [a0, a1, a2, b0] | _, _ => [])
abbrev pats_SymbolWriter_unary : List Pat := [pat_SymbolWriter_unary_0]
abbrev pat_SymbolReader_unary_0 : Pat := (2, ["most"], fun vs zs => match vs, zs with | [a0, a1], [b0] => [a0, a1, b0] | _, _ => [])
abbrev pats_SymbolReader_unary : List Pat := [pat_SymbolReader_unary_0]
abbrev pat__digit_context_0 : Pat := (2, [], fun vs _ => vs)
abbrev pats__digit_context : List Pat := [pat__digit_context_0]
abbrev pat_Encoder_code_even_0 : Pat := (2, [], fun vs _ => vs)
abbrev pats_Encoder_code_even : List Pat := [pat_Encoder_code_even_0]
abbrev pat_SymbolWriter_number_0 : Pat := (3, [], fun vs _ => vs)
abbrev pats_SymbolWriter_number : List Pat := [pat_SymbolWriter_number_0]
abbrev pat_Decoder_read_even_0 : Pat := (1, [], fun vs _ => vs)
abbrev pats_Decoder_read_even : List Pat := [pat_Decoder_read_even_0]
abbrev pat_SymbolReader_number_0 : Pat := (2, [], fun vs _ => vs)
abbrev pats_SymbolReader_number : List Pat := [pat_SymbolReader_number_0]
abbrev pat_SymbolWriter_signed_0 : Pat := (3, [], fun vs _ => vs)
abbrev pats_SymbolWriter_signed : List Pat := [pat_SymbolWriter_signed_0]
abbrev pat_SymbolReader_signed_0 : Pat := (2, [], fun vs _ => vs)
abbrev pats_SymbolReader_signed : List Pat := [pat_SymbolReader_signed_0]
abbrev pat_SymbolWriter_even_0 : Pat := (2, [], fun vs _ => vs)
abbrev pats_SymbolWriter_even : List Pat := [pat_SymbolWriter_even_0]
abbrev pat_SymbolReader_even_0 : Pat := (1, [], fun vs _ => vs)
abbrev pats_SymbolReader_even : List Pat := [pat_SymbolReader_even_0]
abbrev pat__law_put_0 : Pat := (2, [], fun vs _ => vs)
abbrev pats__law_put : List Pat := [pat__law_put_0]
abbrev pat_Decoder___init___0 : Pat := (2, [], fun vs _ => vs)
abbrev pats_Decoder___init__ : List Pat := [pat_Decoder___init___0]
abbrev pat__law_get_0 : Pat := (2, [], fun vs _ => vs)
abbrev pats__law_get : List Pat := [pat__law_get_0]
abbrev pat_Encoder_octets_0 : Pat := (1, [], fun vs _ => vs)
abbrev pats_Encoder_octets : List Pat := [pat_Encoder_octets_0]
abbrev pats_law : List Pat := []
def sp_Encoder___init__ (K : PySem.W.Frag) (AD : Ads) : Sp := fun vs H Q E => ∃ (G : Hp) (p_self dx_self : Addr), vs = [.ref p_self] ∧ Same G H ∧ (∀ a ∈ [p_self], G a = none) ∧ H p_self = some (.ins AD.c_Encoder dx_self []) ∧ cW (F_Encoder___init__ ) (fun v => ∀ (H' : Hp) (l_probs l_front : Addr), SameX p_self H H' → H l_probs = none → H l_front = none → l_probs ≠ l_front → H' p_self = some (.ins AD.c_Encoder dx_self [("_probabilities", V.ref l_probs), ("_front", V.ref l_front), ("_low", V.int v.low), ("_span", V.int v.span)]) → H' l_probs = some (.lst (v.probs.map V.int)) → H' l_front = some (.lst (v.front.map V.int)) → Q .non H') (fun e => ∀ H', Same H H' → E (.ref (excA AD e)) none H')
def sp_SymbolWriter___init__ (K : PySem.W.Frag) (AD : Ads) : Sp := fun vs H Q E => ∃ (G : Hp) (p_self dx_self : Addr) (p_encoder l_encoder_probs l_encoder_front dx_encoder : Addr) (encoder' : St_Encoder), vs = [.ref p_self, .ref p_encoder] ∧ Same G H ∧ (∀ a ∈ [p_self], G a = none) ∧ H p_self = some (.ins AD.c_SymbolWriter dx_self []) ∧ (hideL [p_self] H) p_encoder = some (.ins AD.c_Encoder dx_encoder [("_probabilities", V.ref l_encoder_probs), ("_front", V.ref l_encoder_front), ("_low", V.int encoder'.low), ("_span", V.int encoder'.span)]) ∧ (hideL [p_self] H) l_encoder_probs = some (.lst ((encoder'.probs : (List Int)).map V.int)) ∧ (hideL [p_self] H) l_encoder_front = some (.lst ((encoder'.front : (List Int)).map V.int)) ∧ cW (F_SymbolWriter___init__ encoder') (fun v => ∀ (H' : Hp), SameX p_self H H' → H' p_self = some (.ins AD.c_SymbolWriter dx_self [("_encoder", V.ref p_encoder)]) → Q .non H') (fun e => ∀ H', Same H H' → E (.ref (excA AD e)) none H')
def sp_SymbolReader___init__ (K : PySem.W.Frag) (AD : Ads) : Sp := fun vs H Q E => ∃ (G : Hp) (p_self dx_self : Addr) (p_decoder l_decoder_probs l_decoder_octs dx_decoder : Addr) (decoder' : St_Decoder), vs = [.ref p_self, .ref p_decoder] ∧ Same G H ∧ (∀ a ∈ [p_self], G a = none) ∧ H p_self = some (.ins AD.c_SymbolReader dx_self []) ∧ (hideL [p_self] H) p_decoder = some (.ins AD.c_Decoder dx_decoder [("_probabilities", V.ref l_decoder_probs), ("_octets", V.ref l_decoder_octs), ("_place", V.int decoder'.place), ("_span", V.int decoder'.span), ("_value", V.int decoder'.value)]) ∧ (hideL [p_self] H) l_decoder_probs = some (.lst ((decoder'.probs : (List Int)).map V.int)) ∧ (hideL [p_self] H) l_decoder_octs = some (.lst ((decoder'.octs : (List Int)).map V.int)) ∧ cW (F_SymbolReader___init__ decoder') (fun v => ∀ (H' : Hp), SameX p_self H H' → H' p_self = some (.ins AD.c_SymbolReader dx_self [("_decoder", V.ref p_decoder)]) → Q .non H') (fun e => ∀ H', Same H H' → E (.ref (excA AD e)) none H')
def sp__law_draws (K : PySem.W.Frag) (AD : Ads) : Sp := fun vs H Q E => ∃ (G : Hp) (cell' : Int) (a_limits : Addr) (limits' : List Int), vs = [.int cell', .ref a_limits] ∧ Same G H ∧ (hideL [] H) a_limits = some (.lst ((limits' : List Int).map V.int)) ∧ cW (F__law_draws cell' limits') (fun v => ∀ p H', H p = none → Same H H' → H' p = some (.lst (v.map V.int)) → Q (.ref p) H') (fun e => ∀ H', Same H H' → E (.ref (excA AD e)) none H')
def sp__law_symbol (K : PySem.W.Frag) (AD : Ads) : Sp := fun vs H Q E => ∃ (G : Hp) (cell' : Int), vs = [.int cell'] ∧ Same G H ∧ cW (F__law_symbol cell') (fun v => ∀ u H' G', Same H H' → Same G G' → Same G' H' → (∀ b, H b ≠ none → G b = none → G' b = none) → Rp G' u ((encT4 PyData.int PyData.int PyData.int PyData.int) v) → Q u H') (fun e => ∀ H', Same H H' → E (.ref (excA AD e)) none H')
def sp__check_contexts (K : PySem.W.Frag) (AD : Ads) : Sp := fun vs H Q E => ∃ (G : Hp) (base' : Int) (count' : Int), vs = [.int base', .int count'] ∧ Same G H ∧ cW (F__check_contexts base' count') (fun v => Q .non H) (fun e => E (.ref (excA AD e)) none H)
def sp__check_context (K : PySem.W.Frag) (AD : Ads) : Sp := fun vs H Q E => ∃ (G : Hp) (context' : Int), vs = [.int context'] ∧ Same G H ∧ cW (F__check_context context') (fun v => Q .non H) (fun e => E (.ref (excA AD e)) none H)
def sp__check_decision (K : PySem.W.Frag) (AD : Ads) : Sp := fun vs H Q E => ∃ (G : Hp) (decision' : Int), vs = [.int decision'] ∧ Same G H ∧ cW (F__check_decision decision') (fun v => Q .non H) (fun e => E (.ref (excA AD e)) none H)
def sp__adapted (K : PySem.W.Frag) (AD : Ads) : Sp := fun vs H Q E => ∃ (G : Hp) (chance' : Int) (decision' : Int), vs = [.int chance', .int decision'] ∧ Same G H ∧ cW (F__adapted chance' decision') (fun v => Q (.int v) H) (fun e => E (.ref (excA AD e)) none H)
def sp_Encoder__carry (K : PySem.W.Frag) (AD : Ads) : Sp := fun vs H Q E => ∃ (G : Hp) (p_self l_self_probs l_self_front dx_self : Addr) (self' : St_Encoder), vs = [.ref p_self] ∧ Same G H ∧ (∀ a ∈ [p_self, l_self_probs, l_self_front], G a = none) ∧ H p_self = some (.ins AD.c_Encoder dx_self [("_probabilities", V.ref l_self_probs), ("_front", V.ref l_self_front), ("_low", V.int self'.low), ("_span", V.int self'.span)]) ∧ H l_self_probs = some (.lst ((self'.probs : (List Int)).map V.int)) ∧ H l_self_front = some (.lst ((self'.front : (List Int)).map V.int)) ∧ l_self_probs ≠ l_self_front ∧ cW (F_Encoder__carry self') (fun v => ∀ (H' : Hp), SameXs [p_self, l_self_probs, l_self_front] H H' → H' p_self = some (.ins AD.c_Encoder dx_self [("_probabilities", V.ref l_self_probs), ("_front", V.ref l_self_front), ("_low", V.int v.low), ("_span", V.int v.span)]) → H' l_self_probs = some (.lst ((v.probs : (List Int)).map V.int)) → H' l_self_front = some (.lst ((v.front : (List Int)).map V.int)) → Q .non H') (fun e => ∀ H', Same H H' → E (.ref (excA AD e)) none H')
def sp_Encoder__narrow (K : PySem.W.Frag) (AD : Ads) : Sp := fun vs H Q E => ∃ (G : Hp) (p_self l_self_probs l_self_front dx_self : Addr) (self' : St_Encoder) (chance' : Int) (decision' : Int), vs = [.ref p_self, .int chance', .int decision'] ∧ Same G H ∧ (∀ a ∈ [p_self, l_self_probs, l_self_front], G a = none) ∧ H p_self = some (.ins AD.c_Encoder dx_self [("_probabilities", V.ref l_self_probs), ("_front", V.ref l_self_front), ("_low", V.int self'.low), ("_span", V.int self'.span)]) ∧ H l_self_probs = some (.lst ((self'.probs : (List Int)).map V.int)) ∧ H l_self_front = some (.lst ((self'.front : (List Int)).map V.int)) ∧ l_self_probs ≠ l_self_front ∧ cW (F_Encoder__narrow self' chance' decision') (fun v => ∀ (H' : Hp), SameXs [p_self, l_self_probs, l_self_front] H H' → H' p_self = some (.ins AD.c_Encoder dx_self [("_probabilities", V.ref l_self_probs), ("_front", V.ref l_self_front), ("_low", V.int v.low), ("_span", V.int v.span)]) → H' l_self_probs = some (.lst ((v.probs : (List Int)).map V.int)) → H' l_self_front = some (.lst ((v.front : (List Int)).map V.int)) → Q .non H') (fun e => ∀ H', Same H H' → E (.ref (excA AD e)) none H')
def sp_Encoder_code (K : PySem.W.Frag) (AD : Ads) : Sp := fun vs H Q E => ∃ (G : Hp) (p_self l_self_probs l_self_front dx_self : Addr) (self' : St_Encoder) (context' : Int) (decision' : Int), vs = [.ref p_self, .int context', .int decision'] ∧ Same G H ∧ (∀ a ∈ [p_self, l_self_probs, l_self_front], G a = none) ∧ H p_self = some (.ins AD.c_Encoder dx_self [("_probabilities", V.ref l_self_probs), ("_front", V.ref l_self_front), ("_low", V.int self'.low), ("_span", V.int self'.span)]) ∧ H l_self_probs = some (.lst ((self'.probs : (List Int)).map V.int)) ∧ H l_self_front = some (.lst ((self'.front : (List Int)).map V.int)) ∧ l_self_probs ≠ l_self_front ∧ cW (F_Encoder_code self' context' decision') (fun v => ∀ (H' : Hp), SameXs [p_self, l_self_probs, l_self_front] H H' → H' p_self = some (.ins AD.c_Encoder dx_self [("_probabilities", V.ref l_self_probs), ("_front", V.ref l_self_front), ("_low", V.int v.low), ("_span", V.int v.span)]) → H' l_self_probs = some (.lst ((v.probs : (List Int)).map V.int)) → H' l_self_front = some (.lst ((v.front : (List Int)).map V.int)) → Q .non H') (fun e => ∀ H', Same H H' → E (.ref (excA AD e)) none H')
def sp_SymbolWriter_flag (K : PySem.W.Frag) (AD : Ads) : Sp := fun vs H Q E => ∃ (G : Hp) (p_self p_self_enc l_self_enc_probs l_self_enc_front dx_self dx_self_enc : Addr) (self' : St_SymbolWriter) (base' : Int) (value' : Bool), vs = [.ref p_self, .int base', .bl value'] ∧ Same G H ∧ (∀ a ∈ [p_self, p_self_enc, l_self_enc_probs, l_self_enc_front], G a = none) ∧ H p_self = some (.ins AD.c_SymbolWriter dx_self [("_encoder", V.ref p_self_enc)]) ∧ H p_self_enc = some (.ins AD.c_Encoder dx_self_enc [("_probabilities", V.ref l_self_enc_probs), ("_front", V.ref l_self_enc_front), ("_low", V.int self'.enc.low), ("_span", V.int self'.enc.span)]) ∧ H l_self_enc_probs = some (.lst ((self'.enc.probs : (List Int)).map V.int)) ∧ H l_self_enc_front = some (.lst ((self'.enc.front : (List Int)).map V.int)) ∧ l_self_enc_probs ≠ l_self_enc_front ∧ p_self ≠ p_self_enc ∧ cW (F_SymbolWriter_flag self' base' value') (fun v => ∀ (H' : Hp), SameXs [p_self, p_self_enc, l_self_enc_probs, l_self_enc_front] H H' → H' p_self = some (.ins AD.c_SymbolWriter dx_self [("_encoder", V.ref p_self_enc)]) → H' p_self_enc = some (.ins AD.c_Encoder dx_self_enc [("_probabilities", V.ref l_self_enc_probs), ("_front", V.ref l_self_enc_front), ("_low", V.int v.enc.low), ("_span", V.int v.enc.span)]) → H' l_self_enc_probs = some (.lst ((v.enc.probs : (List Int)).map V.int)) → H' l_self_enc_front = some (.lst ((v.enc.front : (List Int)).map V.int)) → Q .non H') (fun e => ∀ H', Same H H' → E (.ref (excA AD e)) none H')
def sp_Decoder__shift (K : PySem.W.Frag) (AD : Ads) : Sp := fun vs H Q E => ∃ (G : Hp) (p_self l_self_probs l_self_octs dx_self : Addr) (self' : St_Decoder), vs = [.ref p_self] ∧ Same G H ∧ (∀ a ∈ [p_self, l_self_probs, l_self_octs], G a = none) ∧ H p_self = some (.ins AD.c_Decoder dx_self [("_probabilities", V.ref l_self_probs), ("_octets", V.ref l_self_octs), ("_place", V.int self'.place), ("_span", V.int self'.span), ("_value", V.int self'.value)]) ∧ H l_self_probs = some (.lst ((self'.probs : (List Int)).map V.int)) ∧ H l_self_octs = some (.lst ((self'.octs : (List Int)).map V.int)) ∧ l_self_probs ≠ l_self_octs ∧ cW (F_Decoder__shift self') (fun v => ∀ (H' : Hp), SameXs [p_self, l_self_probs, l_self_octs] H H' → H' p_self = some (.ins AD.c_Decoder dx_self [("_probabilities", V.ref l_self_probs), ("_octets", V.ref l_self_octs), ("_place", V.int v.place), ("_span", V.int v.span), ("_value", V.int v.value)]) → H' l_self_probs = some (.lst ((v.probs : (List Int)).map V.int)) → H' l_self_octs = some (.lst ((v.octs : (List Int)).map V.int)) → Q .non H') (fun e => ∀ H', Same H H' → E (.ref (excA AD e)) none H')
def sp_Decoder__decide (K : PySem.W.Frag) (AD : Ads) : Sp := fun vs H Q E => ∃ (G : Hp) (p_self l_self_probs l_self_octs dx_self : Addr) (self' : St_Decoder) (chance' : Int), vs = [.ref p_self, .int chance'] ∧ Same G H ∧ (∀ a ∈ [p_self, l_self_probs, l_self_octs], G a = none) ∧ H p_self = some (.ins AD.c_Decoder dx_self [("_probabilities", V.ref l_self_probs), ("_octets", V.ref l_self_octs), ("_place", V.int self'.place), ("_span", V.int self'.span), ("_value", V.int self'.value)]) ∧ H l_self_probs = some (.lst ((self'.probs : (List Int)).map V.int)) ∧ H l_self_octs = some (.lst ((self'.octs : (List Int)).map V.int)) ∧ l_self_probs ≠ l_self_octs ∧ cW (F_Decoder__decide self' chance') (fun v => ∀ (H' : Hp), SameXs [p_self, l_self_probs, l_self_octs] H H' → H' p_self = some (.ins AD.c_Decoder dx_self [("_probabilities", V.ref l_self_probs), ("_octets", V.ref l_self_octs), ("_place", V.int v.2.place), ("_span", V.int v.2.span), ("_value", V.int v.2.value)]) → H' l_self_probs = some (.lst ((v.2.probs : (List Int)).map V.int)) → H' l_self_octs = some (.lst ((v.2.octs : (List Int)).map V.int)) → Q (.int v.1) H') (fun e => ∀ H', Same H H' → E (.ref (excA AD e)) none H')
def sp_Decoder_read (K : PySem.W.Frag) (AD : Ads) : Sp := fun vs H Q E => ∃ (G : Hp) (p_self l_self_probs l_self_octs dx_self : Addr) (self' : St_Decoder) (context' : Int), vs = [.ref p_self, .int context'] ∧ Same G H ∧ (∀ a ∈ [p_self, l_self_probs, l_self_octs], G a = none) ∧ H p_self = some (.ins AD.c_Decoder dx_self [("_probabilities", V.ref l_self_probs), ("_octets", V.ref l_self_octs), ("_place", V.int self'.place), ("_span", V.int self'.span), ("_value", V.int self'.value)]) ∧ H l_self_probs = some (.lst ((self'.probs : (List Int)).map V.int)) ∧ H l_self_octs = some (.lst ((self'.octs : (List Int)).map V.int)) ∧ l_self_probs ≠ l_self_octs ∧ cW (F_Decoder_read self' context') (fun v => ∀ (H' : Hp), SameXs [p_self, l_self_probs, l_self_octs] H H' → H' p_self = some (.ins AD.c_Decoder dx_self [("_probabilities", V.ref l_self_probs), ("_octets", V.ref l_self_octs), ("_place", V.int v.2.place), ("_span", V.int v.2.span), ("_value", V.int v.2.value)]) → H' l_self_probs = some (.lst ((v.2.probs : (List Int)).map V.int)) → H' l_self_octs = some (.lst ((v.2.octs : (List Int)).map V.int)) → Q (.int v.1) H') (fun e => ∀ H', Same H H' → E (.ref (excA AD e)) none H')
def sp_SymbolReader_flag (K : PySem.W.Frag) (AD : Ads) : Sp := fun vs H Q E => ∃ (G : Hp) (p_self p_self_dec l_self_dec_probs l_self_dec_octs dx_self dx_self_dec : Addr) (self' : St_SymbolReader) (base' : Int), vs = [.ref p_self, .int base'] ∧ Same G H ∧ (∀ a ∈ [p_self, p_self_dec, l_self_dec_probs, l_self_dec_octs], G a = none) ∧ H p_self = some (.ins AD.c_SymbolReader dx_self [("_decoder", V.ref p_self_dec)]) ∧ H p_self_dec = some (.ins AD.c_Decoder dx_self_dec [("_probabilities", V.ref l_self_dec_probs), ("_octets", V.ref l_self_dec_octs), ("_place", V.int self'.dec.place), ("_span", V.int self'.dec.span), ("_value", V.int self'.dec.value)]) ∧ H l_self_dec_probs = some (.lst ((self'.dec.probs : (List Int)).map V.int)) ∧ H l_self_dec_octs = some (.lst ((self'.dec.octs : (List Int)).map V.int)) ∧ l_self_dec_probs ≠ l_self_dec_octs ∧ p_self ≠ p_self_dec ∧ cW (F_SymbolReader_flag self' base') (fun v => ∀ (H' : Hp), SameXs [p_self, p_self_dec, l_self_dec_probs, l_self_dec_octs] H H' → H' p_self = some (.ins AD.c_SymbolReader dx_self [("_decoder", V.ref p_self_dec)]) → H' p_self_dec = some (.ins AD.c_Decoder dx_self_dec [("_probabilities", V.ref l_self_dec_probs), ("_octets", V.ref l_self_dec_octs), ("_place", V.int v.2.dec.place), ("_span", V.int v.2.dec.span), ("_value", V.int v.2.dec.value)]) → H' l_self_dec_probs = some (.lst ((v.2.dec.probs : (List Int)).map V.int)) → H' l_self_dec_octs = some (.lst ((v.2.dec.octs : (List Int)).map V.int)) → Q (.bl v.1) H') (fun e => ∀ H', Same H H' → E (.ref (excA AD e)) none H')
def sp__choice_digits (K : PySem.W.Frag) (AD : Ads) : Sp := fun vs H Q E => ∃ (G : Hp) (base' : Int) (count' : Int), vs = [.int base', .int count'] ∧ Same G H ∧ cW (F__choice_digits base' count') (fun v => ∀ H', Same H H' → Q (.int v) H') (fun e => ∀ H', Same H H' → E (.ref (excA AD e)) none H')
def sp_SymbolWriter_choice (K : PySem.W.Frag) (AD : Ads) : Sp := fun vs H Q E => ∃ (G : Hp) (p_self p_self_enc l_self_enc_probs l_self_enc_front dx_self dx_self_enc : Addr) (self' : St_SymbolWriter) (base' : Int) (value' : Int) (count' : Int), vs = [.ref p_self, .int base', .int value', .int count'] ∧ Same G H ∧ (∀ a ∈ [p_self, p_self_enc, l_self_enc_probs, l_self_enc_front], G a = none) ∧ H p_self = some (.ins AD.c_SymbolWriter dx_self [("_encoder", V.ref p_self_enc)]) ∧ H p_self_enc = some (.ins AD.c_Encoder dx_self_enc [("_probabilities", V.ref l_self_enc_probs), ("_front", V.ref l_self_enc_front), ("_low", V.int self'.enc.low), ("_span", V.int self'.enc.span)]) ∧ H l_self_enc_probs = some (.lst ((self'.enc.probs : (List Int)).map V.int)) ∧ H l_self_enc_front = some (.lst ((self'.enc.front : (List Int)).map V.int)) ∧ l_self_enc_probs ≠ l_self_enc_front ∧ p_self ≠ p_self_enc ∧ cW (F_SymbolWriter_choice self' base' value' count') (fun v => ∀ (H' : Hp), SameXs [p_self, p_self_enc, l_self_enc_probs, l_self_enc_front] H H' → H' p_self = some (.ins AD.c_SymbolWriter dx_self [("_encoder", V.ref p_self_enc)]) → H' p_self_enc = some (.ins AD.c_Encoder dx_self_enc [("_probabilities", V.ref l_self_enc_probs), ("_front", V.ref l_self_enc_front), ("_low", V.int v.enc.low), ("_span", V.int v.enc.span)]) → H' l_self_enc_probs = some (.lst ((v.enc.probs : (List Int)).map V.int)) → H' l_self_enc_front = some (.lst ((v.enc.front : (List Int)).map V.int)) → Q .non H') (fun e => ∀ H', Same H H' → E (.ref (excA AD e)) none H')
def sp_SymbolReader_choice (K : PySem.W.Frag) (AD : Ads) : Sp := fun vs H Q E => ∃ (G : Hp) (p_self p_self_dec l_self_dec_probs l_self_dec_octs dx_self dx_self_dec : Addr) (self' : St_SymbolReader) (base' : Int) (count' : Int), vs = [.ref p_self, .int base', .int count'] ∧ Same G H ∧ (∀ a ∈ [p_self, p_self_dec, l_self_dec_probs, l_self_dec_octs], G a = none) ∧ H p_self = some (.ins AD.c_SymbolReader dx_self [("_decoder", V.ref p_self_dec)]) ∧ H p_self_dec = some (.ins AD.c_Decoder dx_self_dec [("_probabilities", V.ref l_self_dec_probs), ("_octets", V.ref l_self_dec_octs), ("_place", V.int self'.dec.place), ("_span", V.int self'.dec.span), ("_value", V.int self'.dec.value)]) ∧ H l_self_dec_probs = some (.lst ((self'.dec.probs : (List Int)).map V.int)) ∧ H l_self_dec_octs = some (.lst ((self'.dec.octs : (List Int)).map V.int)) ∧ l_self_dec_probs ≠ l_self_dec_octs ∧ p_self ≠ p_self_dec ∧ cW (F_SymbolReader_choice self' base' count') (fun v => ∀ (H' : Hp), SameXs [p_self, p_self_dec, l_self_dec_probs, l_self_dec_octs] H H' → H' p_self = some (.ins AD.c_SymbolReader dx_self [("_decoder", V.ref p_self_dec)]) → H' p_self_dec = some (.ins AD.c_Decoder dx_self_dec [("_probabilities", V.ref l_self_dec_probs), ("_octets", V.ref l_self_dec_octs), ("_place", V.int v.2.dec.place), ("_span", V.int v.2.dec.span), ("_value", V.int v.2.dec.value)]) → H' l_self_dec_probs = some (.lst ((v.2.dec.probs : (List Int)).map V.int)) → H' l_self_dec_octs = some (.lst ((v.2.dec.octs : (List Int)).map V.int)) → Q (.int v.1) H') (fun e => ∀ H', Same H H' → E (.ref (excA AD e)) none H')
def sp__check_unary (K : PySem.W.Frag) (AD : Ads) : Sp := fun vs H Q E => ∃ (G : Hp) (base' : Int) (most' : Int), vs = [.int base', .int most'] ∧ Same G H ∧ cW (F__check_unary base' most') (fun v => Q .non H) (fun e => E (.ref (excA AD e)) none H)
def sp_SymbolWriter_unary (K : PySem.W.Frag) (AD : Ads) : Sp := fun vs H Q E => ∃ (G : Hp) (p_self p_self_enc l_self_enc_probs l_self_enc_front dx_self dx_self_enc : Addr) (self' : St_SymbolWriter) (base' : Int) (value' : Int) (most' : Int), vs = [.ref p_self, .int base', .int value', .int most'] ∧ Same G H ∧ (∀ a ∈ [p_self, p_self_enc, l_self_enc_probs, l_self_enc_front], G a = none) ∧ H p_self = some (.ins AD.c_SymbolWriter dx_self [("_encoder", V.ref p_self_enc)]) ∧ H p_self_enc = some (.ins AD.c_Encoder dx_self_enc [("_probabilities", V.ref l_self_enc_probs), ("_front", V.ref l_self_enc_front), ("_low", V.int self'.enc.low), ("_span", V.int self'.enc.span)]) ∧ H l_self_enc_probs = some (.lst ((self'.enc.probs : (List Int)).map V.int)) ∧ H l_self_enc_front = some (.lst ((self'.enc.front : (List Int)).map V.int)) ∧ l_self_enc_probs ≠ l_self_enc_front ∧ p_self ≠ p_self_enc ∧ cW (F_SymbolWriter_unary self' base' value' most') (fun v => ∀ (H' : Hp), SameXs [p_self, p_self_enc, l_self_enc_probs, l_self_enc_front] H H' → H' p_self = some (.ins AD.c_SymbolWriter dx_self [("_encoder", V.ref p_self_enc)]) → H' p_self_enc = some (.ins AD.c_Encoder dx_self_enc [("_probabilities", V.ref l_self_enc_probs), ("_front", V.ref l_self_enc_front), ("_low", V.int v.enc.low), ("_span", V.int v.enc.span)]) → H' l_self_enc_probs = some (.lst ((v.enc.probs : (List Int)).map V.int)) → H' l_self_enc_front = some (.lst ((v.enc.front : (List Int)).map V.int)) → Q .non H') (fun e => ∀ H', Same H H' → E (.ref (excA AD e)) none H')
def sp_SymbolReader_unary (K : PySem.W.Frag) (AD : Ads) : Sp := fun vs H Q E => ∃ (G : Hp) (p_self p_self_dec l_self_dec_probs l_self_dec_octs dx_self dx_self_dec : Addr) (self' : St_SymbolReader) (base' : Int) (most' : Int), vs = [.ref p_self, .int base', .int most'] ∧ Same G H ∧ (∀ a ∈ [p_self, p_self_dec, l_self_dec_probs, l_self_dec_octs], G a = none) ∧ H p_self = some (.ins AD.c_SymbolReader dx_self [("_decoder", V.ref p_self_dec)]) ∧ H p_self_dec = some (.ins AD.c_Decoder dx_self_dec [("_probabilities", V.ref l_self_dec_probs), ("_octets", V.ref l_self_dec_octs), ("_place", V.int self'.dec.place), ("_span", V.int self'.dec.span), ("_value", V.int self'.dec.value)]) ∧ H l_self_dec_probs = some (.lst ((self'.dec.probs : (List Int)).map V.int)) ∧ H l_self_dec_octs = some (.lst ((self'.dec.octs : (List Int)).map V.int)) ∧ l_self_dec_probs ≠ l_self_dec_octs ∧ p_self ≠ p_self_dec ∧ cW (F_SymbolReader_unary self' base' most') (fun v => ∀ (H' : Hp), SameXs [p_self, p_self_dec, l_self_dec_probs, l_self_dec_octs] H H' → H' p_self = some (.ins AD.c_SymbolReader dx_self [("_decoder", V.ref p_self_dec)]) → H' p_self_dec = some (.ins AD.c_Decoder dx_self_dec [("_probabilities", V.ref l_self_dec_probs), ("_octets", V.ref l_self_dec_octs), ("_place", V.int v.2.dec.place), ("_span", V.int v.2.dec.span), ("_value", V.int v.2.dec.value)]) → H' l_self_dec_probs = some (.lst ((v.2.dec.probs : (List Int)).map V.int)) → H' l_self_dec_octs = some (.lst ((v.2.dec.octs : (List Int)).map V.int)) → Q (.int v.1) H') (fun e => ∀ H', Same H H' → E (.ref (excA AD e)) none H')
def sp__digit_context (K : PySem.W.Frag) (AD : Ads) : Sp := fun vs H Q E => ∃ (G : Hp) (base' : Int) (digits' : Int), vs = [.int base', .int digits'] ∧ Same G H ∧ cW (F__digit_context base' digits') (fun v => Q (.int v) H) (fun e => E (.ref (excA AD e)) none H)
def sp_Encoder_code_even (K : PySem.W.Frag) (AD : Ads) : Sp := fun vs H Q E => ∃ (G : Hp) (p_self l_self_probs l_self_front dx_self : Addr) (self' : St_Encoder) (decision' : Int), vs = [.ref p_self, .int decision'] ∧ Same G H ∧ (∀ a ∈ [p_self, l_self_probs, l_self_front], G a = none) ∧ H p_self = some (.ins AD.c_Encoder dx_self [("_probabilities", V.ref l_self_probs), ("_front", V.ref l_self_front), ("_low", V.int self'.low), ("_span", V.int self'.span)]) ∧ H l_self_probs = some (.lst ((self'.probs : (List Int)).map V.int)) ∧ H l_self_front = some (.lst ((self'.front : (List Int)).map V.int)) ∧ l_self_probs ≠ l_self_front ∧ cW (F_Encoder_code_even self' decision') (fun v => ∀ (H' : Hp), SameXs [p_self, l_self_probs, l_self_front] H H' → H' p_self = some (.ins AD.c_Encoder dx_self [("_probabilities", V.ref l_self_probs), ("_front", V.ref l_self_front), ("_low", V.int v.low), ("_span", V.int v.span)]) → H' l_self_probs = some (.lst ((v.probs : (List Int)).map V.int)) → H' l_self_front = some (.lst ((v.front : (List Int)).map V.int)) → Q .non H') (fun e => ∀ H', Same H H' → E (.ref (excA AD e)) none H')
def sp_SymbolWriter_number (K : PySem.W.Frag) (AD : Ads) : Sp := fun vs H Q E => ∃ (G : Hp) (p_self p_self_enc l_self_enc_probs l_self_enc_front dx_self dx_self_enc : Addr) (self' : St_SymbolWriter) (base' : Int) (value' : Int), vs = [.ref p_self, .int base', .int value'] ∧ Same G H ∧ (∀ a ∈ [p_self, p_self_enc, l_self_enc_probs, l_self_enc_front], G a = none) ∧ H p_self = some (.ins AD.c_SymbolWriter dx_self [("_encoder", V.ref p_self_enc)]) ∧ H p_self_enc = some (.ins AD.c_Encoder dx_self_enc [("_probabilities", V.ref l_self_enc_probs), ("_front", V.ref l_self_enc_front), ("_low", V.int self'.enc.low), ("_span", V.int self'.enc.span)]) ∧ H l_self_enc_probs = some (.lst ((self'.enc.probs : (List Int)).map V.int)) ∧ H l_self_enc_front = some (.lst ((self'.enc.front : (List Int)).map V.int)) ∧ l_self_enc_probs ≠ l_self_enc_front ∧ p_self ≠ p_self_enc ∧ cW (F_SymbolWriter_number self' base' value') (fun v => ∀ (H' : Hp), SameXs [p_self, p_self_enc, l_self_enc_probs, l_self_enc_front] H H' → H' p_self = some (.ins AD.c_SymbolWriter dx_self [("_encoder", V.ref p_self_enc)]) → H' p_self_enc = some (.ins AD.c_Encoder dx_self_enc [("_probabilities", V.ref l_self_enc_probs), ("_front", V.ref l_self_enc_front), ("_low", V.int v.enc.low), ("_span", V.int v.enc.span)]) → H' l_self_enc_probs = some (.lst ((v.enc.probs : (List Int)).map V.int)) → H' l_self_enc_front = some (.lst ((v.enc.front : (List Int)).map V.int)) → Q .non H') (fun e => ∀ H', Same H H' → E (.ref (excA AD e)) none H')
def sp_Decoder_read_even (K : PySem.W.Frag) (AD : Ads) : Sp := fun vs H Q E => ∃ (G : Hp) (p_self l_self_probs l_self_octs dx_self : Addr) (self' : St_Decoder), vs = [.ref p_self] ∧ Same G H ∧ (∀ a ∈ [p_self, l_self_probs, l_self_octs], G a = none) ∧ H p_self = some (.ins AD.c_Decoder dx_self [("_probabilities", V.ref l_self_probs), ("_octets", V.ref l_self_octs), ("_place", V.int self'.place), ("_span", V.int self'.span), ("_value", V.int self'.value)]) ∧ H l_self_probs = some (.lst ((self'.probs : (List Int)).map V.int)) ∧ H l_self_octs = some (.lst ((self'.octs : (List Int)).map V.int)) ∧ l_self_probs ≠ l_self_octs ∧ cW (F_Decoder_read_even self') (fun v => ∀ (H' : Hp), SameXs [p_self, l_self_probs, l_self_octs] H H' → H' p_self = some (.ins AD.c_Decoder dx_self [("_probabilities", V.ref l_self_probs), ("_octets", V.ref l_self_octs), ("_place", V.int v.2.place), ("_span", V.int v.2.span), ("_value", V.int v.2.value)]) → H' l_self_probs = some (.lst ((v.2.probs : (List Int)).map V.int)) → H' l_self_octs = some (.lst ((v.2.octs : (List Int)).map V.int)) → Q (.int v.1) H') (fun e => ∀ H', Same H H' → E (.ref (excA AD e)) none H')
def sp_SymbolReader_number (K : PySem.W.Frag) (AD : Ads) : Sp := fun vs H Q E => ∃ (G : Hp) (p_self p_self_dec l_self_dec_probs l_self_dec_octs dx_self dx_self_dec : Addr) (self' : St_SymbolReader) (base' : Int), vs = [.ref p_self, .int base'] ∧ Same G H ∧ (∀ a ∈ [p_self, p_self_dec, l_self_dec_probs, l_self_dec_octs], G a = none) ∧ H p_self = some (.ins AD.c_SymbolReader dx_self [("_decoder", V.ref p_self_dec)]) ∧ H p_self_dec = some (.ins AD.c_Decoder dx_self_dec [("_probabilities", V.ref l_self_dec_probs), ("_octets", V.ref l_self_dec_octs), ("_place", V.int self'.dec.place), ("_span", V.int self'.dec.span), ("_value", V.int self'.dec.value)]) ∧ H l_self_dec_probs = some (.lst ((self'.dec.probs : (List Int)).map V.int)) ∧ H l_self_dec_octs = some (.lst ((self'.dec.octs : (List Int)).map V.int)) ∧ l_self_dec_probs ≠ l_self_dec_octs ∧ p_self ≠ p_self_dec ∧ cW (F_SymbolReader_number self' base') (fun v => ∀ (H' : Hp), SameXs [p_self, p_self_dec, l_self_dec_probs, l_self_dec_octs] H H' → H' p_self = some (.ins AD.c_SymbolReader dx_self [("_decoder", V.ref p_self_dec)]) → H' p_self_dec = some (.ins AD.c_Decoder dx_self_dec [("_probabilities", V.ref l_self_dec_probs), ("_octets", V.ref l_self_dec_octs), ("_place", V.int v.2.dec.place), ("_span", V.int v.2.dec.span), ("_value", V.int v.2.dec.value)]) → H' l_self_dec_probs = some (.lst ((v.2.dec.probs : (List Int)).map V.int)) → H' l_self_dec_octs = some (.lst ((v.2.dec.octs : (List Int)).map V.int)) → Q (.int v.1) H') (fun e => ∀ H', Same H H' → E (.ref (excA AD e)) none H')
def sp_SymbolWriter_signed (K : PySem.W.Frag) (AD : Ads) : Sp := fun vs H Q E => ∃ (G : Hp) (p_self p_self_enc l_self_enc_probs l_self_enc_front dx_self dx_self_enc : Addr) (self' : St_SymbolWriter) (base' : Int) (value' : Int), vs = [.ref p_self, .int base', .int value'] ∧ Same G H ∧ (∀ a ∈ [p_self, p_self_enc, l_self_enc_probs, l_self_enc_front], G a = none) ∧ H p_self = some (.ins AD.c_SymbolWriter dx_self [("_encoder", V.ref p_self_enc)]) ∧ H p_self_enc = some (.ins AD.c_Encoder dx_self_enc [("_probabilities", V.ref l_self_enc_probs), ("_front", V.ref l_self_enc_front), ("_low", V.int self'.enc.low), ("_span", V.int self'.enc.span)]) ∧ H l_self_enc_probs = some (.lst ((self'.enc.probs : (List Int)).map V.int)) ∧ H l_self_enc_front = some (.lst ((self'.enc.front : (List Int)).map V.int)) ∧ l_self_enc_probs ≠ l_self_enc_front ∧ p_self ≠ p_self_enc ∧ cW (F_SymbolWriter_signed self' base' value') (fun v => ∀ (H' : Hp), SameXs [p_self, p_self_enc, l_self_enc_probs, l_self_enc_front] H H' → H' p_self = some (.ins AD.c_SymbolWriter dx_self [("_encoder", V.ref p_self_enc)]) → H' p_self_enc = some (.ins AD.c_Encoder dx_self_enc [("_probabilities", V.ref l_self_enc_probs), ("_front", V.ref l_self_enc_front), ("_low", V.int v.enc.low), ("_span", V.int v.enc.span)]) → H' l_self_enc_probs = some (.lst ((v.enc.probs : (List Int)).map V.int)) → H' l_self_enc_front = some (.lst ((v.enc.front : (List Int)).map V.int)) → Q .non H') (fun e => ∀ H', Same H H' → E (.ref (excA AD e)) none H')
def sp_SymbolReader_signed (K : PySem.W.Frag) (AD : Ads) : Sp := fun vs H Q E => ∃ (G : Hp) (p_self p_self_dec l_self_dec_probs l_self_dec_octs dx_self dx_self_dec : Addr) (self' : St_SymbolReader) (base' : Int), vs = [.ref p_self, .int base'] ∧ Same G H ∧ (∀ a ∈ [p_self, p_self_dec, l_self_dec_probs, l_self_dec_octs], G a = none) ∧ H p_self = some (.ins AD.c_SymbolReader dx_self [("_decoder", V.ref p_self_dec)]) ∧ H p_self_dec = some (.ins AD.c_Decoder dx_self_dec [("_probabilities", V.ref l_self_dec_probs), ("_octets", V.ref l_self_dec_octs), ("_place", V.int self'.dec.place), ("_span", V.int self'.dec.span), ("_value", V.int self'.dec.value)]) ∧ H l_self_dec_probs = some (.lst ((self'.dec.probs : (List Int)).map V.int)) ∧ H l_self_dec_octs = some (.lst ((self'.dec.octs : (List Int)).map V.int)) ∧ l_self_dec_probs ≠ l_self_dec_octs ∧ p_self ≠ p_self_dec ∧ cW (F_SymbolReader_signed self' base') (fun v => ∀ (H' : Hp), SameXs [p_self, p_self_dec, l_self_dec_probs, l_self_dec_octs] H H' → H' p_self = some (.ins AD.c_SymbolReader dx_self [("_decoder", V.ref p_self_dec)]) → H' p_self_dec = some (.ins AD.c_Decoder dx_self_dec [("_probabilities", V.ref l_self_dec_probs), ("_octets", V.ref l_self_dec_octs), ("_place", V.int v.2.dec.place), ("_span", V.int v.2.dec.span), ("_value", V.int v.2.dec.value)]) → H' l_self_dec_probs = some (.lst ((v.2.dec.probs : (List Int)).map V.int)) → H' l_self_dec_octs = some (.lst ((v.2.dec.octs : (List Int)).map V.int)) → Q (.int v.1) H') (fun e => ∀ H', Same H H' → E (.ref (excA AD e)) none H')
def sp_SymbolWriter_even (K : PySem.W.Frag) (AD : Ads) : Sp := fun vs H Q E => ∃ (G : Hp) (p_self p_self_enc l_self_enc_probs l_self_enc_front dx_self dx_self_enc : Addr) (self' : St_SymbolWriter) (decision' : Int), vs = [.ref p_self, .int decision'] ∧ Same G H ∧ (∀ a ∈ [p_self, p_self_enc, l_self_enc_probs, l_self_enc_front], G a = none) ∧ H p_self = some (.ins AD.c_SymbolWriter dx_self [("_encoder", V.ref p_self_enc)]) ∧ H p_self_enc = some (.ins AD.c_Encoder dx_self_enc [("_probabilities", V.ref l_self_enc_probs), ("_front", V.ref l_self_enc_front), ("_low", V.int self'.enc.low), ("_span", V.int self'.enc.span)]) ∧ H l_self_enc_probs = some (.lst ((self'.enc.probs : (List Int)).map V.int)) ∧ H l_self_enc_front = some (.lst ((self'.enc.front : (List Int)).map V.int)) ∧ l_self_enc_probs ≠ l_self_enc_front ∧ p_self ≠ p_self_enc ∧ cW (F_SymbolWriter_even self' decision') (fun v => ∀ (H' : Hp), SameXs [p_self, p_self_enc, l_self_enc_probs, l_self_enc_front] H H' → H' p_self = some (.ins AD.c_SymbolWriter dx_self [("_encoder", V.ref p_self_enc)]) → H' p_self_enc = some (.ins AD.c_Encoder dx_self_enc [("_probabilities", V.ref l_self_enc_probs), ("_front", V.ref l_self_enc_front), ("_low", V.int v.enc.low), ("_span", V.int v.enc.span)]) → H' l_self_enc_probs = some (.lst ((v.enc.probs : (List Int)).map V.int)) → H' l_self_enc_front = some (.lst ((v.enc.front : (List Int)).map V.int)) → Q .non H') (fun e => ∀ H', Same H H' → E (.ref (excA AD e)) none H')
def sp_SymbolReader_even (K : PySem.W.Frag) (AD : Ads) : Sp := fun vs H Q E => ∃ (G : Hp) (p_self p_self_dec l_self_dec_probs l_self_dec_octs dx_self dx_self_dec : Addr) (self' : St_SymbolReader), vs = [.ref p_self] ∧ Same G H ∧ (∀ a ∈ [p_self, p_self_dec, l_self_dec_probs, l_self_dec_octs], G a = none) ∧ H p_self = some (.ins AD.c_SymbolReader dx_self [("_decoder", V.ref p_self_dec)]) ∧ H p_self_dec = some (.ins AD.c_Decoder dx_self_dec [("_probabilities", V.ref l_self_dec_probs), ("_octets", V.ref l_self_dec_octs), ("_place", V.int self'.dec.place), ("_span", V.int self'.dec.span), ("_value", V.int self'.dec.value)]) ∧ H l_self_dec_probs = some (.lst ((self'.dec.probs : (List Int)).map V.int)) ∧ H l_self_dec_octs = some (.lst ((self'.dec.octs : (List Int)).map V.int)) ∧ l_self_dec_probs ≠ l_self_dec_octs ∧ p_self ≠ p_self_dec ∧ cW (F_SymbolReader_even self') (fun v => ∀ (H' : Hp), SameXs [p_self, p_self_dec, l_self_dec_probs, l_self_dec_octs] H H' → H' p_self = some (.ins AD.c_SymbolReader dx_self [("_decoder", V.ref p_self_dec)]) → H' p_self_dec = some (.ins AD.c_Decoder dx_self_dec [("_probabilities", V.ref l_self_dec_probs), ("_octets", V.ref l_self_dec_octs), ("_place", V.int v.2.dec.place), ("_span", V.int v.2.dec.span), ("_value", V.int v.2.dec.value)]) → H' l_self_dec_probs = some (.lst ((v.2.dec.probs : (List Int)).map V.int)) → H' l_self_dec_octs = some (.lst ((v.2.dec.octs : (List Int)).map V.int)) → Q (.int v.1) H') (fun e => ∀ H', Same H H' → E (.ref (excA AD e)) none H')
def sp__law_put (K : PySem.W.Frag) (AD : Ads) : Sp := fun vs H Q E => ∃ (G : Hp) (p_writer p_writer_enc l_writer_enc_probs l_writer_enc_front dx_writer dx_writer_enc : Addr) (writer' : St_SymbolWriter) (v_symbol : V) (symbol' : (Int × Int × Int × Int)), vs = [.ref p_writer, v_symbol] ∧ Same G H ∧ (∀ a ∈ [p_writer, p_writer_enc, l_writer_enc_probs, l_writer_enc_front], G a = none) ∧ H p_writer = some (.ins AD.c_SymbolWriter dx_writer [("_encoder", V.ref p_writer_enc)]) ∧ H p_writer_enc = some (.ins AD.c_Encoder dx_writer_enc [("_probabilities", V.ref l_writer_enc_probs), ("_front", V.ref l_writer_enc_front), ("_low", V.int writer'.enc.low), ("_span", V.int writer'.enc.span)]) ∧ H l_writer_enc_probs = some (.lst ((writer'.enc.probs : (List Int)).map V.int)) ∧ H l_writer_enc_front = some (.lst ((writer'.enc.front : (List Int)).map V.int)) ∧ l_writer_enc_probs ≠ l_writer_enc_front ∧ p_writer ≠ p_writer_enc ∧ Rp (hideL [p_writer, p_writer_enc, l_writer_enc_probs, l_writer_enc_front] H) v_symbol ((encT4 PyData.int PyData.int PyData.int PyData.int) symbol') ∧ cW (F__law_put writer' symbol') (fun v => ∀ (H' : Hp), SameXs [p_writer, p_writer_enc, l_writer_enc_probs, l_writer_enc_front] H H' → H' p_writer = some (.ins AD.c_SymbolWriter dx_writer [("_encoder", V.ref p_writer_enc)]) → H' p_writer_enc = some (.ins AD.c_Encoder dx_writer_enc [("_probabilities", V.ref l_writer_enc_probs), ("_front", V.ref l_writer_enc_front), ("_low", V.int v.enc.low), ("_span", V.int v.enc.span)]) → H' l_writer_enc_probs = some (.lst ((v.enc.probs : (List Int)).map V.int)) → H' l_writer_enc_front = some (.lst ((v.enc.front : (List Int)).map V.int)) → Q .non H') (fun e => ∀ H', Same H H' → E (.ref (excA AD e)) none H')
def sp_Decoder___init__ (K : PySem.W.Frag) (AD : Ads) : Sp := fun vs H Q E => ∃ (G : Hp) (p_self dx_self : Addr) (a_octets : Addr) (octets' : List Int), vs = [.ref p_self, .ref a_octets] ∧ Same G H ∧ (∀ a ∈ [p_self], G a = none) ∧ H p_self = some (.ins AD.c_Decoder dx_self []) ∧ (hideL [p_self] H) a_octets = some (.lst ((octets' : List Int).map V.int)) ∧ cW (F_Decoder___init__ octets') (fun v => ∀ (H' : Hp) (l_probs l_octs : Addr), SameX p_self H H' → H l_probs = none → H l_octs = none → l_probs ≠ l_octs → H' p_self = some (.ins AD.c_Decoder dx_self [("_probabilities", V.ref l_probs), ("_octets", V.ref l_octs), ("_place", V.int v.place), ("_span", V.int v.span), ("_value", V.int v.value)]) → H' l_probs = some (.lst (v.probs.map V.int)) → H' l_octs = some (.lst (v.octs.map V.int)) → Q .non H') (fun e => ∀ H', Same H H' → E (.ref (excA AD e)) none H')
def sp__law_get (K : PySem.W.Frag) (AD : Ads) : Sp := fun vs H Q E => ∃ (G : Hp) (p_reader p_reader_dec l_reader_dec_probs l_reader_dec_octs dx_reader dx_reader_dec : Addr) (reader' : St_SymbolReader) (v_symbol : V) (symbol' : (Int × Int × Int × Int)), vs = [.ref p_reader, v_symbol] ∧ Same G H ∧ (∀ a ∈ [p_reader, p_reader_dec, l_reader_dec_probs, l_reader_dec_octs], G a = none) ∧ H p_reader = some (.ins AD.c_SymbolReader dx_reader [("_decoder", V.ref p_reader_dec)]) ∧ H p_reader_dec = some (.ins AD.c_Decoder dx_reader_dec [("_probabilities", V.ref l_reader_dec_probs), ("_octets", V.ref l_reader_dec_octs), ("_place", V.int reader'.dec.place), ("_span", V.int reader'.dec.span), ("_value", V.int reader'.dec.value)]) ∧ H l_reader_dec_probs = some (.lst ((reader'.dec.probs : (List Int)).map V.int)) ∧ H l_reader_dec_octs = some (.lst ((reader'.dec.octs : (List Int)).map V.int)) ∧ l_reader_dec_probs ≠ l_reader_dec_octs ∧ p_reader ≠ p_reader_dec ∧ Rp (hideL [p_reader, p_reader_dec, l_reader_dec_probs, l_reader_dec_octs] H) v_symbol ((encT4 PyData.int PyData.int PyData.int PyData.int) symbol') ∧ cW (F__law_get reader' symbol') (fun v => ∀ (H' : Hp), SameXs [p_reader, p_reader_dec, l_reader_dec_probs, l_reader_dec_octs] H H' → H' p_reader = some (.ins AD.c_SymbolReader dx_reader [("_decoder", V.ref p_reader_dec)]) → H' p_reader_dec = some (.ins AD.c_Decoder dx_reader_dec [("_probabilities", V.ref l_reader_dec_probs), ("_octets", V.ref l_reader_dec_octs), ("_place", V.int v.2.dec.place), ("_span", V.int v.2.dec.span), ("_value", V.int v.2.dec.value)]) → H' l_reader_dec_probs = some (.lst ((v.2.dec.probs : (List Int)).map V.int)) → H' l_reader_dec_octs = some (.lst ((v.2.dec.octs : (List Int)).map V.int)) → Q (biV v.1) H') (fun e => ∀ H', Same H H' → E (.ref (excA AD e)) none H')
def sp_Encoder_octets (K : PySem.W.Frag) (AD : Ads) : Sp := fun vs H Q E => ∃ (G : Hp) (p_self l_self_probs l_self_front dx_self : Addr) (self' : St_Encoder), vs = [.ref p_self] ∧ Same G H ∧ (hideL [] H) p_self = some (.ins AD.c_Encoder dx_self [("_probabilities", V.ref l_self_probs), ("_front", V.ref l_self_front), ("_low", V.int self'.low), ("_span", V.int self'.span)]) ∧ (hideL [] H) l_self_probs = some (.lst ((self'.probs : (List Int)).map V.int)) ∧ (hideL [] H) l_self_front = some (.lst ((self'.front : (List Int)).map V.int)) ∧ cW (F_Encoder_octets self') (fun v => ∀ p H', H p = none → Same H H' → H' p = some (.lst (v.map V.int)) → Q (.ref p) H') (fun e => ∀ H', Same H H' → E (.ref (excA AD e)) none H')
def sp_law (K : PySem.W.Frag) (AD : Ads) : Sp := fun vs H Q E => ∃ (a_script : Addr) (script : List Int), vs = [.ref a_script] ∧ SqL K H a_script (script.map V.int) ∧ cW (F_law script) (fun v => v = true) (fun _ => False) ∧ ∀ H', Q (.bl true) H'
section
variable {P : Program} {w : World} {K : PySem.W.Frag} {mg : Str → Option Value} {base : Heap} {AD : Ads}
abbrev N_Encoder___init__ : List Str := ["self"]
theorem sc_Encoder___init__ : FnScope N_Encoder___init__ ["self"] (defScope s_Encoder___init__) := ⟨rfl, rfl, rfl, by decide +kernel, rfl, by decide +kernel, by decide +kernel⟩
theorem ok_Encoder___init__ (D : InitX K mg AD.c_Encoder "Encoder" "Encoder.__init__" s_Encoder___init__ ["self"] pats_Encoder___init__) (T : Txt K mg AD)  : MakX P w K mg base 1 "Encoder" AD.c_Encoder (sp_Encoder___init__ K AD) pats_Encoder___init__ := by
  refine D.ok sc_Encoder___init__ (fun vs H Q E h => ?_) (fun f cdv A_ outer s H vs Q E hr h => ?_)
  · obtain ⟨G, p_self, dx_self, rfl, _⟩ := h
    rfl
  · obtain ⟨G, p_self, dx_self, rfl, sG, gM, h_self, hw⟩ := h
    refine ⟨_, (pss_cons (ps_fld (pv 0) (pe_op op_rep (pe_lst (pa_cons (C8.pe_gc rfl T.g_EVEN) pa_nil)) (C8.pe_gc rfl T.g_CONTEXTS_coder)) rfl)
      (pss_cons (ps_fld (pv 0) (pe_lst pa_nil) rfl)
      (pss_cons (ps_fld (pv 0) pe_int rfl)
      (pss_one (ps_fld (pv 0) (pe_op op_sub (C8.pe_gc rfl T.g_WORD) pe_int) rfl))))), ?_⟩
    obtain ⟨KK, EE, hK0, hE, hw⟩ := cW_gen hw
    have S0 := Sep.startM (M := [p_self]) sG (all_cons (some_ne h_self) all_nil) gM
    unfold F_Encoder___init__ at hw
    refine ⟨(by show 1 ≤ sizeLine; decide), fun p1 n2 => ?_⟩
    generalize g3 : upd H p1 _ = H4
    obtain ⟨e5, h6⟩ := gen_new n2 g3
    have h7 : H4 p1 = some (.lst (([2048] : (List Int)).map V.int)) := h6
    have fr8 := S0.free n2
    have S9 := S0.new n2 e5 h7 fr8
    obtain ⟨g10, hw⟩ := cW_grd hw
    refine ⟨_, _, _, rfl, rfl, h7, g10.1, g10.2.1, (rep_lenM g10.2.2), fun p11 n12 => ?_⟩
    generalize g13 : upd H4 p11 _ = H14
    obtain ⟨e15, h16⟩ := gen_new n12 g13
    have h17 : H14 p11 = some (.lst ((repL ([2048]) (256) : (List Int)).map V.int)) := rep_map h16
    have fr18 := S9.free n12
    have S19 := S9.new n12 e15 h17 fr18
    have h20 := (e15 _ _ (e5 _ _ h_self))
    refine ⟨_, rfl, _, _, _, _, rfl, h20, T.cl_Encoder, T.n_Encoder__probabilities, (by show 0 < 1000; decide), ?_⟩
    generalize g21 : upd H14 p_self _ = H22
    obtain ⟨x23, h24⟩ := gen_mut g21
    have h25 : H22 p_self = some (.ins AD.c_Encoder dx_self [("_probabilities", V.ref p11)]) := h24
    have S26 := S19.mut1 x23 (.tail _ (.tail _ (.head _))) h25
    refine ⟨(by show 0 ≤ sizeLine; decide), fun p27 n28 => ?_⟩
    generalize g29 : upd H22 p27 _ = H30
    obtain ⟨e31, h32⟩ := gen_new n28 g29
    have h33 : H30 p27 = some (.lst ((([] : (List Int)) : (List Int)).map V.int)) := h32
    have fr34 := S26.free n28
    have S35 := S26.new n28 e31 h33 fr34
    have h36 := (e31 _ _ h25)
    refine ⟨_, rfl, _, _, _, _, rfl, h36, T.cl_Encoder, T.n_Encoder__front, (by show 1 < 1000; decide), ?_⟩
    generalize g37 : upd H30 p_self _ = H38
    obtain ⟨x39, h40⟩ := gen_mut g37
    have h41 : H38 p_self = some (.ins AD.c_Encoder dx_self [("_probabilities", V.ref p11), ("_front", V.ref p27)]) := h40
    have S42 := S35.mut1 x39 (.tail _ (.tail _ (.tail _ (.head _)))) h41
    refine ⟨_, rfl, _, _, _, _, rfl, h41, T.cl_Encoder, T.n_Encoder__low, (by show 2 < 1000; decide), ?_⟩
    generalize g43 : upd H38 p_self _ = H44
    obtain ⟨x45, h46⟩ := gen_mut g43
    have h47 : H44 p_self = some (.ins AD.c_Encoder dx_self [("_probabilities", V.ref p11), ("_front", V.ref p27), ("_low", V.int (0))]) := h46
    have S48 := S42.mut1 x45 (.tail _ (.tail _ (.tail _ (.head _)))) h47
    have hw := cW_bnd hw
    refine ⟨_, _, rfl, rfl, _, rfl, _, _, _, _, rfl, h47, T.cl_Encoder, T.n_Encoder__span, (by show 3 < 1000; decide), ?_⟩
    generalize g50 : upd H44 p_self _ = H51
    obtain ⟨x52, h53⟩ := gen_mut g50
    have h54 : H51 p_self = some (.ins AD.c_Encoder dx_self [("_probabilities", V.ref p11), ("_front", V.ref p27), ("_low", V.int (0)), ("_span", V.int ((4294967296 - 1)))]) := h53
    have S55 := S48.mut1 x52 (.tail _ (.tail _ (.tail _ (.head _)))) h54
    have h56 := (x52 _ _ (x45 _ _ (x39 _ _ (e31 _ _ (x23 _ _ h17 (ne_of_none (e5 _ _ h_self) n12).symm)) (ne_of_none (e5 _ _ h_self) n12).symm) (ne_of_none (e5 _ _ h_self) n12).symm) (ne_of_none (e5 _ _ h_self) n12).symm)
    have h57 := (x52 _ _ (x45 _ _ (x39 _ _ h33 (ne_of_none h25 n28).symm) (ne_of_none h25 n28).symm) (ne_of_none h25 n28).symm)
    have hw := cW_ok hw
    exact hK0 _ hw _ _ _ (sameX_of S55.base) fr18 fr34 (ne_of_none (x23 _ _ h17 (ne_of_none (e5 _ _ h_self) n12).symm) n28) h54 h56 h57

abbrev N_SymbolWriter___init__ : List Str := ["self", "encoder"]
theorem sc_SymbolWriter___init__ : FnScope N_SymbolWriter___init__ ["self", "encoder"] (defScope s_SymbolWriter___init__) := ⟨rfl, rfl, rfl, by decide +kernel, rfl, by decide +kernel, by decide +kernel⟩
theorem ok_SymbolWriter___init__ (D : InitX K mg AD.c_SymbolWriter "SymbolWriter" "SymbolWriter.__init__" s_SymbolWriter___init__ ["self", "encoder"] pats_SymbolWriter___init__) (T : Txt K mg AD)  : MakX P w K mg base 1 "SymbolWriter" AD.c_SymbolWriter (sp_SymbolWriter___init__ K AD) pats_SymbolWriter___init__ := by
  refine D.ok sc_SymbolWriter___init__ (fun vs H Q E h => ?_) (fun f cdv A_ outer s H vs Q E hr h => ?_)
  · obtain ⟨G, p_self, dx_self, p_encoder, l_encoder_probs, l_encoder_front, dx_encoder, encoder', rfl, _⟩ := h
    rfl
  · obtain ⟨G, p_self, dx_self, p_encoder, l_encoder_probs, l_encoder_front, dx_encoder, encoder', rfl, sG, gM, h_self, h_p_encoder, h_l_encoder_probs, h_l_encoder_front, hw⟩ := h
    refine ⟨_, (pss_one (ps_fld (pv 0) (pv 1) rfl)), ?_⟩
    obtain ⟨KK, EE, hK0, hE, hw⟩ := cW_gen hw
    have S0 := Sep.startM (M := [p_self]) sG (all_cons (some_ne h_self) all_nil) gM
    unfold F_SymbolWriter___init__ at hw
    refine ⟨_, rfl, _, rfl, _, _, _, _, rfl, h_self, T.cl_SymbolWriter, T.n_SymbolWriter__encoder, (by show 0 < 1000; decide), ?_⟩
    generalize g58 : upd H p_self _ = H59
    obtain ⟨x60, h61⟩ := gen_mut g58
    have h62 : H59 p_self = some (.ins AD.c_SymbolWriter dx_self [("_encoder", V.ref p_encoder)]) := h61
    have S63 := S0.mut1 x60 (.head _) h62
    have hw := cW_ok hw
    exact hK0 _ hw _ (sameX_of S63.base) h62

abbrev N_SymbolReader___init__ : List Str := ["self", "decoder"]
theorem sc_SymbolReader___init__ : FnScope N_SymbolReader___init__ ["self", "decoder"] (defScope s_SymbolReader___init__) := ⟨rfl, rfl, rfl, by decide +kernel, rfl, by decide +kernel, by decide +kernel⟩
theorem ok_SymbolReader___init__ (D : InitX K mg AD.c_SymbolReader "SymbolReader" "SymbolReader.__init__" s_SymbolReader___init__ ["self", "decoder"] pats_SymbolReader___init__) (T : Txt K mg AD)  : MakX P w K mg base 1 "SymbolReader" AD.c_SymbolReader (sp_SymbolReader___init__ K AD) pats_SymbolReader___init__ := by
  refine D.ok sc_SymbolReader___init__ (fun vs H Q E h => ?_) (fun f cdv A_ outer s H vs Q E hr h => ?_)
  · obtain ⟨G, p_self, dx_self, p_decoder, l_decoder_probs, l_decoder_octs, dx_decoder, decoder', rfl, _⟩ := h
    rfl
  · obtain ⟨G, p_self, dx_self, p_decoder, l_decoder_probs, l_decoder_octs, dx_decoder, decoder', rfl, sG, gM, h_self, h_p_decoder, h_l_decoder_probs, h_l_decoder_octs, hw⟩ := h
    refine ⟨_, (pss_one (ps_fld (pv 0) (pv 1) rfl)), ?_⟩
    obtain ⟨KK, EE, hK0, hE, hw⟩ := cW_gen hw
    have S0 := Sep.startM (M := [p_self]) sG (all_cons (some_ne h_self) all_nil) gM
    unfold F_SymbolReader___init__ at hw
    refine ⟨_, rfl, _, rfl, _, _, _, _, rfl, h_self, T.cl_SymbolReader, T.n_SymbolReader__decoder, (by show 0 < 1000; decide), ?_⟩
    generalize g64 : upd H p_self _ = H65
    obtain ⟨x66, h67⟩ := gen_mut g64
    have h68 : H65 p_self = some (.ins AD.c_SymbolReader dx_self [("_decoder", V.ref p_decoder)]) := h67
    have S69 := S0.mut1 x66 (.head _) h68
    have hw := cW_ok hw
    exact hK0 _ hw _ (sameX_of S69.base) h68

abbrev N__law_draws : List Str := ["cell", "limits", "found", "rest", "state", "free", "limit"]
theorem sc__law_draws : FnScope N__law_draws ["cell", "limits"] (defScope s__law_draws) := ⟨rfl, rfl, rfl, by decide +kernel, rfl, by decide +kernel, by decide +kernel⟩
theorem ok__law_draws (D : DefX K mg "_law_draws" s__law_draws ["cell", "limits"] pats__law_draws) (T : Txt K mg AD)  : CalX P w K mg base 1 "_law_draws" (sp__law_draws K AD) pats__law_draws := by
  refine D.ok sc__law_draws (fun vs H Q E h => ?_) (fun f cdv A_ outer s H vs Q E hr h => ?_)
  · obtain ⟨G, cell', a_limits, limits', rfl, _⟩ := h
    rfl
  · obtain ⟨G, cell', a_limits, limits', rfl, sG, q_limits, hw⟩ := h
    refine ⟨_, (pss_cons (ps_set (i := 2) sc__law_draws.nd rfl (Or.inl rfl) (pe_lst pa_nil))
      (pss_cons (ps_set (i := 3) sc__law_draws.nd rfl (Or.inl rfl) (pe_callB call_abs (by rfl) T.b_abs (by decide +kernel) (pa_cons (pe_callTy call_int1 (by rfl) T.b_int (by decide +kernel) (pa_cons (pv 0) pa_nil)) pa_nil)))
      (pss_cons (ps_set (i := 4) sc__law_draws.nd rfl (Or.inl rfl) (pe_op op_mod (pe_callTy call_int1 (by rfl) T.b_int (by decide +kernel) (pa_cons (pv 3) pa_nil)) pe_int))
      (pss_cons (ps_set (i := 5) sc__law_draws.nd rfl (Or.inl rfl) (pe_or (pe_cmp (pc_lt (pv 0) pe_int)) (pe_one (pe_cmp (pc_ge (pv 0) (pe_op op_pow pe_int pe_int))))))
      (pss_cons (ps_for (passes_of rfl) rfl (pi_listK (K := K) (pv 1)) (pg_name (i := 6) sc__law_draws.nd rfl (Or.inl rfl)) (pss_one (ps_if (PW.pt (pw_and (pt_val (pv 5)) (pw_and1 (pt_cmp (pc_gt (pv 3) pe_int))))) (pss_cons (ps_expr (pe_bm PySem.F.plainAttrs_list PySem.F.slot_list_append PySem.F.type_list_append mt_append (pv 2) (pa_cons (pe_op op_mod (pe_callTy call_int1 (by rfl) T.b_int (by decide +kernel) (pa_cons (pv 3) pa_nil)) (pv 6)) pa_nil)))
      (pss_one (ps_set (i := 3) sc__law_draws.nd rfl (Or.inl rfl) (pe_op op_fdivW (pv 3) (pv 6))))) (pss_cons (ps_set (i := 4) sc__law_draws.nd rfl (Or.inl rfl) (pe_op op_mod (pe_callTy call_int1 (by rfl) T.b_int (by decide +kernel) (pa_cons (pe_op op_add (pe_op op_mul (pv 4) pe_int) pe_int) pa_nil)) pe_int))
      (pss_cons (ps_set (i := 4) sc__law_draws.nd rfl (Or.inl rfl) (pe_op op_mod (pe_callTy call_int1 (by rfl) T.b_int (by decide +kernel) (pa_cons (pe_op op_add (pe_op op_mul (pv 4) pe_int) pe_int) pa_nil)) pe_int))
      (pss_one (ps_expr (pe_bm PySem.F.plainAttrs_list PySem.F.slot_list_append PySem.F.type_list_append mt_append (pv 2) (pa_cons (pe_op op_mod (pe_callTy call_int1 (by rfl) T.b_int (by decide +kernel) (pa_cons (pe_op op_fdivW (pv 4) pe_int) pa_nil)) (pv 6)) pa_nil)))))))))
      (pss_one (ps_ret (pv 2)))))))), ?_⟩
    obtain ⟨KK, EE, hK0, hE, hw⟩ := cW_gen hw
    have S0 := Sep.startG sG
    unfold F__law_draws at hw
    refine ⟨(by show 0 ≤ sizeLine; decide), fun p70 n71 => ?_⟩
    generalize g72 : upd H p70 _ = H73
    obtain ⟨e74, h75⟩ := gen_new n71 g72
    have h76 : H73 p70 = some (.lst ((([] : (List Int)) : (List Int)).map V.int)) := h75
    have fr77 := S0.free n71
    have S78 := S0.new n71 e74 h76 fr77
    refine ⟨_, rfl, .inl ⟨_, rfl, ?_⟩⟩
    refine ⟨_, rfl, ?_⟩
    have hw := cW_bnd hw
    refine ⟨_, rfl, .inl ⟨_, rfl, ?_⟩⟩
    refine ⟨_, _, rfl, rfl, (show (0 : Int) < 2147483647 by decide), ?_⟩
    have hw := cW_bnd hw
    refine vv_or (ta := (tLt (tVar 0) (tC (V.int 0)))) (tb := (tGe (tVar 0) (tOp (rI CPow fun i j => V.int (i ^ j.toNat)) (tC (V.int 10)) (tC (V.int 18))))) (a := decide (cell' < 0)) (b := decide (((10 : Int) ^ Int.toNat 18) ≤ cell')) ?ha81 ?hb82 _ ?_
    case ha81 => exact (vv_cmp (val_var rfl) val_c (fun Q q => ⟨_, _, rfl, rfl, q⟩))
    case hb82 => exact (vv_cmp (val_var rfl) (val_op val_c val_c (fun Q q => ⟨_, _, rfl, rfl, ⟨by decide, by decide, by decide⟩, q⟩)) (fun Q q => ⟨_, _, rfl, rfl, q⟩))
    have hw := cW_bnd hw
    obtain ⟨K85, hK86, hw⟩ := cW_push hw
    refine ⟨_, rfl, _, rfl, ⟨_, (SqL.of (S78.bM _ _ q_limits))⟩, for_list (K := K) (a := a_limits) (xs := (limits' : List Int).map V.int) (fun i σ H' => ∃ (found_87 : (List Int)) (rest_88 : Int) (state_89 : Int) (u90 : Option V) (G' : Hp), σ = [some (V.int (cell')), some (V.ref a_limits), some (V.ref p70), some (V.int rest_88), some (V.int state_89), some (V.bl ((decide (cell' < 0) || decide (((10 : Int) ^ Int.toNat 18) ≤ cell')))), u90] ∧ Same G G' ∧ Sep [] H G G' H' [p70] ∧ H' p70 = some (.lst ((found_87 : (List Int)).map V.int)) ∧ cW (forS (List.drop i (limits')) (found_87, rest_88, state_89) (fun s x => F__law_draws_b1 ((decide (cell' < 0) || decide (((10 : Int) ^ Int.toNat 18) ≤ cell'))) (s.1) (s.2.1) (s.2.2) x)) K85 EE) ?_ ?_ ?_ ?_⟩
    · exact ⟨(([] : (List Int))), ((if cell' < 0 then -cell' else cell')), (((if cell' < 0 then -cell' else cell') % 2147483647)), _, _, rfl, (Same.refl _), S78, h76, hw⟩
    · intro i σ H91 _ hw
      obtain ⟨found_87, rest_88, state_89, u90, G94, rfl, eG95, S92, h93, hw⟩ := hw
      exact (SqL.of (S92.bM _ _ q_limits))
    · intro i x σ H96 hj hw
      obtain ⟨found_87, rest_88, state_89, u90, G99, rfl, eG100, S97, h98, hw⟩ := hw
      obtain ⟨x101, hx, rfl⟩ := map_get hj
      have hw := cW_forS hx hw
      have hw : cW (F__law_draws_b1 ((decide (cell' < 0) || decide (((10 : Int) ^ Int.toNat 18) ≤ cell'))) (found_87) (rest_88) (state_89) (x101)) _ EE := hw
      unfold F__law_draws_b1 at hw
      obtain ⟨K105, hK106, hw⟩ := cW_name hw
      refine ⟨_, rfl, _, rfl, ?_⟩
      refine iteB (fun c108 => ?_) (fun c108 => ?_)
      · have hw := cW_pos c108 hw
        refine ⟨_, rfl, _, _, rfl, rfl, _, rfl, ?_⟩
        refine iteD (fun c109 => ?_) (fun c109 => ?_)
        · have hw := cW_pos c109 hw
          refine ⟨_, rfl, (.inl ⟨rfl, _, SqL.of h98⟩), _, rfl, .inl ⟨_, rfl, ?_⟩⟩
          obtain ⟨g110, hw⟩ := cW_grd hw
          obtain ⟨g111, hw⟩ := cW_grd hw
          refine ⟨_, rfl, _, _, rfl, rfl, g110, _, _, _, rfl, rfl, h98, (app_lenM g111), ?_⟩
          generalize g112 : upd H96 p70 _ = H113
          obtain ⟨x114, h115⟩ := gen_mut g112
          have h116 : H113 p70 = some (.lst (((found_87) ++ [(rest_88 % x101)] : (List Int)).map V.int)) := snoc_map h115
          have S117 := S97.mut1 x114 (.head _) h116
          have hw := cW_bnd hw
          obtain ⟨g119, hw⟩ := cW_grd hw
          refine ⟨_, rfl, _, rfl, _, _, rfl, rfl, (divW_small g119.1 g119.2), ?_⟩
          have hw := cW_bnd hw
          have hw := cW_ok hw
          have hw := hK106 _ hw
          exact ⟨((found_87) ++ [(rest_88 % x101)]), ((rest_88 / x101)), (state_89), _, _, rfl, eG100, S117, h116, hw⟩
        · have hw := cW_neg c109 hw
          refine ⟨_, rfl, _, _, rfl, rfl, (.inr ⟨by decide, by decide⟩), _, _, rfl, rfl, .inl ⟨_, rfl, ?_⟩⟩
          refine ⟨_, _, rfl, rfl, (show (0 : Int) < 2147483647 by decide), ?_⟩
          have hw := cW_bnd hw
          refine ⟨_, rfl, _, _, rfl, rfl, (.inr ⟨by decide, by decide⟩), _, _, rfl, rfl, .inl ⟨_, rfl, ?_⟩⟩
          refine ⟨_, _, rfl, rfl, (show (0 : Int) < 2147483647 by decide), ?_⟩
          have hw := cW_bnd hw
          refine ⟨_, rfl, (.inl ⟨rfl, _, SqL.of h98⟩), _, rfl, _, _, rfl, rfl, (divW_lit (by decide) (by decide)), .inl ⟨_, rfl, ?_⟩⟩
          obtain ⟨g123, hw⟩ := cW_grd hw
          obtain ⟨g124, hw⟩ := cW_grd hw
          refine ⟨_, rfl, _, _, rfl, rfl, g123, _, _, _, rfl, rfl, h98, (app_lenM g124), ?_⟩
          generalize g125 : upd H96 p70 _ = H126
          obtain ⟨x127, h128⟩ := gen_mut g125
          have h129 : H126 p70 = some (.lst (((found_87) ++ [((((((((state_89 * 48271) + 11) % 2147483647) * 69621) + 7) % 2147483647) / 13) % x101)] : (List Int)).map V.int)) := snoc_map h128
          have S130 := S97.mut1 x127 (.head _) h129
          have hw := cW_bnd hw
          have hw := cW_ok hw
          have hw := hK106 _ hw
          exact ⟨((found_87) ++ [((((((((state_89 * 48271) + 11) % 2147483647) * 69621) + 7) % 2147483647) / 13) % x101)]), (rest_88), (((((((state_89 * 48271) + 11) % 2147483647) * 69621) + 7) % 2147483647)), _, _, rfl, eG100, S130, h129, hw⟩
      · have hw := cW_negB c108 hw
        refine iteF ?_
        refine ⟨_, rfl, _, _, rfl, rfl, (.inr ⟨by decide, by decide⟩), _, _, rfl, rfl, .inl ⟨_, rfl, ?_⟩⟩
        refine ⟨_, _, rfl, rfl, (show (0 : Int) < 2147483647 by decide), ?_⟩
        have hw := cW_bnd hw
        refine ⟨_, rfl, _, _, rfl, rfl, (.inr ⟨by decide, by decide⟩), _, _, rfl, rfl, .inl ⟨_, rfl, ?_⟩⟩
        refine ⟨_, _, rfl, rfl, (show (0 : Int) < 2147483647 by decide), ?_⟩
        have hw := cW_bnd hw
        refine ⟨_, rfl, (.inl ⟨rfl, _, SqL.of h98⟩), _, rfl, _, _, rfl, rfl, (divW_lit (by decide) (by decide)), .inl ⟨_, rfl, ?_⟩⟩
        obtain ⟨g134, hw⟩ := cW_grd hw
        obtain ⟨g135, hw⟩ := cW_grd hw
        refine ⟨_, rfl, _, _, rfl, rfl, g134, _, _, _, rfl, rfl, h98, (app_lenM g135), ?_⟩
        generalize g136 : upd H96 p70 _ = H137
        obtain ⟨x138, h139⟩ := gen_mut g136
        have h140 : H137 p70 = some (.lst (((found_87) ++ [((((((((state_89 * 48271) + 11) % 2147483647) * 69621) + 7) % 2147483647) / 13) % x101)] : (List Int)).map V.int)) := snoc_map h139
        have S141 := S97.mut1 x138 (.head _) h140
        have hw := cW_bnd hw
        have hw := cW_ok hw
        have hw := hK106 _ hw
        exact ⟨((found_87) ++ [((((((((state_89 * 48271) + 11) % 2147483647) * 69621) + 7) % 2147483647) / 13) % x101)]), (rest_88), (((((((state_89 * 48271) + 11) % 2147483647) * 69621) + 7) % 2147483647)), _, _, rfl, eG100, S141, h140, hw⟩
    · intro σ H143 hw
      obtain ⟨found_87, rest_88, state_89, u90, G146, rfl, eG147, S144, h145, hw⟩ := hw
      have hw := hK86 _ (cW_forS0 (by rw [List.length_map]) hw)
      have hw : cW (F__law_draws_r1  (found_87) (rest_88) (state_89)) _ EE := hw
      unfold F__law_draws_r1 at hw
      refine ⟨_, rfl, ?_⟩
      have hw := cW_ok hw
      exact hK0 _ hw _ _ fr77 S144.b0 h145

abbrev N__law_symbol : List Str := ["cell", "draws", "kind", "count", "width", "base", "most", "value"]
theorem sc__law_symbol : FnScope N__law_symbol ["cell"] (defScope s__law_symbol) := ⟨rfl, rfl, rfl, by decide +kernel, rfl, by decide +kernel, by decide +kernel⟩
theorem ok__law_symbol (D : DefX K mg "_law_symbol" s__law_symbol ["cell"] pats__law_symbol) (T : Txt K mg AD) (c__law_draws : CalX P w K mg base 1 "_law_draws" (sp__law_draws K AD) pats__law_draws) : CalX P w K mg base 2 "_law_symbol" (sp__law_symbol K AD) pats__law_symbol := by
  refine D.ok sc__law_symbol (fun vs H Q E h => ?_) (fun f cdv A_ outer s H vs Q E hr h => ?_)
  · obtain ⟨G, cell', rfl, _⟩ := h
    rfl
  · obtain ⟨G, cell', rfl, sG, hw⟩ := h
    refine ⟨_, (pss_cons (ps_set (i := 1) sc__law_symbol.nd rfl (Or.inl rfl) (vx_callX c__law_draws pat__law_draws_0 (.head _) hr (by decide) (takes_of rfl rfl rfl rfl) rfl (pa_cons (pv 0) (pa_cons (pe_lst (pa_cons pe_int (pa_cons pe_int (pa_cons (pe_op op_add (pe_op op_pow pe_int pe_int) pe_int) (pa_cons pe_int (pa_cons pe_int (pa_cons pe_int (pa_cons pe_int pa_nil)))))))) pa_nil)) pk_nil))
      (pss_cons (ps_set (i := 2) sc__law_symbol.nd rfl (Or.inl rfl) (pe_ix (ix_listK (K := K)) (pv 1) pe_int (fun _ _ => rfl)))
      (pss_cons (ps_if (pt_cmp (pc_eqI (pv 2) pe_int)) (pss_one (ps_ret (pe_tup (pa_cons pe_int (pa_cons pe_int (pa_cons (pe_ix (ix_listK (K := K)) (pv 1) pe_int (fun _ _ => rfl)) (pa_cons pe_int pa_nil))))))) pss_nil)
      (pss_cons (ps_if (pt_cmp (pc_eqI (pv 2) pe_int)) (pss_one (ps_ret (pe_tup (pa_cons pe_int (pa_cons (pe_ix (ix_listK (K := K)) (pe_lst (pa_cons pe_int (pa_cons pe_int (pa_cons pe_int (pa_cons pe_int (pa_cons (pe_ix (ix_listK (K := K)) (pv 1) pe_int (fun _ _ => rfl)) (pa_cons (pe_ix (ix_listK (K := K)) (pv 1) pe_int (fun _ _ => rfl)) pa_nil))))))) (pe_ix (ix_listK (K := K)) (pv 1) pe_int (fun _ _ => rfl)) (fun _ _ => rfl)) (pa_cons (pe_ix (ix_listK (K := K)) (pv 1) pe_int (fun _ _ => rfl)) (pa_cons pe_int pa_nil))))))) pss_nil)
      (pss_cons (ps_if (pt_cmp (pc_eqI (pv 2) pe_int)) (pss_cons (ps_set (i := 3) sc__law_symbol.nd rfl (Or.inl rfl) (pe_op op_add pe_int (pe_op op_mod (pe_callTy call_int1 (by rfl) T.b_int (by decide +kernel) (pa_cons (pe_ix (ix_listK (K := K)) (pv 1) pe_int (fun _ _ => rfl)) pa_nil)) pe_int)))
      (pss_cons (ps_set (i := 4) sc__law_symbol.nd rfl (Or.inl rfl) (pe_bits (pe_op op_sub (pv 3) pe_int)))
      (pss_cons (ps_set (i := 5) sc__law_symbol.nd rfl (Or.inl rfl) (pe_op op_mod (pe_callTy call_int1 (by rfl) T.b_int (by decide +kernel) (pa_cons (pe_ix (ix_listK (K := K)) (pv 1) pe_int (fun _ _ => rfl)) pa_nil)) (pe_op op_sub pe_int (pe_op op_pow pe_int pe_int))))
      (C8.pss_cut (ps_if (pt_cmp (pc_eqI (pe_ix (ix_listK (K := K)) (pv 1) pe_int (fun _ _ => rfl)) pe_int)) (pss_one (ps_set (i := 5) sc__law_symbol.nd rfl (Or.inl rfl) (pe_op op_sub pe_int (pe_op op_shlW pe_int (pv 4))))) pss_nil)
      (pss_cons (ps_if (pt_cmp (pc_eqI (pv 3) pe_int)) (pss_one (ps_ret (pe_tup (pa_cons pe_int (pa_cons (pe_op op_sub (pe_op op_mod (pe_callTy call_int1 (by rfl) T.b_int (by decide +kernel) (pa_cons (pe_ix (ix_listK (K := K)) (pv 1) pe_int (fun _ _ => rfl)) pa_nil)) pe_int) pe_int) (pa_cons pe_int (pa_cons pe_int pa_nil))))))) pss_nil)
      (pss_one (ps_ret (pe_tup (pa_cons pe_int (pa_cons (pe_callB (call_min2 rfl) (by rfl) T.b_min (by decide +kernel) (pa_cons (pv 5) (pa_cons pe_int pa_nil))) (pa_cons (pe_ix (ix_listK (K := K)) (pe_lst (pa_cons pe_int (pa_cons (pe_op op_sub (pv 3) pe_int) (pa_cons (pe_op op_mod (pe_callTy call_int1 (by rfl) T.b_int (by decide +kernel) (pa_cons (pe_ix (ix_listK (K := K)) (pv 1) pe_int (fun _ _ => rfl)) pa_nil)) (pv 3)) pa_nil)))) (pe_op op_mod (pe_callTy call_int1 (by rfl) T.b_int (by decide +kernel) (pa_cons (pe_ix (ix_listK (K := K)) (pv 1) pe_int (fun _ _ => rfl)) pa_nil)) pe_int) (fun _ _ => rfl)) (pa_cons (pv 3) pa_nil)))))))))))) pss_nil)
      (pss_cons (ps_if (pt_cmp (pc_eqI (pv 2) pe_int)) (pss_cons (ps_set (i := 6) sc__law_symbol.nd rfl (Or.inl rfl) (pe_ix (ix_listK (K := K)) (pv 1) pe_int (fun _ _ => rfl)))
      (pss_cons (ps_set (i := 5) sc__law_symbol.nd rfl (Or.inl rfl) (pe_callB (call_min2 rfl) (by rfl) T.b_min (by decide +kernel) (pa_cons (pe_callTy call_int1 (by rfl) T.b_int (by decide +kernel) (pa_cons (pe_ix (ix_listK (K := K)) (pv 1) pe_int (fun _ _ => rfl)) pa_nil)) (pa_cons (pe_op op_sub pe_int (pe_callB (call_min2 rfl) (by rfl) T.b_min (by decide +kernel) (pa_cons (pe_callB (call_max2 rfl) (by rfl) T.b_max (by decide +kernel) (pa_cons (pe_op op_sub (pv 6) pe_int) (pa_cons pe_int pa_nil))) (pa_cons pe_int pa_nil)))) pa_nil))))
      (C8.pss_cut (ps_if (pt_cmp (pc_eqI (pv 6) pe_int)) (pss_one (ps_set (i := 5) sc__law_symbol.nd rfl (Or.inl rfl) (pe_op op_sub (pe_op op_mod (pe_callTy call_int1 (by rfl) T.b_int (by decide +kernel) (pa_cons (pe_ix (ix_listK (K := K)) (pv 1) pe_int (fun _ _ => rfl)) pa_nil)) pe_int) pe_int))) pss_nil)
      (pss_one (ps_ret (pe_tup (pa_cons pe_int (pa_cons (pv 5) (pa_cons (pe_ix (ix_listK (K := K)) (pe_lst (pa_cons pe_int (pa_cons (pv 6) (pa_cons (pe_op op_mod (pe_callTy call_int1 (by rfl) T.b_int (by decide +kernel) (pa_cons (pe_ix (ix_listK (K := K)) (pv 1) pe_int (fun _ _ => rfl)) pa_nil)) (pe_op op_add (pv 6) pe_int)) pa_nil)))) (pe_op op_mod (pe_callTy call_int1 (by rfl) T.b_int (by decide +kernel) (pa_cons (pe_ix (ix_listK (K := K)) (pv 1) pe_int (fun _ _ => rfl)) pa_nil)) pe_int) (fun _ _ => rfl)) (pa_cons (pv 6) pa_nil)))))))))) pss_nil)
      (pss_cons (ps_set (i := 5) sc__law_symbol.nd rfl (Or.inl rfl) (pe_ix (ix_listK (K := K)) (pe_lst (pa_cons pe_int (pa_cons pe_int (pa_cons pe_int (pa_cons pe_int (pa_cons (pe_op op_mod (pe_callTy call_int1 (by rfl) T.b_int (by decide +kernel) (pa_cons (pe_ix (ix_listK (K := K)) (pv 1) pe_int (fun _ _ => rfl)) pa_nil)) pe_int) (pa_cons (pe_op op_mod (pe_callTy call_int1 (by rfl) T.b_int (by decide +kernel) (pa_cons (pe_ix (ix_listK (K := K)) (pv 1) pe_int (fun _ _ => rfl)) pa_nil)) pe_int) pa_nil))))))) (pe_ix (ix_listK (K := K)) (pv 1) pe_int (fun _ _ => rfl)) (fun _ _ => rfl)))
      (pss_cons (ps_set (i := 7) sc__law_symbol.nd rfl (Or.inl rfl) (pe_ix (ix_listK (K := K)) (pe_lst (pa_cons pe_int (pa_cons (pe_op op_pow pe_int pe_int) (pa_cons (pe_op op_sub (pe_op op_pow pe_int pe_int) pe_int) (pa_cons (pe_op op_mod (pe_callTy call_int1 (by rfl) T.b_int (by decide +kernel) (pa_cons (pe_ix (ix_listK (K := K)) (pv 1) pe_int (fun _ _ => rfl)) pa_nil)) pe_int) (pa_cons (pe_op op_mod (pe_callTy call_int1 (by rfl) T.b_int (by decide +kernel) (pa_cons (pe_ix (ix_listK (K := K)) (pv 1) pe_int (fun _ _ => rfl)) pa_nil)) pe_int) (pa_cons (pe_ix (ix_listK (K := K)) (pv 1) pe_int (fun _ _ => rfl)) pa_nil))))))) (pe_ix (ix_listK (K := K)) (pv 1) pe_int (fun _ _ => rfl)) (fun _ _ => rfl)))
      (C8.pss_cut (ps_if (PW.pt (pw_and (pt_cmp (pc_eqI (pv 2) pe_int)) (pw_and1 (pt_cmp (pc_eqI (pe_ix (ix_listK (K := K)) (pv 1) pe_int (fun _ _ => rfl)) pe_int))))) (pss_one (ps_set (i := 7) sc__law_symbol.nd rfl (Or.inl rfl) (pe_un un_neg (pv 7)))) pss_nil)
      (pss_one (ps_ret (pe_tup (pa_cons (pv 2) (pa_cons (pv 5) (pa_cons (pv 7) (pa_cons pe_int pa_nil)))))))))))))))), ?_⟩
    obtain ⟨KK, EE, hK0, hE, hw⟩ := cW_gen hw
    have S0 := Sep.startG sG
    unfold F__law_symbol at hw
    refine ⟨_, rfl, _, _, rfl, rfl, ⟨by decide, by decide, by decide⟩, _, _, rfl, rfl, (by show 7 ≤ sizeLine; decide), fun p151 n152 => ?_⟩
    generalize g153 : upd H p151 _ = H154
    obtain ⟨e155, h156⟩ := gen_new n152 g153
    have h157 : H154 p151 = some (.lst (([6, 6, (1048576 + 1), 6, 256, 65, 2] : (List Int)).map V.int)) := h156
    have fr158 := S0.free n152
    have S159 := S0.new n152 e155 h157 fr158
    refine ⟨rfl, rfl, G, _, _, _, rfl, S159.sG, (hide_nil h157), cW_call hw (fun v160 hw p163 H161 n164 e162 h165 => ?_) (fun e he H2 e2 => hE e he H2 (Same.trans S159.b0 e2))⟩
    have h166 : H161 p163 = some (.lst ((v160 : (List Int)).map V.int)) := h165
    have fr167 := S159.free n164
    have S168 := S159.new n164 e162 h166 fr167
    obtain ⟨g169, hw⟩ := cW_grd hw
    refine ⟨_, rfl, _, _, _, _, rfl, rfl, (SqL.of h166), (atI_map g169), ?_⟩
    have hw := cW_bnd hw
    refine ⟨_, rfl, _, _, rfl, rfl, _, rfl, ?_⟩
    refine iteD (fun c171 => ?_) (fun c171 => ?_)
    · have hw := cW_pos c171 hw
      obtain ⟨g172, hw⟩ := cW_grd hw
      refine ⟨_, rfl, _, _, _, _, rfl, rfl, (SqL.of h166), (atI_map g172), (by show 4 ≤ sizeLine; decide), fun p173 n174 => ?_⟩
      generalize g175 : upd H161 p173 _ = H176
      obtain ⟨e177, h178⟩ := gen_new n174 g175
      have h179 : H176 p173 = some (.tup [V.int (5), V.int (0), V.int ((itD (v160) (6))), V.int (0)]) := h178
      have fr180 := S168.free n174
      obtain ⟨G182, eG183, hg184, S181⟩ := S168.grow n174 e177 h179 fr180
      have hw := cW_ok hw
      exact hK0 _ hw _ _ _ S181.b0 S181.g0 S181.sG S181.gn (rp_mk4 hg184 (.int _) (.int _) (.int _) (.int _))
    · have hw := cW_neg c171 hw
      refine ⟨_, rfl, _, _, rfl, rfl, _, rfl, ?_⟩
      refine iteD (fun c185 => ?_) (fun c185 => ?_)
      · have hw := cW_pos c185 hw
        obtain ⟨g186, hw⟩ := cW_grd hw
        obtain ⟨g187, hw⟩ := cW_grd hw
        refine ⟨_, rfl, _, _, _, _, rfl, rfl, (SqL.of h166), (atI_map g186), _, rfl, _, _, _, _, rfl, rfl, (SqL.of h166), (atI_map g187), (by show 6 ≤ sizeLine; decide), fun p188 n189 => ?_⟩
        generalize g190 : upd H161 p188 _ = H191
        obtain ⟨e192, h193⟩ := gen_new n189 g190
        have h194 : H191 p188 = some (.lst (([0, 255, 128, 3, (itD (v160) (4)), (itD (v160) (4))] : (List Int)).map V.int)) := h193
        have fr195 := S168.free n189
        have S196 := S168.new n189 e192 h194 fr195
        obtain ⟨g197, hw⟩ := cW_grd hw
        have h198 := (e192 _ _ h166)
        obtain ⟨g199, hw⟩ := cW_grd hw
        obtain ⟨g200, hw⟩ := cW_grd hw
        refine ⟨_, rfl, _, _, _, _, rfl, rfl, (SqL.of h198), (atI_map g197), _, _, _, _, rfl, rfl, (SqL.of h194), (atI_map g199), _, rfl, _, _, _, _, rfl, rfl, (SqL.of h198), (atI_map g200), (by show 4 ≤ sizeLine; decide), fun p201 n202 => ?_⟩
        generalize g203 : upd H191 p201 _ = H204
        obtain ⟨e205, h206⟩ := gen_new n202 g203
        have h207 : H204 p201 = some (.tup [V.int (0), V.int ((itD ([0, 255, 128, 3, (itD (v160) (4)), (itD (v160) (4))]) ((itD (v160) (3))))), V.int ((itD (v160) (6))), V.int (0)]) := h206
        have fr208 := S196.free n202
        obtain ⟨G210, eG211, hg212, S209⟩ := S196.grow n202 e205 h207 fr208
        have hw := cW_ok hw
        exact hK0 _ hw _ _ _ S209.b0 S209.g0 S209.sG S209.gn (rp_mk4 hg212 (.int _) (.int _) (.int _) (.int _))
      · have hw := cW_neg c185 hw
        refine ⟨_, rfl, _, _, rfl, rfl, _, rfl, ?_⟩
        refine iteD (fun c213 => ?_) (fun c213 => ?_)
        · have hw := cW_pos c213 hw
          obtain ⟨g214, hw⟩ := cW_grd hw
          refine ⟨_, rfl, _, _, _, _, rfl, rfl, (SqL.of h166), (atI_map g214), .inl ⟨_, rfl, ?_⟩⟩
          refine ⟨_, _, rfl, rfl, (show (0 : Int) < 16 by decide), _, _, rfl, rfl, ?_⟩
          have hw := cW_bnd hw
          refine ⟨_, rfl, _, _, rfl, rfl, _, rfl, ?_⟩
          have hw := cW_bnd hw
          obtain ⟨g217, hw⟩ := cW_grd hw
          refine ⟨_, rfl, _, _, _, _, rfl, rfl, (SqL.of h166), (atI_map g217), .inl ⟨_, rfl, ?_⟩⟩
          obtain ⟨g218, hw⟩ := cW_grd hw
          refine ⟨_, _, rfl, rfl, ⟨by decide, by decide, by decide⟩, _, _, rfl, rfl, _, _, rfl, rfl, g218, ?_⟩
          have hw := cW_bnd hw
          refine ⟨fun σ H' => ∃ (base_224 : Int) (G' : Hp), σ = [some (V.int (cell')), some (V.ref p163), some (V.int ((itD (v160) (0)))), some (V.int ((1 + ((itD (v160) (5)) % 16)))), some (V.int (((PySem.Builtin.Int.intBits (((1 + ((itD (v160) (5)) % 16)) - 1)) : Nat) : Int))), some (V.int base_224), none, none] ∧ Same G G' ∧ Sep [] H G G' H' [p163] ∧ H' p163 = some (.lst ((v160 : (List Int)).map V.int)) ∧ cW (F__law_symbol_k1 (v160) ((itD (v160) (0))) ((1 + ((itD (v160) (5)) % 16))) base_224) KK EE, ?_, ?_⟩
          · obtain ⟨K225, hK226, hw⟩ := cW_push hw
            obtain ⟨g227, hw⟩ := cW_grd hw
            refine ⟨_, rfl, _, _, _, _, rfl, rfl, (SqL.of h166), (atI_map g227), _, _, rfl, rfl, _, rfl, ?_⟩
            refine iteD (fun c228 => ?_) (fun c228 => ?_)
            · have hw := cW_pos c228 hw
              obtain ⟨g229, hw⟩ := cW_grd hw
              refine ⟨_, rfl, _, _, rfl, rfl, (shl_side g229.1 g229.2.1 g229.2.2.1 g229.2.2.2), _, _, rfl, rfl, ?_⟩
              have hw := cW_bnd hw
              have hw := cW_ok hw
              have hw := hK226 _ hw
              exact ⟨((257 - (1 * 2 ^ Int.toNat (((PySem.Builtin.Int.intBits (((1 + ((itD (v160) (5)) % 16)) - 1)) : Nat) : Int))))), _, rfl, (Same.refl _), (S168.sub (all_cons (.head _) all_nil)), h166, hw⟩
            · have hw := cW_neg c228 hw
              have hw := cW_ok hw
              have hw := hK226 _ hw
              exact ⟨(((itD (v160) (4)) % (258 - 16))), _, rfl, (Same.refl _), (S168.sub (all_cons (.head _) all_nil)), h166, hw⟩
          · intro σ H231 hw
            obtain ⟨base_224, G234, rfl, eG235, S232, h233, hw⟩ := hw
            unfold F__law_symbol_k1 at hw
            refine ⟨_, rfl, _, _, rfl, rfl, _, rfl, ?_⟩
            refine iteD (fun c236 => ?_) (fun c236 => ?_)
            · have hw := cW_pos c236 hw
              obtain ⟨g237, hw⟩ := cW_grd hw
              refine ⟨_, rfl, _, _, _, _, rfl, rfl, (SqL.of h233), (atI_map g237), .inl ⟨_, rfl, ?_⟩⟩
              refine ⟨_, _, rfl, rfl, (show (0 : Int) < 901 by decide), _, _, rfl, rfl, (by show 4 ≤ sizeLine; decide), fun p238 n239 => ?_⟩
              generalize g240 : upd H231 p238 _ = H241
              obtain ⟨e242, h243⟩ := gen_new n239 g240
              have h244 : H241 p238 = some (.tup [V.int (1), V.int ((((itD (v160) (2)) % 901) - 300)), V.int (0), V.int (1)]) := h243
              have fr245 := S232.free n239
              obtain ⟨G247, eG248, hg249, S246⟩ := S232.grow n239 e242 h244 fr245
              have hw := cW_ok hw
              exact hK0 _ hw _ _ _ S246.b0 S246.g0 S246.sG S246.gn (rp_mk4 hg249 (.int _) (.int _) (.int _) (.int _))
            · have hw := cW_neg c236 hw
              obtain ⟨g250, hw⟩ := cW_grd hw
              refine ⟨_, rfl, _, _, rfl, _, rfl, _, _, rfl, rfl, _, rfl, _, _, _, _, rfl, rfl, (SqL.of h233), (atI_map g250), .inl ⟨_, rfl, ?_⟩⟩
              obtain ⟨g251, hw⟩ := cW_grd hw
              refine ⟨_, rfl, _, _, rfl, rfl, g251, (by show 3 ≤ sizeLine; decide), fun p252 n253 => ?_⟩
              generalize g254 : upd H231 p252 _ = H255
              obtain ⟨e256, h257⟩ := gen_new n253 g254
              have h258 : H255 p252 = some (.lst (([0, ((1 + ((itD (v160) (5)) % 16)) - 1), ((itD (v160) (2)) % (1 + ((itD (v160) (5)) % 16)))] : (List Int)).map V.int)) := h257
              have fr259 := S232.free n253
              have S260 := S232.new n253 e256 h258 fr259
              obtain ⟨g261, hw⟩ := cW_grd hw
              have h262 := (e256 _ _ h233)
              refine ⟨_, rfl, _, _, _, _, rfl, rfl, (SqL.of h262), (atI_map g261), .inl ⟨_, rfl, ?_⟩⟩
              obtain ⟨g263, hw⟩ := cW_grd hw
              refine ⟨_, _, rfl, rfl, (show (0 : Int) < 3 by decide), _, _, _, _, rfl, rfl, (SqL.of h258), (atI_map g263), _, rfl, (by show 4 ≤ sizeLine; decide), fun p264 n265 => ?_⟩
              generalize g266 : upd H255 p264 _ = H267
              obtain ⟨e268, h269⟩ := gen_new n265 g266
              have h270 : H267 p264 = some (.tup [V.int (1), V.int ((if 255 < base_224 then 255 else base_224)), V.int ((itD ([0, ((1 + ((itD (v160) (5)) % 16)) - 1), ((itD (v160) (2)) % (1 + ((itD (v160) (5)) % 16)))]) (((itD (v160) (1)) % 3)))), V.int ((1 + ((itD (v160) (5)) % 16)))]) := h269
              have fr271 := S260.free n265
              obtain ⟨G273, eG274, hg275, S272⟩ := S260.grow n265 e268 h270 fr271
              have hw := cW_ok hw
              exact hK0 _ hw _ _ _ S272.b0 S272.g0 S272.sG S272.gn (rp_mk4 hg275 (.int _) (.int _) (.int _) (.int _))
        · have hw := cW_neg c213 hw
          refine ⟨_, rfl, _, _, rfl, rfl, _, rfl, ?_⟩
          refine iteD (fun c276 => ?_) (fun c276 => ?_)
          · have hw := cW_pos c276 hw
            obtain ⟨g277, hw⟩ := cW_grd hw
            refine ⟨_, rfl, _, _, _, _, rfl, rfl, (SqL.of h166), (atI_map g277), ?_⟩
            have hw := cW_bnd hw
            obtain ⟨g279, hw⟩ := cW_grd hw
            refine ⟨_, rfl, _, _, _, _, rfl, rfl, (SqL.of h166), (atI_map g279), .inl ⟨_, rfl, ?_⟩⟩
            refine ⟨_, rfl, _, _, rfl, rfl, _, _, rfl, _, _, rfl, _, _, rfl, rfl, _, _, rfl, ?_⟩
            have hw := cW_bnd hw
            refine ⟨fun σ H' => ∃ (base_285 : Int) (G' : Hp), σ = [some (V.int (cell')), some (V.ref p163), some (V.int ((itD (v160) (0)))), none, none, some (V.int base_285), some (V.int ((itD (v160) (5)))), none] ∧ Same G G' ∧ Sep [] H G G' H' [p163] ∧ H' p163 = some (.lst ((v160 : (List Int)).map V.int)) ∧ cW (F__law_symbol_k2 (v160) ((itD (v160) (0))) ((itD (v160) (5))) base_285) KK EE, ?_, ?_⟩
            · obtain ⟨K286, hK287, hw⟩ := cW_push hw
              refine ⟨_, rfl, _, _, rfl, rfl, _, rfl, ?_⟩
              refine iteD (fun c288 => ?_) (fun c288 => ?_)
              · have hw := cW_pos c288 hw
                obtain ⟨g289, hw⟩ := cW_grd hw
                refine ⟨_, rfl, _, _, _, _, rfl, rfl, (SqL.of h166), (atI_map g289), .inl ⟨_, rfl, ?_⟩⟩
                refine ⟨_, _, rfl, rfl, (show (0 : Int) < 901 by decide), _, _, rfl, rfl, ?_⟩
                have hw := cW_bnd hw
                have hw := cW_ok hw
                have hw := hK287 _ hw
                exact ⟨((((itD (v160) (2)) % 901) - 300)), _, rfl, (Same.refl _), (S168.sub (all_cons (.head _) all_nil)), h166, hw⟩
              · have hw := cW_neg c288 hw
                have hw := cW_ok hw
                have hw := hK287 _ hw
                exact ⟨((if (255 - (if 7 < (if 0 > ((itD (v160) (5)) - 1) then 0 else ((itD (v160) (5)) - 1)) then 7 else (if 0 > ((itD (v160) (5)) - 1) then 0 else ((itD (v160) (5)) - 1)))) < (itD (v160) (4)) then (255 - (if 7 < (if 0 > ((itD (v160) (5)) - 1) then 0 else ((itD (v160) (5)) - 1)) then 7 else (if 0 > ((itD (v160) (5)) - 1) then 0 else ((itD (v160) (5)) - 1)))) else (itD (v160) (4)))), _, rfl, (Same.refl _), (S168.sub (all_cons (.head _) all_nil)), h166, hw⟩
            · intro σ H291 hw
              obtain ⟨base_285, G294, rfl, eG295, S292, h293, hw⟩ := hw
              unfold F__law_symbol_k2 at hw
              obtain ⟨g296, hw⟩ := cW_grd hw
              refine ⟨_, rfl, _, rfl, _, rfl, _, _, _, _, rfl, rfl, (SqL.of h293), (atI_map g296), .inl ⟨_, rfl, ?_⟩⟩
              obtain ⟨g297, hw⟩ := cW_grd hw
              refine ⟨_, rfl, _, _, rfl, rfl, _, _, rfl, rfl, g297, (by show 3 ≤ sizeLine; decide), fun p298 n299 => ?_⟩
              generalize g300 : upd H291 p298 _ = H301
              obtain ⟨e302, h303⟩ := gen_new n299 g300
              have h304 : H301 p298 = some (.lst (([0, (itD (v160) (5)), ((itD (v160) (2)) % ((itD (v160) (5)) + 1))] : (List Int)).map V.int)) := h303
              have fr305 := S292.free n299
              have S306 := S292.new n299 e302 h304 fr305
              obtain ⟨g307, hw⟩ := cW_grd hw
              have h308 := (e302 _ _ h293)
              refine ⟨_, rfl, _, _, _, _, rfl, rfl, (SqL.of h308), (atI_map g307), .inl ⟨_, rfl, ?_⟩⟩
              obtain ⟨g309, hw⟩ := cW_grd hw
              refine ⟨_, _, rfl, rfl, (show (0 : Int) < 3 by decide), _, _, _, _, rfl, rfl, (SqL.of h304), (atI_map g309), _, rfl, (by show 4 ≤ sizeLine; decide), fun p310 n311 => ?_⟩
              generalize g312 : upd H301 p310 _ = H313
              obtain ⟨e314, h315⟩ := gen_new n311 g312
              have h316 : H313 p310 = some (.tup [V.int (2), V.int (base_285), V.int ((itD ([0, (itD (v160) (5)), ((itD (v160) (2)) % ((itD (v160) (5)) + 1))]) (((itD (v160) (1)) % 3)))), V.int ((itD (v160) (5)))]) := h315
              have fr317 := S306.free n311
              obtain ⟨G319, eG320, hg321, S318⟩ := S306.grow n311 e314 h316 fr317
              have hw := cW_ok hw
              exact hK0 _ hw _ _ _ S318.b0 S318.g0 S318.sG S318.gn (rp_mk4 hg321 (.int _) (.int _) (.int _) (.int _))
          · have hw := cW_neg c276 hw
            obtain ⟨g322, hw⟩ := cW_grd hw
            refine ⟨_, rfl, _, _, _, _, rfl, rfl, (SqL.of h166), (atI_map g322), .inl ⟨_, rfl, ?_⟩⟩
            obtain ⟨g323, hw⟩ := cW_grd hw
            refine ⟨_, _, rfl, rfl, (show (0 : Int) < 241 by decide), _, rfl, _, _, _, _, rfl, rfl, (SqL.of h166), (atI_map g323), .inl ⟨_, rfl, ?_⟩⟩
            refine ⟨_, _, rfl, rfl, (show (0 : Int) < 241 by decide), (by show 6 ≤ sizeLine; decide), fun p324 n325 => ?_⟩
            generalize g326 : upd H161 p324 _ = H327
            obtain ⟨e328, h329⟩ := gen_new n325 g326
            have h330 : H327 p324 = some (.lst (([0, 240, 25, 41, ((itD (v160) (4)) % 241), ((itD (v160) (4)) % 241)] : (List Int)).map V.int)) := h329
            have fr331 := S168.free n325
            have S332 := S168.new n325 e328 h330 fr331
            obtain ⟨g333, hw⟩ := cW_grd hw
            have h334 := (e328 _ _ h166)
            obtain ⟨g335, hw⟩ := cW_grd hw
            refine ⟨_, rfl, _, _, _, _, rfl, rfl, (SqL.of h334), (atI_map g333), _, _, _, _, rfl, rfl, (SqL.of h330), (atI_map g335), ?_⟩
            have hw := cW_bnd hw
            obtain ⟨g337, hw⟩ := cW_grd hw
            refine ⟨_, _, rfl, rfl, ⟨by decide, by decide, by decide⟩, _, _, rfl, rfl, ⟨by decide, by decide, by decide⟩, _, _, rfl, rfl, _, rfl, _, _, _, _, rfl, rfl, (SqL.of h334), (atI_map g337), .inl ⟨_, rfl, ?_⟩⟩
            obtain ⟨g338, hw⟩ := cW_grd hw
            refine ⟨_, _, rfl, rfl, (show (0 : Int) < 40 by decide), _, rfl, _, _, _, _, rfl, rfl, (SqL.of h334), (atI_map g338), .inl ⟨_, rfl, ?_⟩⟩
            obtain ⟨g339, hw⟩ := cW_grd hw
            refine ⟨_, _, rfl, rfl, (show (0 : Int) < 1000 by decide), _, rfl, _, _, _, _, rfl, rfl, (SqL.of h334), (atI_map g339), (by show 6 ≤ sizeLine; decide), fun p340 n341 => ?_⟩
            generalize g342 : upd H327 p340 _ = H343
            obtain ⟨e344, h345⟩ := gen_new n341 g342
            have h346 : H343 p340 = some (.lst (([0, 1048576, (1048576 - 1), ((itD (v160) (2)) % 40), ((itD (v160) (2)) % 1000), (itD (v160) (2))] : (List Int)).map V.int)) := h345
            have fr347 := S332.free n341
            have S348 := S332.new n341 e344 h346 fr347
            obtain ⟨g349, hw⟩ := cW_grd hw
            have h350 := (e344 _ _ h334)
            obtain ⟨g351, hw⟩ := cW_grd hw
            refine ⟨_, rfl, _, _, _, _, rfl, rfl, (SqL.of h350), (atI_map g349), _, _, _, _, rfl, rfl, (SqL.of h346), (atI_map g351), ?_⟩
            have hw := cW_bnd hw
            refine ⟨fun σ H' => ∃ (value_356 : Int) (G' : Hp), σ = [some (V.int (cell')), some (V.ref p163), some (V.int ((itD (v160) (0)))), none, none, some (V.int ((itD ([0, 240, 25, 41, ((itD (v160) (4)) % 241), ((itD (v160) (4)) % 241)]) ((itD (v160) (3)))))), none, some (V.int value_356)] ∧ Same G G' ∧ Sep [] H G G' H' [p163] ∧ H' p163 = some (.lst ((v160 : (List Int)).map V.int)) ∧ cW (F__law_symbol_k3 ((itD (v160) (0))) ((itD ([0, 240, 25, 41, ((itD (v160) (4)) % 241), ((itD (v160) (4)) % 241)]) ((itD (v160) (3))))) value_356) KK EE, ?_, ?_⟩
            · obtain ⟨K357, hK358, hw⟩ := cW_push hw
              refine ⟨_, rfl, _, _, rfl, rfl, _, rfl, ?_⟩
              refine iteD (fun c359 => ?_) (fun c359 => ?_)
              · have hw := cW_pos c359 hw
                obtain ⟨g360, hw⟩ := cW_grd hw
                refine ⟨_, rfl, _, _, _, _, rfl, rfl, (SqL.of h350), (atI_map g360), _, _, rfl, rfl, _, rfl, ?_⟩
                refine iteD (fun c361 => ?_) (fun c361 => ?_)
                · have hw := cW_pos c361 hw
                  refine ⟨_, rfl, _, rfl, ?_⟩
                  have hw := cW_bnd hw
                  have hw := cW_ok hw
                  have hw := hK358 _ hw
                  exact ⟨((-(itD ([0, 1048576, (1048576 - 1), ((itD (v160) (2)) % 40), ((itD (v160) (2)) % 1000), (itD (v160) (2))]) ((itD (v160) (1)))))), _, rfl, (Same.refl _), (S348.sub (all_cons (.tail _ (.tail _ (.head _))) all_nil)), h350, hw⟩
                · have hw := cW_neg c361 hw
                  have hw := cW_ok hw
                  have hw := hK358 _ hw
                  exact ⟨((itD ([0, 1048576, (1048576 - 1), ((itD (v160) (2)) % 40), ((itD (v160) (2)) % 1000), (itD (v160) (2))]) ((itD (v160) (1))))), _, rfl, (Same.refl _), (S348.sub (all_cons (.tail _ (.tail _ (.head _))) all_nil)), h350, hw⟩
              · have hw := cW_neg c359 hw
                refine iteF ?_
                have hw := cW_ok hw
                have hw := hK358 _ hw
                exact ⟨((itD ([0, 1048576, (1048576 - 1), ((itD (v160) (2)) % 40), ((itD (v160) (2)) % 1000), (itD (v160) (2))]) ((itD (v160) (1))))), _, rfl, (Same.refl _), (S348.sub (all_cons (.tail _ (.tail _ (.head _))) all_nil)), h350, hw⟩
            · intro σ H363 hw
              obtain ⟨value_356, G366, rfl, eG367, S364, h365, hw⟩ := hw
              unfold F__law_symbol_k3 at hw
              refine ⟨_, rfl, _, rfl, _, rfl, (by show 4 ≤ sizeLine; decide), fun p368 n369 => ?_⟩
              generalize g370 : upd H363 p368 _ = H371
              obtain ⟨e372, h373⟩ := gen_new n369 g370
              have h374 : H371 p368 = some (.tup [V.int ((itD (v160) (0))), V.int ((itD ([0, 240, 25, 41, ((itD (v160) (4)) % 241), ((itD (v160) (4)) % 241)]) ((itD (v160) (3))))), V.int (value_356), V.int (0)]) := h373
              have fr375 := S364.free n369
              obtain ⟨G377, eG378, hg379, S376⟩ := S364.grow n369 e372 h374 fr375
              have hw := cW_ok hw
              exact hK0 _ hw _ _ _ S376.b0 S376.g0 S376.sG S376.gn (rp_mk4 hg379 (.int _) (.int _) (.int _) (.int _))

abbrev N__check_contexts : List Str := ["base", "count"]
theorem sc__check_contexts : FnScope N__check_contexts ["base", "count"] (defScope s__check_contexts) := ⟨rfl, rfl, rfl, by decide +kernel, rfl, by decide +kernel, by decide +kernel⟩
theorem ok__check_contexts (D : DefX K mg "_check_contexts" s__check_contexts ["base", "count"] pats__check_contexts) (T : Txt K mg AD)  : CalX P w K mg base 1 "_check_contexts" (sp__check_contexts K AD) pats__check_contexts := by
  refine D.ok sc__check_contexts (fun vs H Q E h => ?_) (fun f cdv A_ outer s H vs Q E hr h => ?_)
  · obtain ⟨G, base', count', rfl, _⟩ := h
    rfl
  · obtain ⟨G, base', count', rfl, sG, hw⟩ := h
    refine ⟨_, (pss_one (ps_if (PW.pt (pw_and (pt_cmp (pc_gt (pv 1) pe_int)) (pw_and1 (pt_not (pt_chain op_le op_le pe_int (pv 0) (pe_op op_sub (C8.pe_gc rfl T.g_CONTEXTS_symbols) (pv 1))))))) (pss_one (ps_raise rfl (takes_of rfl rfl rfl rfl) (pmk_own PySem.F.excBase_ValueError T.xx_OutOfRange T.xg_OutOfRange T.xk_OutOfRange (raises_own T.xb_OutOfRange T.xt_OutOfRange) rfl))) pss_nil)), ?_⟩
    obtain ⟨KK, EE, hK0, hE, hw⟩ := cW_gen hw
    have S0 := Sep.startG sG
    unfold F__check_contexts at hw
    refine ⟨_, rfl, _, _, rfl, rfl, _, rfl, ?_⟩
    refine iteD (fun c380 => ?_) (fun c380 => ?_)
    · have hw := cW_pos c380 hw
      refine ⟨_, rfl, _, _, rfl, rfl, _, rfl, ?_⟩
      refine iteD (fun c381 => ?_) (fun c381 => ?_)
      · have hw := cW_pos c381 hw
        refine ⟨_, rfl, _, _, rfl, rfl, _, _, rfl, rfl, _, rfl, ?_⟩
        refine iteN (fun c382 => ?_) (fun c382 => ?_)
        · have hw := cW_neg c382 hw
          exact hE 1 (cW_er hw)
        · have hw := cW_pos c382 hw
          have hw := cW_ok hw
          exact hK0 _ hw
      · have hw := cW_neg c381 hw
        refine ⟨_, rfl, ?_⟩
        refine iteT ?_
        exact hE 1 (cW_er hw)
    · have hw := cW_neg c380 hw
      refine iteF ?_
      have hw := cW_ok hw
      exact hK0 _ hw

abbrev N__check_context : List Str := ["context"]
theorem sc__check_context : FnScope N__check_context ["context"] (defScope s__check_context) := ⟨rfl, rfl, rfl, by decide +kernel, rfl, by decide +kernel, by decide +kernel⟩
theorem ok__check_context (D : DefX K mg "_check_context" s__check_context ["context"] pats__check_context) (T : Txt K mg AD)  : CalX P w K mg base 1 "_check_context" (sp__check_context K AD) pats__check_context := by
  refine D.ok sc__check_context (fun vs H Q E h => ?_) (fun f cdv A_ outer s H vs Q E hr h => ?_)
  · obtain ⟨G, context', rfl, _⟩ := h
    rfl
  · obtain ⟨G, context', rfl, sG, hw⟩ := h
    refine ⟨_, (pss_one (ps_if (pt_not (pt_chain op_le op_lt pe_int (pv 0) (C8.pe_gc rfl T.g_CONTEXTS_coder))) (pss_one (ps_raise rfl (takes_of rfl rfl rfl rfl) (pmk_own PySem.F.excBase_ValueError T.xx_OutOfRange T.xg_OutOfRange T.xk_OutOfRange (raises_own T.xb_OutOfRange T.xt_OutOfRange) rfl))) pss_nil)), ?_⟩
    obtain ⟨KK, EE, hK0, hE, hw⟩ := cW_gen hw
    have S0 := Sep.startG sG
    unfold F__check_context at hw
    refine ⟨_, rfl, _, _, rfl, rfl, _, rfl, ?_⟩
    refine iteD (fun c383 => ?_) (fun c383 => ?_)
    · have hw := cW_pos c383 hw
      refine ⟨_, _, rfl, rfl, _, rfl, ?_⟩
      refine iteN (fun c384 => ?_) (fun c384 => ?_)
      · have hw := cW_neg c384 hw
        exact hE 1 (cW_er hw)
      · have hw := cW_pos c384 hw
        have hw := cW_ok hw
        exact hK0 _ hw
    · have hw := cW_neg c383 hw
      refine ⟨_, rfl, ?_⟩
      refine iteT ?_
      exact hE 1 (cW_er hw)

abbrev N__check_decision : List Str := ["decision"]
theorem sc__check_decision : FnScope N__check_decision ["decision"] (defScope s__check_decision) := ⟨rfl, rfl, rfl, by decide +kernel, rfl, by decide +kernel, by decide +kernel⟩
theorem ok__check_decision (D : DefX K mg "_check_decision" s__check_decision ["decision"] pats__check_decision) (T : Txt K mg AD)  : CalX P w K mg base 1 "_check_decision" (sp__check_decision K AD) pats__check_decision := by
  refine D.ok sc__check_decision (fun vs H Q E h => ?_) (fun f cdv A_ outer s H vs Q E hr h => ?_)
  · obtain ⟨G, decision', rfl, _⟩ := h
    rfl
  · obtain ⟨G, decision', rfl, sG, hw⟩ := h
    refine ⟨_, (pss_one (ps_if (pt_not (pt_chain op_le op_le pe_int (pv 0) pe_int)) (pss_one (ps_raise rfl (takes_of rfl rfl rfl rfl) (pmk_own PySem.F.excBase_ValueError T.xx_OutOfRange T.xg_OutOfRange T.xk_OutOfRange (raises_own T.xb_OutOfRange T.xt_OutOfRange) rfl))) pss_nil)), ?_⟩
    obtain ⟨KK, EE, hK0, hE, hw⟩ := cW_gen hw
    have S0 := Sep.startG sG
    unfold F__check_decision at hw
    refine ⟨_, rfl, _, _, rfl, rfl, _, rfl, ?_⟩
    refine iteD (fun c385 => ?_) (fun c385 => ?_)
    · have hw := cW_pos c385 hw
      refine ⟨_, _, rfl, rfl, _, rfl, ?_⟩
      refine iteN (fun c386 => ?_) (fun c386 => ?_)
      · have hw := cW_neg c386 hw
        exact hE 1 (cW_er hw)
      · have hw := cW_pos c386 hw
        have hw := cW_ok hw
        exact hK0 _ hw
    · have hw := cW_neg c385 hw
      refine ⟨_, rfl, ?_⟩
      refine iteT ?_
      exact hE 1 (cW_er hw)

abbrev N__adapted : List Str := ["chance", "decision"]
theorem sc__adapted : FnScope N__adapted ["chance", "decision"] (defScope s__adapted) := ⟨rfl, rfl, rfl, by decide +kernel, rfl, by decide +kernel, by decide +kernel⟩
theorem ok__adapted (D : DefX K mg "_adapted" s__adapted ["chance", "decision"] pats__adapted) (T : Txt K mg AD)  : CalX P w K mg base 1 "_adapted" (sp__adapted K AD) pats__adapted := by
  refine D.ok sc__adapted (fun vs H Q E h => ?_) (fun f cdv A_ outer s H vs Q E hr h => ?_)
  · obtain ⟨G, chance', decision', rfl, _⟩ := h
    rfl
  · obtain ⟨G, chance', decision', rfl, sG, hw⟩ := h
    refine ⟨_, (pss_cons (ps_if (pt_cmp (pc_eqI (pv 1) pe_int)) (pss_one (ps_ret (pe_op op_add (pv 0) (pe_op op_shr (pe_op op_sub (C8.pe_gc rfl T.g_SCALE) (pv 0)) (C8.pe_gc rfl T.g_RATE))))) pss_nil)
      (pss_one (ps_ret (pe_op op_sub (pv 0) (pe_op op_shr (pv 0) (C8.pe_gc rfl T.g_RATE)))))), ?_⟩
    obtain ⟨KK, EE, hK0, hE, hw⟩ := cW_gen hw
    have S0 := Sep.startG sG
    unfold F__adapted at hw
    refine ⟨_, rfl, _, _, rfl, rfl, _, rfl, ?_⟩
    refine iteD (fun c387 => ?_) (fun c387 => ?_)
    · have hw := cW_pos c387 hw
      refine ⟨_, rfl, _, rfl, _, _, rfl, rfl, _, _, rfl, rfl, (show (0 : Int) ≤ 5 by decide), _, _, rfl, rfl, ?_⟩
      have hw := cW_ok hw
      exact hK0 _ hw
    · have hw := cW_neg c387 hw
      refine ⟨_, rfl, _, rfl, _, _, rfl, rfl, (show (0 : Int) ≤ 5 by decide), _, _, rfl, rfl, ?_⟩
      have hw := cW_ok hw
      exact hK0 _ hw

abbrev N_Encoder__carry : List Str := ["self", "place"]
theorem sc_Encoder__carry : FnScope N_Encoder__carry ["self"] (defScope s_Encoder__carry) := ⟨rfl, rfl, rfl, by decide +kernel, rfl, by decide +kernel, by decide +kernel⟩
theorem ok_Encoder__carry (D : MethX K AD.c_Encoder "Encoder._carry" "_carry" s_Encoder__carry ["self"] pats_Encoder__carry) (T : Txt K mg AD)  : MetX P w K mg base 1 AD.c_Encoder "_carry" (sp_Encoder__carry K AD) pats_Encoder__carry := by
  refine D.ok T.cl_Encoder sc_Encoder__carry (fun vs H Q E h => ?_) (fun f cdv A_ outer s H vs Q E hr h => ?_)
  · obtain ⟨G, p_self, l_self_probs, l_self_front, dx_self, self', rfl, _⟩ := h
    rfl
  · obtain ⟨G, p_self, l_self_probs, l_self_front, dx_self, self', rfl, sG, gM, h_p_self, h_l_self_probs, h_l_self_front, ne_self_0, hw⟩ := h
    refine ⟨_, (pss_cons (ps_set (i := 1) sc_Encoder__carry.nd rfl (Or.inl rfl) (pe_op op_sub (pe_callB (call_lenLiK (K := K)) (by rfl) T.b_len (by decide +kernel) (pa_cons (fldK (K := K) (pv 0)) pa_nil)) pe_int))
      (pss_cons (ps_while (passes_of rfl) (pt_cmp (pc_eqI (pe_ix (ix_listK (K := K)) (fldK (K := K) (pv 0)) (pv 1) (fun _ _ => rfl)) pe_int)) (pss_cons (ps_asg pe_int (pg_sub (fldK (K := K) (pv 0)) (pv 1) set_list))
      (pss_one (ps_aug (i := 1) sc_Encoder__carry.nd rfl (Or.inl rfl) pe_int (pip iop_sub)))))
      (pss_one (ps_augS (fldK (K := K) (pv 0)) (pv 1) (pget_list (K := K)) pe_int (pip iop_add) set_list)))), ?_⟩
    obtain ⟨KK, EE, hK0, hE, hw⟩ := cW_gen hw
    have S0 := Sep.startM (M := [p_self, l_self_probs, l_self_front]) sG (all_cons (some_ne h_p_self) (all_cons (some_ne h_l_self_probs) (all_cons (some_ne h_l_self_front) all_nil))) gM
    unfold F_Encoder__carry at hw
    refine ⟨_, rfl, _, _, _, _, _, rfl, h_p_self, T.cl_Encoder, T.n_Encoder__front, rfl, _, _, rfl, (SqL.of h_l_self_front), _, _, rfl, rfl, ?_⟩
    have hw := cW_bnd hw
    obtain ⟨K389, hK390, hw⟩ := cW_push hw
    refine ⟨fun m σ H' => ∃ (self_391 : St_Encoder) (place_392 : Int) (G' : Hp), σ = [some (V.ref p_self), some (V.int place_392)] ∧ Same G G' ∧ Sep [p_self, l_self_probs, l_self_front] H G G' H' [p_self, l_self_probs, l_self_front] ∧ H' p_self = some (.ins AD.c_Encoder dx_self [("_probabilities", V.ref l_self_probs), ("_front", V.ref l_self_front), ("_low", V.int (self_391.low)), ("_span", V.int (self_391.span))]) ∧ H' l_self_probs = some (.lst ((self_391.probs : (List Int)).map V.int)) ∧ H' l_self_front = some (.lst ((self_391.front : (List Int)).map V.int)) ∧ cW (whileR m (self_391, place_392) (fun s => F_Encoder__carry_b1  (s.1) (s.2))) K389 EE, ?_, ?_⟩
    · exact ⟨_, ⟨(self'), (((((self'.front) : (List Int)).length : Int) - 1)), _, rfl, (Same.refl _), S0, h_p_self, h_l_self_probs, h_l_self_front, hw⟩⟩
    · intro m σ H393 hw
      obtain ⟨self_391, place_392, G398, rfl, eG399, S394, h395, h396, h397, hw⟩ := hw
      obtain ⟨m400, rfl, hw2⟩ := cW_whileR hw
      have hw := hw2
      have hw : cW (F_Encoder__carry_b1  (self_391) (place_392)) _ EE := hw
      unfold F_Encoder__carry_b1 at hw
      obtain ⟨K403, hK404, hw⟩ := cW_name hw
      obtain ⟨g405, hw⟩ := cW_grd hw
      refine ⟨_, rfl, _, _, _, _, _, rfl, h395, T.cl_Encoder, T.n_Encoder__front, rfl, _, rfl, _, _, _, _, rfl, rfl, (SqL.of h397), (atI_map g405), _, _, rfl, rfl, _, rfl, ?_⟩
      refine iteD (fun c406 => ?_) (fun c406 => ?_)
      · have hw := cW_pos c406 hw
        refine ⟨(fun σ H' => ∃ m, (∃ (self_391 : St_Encoder) (place_392 : Int) (G' : Hp), σ = [some (V.ref p_self), some (V.int place_392)] ∧ Same G G' ∧ Sep [p_self, l_self_probs, l_self_front] H G G' H' [p_self, l_self_probs, l_self_front] ∧ H' p_self = some (.ins AD.c_Encoder dx_self [("_probabilities", V.ref l_self_probs), ("_front", V.ref l_self_front), ("_low", V.int (self_391.low)), ("_span", V.int (self_391.span))]) ∧ H' l_self_probs = some (.lst ((self_391.probs : (List Int)).map V.int)) ∧ H' l_self_front = some (.lst ((self_391.front : (List Int)).map V.int)) ∧ cW (whileR m (self_391, place_392) (fun s => F_Encoder__carry_b1  (s.1) (s.2))) K389 EE) ∧ m < m400 + 1), (fun _ _ ⟨m', a, b⟩ => ⟨m', b, a⟩), ?_⟩
        obtain ⟨g407, hw⟩ := cW_grd hw
        refine ⟨_, rfl, _, _, _, _, _, rfl, h395, T.cl_Encoder, T.n_Encoder__front, rfl, _, rfl, _, _, _, _, rfl, rfl, h397, (ixN_map g407), ?_⟩
        generalize g408 : upd H393 l_self_front _ = H409
        obtain ⟨x410, h411⟩ := gen_mut g408
        have h412 : H409 l_self_front = some (.lst ((setL (self_391.front) (place_392) (0) : (List Int)).map V.int)) := set_map h411
        have S413 := S394.mut1 x410 (.tail _ (.tail _ (.head _))) h412
        have hw := cW_bnd hw
        refine ⟨_, rfl, _, _, rfl, rfl, ?_⟩
        have hw := cW_bnd hw
        have hw := cW_ok hw
        have hw := hK404 _ hw
        have h416 := (x410 _ _ h395 (ne_of h395 h397 (fun z => nomatch z)))
        have h417 := (x410 _ _ h396 ne_self_0)
        exact ⟨m400, ⟨((⟨self_391.probs, setL (self_391.front) (place_392) (0), self_391.low, self_391.span⟩ : St_Encoder)), ((place_392 - 1)), _, rfl, eG399, S413, h416, h417, h412, hw⟩, Nat.lt_succ_self _⟩
      · have hw := cW_neg c406 hw
        have hw := cW_ok hw
        have hw := hK404 _ hw
        have hw := cW_aftgo (hK390 (.go _) hw)
        have hw : cW (F_Encoder__carry_r1  (self_391) (place_392)) _ EE := hw
        unfold F_Encoder__carry_r1 at hw
        obtain ⟨g420, hw⟩ := cW_grd hw
        obtain ⟨g421, hw⟩ := cW_grd hw
        refine ⟨_, rfl, _, _, _, _, _, rfl, h395, T.cl_Encoder, T.n_Encoder__front, rfl, _, rfl, _, _, _, _, rfl, rfl, (SqL.of h397), g420.1, g420.2.1, (atI_map (ix_nn g420.1 g420.2.2)), _, _, rfl, rfl, _, _, _, _, rfl, rfl, h397, (ixN_map g421), ?_⟩
        generalize g422 : upd H393 l_self_front _ = H423
        obtain ⟨x424, h425⟩ := gen_mut g422
        have h426 : H423 l_self_front = some (.lst ((setL (self_391.front) (place_392) (((itD (self_391.front) (place_392)) + 1)) : (List Int)).map V.int)) := set_map h425
        have S427 := S394.mut1 x424 (.tail _ (.tail _ (.head _))) h426
        have hw := cW_bnd hw
        have h429 := (x424 _ _ h395 (ne_of h395 h397 (fun z => nomatch z)))
        have h430 := (x424 _ _ h396 ne_self_0)
        have hw := cW_ok hw
        exact hK0 _ hw _ S427.base h429 h430 h426

abbrev N_Encoder__narrow : List Str := ["self", "chance", "decision", "part"]
theorem sc_Encoder__narrow : FnScope N_Encoder__narrow ["self", "chance", "decision"] (defScope s_Encoder__narrow) := ⟨rfl, rfl, rfl, by decide +kernel, rfl, by decide +kernel, by decide +kernel⟩
theorem ok_Encoder__narrow (D : MethX K AD.c_Encoder "Encoder._narrow" "_narrow" s_Encoder__narrow ["self", "chance", "decision"] pats_Encoder__narrow) (T : Txt K mg AD) (c_Encoder__carry : MetX P w K mg base 1 AD.c_Encoder "_carry" (sp_Encoder__carry K AD) pats_Encoder__carry) : MetX P w K mg base 2 AD.c_Encoder "_narrow" (sp_Encoder__narrow K AD) pats_Encoder__narrow := by
  refine D.ok T.cl_Encoder sc_Encoder__narrow (fun vs H Q E h => ?_) (fun f cdv A_ outer s H vs Q E hr h => ?_)
  · obtain ⟨G, p_self, l_self_probs, l_self_front, dx_self, self', chance', decision', rfl, _⟩ := h
    rfl
  · obtain ⟨G, p_self, l_self_probs, l_self_front, dx_self, self', chance', decision', rfl, sG, gM, h_p_self, h_l_self_probs, h_l_self_front, ne_self_0, hw⟩ := h
    refine ⟨_, (pss_cons (ps_set (i := 3) sc_Encoder__narrow.nd rfl (Or.inl rfl) (pe_op op_mul (pe_op op_shr (fldK (K := K) (pv 0)) (C8.pe_gc rfl T.g_SCALE_BITS)) (pv 1)))
      (C8.pss_cut (ps_if (pt_cmp (pc_eqI (pv 2) pe_int)) (pss_one (ps_fld (pv 0) (pv 3) rfl)) (pss_cons (ps_fldaug (pv 0) (pv 3) (pip iop_sub))
      (pss_cons (ps_fldaug (pv 0) (pv 3) (pip iop_add))
      (pss_one (ps_if (pt_cmp (pc_ge (fldK (K := K) (pv 0)) (C8.pe_gc rfl T.g_WORD))) (pss_cons (ps_fldaug (pv 0) (C8.pe_gc rfl T.g_WORD) (pip iop_sub))
      (pss_one (ps_expr (vx_methX0 c_Encoder__carry pat_Encoder__carry_0 (.head _) hr (by decide) (takes_of rfl rfl rfl rfl) (pv 0))))) pss_nil)))))
      (pss_one (ps_while (passes_of rfl) (pt_cmp (pc_lt (fldK (K := K) (pv 0)) (C8.pe_gc rfl T.g_LEAST_SPAN))) (pss_cons (ps_expr (pe_bm PySem.F.plainAttrs_list PySem.F.slot_list_append PySem.F.type_list_append mt_append (fldK (K := K) (pv 0)) (pa_cons (pe_op op_shr (fldK (K := K) (pv 0)) pe_int) pa_nil)))
      (pss_cons (ps_fld (pv 0) (pe_op op_and (pe_op op_shlW (fldK (K := K) (pv 0)) pe_int) (pe_op op_sub (C8.pe_gc rfl T.g_WORD) pe_int)) rfl)
      (pss_one (ps_fldaug (pv 0) pe_int (pip iop_shlW))))))))), ?_⟩
    obtain ⟨KK, EE, hK0, hE, hw⟩ := cW_gen hw
    have S0 := Sep.startM (M := [p_self, l_self_probs, l_self_front]) sG (all_cons (some_ne h_p_self) (all_cons (some_ne h_l_self_probs) (all_cons (some_ne h_l_self_front) all_nil))) gM
    unfold F_Encoder__narrow at hw
    obtain ⟨g431, hw⟩ := cW_grd hw
    refine ⟨_, rfl, _, _, _, _, _, rfl, h_p_self, T.cl_Encoder, T.n_Encoder__span, rfl, _, _, rfl, rfl, (show (0 : Int) ≤ 12 by decide), _, rfl, _, _, rfl, rfl, g431, ?_⟩
    have hw := cW_bnd hw
    refine ⟨fun σ H' => ∃ (self_434 : St_Encoder) (G' : Hp), σ = [some (V.ref p_self), some (V.int (chance')), some (V.int (decision')), some (V.int (((self'.span / 4096) * chance')))] ∧ Same G G' ∧ Sep [p_self, l_self_probs, l_self_front] H G G' H' [p_self, l_self_probs, l_self_front] ∧ H' p_self = some (.ins AD.c_Encoder dx_self [("_probabilities", V.ref l_self_probs), ("_front", V.ref l_self_front), ("_low", V.int (self_434.low)), ("_span", V.int (self_434.span))]) ∧ H' l_self_probs = some (.lst ((self_434.probs : (List Int)).map V.int)) ∧ H' l_self_front = some (.lst ((self_434.front : (List Int)).map V.int)) ∧ cW (F_Encoder__narrow_k1  self_434) KK EE, ?_, ?_⟩
    · obtain ⟨K435, hK436, hw⟩ := cW_push hw
      refine ⟨_, rfl, _, _, rfl, rfl, _, rfl, ?_⟩
      refine iteD (fun c437 => ?_) (fun c437 => ?_)
      · have hw := cW_pos c437 hw
        refine ⟨_, rfl, _, rfl, _, _, _, _, rfl, h_p_self, T.cl_Encoder, T.n_Encoder__span, (by show 4 < 1000; decide), ?_⟩
        generalize g438 : upd H p_self _ = H439
        obtain ⟨x440, h441⟩ := gen_mut g438
        have h442 : H439 p_self = some (.ins AD.c_Encoder dx_self [("_probabilities", V.ref l_self_probs), ("_front", V.ref l_self_front), ("_low", V.int (self'.low)), ("_span", V.int (((self'.span / 4096) * chance')))]) := h441
        have S443 := S0.mut1 x440 (.head _) h442
        have hw := cW_ok hw
        have hw := hK436 _ hw
        have h444 := (x440 _ _ h_l_self_probs (ne_of h_l_self_probs h_p_self (fun z => nomatch z)))
        have h445 := (x440 _ _ h_l_self_front (ne_of h_l_self_front h_p_self (fun z => nomatch z)))
        exact ⟨((⟨self'.probs, self'.front, self'.low, ((self'.span / 4096) * chance')⟩ : St_Encoder)), _, rfl, (Same.refl _), S443, h442, h444, h445, hw⟩
      · have hw := cW_neg c437 hw
        have hw := cW_bnd hw
        refine ⟨_, rfl, _, _, _, _, _, rfl, h_p_self, T.cl_Encoder, T.n_Encoder__span, rfl, _, rfl, _, _, rfl, rfl, _, _, h_p_self, (by show 4 < 1000; decide), ?_⟩
        generalize g447 : upd H p_self _ = H448
        obtain ⟨x449, h450⟩ := gen_mut g447
        have h451 : H448 p_self = some (.ins AD.c_Encoder dx_self [("_probabilities", V.ref l_self_probs), ("_front", V.ref l_self_front), ("_low", V.int (self'.low)), ("_span", V.int ((self'.span - ((self'.span / 4096) * chance'))))]) := h450
        have S452 := S0.mut1 x449 (.head _) h451
        have hw := cW_bnd hw
        refine ⟨_, rfl, _, _, _, _, _, rfl, h451, T.cl_Encoder, T.n_Encoder__low, rfl, _, rfl, _, _, rfl, rfl, _, _, h451, (by show 4 < 1000; decide), ?_⟩
        generalize g454 : upd H448 p_self _ = H455
        obtain ⟨x456, h457⟩ := gen_mut g454
        have h458 : H455 p_self = some (.ins AD.c_Encoder dx_self [("_probabilities", V.ref l_self_probs), ("_front", V.ref l_self_front), ("_low", V.int ((self'.low + ((self'.span / 4096) * chance')))), ("_span", V.int ((self'.span - ((self'.span / 4096) * chance'))))]) := h457
        have S459 := S452.mut1 x456 (.head _) h458
        refine ⟨_, rfl, _, _, _, _, _, rfl, h458, T.cl_Encoder, T.n_Encoder__low, rfl, _, _, rfl, rfl, _, rfl, ?_⟩
        refine iteD (fun c460 => ?_) (fun c460 => ?_)
        · have hw := cW_pos c460 hw
          have hw := cW_bnd hw
          refine ⟨_, rfl, _, _, _, _, _, rfl, h458, T.cl_Encoder, T.n_Encoder__low, rfl, _, _, rfl, rfl, _, _, h458, (by show 4 < 1000; decide), ?_⟩
          generalize g462 : upd H455 p_self _ = H463
          obtain ⟨x464, h465⟩ := gen_mut g462
          have h466 : H463 p_self = some (.ins AD.c_Encoder dx_self [("_probabilities", V.ref l_self_probs), ("_front", V.ref l_self_front), ("_low", V.int (((self'.low + ((self'.span / 4096) * chance')) - 4294967296))), ("_span", V.int ((self'.span - ((self'.span / 4096) * chance'))))]) := h465
          have S467 := S459.mut1 x464 (.head _) h466
          have h468 := (x464 _ _ (x456 _ _ (x449 _ _ h_l_self_probs (ne_of h_l_self_probs h_p_self (fun z => nomatch z))) (ne_of h_l_self_probs h_p_self (fun z => nomatch z))) (ne_of h_l_self_probs h_p_self (fun z => nomatch z)))
          have h469 := (x464 _ _ (x456 _ _ (x449 _ _ h_l_self_front (ne_of h_l_self_front h_p_self (fun z => nomatch z))) (ne_of h_l_self_front h_p_self (fun z => nomatch z))) (ne_of h_l_self_front h_p_self (fun z => nomatch z)))
          refine ⟨_, rfl, _, _, _, rfl, h466, rfl, rfl, rfl, G, _, _, _, _, (⟨self'.probs, self'.front, ((self'.low + ((self'.span / 4096) * chance')) - 4294967296), (self'.span - ((self'.span / 4096) * chance'))⟩ : St_Encoder), rfl, S467.sG, (S467.gno (all_cons (.head _) (all_cons (.tail _ (.head _)) (all_cons (.tail _ (.tail _ (.head _))) all_nil)))), h466, h468, h469, ne_self_0, cW_callN hw (fun v470 hw H471 x472 h474 h475 h476  => ?_) trivial⟩
          have S473 := S467.mut x472 (all_cons (.head _) (all_cons (.tail _ (.head _)) (all_cons (.tail _ (.tail _ (.head _))) all_nil))) (all_cons (some_ne h474) (all_cons (some_ne h475) (all_cons (some_ne h476) all_nil)))
          have hw := cW_ok hw
          have hw := hK436 _ hw
          exact ⟨(v470), _, rfl, (Same.refl _), S473, h474, h475, h476, hw⟩
        · have hw := cW_neg c460 hw
          have hw := cW_ok hw
          have hw := hK436 _ hw
          have h481 := (x456 _ _ (x449 _ _ h_l_self_probs (ne_of h_l_self_probs h_p_self (fun z => nomatch z))) (ne_of h_l_self_probs h_p_self (fun z => nomatch z)))
          have h482 := (x456 _ _ (x449 _ _ h_l_self_front (ne_of h_l_self_front h_p_self (fun z => nomatch z))) (ne_of h_l_self_front h_p_self (fun z => nomatch z)))
          exact ⟨((⟨self'.probs, self'.front, (self'.low + ((self'.span / 4096) * chance')), (self'.span - ((self'.span / 4096) * chance'))⟩ : St_Encoder)), _, rfl, (Same.refl _), S459, h458, h481, h482, hw⟩
    · intro σ H483 hw
      obtain ⟨self_434, G488, rfl, eG489, S484, h485, h486, h487, hw⟩ := hw
      unfold F_Encoder__narrow_k1 at hw
      obtain ⟨K490, hK491, hw⟩ := cW_push hw
      refine ⟨fun m σ H' => ∃ (self_492 : St_Encoder) (G' : Hp), σ = [some (V.ref p_self), some (V.int (chance')), some (V.int (decision')), some (V.int (((self'.span / 4096) * chance')))] ∧ Same G488 G' ∧ Sep [p_self, l_self_probs, l_self_front] H G G' H' [p_self, l_self_probs, l_self_front] ∧ H' p_self = some (.ins AD.c_Encoder dx_self [("_probabilities", V.ref l_self_probs), ("_front", V.ref l_self_front), ("_low", V.int (self_492.low)), ("_span", V.int (self_492.span))]) ∧ H' l_self_probs = some (.lst ((self_492.probs : (List Int)).map V.int)) ∧ H' l_self_front = some (.lst ((self_492.front : (List Int)).map V.int)) ∧ cW (whileR m self_492 (fun s => F_Encoder__narrow_b2  s)) K490 EE, ?_, ?_⟩
      · exact ⟨_, ⟨(self_434), _, rfl, (Same.refl _), S484, h485, h486, h487, hw⟩⟩
      · intro m σ H493 hw
        obtain ⟨self_492, G498, rfl, eG499, S494, h495, h496, h497, hw⟩ := hw
        obtain ⟨m500, rfl, hw2⟩ := cW_whileR hw
        have hw := hw2
        have hw : cW (F_Encoder__narrow_b2  (self_492)) _ EE := hw
        unfold F_Encoder__narrow_b2 at hw
        obtain ⟨K502, hK503, hw⟩ := cW_name hw
        refine ⟨_, rfl, _, _, _, _, _, rfl, h495, T.cl_Encoder, T.n_Encoder__span, rfl, _, _, rfl, rfl, _, rfl, ?_⟩
        refine iteD (fun c504 => ?_) (fun c504 => ?_)
        · have hw := cW_pos c504 hw
          refine ⟨(fun σ H' => ∃ m, (∃ (self_492 : St_Encoder) (G' : Hp), σ = [some (V.ref p_self), some (V.int (chance')), some (V.int (decision')), some (V.int (((self'.span / 4096) * chance')))] ∧ Same G488 G' ∧ Sep [p_self, l_self_probs, l_self_front] H G G' H' [p_self, l_self_probs, l_self_front] ∧ H' p_self = some (.ins AD.c_Encoder dx_self [("_probabilities", V.ref l_self_probs), ("_front", V.ref l_self_front), ("_low", V.int (self_492.low)), ("_span", V.int (self_492.span))]) ∧ H' l_self_probs = some (.lst ((self_492.probs : (List Int)).map V.int)) ∧ H' l_self_front = some (.lst ((self_492.front : (List Int)).map V.int)) ∧ cW (whileR m self_492 (fun s => F_Encoder__narrow_b2  s)) K490 EE) ∧ m < m500 + 1), (fun _ _ ⟨m', a, b⟩ => ⟨m', b, a⟩), ?_⟩
          obtain ⟨g505, hw⟩ := cW_grd hw
          refine ⟨_, rfl, _, _, _, _, _, rfl, h495, T.cl_Encoder, T.n_Encoder__front, rfl, (.inl ⟨rfl, _, SqL.of h497⟩), _, rfl, _, _, _, _, _, rfl, h495, T.cl_Encoder, T.n_Encoder__low, rfl, _, _, rfl, rfl, (show (0 : Int) ≤ 24 by decide), _, _, _, rfl, rfl, h497, (app_lenM g505), ?_⟩
          generalize g506 : upd H493 l_self_front _ = H507
          obtain ⟨x508, h509⟩ := gen_mut g506
          have h510 : H507 l_self_front = some (.lst (((self_492.front) ++ [(self_492.low / 16777216)] : (List Int)).map V.int)) := snoc_map h509
          have S511 := S494.mut1 x508 (.tail _ (.tail _ (.head _))) h510
          have hw := cW_bnd hw
          have h513 := (x508 _ _ h495 (ne_of h495 h497 (fun z => nomatch z)))
          obtain ⟨g514, hw⟩ := cW_grd hw
          have hw := cW_bnd hw
          refine ⟨_, rfl, _, _, _, _, _, rfl, h513, T.cl_Encoder, T.n_Encoder__low, rfl, _, _, rfl, rfl, (shl_side g514.1 g514.2.1 g514.2.2.1 g514.2.2.2), _, _, rfl, rfl, _, _, rfl, rfl, _, rfl, _, _, _, _, rfl, h513, T.cl_Encoder, T.n_Encoder__low, (by show 4 < 1000; decide), ?_⟩
          generalize g516 : upd H507 p_self _ = H517
          obtain ⟨x518, h519⟩ := gen_mut g516
          have h520 : H517 p_self = some (.ins AD.c_Encoder dx_self [("_probabilities", V.ref l_self_probs), ("_front", V.ref l_self_front), ("_low", V.int ((PySem.Builtin.bitAnd ((self_492.low * 2 ^ Int.toNat (8))) ((4294967296 - 1))))), ("_span", V.int (self_492.span))]) := h519
          have S521 := S511.mut1 x518 (.head _) h520
          obtain ⟨g522, hw⟩ := cW_grd hw
          have hw := cW_bnd hw
          refine ⟨_, rfl, _, _, _, _, _, rfl, h520, T.cl_Encoder, T.n_Encoder__span, rfl, _, _, rfl, rfl, (shl_side g522.1 g522.2.1 g522.2.2.1 g522.2.2.2), _, _, h520, (by show 4 < 1000; decide), ?_⟩
          generalize g524 : upd H517 p_self _ = H525
          obtain ⟨x526, h527⟩ := gen_mut g524
          have h528 : H525 p_self = some (.ins AD.c_Encoder dx_self [("_probabilities", V.ref l_self_probs), ("_front", V.ref l_self_front), ("_low", V.int ((PySem.Builtin.bitAnd ((self_492.low * 2 ^ Int.toNat (8))) ((4294967296 - 1))))), ("_span", V.int ((self_492.span * 2 ^ Int.toNat (8))))]) := h527
          have S529 := S521.mut1 x526 (.head _) h528
          have hw := cW_ok hw
          have hw := hK503 _ hw
          have h530 := (x526 _ _ (x518 _ _ (x508 _ _ h496 ne_self_0) (ne_of h496 h495 (fun z => nomatch z))) (ne_of h496 h495 (fun z => nomatch z)))
          have h531 := (x526 _ _ (x518 _ _ h510 (ne_of h510 h513 (fun z => nomatch z))) (ne_of h510 h513 (fun z => nomatch z)))
          exact ⟨m500, ⟨((⟨self_492.probs, (self_492.front) ++ [(self_492.low / 16777216)], (PySem.Builtin.bitAnd ((self_492.low * 2 ^ Int.toNat (8))) ((4294967296 - 1))), (self_492.span * 2 ^ Int.toNat (8))⟩ : St_Encoder)), _, rfl, eG499, S529, h528, h530, h531, hw⟩, Nat.lt_succ_self _⟩
        · have hw := cW_neg c504 hw
          have hw := cW_ok hw
          have hw := hK503 _ hw
          have hw := cW_aftgo (hK491 (.go _) hw)
          have hw : cW (F_Encoder__narrow_r2  (self_492)) _ EE := hw
          unfold F_Encoder__narrow_r2 at hw
          have hw := cW_ok hw
          exact hK0 _ hw _ S494.base h495 h496 h497

abbrev N_Encoder_code : List Str := ["self", "context", "decision", "chance"]
theorem sc_Encoder_code : FnScope N_Encoder_code ["self", "context", "decision"] (defScope s_Encoder_code) := ⟨rfl, rfl, rfl, by decide +kernel, rfl, by decide +kernel, by decide +kernel⟩
theorem ok_Encoder_code (D : MethX K AD.c_Encoder "Encoder.code" "code" s_Encoder_code ["self", "context", "decision"] pats_Encoder_code) (T : Txt K mg AD) (c__check_context : CalX P w K mg base 1 "_check_context" (sp__check_context K AD) pats__check_context) (c__check_decision : CalX P w K mg base 1 "_check_decision" (sp__check_decision K AD) pats__check_decision) (c_Encoder__narrow : MetX P w K mg base 2 AD.c_Encoder "_narrow" (sp_Encoder__narrow K AD) pats_Encoder__narrow) (c__adapted : CalX P w K mg base 1 "_adapted" (sp__adapted K AD) pats__adapted) : MetX P w K mg base 3 AD.c_Encoder "code" (sp_Encoder_code K AD) pats_Encoder_code := by
  refine D.ok T.cl_Encoder sc_Encoder_code (fun vs H Q E h => ?_) (fun f cdv A_ outer s H vs Q E hr h => ?_)
  · obtain ⟨G, p_self, l_self_probs, l_self_front, dx_self, self', context', decision', rfl, _⟩ := h
    rfl
  · obtain ⟨G, p_self, l_self_probs, l_self_front, dx_self, self', context', decision', rfl, sG, gM, h_p_self, h_l_self_probs, h_l_self_front, ne_self_0, hw⟩ := h
    refine ⟨_, (pss_cons (ps_expr (vx_callX c__check_context pat__check_context_0 (.head _) hr (by decide) (takes_of rfl rfl rfl rfl) rfl (pa_cons (pv 1) pa_nil) pk_nil))
      (pss_cons (ps_expr (vx_callX c__check_decision pat__check_decision_0 (.head _) hr (by decide) (takes_of rfl rfl rfl rfl) rfl (pa_cons (pv 2) pa_nil) pk_nil))
      (pss_cons (ps_set (i := 3) sc_Encoder_code.nd rfl (Or.inl rfl) (pe_ix (ix_listK (K := K)) (fldK (K := K) (pv 0)) (pv 1) (fun _ _ => rfl)))
      (pss_cons (ps_expr (vx_methX c_Encoder__narrow pat_Encoder__narrow_0 (.head _) hr (by decide) (takes_of rfl rfl rfl rfl) (pv 0) (pa_cons (pv 3) (pa_cons (pv 2) pa_nil)) pk_nil))
      (pss_one (ps_asg (vx_callX c__adapted pat__adapted_0 (.head _) hr (by decide) (takes_of rfl rfl rfl rfl) rfl (pa_cons (pv 3) (pa_cons (pv 2) pa_nil)) pk_nil) (pg_sub (fldK (K := K) (pv 0)) (pv 1) set_list))))))), ?_⟩
    obtain ⟨KK, EE, hK0, hE, hw⟩ := cW_gen hw
    have S0 := Sep.startM (M := [p_self, l_self_probs, l_self_front]) sG (all_cons (some_ne h_p_self) (all_cons (some_ne h_l_self_probs) (all_cons (some_ne h_l_self_front) all_nil))) gM
    unfold F_Encoder_code at hw
    refine ⟨_, rfl, rfl, rfl, G, _, rfl, S0.sG, cW_call hw (fun v533 hw => ?_) (fun e he => hE e he _ (Same.refl _))⟩
    refine ⟨_, rfl, rfl, rfl, G, _, rfl, S0.sG, cW_call hw (fun v534 hw => ?_) (fun e he => hE e he _ (Same.refl _))⟩
    obtain ⟨g535, hw⟩ := cW_grd hw
    refine ⟨_, rfl, _, _, _, _, _, rfl, h_p_self, T.cl_Encoder, T.n_Encoder__probabilities, rfl, _, rfl, _, _, _, _, rfl, rfl, (SqL.of h_l_self_probs), (atI_map g535), ?_⟩
    have hw := cW_bnd hw
    refine ⟨_, rfl, _, _, _, rfl, h_p_self, rfl, _, rfl, _, rfl, rfl, rfl, G, _, _, _, _, self', _, _, rfl, S0.sG, (S0.gno (all_cons (.head _) (all_cons (.tail _ (.head _)) (all_cons (.tail _ (.tail _ (.head _))) all_nil)))), h_p_self, h_l_self_probs, h_l_self_front, ne_self_0, cW_call hw (fun v537 hw H538 x539 h541 h542 h543  => ?_) (fun e he H2 e2 => hE e he H2 (Same.trans (Same.refl _) e2))⟩
    have S540 := S0.mut x539 (all_cons (.head _) (all_cons (.tail _ (.head _)) (all_cons (.tail _ (.tail _ (.head _))) all_nil))) (all_cons (some_ne h541) (all_cons (some_ne h542) (all_cons (some_ne h543) all_nil)))
    refine ⟨_, rfl, _, rfl, rfl, rfl, G, _, _, rfl, S540.sG, cW_callN hw (fun v548 hw => ?_) trivial⟩
    obtain ⟨g549, hw⟩ := cW_grd hw
    refine ⟨_, rfl, _, _, _, _, _, rfl, h541, T.cl_Encoder, T.n_Encoder__probabilities, rfl, _, rfl, _, _, _, _, rfl, rfl, h542, (ixN_map g549), ?_⟩
    generalize g550 : upd H538 l_self_probs _ = H551
    obtain ⟨x552, h553⟩ := gen_mut g550
    have h554 : H551 l_self_probs = some (.lst ((setL (v537.probs) (context') (v548) : (List Int)).map V.int)) := set_map h553
    have S555 := S540.mut1 x552 (.tail _ (.head _)) h554
    have hw := cW_bnd hw
    have h557 := (x552 _ _ h541 (ne_of h541 h542 (fun z => nomatch z)))
    have h558 := (x552 _ _ h543 (ne_self_0).symm)
    have hw := cW_ok hw
    exact hK0 _ hw _ S555.base h557 h554 h558

abbrev N_SymbolWriter_flag : List Str := ["self", "base", "value"]
theorem sc_SymbolWriter_flag : FnScope N_SymbolWriter_flag ["self", "base", "value"] (defScope s_SymbolWriter_flag) := ⟨rfl, rfl, rfl, by decide +kernel, rfl, by decide +kernel, by decide +kernel⟩
theorem ok_SymbolWriter_flag (D : MethX K AD.c_SymbolWriter "SymbolWriter.flag" "flag" s_SymbolWriter_flag ["self", "base", "value"] pats_SymbolWriter_flag) (T : Txt K mg AD) (c__check_contexts : CalX P w K mg base 1 "_check_contexts" (sp__check_contexts K AD) pats__check_contexts) (c_Encoder_code : MetX P w K mg base 3 AD.c_Encoder "code" (sp_Encoder_code K AD) pats_Encoder_code) : MetX P w K mg base 4 AD.c_SymbolWriter "flag" (sp_SymbolWriter_flag K AD) pats_SymbolWriter_flag := by
  refine D.ok T.cl_SymbolWriter sc_SymbolWriter_flag (fun vs H Q E h => ?_) (fun f cdv A_ outer s H vs Q E hr h => ?_)
  · obtain ⟨G, p_self, p_self_enc, l_self_enc_probs, l_self_enc_front, dx_self, dx_self_enc, self', base', value', rfl, _⟩ := h
    rfl
  · obtain ⟨G, p_self, p_self_enc, l_self_enc_probs, l_self_enc_front, dx_self, dx_self_enc, self', base', value', rfl, sG, gM, h_p_self, h_p_self_enc, h_l_self_enc_probs, h_l_self_enc_front, ne_self_0, ne_self_1, hw⟩ := h
    refine ⟨_, (pss_cons (ps_expr (vx_callX c__check_contexts pat__check_contexts_0 (.head _) hr (by decide) (takes_of rfl rfl rfl rfl) rfl (pa_cons (pv 1) (pa_cons pe_int pa_nil)) pk_nil))
      (pss_one (ps_expr (vx_methX c_Encoder_code pat_Encoder_code_0 (.head _) hr (by decide) (takes_of rfl rfl rfl rfl) (fldK (K := K) (pv 0)) (pa_cons (pv 1) (pa_cons (pe_ifExp (pt_val (pv 2)) pe_int pe_int) pa_nil)) pk_nil)))), ?_⟩
    obtain ⟨KK, EE, hK0, hE, hw⟩ := cW_gen hw
    have S0 := Sep.startM (M := [p_self, p_self_enc, l_self_enc_probs, l_self_enc_front]) sG (all_cons (some_ne h_p_self) (all_cons (some_ne h_p_self_enc) (all_cons (some_ne h_l_self_enc_probs) (all_cons (some_ne h_l_self_enc_front) all_nil)))) gM
    unfold F_SymbolWriter_flag at hw
    refine ⟨_, rfl, rfl, rfl, G, _, _, rfl, S0.sG, cW_call hw (fun v559 hw => ?_) (fun e he => hE e he _ (Same.refl _))⟩
    refine ⟨_, rfl, _, _, _, _, _, rfl, h_p_self, T.cl_SymbolWriter, T.n_SymbolWriter__encoder, rfl, _, _, _, rfl, h_p_self_enc, rfl, _, rfl, ?_⟩
    refine vv_ifb (vt_val (val_var rfl)) val_c val_c _ ?_
    refine ⟨rfl, rfl, G, _, _, _, _, self'.enc, _, _, rfl, S0.sG, (S0.gno (all_cons (.tail _ (.head _)) (all_cons (.tail _ (.tail _ (.head _))) (all_cons (.tail _ (.tail _ (.tail _ (.head _)))) all_nil)))), h_p_self_enc, h_l_self_enc_probs, h_l_self_enc_front, ne_self_0, cW_call hw (fun v563 hw H564 x565 h567 h568 h569  => ?_) (fun e he H2 e2 => hE e he H2 (Same.trans (Same.refl _) e2))⟩
    have S566 := S0.mut x565 (all_cons (.tail _ (.head _)) (all_cons (.tail _ (.tail _ (.head _))) (all_cons (.tail _ (.tail _ (.tail _ (.head _)))) all_nil))) (all_cons (some_ne h567) (all_cons (some_ne h568) (all_cons (some_ne h569) all_nil)))
    have h574 := (x565 _ _ h_p_self (ni3 ne_self_1 (ne_of h_p_self h_l_self_enc_probs (fun z => nomatch z)) (ne_of h_p_self h_l_self_enc_front (fun z => nomatch z))))
    have hw := cW_ok hw
    exact hK0 _ hw _ S566.base h574 h567 h568 h569

abbrev N_Decoder__shift : List Str := ["self", "octet"]
theorem sc_Decoder__shift : FnScope N_Decoder__shift ["self"] (defScope s_Decoder__shift) := ⟨rfl, rfl, rfl, by decide +kernel, rfl, by decide +kernel, by decide +kernel⟩
theorem ok_Decoder__shift (D : MethX K AD.c_Decoder "Decoder._shift" "_shift" s_Decoder__shift ["self"] pats_Decoder__shift) (T : Txt K mg AD)  : MetX P w K mg base 1 AD.c_Decoder "_shift" (sp_Decoder__shift K AD) pats_Decoder__shift := by
  refine D.ok T.cl_Decoder sc_Decoder__shift (fun vs H Q E h => ?_) (fun f cdv A_ outer s H vs Q E hr h => ?_)
  · obtain ⟨G, p_self, l_self_probs, l_self_octs, dx_self, self', rfl, _⟩ := h
    rfl
  · obtain ⟨G, p_self, l_self_probs, l_self_octs, dx_self, self', rfl, sG, gM, h_p_self, h_l_self_probs, h_l_self_octs, ne_self_0, hw⟩ := h
    refine ⟨_, (pss_cons (ps_set (i := 1) sc_Decoder__shift.nd rfl (Or.inl rfl) pe_int)
      (C8.pss_cut (ps_if (pt_cmp (pc_lt (fldK (K := K) (pv 0)) (pe_callB (call_lenLiK (K := K)) (by rfl) T.b_len (by decide +kernel) (pa_cons (fldK (K := K) (pv 0)) pa_nil)))) (pss_cons (ps_set (i := 1) sc_Decoder__shift.nd rfl (Or.inl rfl) (pe_ix (ix_listK (K := K)) (fldK (K := K) (pv 0)) (fldK (K := K) (pv 0)) (fun _ _ => rfl)))
      (pss_one (ps_fldaug (pv 0) pe_int (pip iop_add)))) pss_nil)
      (pss_one (ps_fld (pv 0) (pe_op op_or (pe_op op_shlW (fldK (K := K) (pv 0)) pe_int) (pv 1)) rfl)))), ?_⟩
    obtain ⟨KK, EE, hK0, hE, hw⟩ := cW_gen hw
    have S0 := Sep.startM (M := [p_self, l_self_probs, l_self_octs]) sG (all_cons (some_ne h_p_self) (all_cons (some_ne h_l_self_probs) (all_cons (some_ne h_l_self_octs) all_nil))) gM
    unfold F_Decoder__shift at hw
    refine ⟨fun σ H' => ∃ (self_577 : St_Decoder) (octet_578 : Int) (G' : Hp), σ = [some (V.ref p_self), some (V.int octet_578)] ∧ Same G G' ∧ Sep [p_self, l_self_probs, l_self_octs] H G G' H' [p_self, l_self_probs, l_self_octs] ∧ H' p_self = some (.ins AD.c_Decoder dx_self [("_probabilities", V.ref l_self_probs), ("_octets", V.ref l_self_octs), ("_place", V.int (self_577.place)), ("_span", V.int (self_577.span)), ("_value", V.int (self_577.value))]) ∧ H' l_self_probs = some (.lst ((self_577.probs : (List Int)).map V.int)) ∧ H' l_self_octs = some (.lst ((self_577.octs : (List Int)).map V.int)) ∧ cW (F_Decoder__shift_k1  self_577 octet_578) KK EE, ?_, ?_⟩
    · obtain ⟨K579, hK580, hw⟩ := cW_push hw
      refine ⟨_, rfl, _, _, _, _, _, rfl, h_p_self, T.cl_Decoder, T.n_Decoder__place, rfl, _, rfl, _, _, _, _, _, rfl, h_p_self, T.cl_Decoder, T.n_Decoder__octets, rfl, _, _, rfl, (SqL.of h_l_self_octs), _, _, rfl, rfl, _, rfl, ?_⟩
      refine iteD (fun c581 => ?_) (fun c581 => ?_)
      · have hw := cW_pos c581 hw
        obtain ⟨g582, hw⟩ := cW_grd hw
        refine ⟨_, rfl, _, _, _, _, _, rfl, h_p_self, T.cl_Decoder, T.n_Decoder__octets, rfl, _, rfl, _, _, _, _, _, rfl, h_p_self, T.cl_Decoder, T.n_Decoder__place, rfl, _, _, _, _, rfl, rfl, (SqL.of h_l_self_octs), (atI_map g582), ?_⟩
        have hw := cW_bnd hw
        have hw := cW_bnd hw
        refine ⟨_, rfl, _, _, _, _, _, rfl, h_p_self, T.cl_Decoder, T.n_Decoder__place, rfl, _, _, rfl, rfl, _, _, h_p_self, (by show 5 < 1000; decide), ?_⟩
        generalize g585 : upd H p_self _ = H586
        obtain ⟨x587, h588⟩ := gen_mut g585
        have h589 : H586 p_self = some (.ins AD.c_Decoder dx_self [("_probabilities", V.ref l_self_probs), ("_octets", V.ref l_self_octs), ("_place", V.int ((self'.place + 1))), ("_span", V.int (self'.span)), ("_value", V.int (self'.value))]) := h588
        have S590 := S0.mut1 x587 (.head _) h589
        have hw := cW_ok hw
        have hw := hK580 _ hw
        have h591 := (x587 _ _ h_l_self_probs (ne_of h_l_self_probs h_p_self (fun z => nomatch z)))
        have h592 := (x587 _ _ h_l_self_octs (ne_of h_l_self_octs h_p_self (fun z => nomatch z)))
        exact ⟨((⟨self'.probs, self'.octs, (self'.place + 1), self'.span, self'.value⟩ : St_Decoder)), ((itD (self'.octs) (self'.place))), _, rfl, (Same.refl _), S590, h589, h591, h592, hw⟩
      · have hw := cW_neg c581 hw
        have hw := cW_ok hw
        have hw := hK580 _ hw
        exact ⟨(self'), (0), _, rfl, (Same.refl _), S0, h_p_self, h_l_self_probs, h_l_self_octs, hw⟩
    · intro σ H593 hw
      obtain ⟨self_577, octet_578, G598, rfl, eG599, S594, h595, h596, h597, hw⟩ := hw
      unfold F_Decoder__shift_k1 at hw
      obtain ⟨g600, hw⟩ := cW_grd hw
      have hw := cW_bnd hw
      refine ⟨_, rfl, _, _, _, _, _, rfl, h595, T.cl_Decoder, T.n_Decoder__value, rfl, _, _, rfl, rfl, (shl_side g600.1 g600.2.1 g600.2.2.1 g600.2.2.2), _, rfl, _, _, rfl, rfl, _, rfl, _, _, _, _, rfl, h595, T.cl_Decoder, T.n_Decoder__value, (by show 5 < 1000; decide), ?_⟩
      generalize g602 : upd H593 p_self _ = H603
      obtain ⟨x604, h605⟩ := gen_mut g602
      have h606 : H603 p_self = some (.ins AD.c_Decoder dx_self [("_probabilities", V.ref l_self_probs), ("_octets", V.ref l_self_octs), ("_place", V.int (self_577.place)), ("_span", V.int (self_577.span)), ("_value", V.int ((PySem.Builtin.bitOr ((self_577.value * 2 ^ Int.toNat (8))) (octet_578))))]) := h605
      have S607 := S594.mut1 x604 (.head _) h606
      have h608 := (x604 _ _ h596 (ne_of h596 h595 (fun z => nomatch z)))
      have h609 := (x604 _ _ h597 (ne_of h597 h595 (fun z => nomatch z)))
      have hw := cW_ok hw
      exact hK0 _ hw _ S607.base h606 h608 h609

abbrev N_Decoder__decide : List Str := ["self", "chance", "part", "decision"]
theorem sc_Decoder__decide : FnScope N_Decoder__decide ["self", "chance"] (defScope s_Decoder__decide) := ⟨rfl, rfl, rfl, by decide +kernel, rfl, by decide +kernel, by decide +kernel⟩
theorem ok_Decoder__decide (D : MethX K AD.c_Decoder "Decoder._decide" "_decide" s_Decoder__decide ["self", "chance"] pats_Decoder__decide) (T : Txt K mg AD) (c_Decoder__shift : MetX P w K mg base 1 AD.c_Decoder "_shift" (sp_Decoder__shift K AD) pats_Decoder__shift) : MetX P w K mg base 2 AD.c_Decoder "_decide" (sp_Decoder__decide K AD) pats_Decoder__decide := by
  refine D.ok T.cl_Decoder sc_Decoder__decide (fun vs H Q E h => ?_) (fun f cdv A_ outer s H vs Q E hr h => ?_)
  · obtain ⟨G, p_self, l_self_probs, l_self_octs, dx_self, self', chance', rfl, _⟩ := h
    rfl
  · obtain ⟨G, p_self, l_self_probs, l_self_octs, dx_self, self', chance', rfl, sG, gM, h_p_self, h_l_self_probs, h_l_self_octs, ne_self_0, hw⟩ := h
    refine ⟨_, (pss_cons (ps_set (i := 2) sc_Decoder__decide.nd rfl (Or.inl rfl) (pe_op op_mul (pe_op op_shr (fldK (K := K) (pv 0)) (C8.pe_gc rfl T.g_SCALE_BITS)) (pv 1)))
      (pss_cons (ps_set (i := 3) sc_Decoder__decide.nd rfl (Or.inl rfl) (pe_ifExp (pt_cmp (pc_lt (fldK (K := K) (pv 0)) (pv 2))) pe_int pe_int))
      (C8.pss_cut (ps_if (pt_cmp (pc_eqI (pv 3) pe_int)) (pss_one (ps_fld (pv 0) (pv 2) rfl)) (pss_cons (ps_fldaug (pv 0) (pv 2) (pip iop_sub))
      (pss_one (ps_fldaug (pv 0) (pv 2) (pip iop_sub)))))
      (pss_cons (ps_while (passes_of rfl) (pt_cmp (pc_lt (fldK (K := K) (pv 0)) (C8.pe_gc rfl T.g_LEAST_SPAN))) (pss_cons (ps_expr (vx_methX0 c_Decoder__shift pat_Decoder__shift_0 (.head _) hr (by decide) (takes_of rfl rfl rfl rfl) (pv 0)))
      (pss_one (ps_fldaug (pv 0) pe_int (pip iop_shlW)))))
      (pss_one (ps_ret (pv 3))))))), ?_⟩
    obtain ⟨KK, EE, hK0, hE, hw⟩ := cW_gen hw
    have S0 := Sep.startM (M := [p_self, l_self_probs, l_self_octs]) sG (all_cons (some_ne h_p_self) (all_cons (some_ne h_l_self_probs) (all_cons (some_ne h_l_self_octs) all_nil))) gM
    unfold F_Decoder__decide at hw
    obtain ⟨g610, hw⟩ := cW_grd hw
    refine ⟨_, rfl, _, _, _, _, _, rfl, h_p_self, T.cl_Decoder, T.n_Decoder__span, rfl, _, _, rfl, rfl, (show (0 : Int) ≤ 12 by decide), _, rfl, _, _, rfl, rfl, g610, ?_⟩
    have hw := cW_bnd hw
    refine vv_if (vt_cmp (vv_cmp (val_fld (val_var rfl) h_p_self T.cl_Decoder T.n_Decoder__value rfl) (val_var rfl) (fun Q q => ⟨_, _, rfl, rfl, q⟩))) val_c val_c _ ?_
    have hw := cW_bnd hw
    refine ⟨fun σ H' => ∃ (self_618 : St_Decoder) (G' : Hp), σ = [some (V.ref p_self), some (V.int (chance')), some (V.int (((self'.span / 4096) * chance'))), some (V.int ((if self'.value < ((self'.span / 4096) * chance') then 0 else 1)))] ∧ Same G G' ∧ Sep [p_self, l_self_probs, l_self_octs] H G G' H' [p_self, l_self_probs, l_self_octs] ∧ H' p_self = some (.ins AD.c_Decoder dx_self [("_probabilities", V.ref l_self_probs), ("_octets", V.ref l_self_octs), ("_place", V.int (self_618.place)), ("_span", V.int (self_618.span)), ("_value", V.int (self_618.value))]) ∧ H' l_self_probs = some (.lst ((self_618.probs : (List Int)).map V.int)) ∧ H' l_self_octs = some (.lst ((self_618.octs : (List Int)).map V.int)) ∧ cW (F_Decoder__decide_k1 ((if self'.value < ((self'.span / 4096) * chance') then 0 else 1)) self_618) KK EE, ?_, ?_⟩
    · obtain ⟨K619, hK620, hw⟩ := cW_push hw
      refine ⟨_, rfl, _, _, rfl, rfl, _, rfl, ?_⟩
      refine iteD (fun c621 => ?_) (fun c621 => ?_)
      · have hw := cW_pos c621 hw
        refine ⟨_, rfl, _, rfl, _, _, _, _, rfl, h_p_self, T.cl_Decoder, T.n_Decoder__span, (by show 5 < 1000; decide), ?_⟩
        generalize g622 : upd H p_self _ = H623
        obtain ⟨x624, h625⟩ := gen_mut g622
        have h626 : H623 p_self = some (.ins AD.c_Decoder dx_self [("_probabilities", V.ref l_self_probs), ("_octets", V.ref l_self_octs), ("_place", V.int (self'.place)), ("_span", V.int (((self'.span / 4096) * chance'))), ("_value", V.int (self'.value))]) := h625
        have S627 := S0.mut1 x624 (.head _) h626
        have hw := cW_ok hw
        have hw := hK620 _ hw
        have h628 := (x624 _ _ h_l_self_probs (ne_of h_l_self_probs h_p_self (fun z => nomatch z)))
        have h629 := (x624 _ _ h_l_self_octs (ne_of h_l_self_octs h_p_self (fun z => nomatch z)))
        exact ⟨((⟨self'.probs, self'.octs, self'.place, ((self'.span / 4096) * chance'), self'.value⟩ : St_Decoder)), _, rfl, (Same.refl _), S627, h626, h628, h629, hw⟩
      · have hw := cW_neg c621 hw
        have hw := cW_bnd hw
        refine ⟨_, rfl, _, _, _, _, _, rfl, h_p_self, T.cl_Decoder, T.n_Decoder__value, rfl, _, rfl, _, _, rfl, rfl, _, _, h_p_self, (by show 5 < 1000; decide), ?_⟩
        generalize g631 : upd H p_self _ = H632
        obtain ⟨x633, h634⟩ := gen_mut g631
        have h635 : H632 p_self = some (.ins AD.c_Decoder dx_self [("_probabilities", V.ref l_self_probs), ("_octets", V.ref l_self_octs), ("_place", V.int (self'.place)), ("_span", V.int (self'.span)), ("_value", V.int ((self'.value - ((self'.span / 4096) * chance'))))]) := h634
        have S636 := S0.mut1 x633 (.head _) h635
        have hw := cW_bnd hw
        refine ⟨_, rfl, _, _, _, _, _, rfl, h635, T.cl_Decoder, T.n_Decoder__span, rfl, _, rfl, _, _, rfl, rfl, _, _, h635, (by show 5 < 1000; decide), ?_⟩
        generalize g638 : upd H632 p_self _ = H639
        obtain ⟨x640, h641⟩ := gen_mut g638
        have h642 : H639 p_self = some (.ins AD.c_Decoder dx_self [("_probabilities", V.ref l_self_probs), ("_octets", V.ref l_self_octs), ("_place", V.int (self'.place)), ("_span", V.int ((self'.span - ((self'.span / 4096) * chance')))), ("_value", V.int ((self'.value - ((self'.span / 4096) * chance'))))]) := h641
        have S643 := S636.mut1 x640 (.head _) h642
        have hw := cW_ok hw
        have hw := hK620 _ hw
        have h644 := (x640 _ _ (x633 _ _ h_l_self_probs (ne_of h_l_self_probs h_p_self (fun z => nomatch z))) (ne_of h_l_self_probs h_p_self (fun z => nomatch z)))
        have h645 := (x640 _ _ (x633 _ _ h_l_self_octs (ne_of h_l_self_octs h_p_self (fun z => nomatch z))) (ne_of h_l_self_octs h_p_self (fun z => nomatch z)))
        exact ⟨((⟨self'.probs, self'.octs, self'.place, (self'.span - ((self'.span / 4096) * chance')), (self'.value - ((self'.span / 4096) * chance'))⟩ : St_Decoder)), _, rfl, (Same.refl _), S643, h642, h644, h645, hw⟩
    · intro σ H646 hw
      obtain ⟨self_618, G651, rfl, eG652, S647, h648, h649, h650, hw⟩ := hw
      unfold F_Decoder__decide_k1 at hw
      obtain ⟨K654, hK655, hw⟩ := cW_push hw
      refine ⟨fun m σ H' => ∃ (self_656 : St_Decoder) (G' : Hp), σ = [some (V.ref p_self), some (V.int (chance')), some (V.int (((self'.span / 4096) * chance'))), some (V.int ((if self'.value < ((self'.span / 4096) * chance') then 0 else 1)))] ∧ Same G651 G' ∧ Sep [p_self, l_self_probs, l_self_octs] H G G' H' [p_self, l_self_probs, l_self_octs] ∧ H' p_self = some (.ins AD.c_Decoder dx_self [("_probabilities", V.ref l_self_probs), ("_octets", V.ref l_self_octs), ("_place", V.int (self_656.place)), ("_span", V.int (self_656.span)), ("_value", V.int (self_656.value))]) ∧ H' l_self_probs = some (.lst ((self_656.probs : (List Int)).map V.int)) ∧ H' l_self_octs = some (.lst ((self_656.octs : (List Int)).map V.int)) ∧ cW (whileR m self_656 (fun s => F_Decoder__decide_b2  s)) K654 EE, ?_, ?_⟩
      · exact ⟨_, ⟨(self_618), _, rfl, (Same.refl _), S647, h648, h649, h650, hw⟩⟩
      · intro m σ H657 hw
        obtain ⟨self_656, G662, rfl, eG663, S658, h659, h660, h661, hw⟩ := hw
        obtain ⟨m664, rfl, hw2⟩ := cW_whileR hw
        have hw := hw2
        have hw : cW (F_Decoder__decide_b2  (self_656)) _ EE := hw
        unfold F_Decoder__decide_b2 at hw
        obtain ⟨K666, hK667, hw⟩ := cW_name hw
        refine ⟨_, rfl, _, _, _, _, _, rfl, h659, T.cl_Decoder, T.n_Decoder__span, rfl, _, _, rfl, rfl, _, rfl, ?_⟩
        refine iteD (fun c668 => ?_) (fun c668 => ?_)
        · have hw := cW_pos c668 hw
          refine ⟨(fun σ H' => ∃ m, (∃ (self_656 : St_Decoder) (G' : Hp), σ = [some (V.ref p_self), some (V.int (chance')), some (V.int (((self'.span / 4096) * chance'))), some (V.int ((if self'.value < ((self'.span / 4096) * chance') then 0 else 1)))] ∧ Same G651 G' ∧ Sep [p_self, l_self_probs, l_self_octs] H G G' H' [p_self, l_self_probs, l_self_octs] ∧ H' p_self = some (.ins AD.c_Decoder dx_self [("_probabilities", V.ref l_self_probs), ("_octets", V.ref l_self_octs), ("_place", V.int (self_656.place)), ("_span", V.int (self_656.span)), ("_value", V.int (self_656.value))]) ∧ H' l_self_probs = some (.lst ((self_656.probs : (List Int)).map V.int)) ∧ H' l_self_octs = some (.lst ((self_656.octs : (List Int)).map V.int)) ∧ cW (whileR m self_656 (fun s => F_Decoder__decide_b2  s)) K654 EE) ∧ m < m664 + 1), (fun _ _ ⟨m', a, b⟩ => ⟨m', b, a⟩), ?_⟩
          refine ⟨_, rfl, _, _, _, rfl, h659, rfl, rfl, rfl, G662, _, _, _, _, self_656, rfl, S658.sG, (S658.gno (all_cons (.head _) (all_cons (.tail _ (.head _)) (all_cons (.tail _ (.tail _ (.head _))) all_nil)))), h659, h660, h661, ne_self_0, cW_callN hw (fun v669 hw H670 x671 h673 h674 h675  => ?_) trivial⟩
          have S672 := S658.mut x671 (all_cons (.head _) (all_cons (.tail _ (.head _)) (all_cons (.tail _ (.tail _ (.head _))) all_nil))) (all_cons (some_ne h673) (all_cons (some_ne h674) (all_cons (some_ne h675) all_nil)))
          obtain ⟨g680, hw⟩ := cW_grd hw
          have hw := cW_bnd hw
          refine ⟨_, rfl, _, _, _, _, _, rfl, h673, T.cl_Decoder, T.n_Decoder__span, rfl, _, _, rfl, rfl, (shl_side g680.1 g680.2.1 g680.2.2.1 g680.2.2.2), _, _, h673, (by show 5 < 1000; decide), ?_⟩
          generalize g682 : upd H670 p_self _ = H683
          obtain ⟨x684, h685⟩ := gen_mut g682
          have h686 : H683 p_self = some (.ins AD.c_Decoder dx_self [("_probabilities", V.ref l_self_probs), ("_octets", V.ref l_self_octs), ("_place", V.int (v669.place)), ("_span", V.int ((v669.span * 2 ^ Int.toNat (8)))), ("_value", V.int (v669.value))]) := h685
          have S687 := S672.mut1 x684 (.head _) h686
          have hw := cW_ok hw
          have hw := hK667 _ hw
          have h688 := (x684 _ _ h674 (ne_of h674 h673 (fun z => nomatch z)))
          have h689 := (x684 _ _ h675 (ne_of h675 h673 (fun z => nomatch z)))
          exact ⟨m664, ⟨((⟨v669.probs, v669.octs, v669.place, (v669.span * 2 ^ Int.toNat (8)), v669.value⟩ : St_Decoder)), _, rfl, eG663, S687, h686, h688, h689, hw⟩, Nat.lt_succ_self _⟩
        · have hw := cW_neg c668 hw
          have hw := cW_ok hw
          have hw := hK667 _ hw
          have hw := cW_aftgo (hK655 (.go _) hw)
          have hw : cW (F_Decoder__decide_r2 ((if self'.value < ((self'.span / 4096) * chance') then 0 else 1)) (self_656)) _ EE := hw
          unfold F_Decoder__decide_r2 at hw
          refine ⟨_, rfl, ?_⟩
          have hw := cW_ok hw
          exact hK0 _ hw _ S658.base h659 h660 h661

abbrev N_Decoder_read : List Str := ["self", "context", "chance", "decision"]
theorem sc_Decoder_read : FnScope N_Decoder_read ["self", "context"] (defScope s_Decoder_read) := ⟨rfl, rfl, rfl, by decide +kernel, rfl, by decide +kernel, by decide +kernel⟩
theorem ok_Decoder_read (D : MethX K AD.c_Decoder "Decoder.read" "read" s_Decoder_read ["self", "context"] pats_Decoder_read) (T : Txt K mg AD) (c__check_context : CalX P w K mg base 1 "_check_context" (sp__check_context K AD) pats__check_context) (c_Decoder__decide : MetX P w K mg base 2 AD.c_Decoder "_decide" (sp_Decoder__decide K AD) pats_Decoder__decide) (c__adapted : CalX P w K mg base 1 "_adapted" (sp__adapted K AD) pats__adapted) : MetX P w K mg base 3 AD.c_Decoder "read" (sp_Decoder_read K AD) pats_Decoder_read := by
  refine D.ok T.cl_Decoder sc_Decoder_read (fun vs H Q E h => ?_) (fun f cdv A_ outer s H vs Q E hr h => ?_)
  · obtain ⟨G, p_self, l_self_probs, l_self_octs, dx_self, self', context', rfl, _⟩ := h
    rfl
  · obtain ⟨G, p_self, l_self_probs, l_self_octs, dx_self, self', context', rfl, sG, gM, h_p_self, h_l_self_probs, h_l_self_octs, ne_self_0, hw⟩ := h
    refine ⟨_, (pss_cons (ps_expr (vx_callX c__check_context pat__check_context_0 (.head _) hr (by decide) (takes_of rfl rfl rfl rfl) rfl (pa_cons (pv 1) pa_nil) pk_nil))
      (pss_cons (ps_set (i := 2) sc_Decoder_read.nd rfl (Or.inl rfl) (pe_ix (ix_listK (K := K)) (fldK (K := K) (pv 0)) (pv 1) (fun _ _ => rfl)))
      (pss_cons (ps_set (i := 3) sc_Decoder_read.nd rfl (Or.inl rfl) (vx_methX c_Decoder__decide pat_Decoder__decide_0 (.head _) hr (by decide) (takes_of rfl rfl rfl rfl) (pv 0) (pa_cons (pv 2) pa_nil) pk_nil))
      (pss_cons (ps_asg (vx_callX c__adapted pat__adapted_0 (.head _) hr (by decide) (takes_of rfl rfl rfl rfl) rfl (pa_cons (pv 2) (pa_cons (pv 3) pa_nil)) pk_nil) (pg_sub (fldK (K := K) (pv 0)) (pv 1) set_list))
      (pss_one (ps_ret (pv 3))))))), ?_⟩
    obtain ⟨KK, EE, hK0, hE, hw⟩ := cW_gen hw
    have S0 := Sep.startM (M := [p_self, l_self_probs, l_self_octs]) sG (all_cons (some_ne h_p_self) (all_cons (some_ne h_l_self_probs) (all_cons (some_ne h_l_self_octs) all_nil))) gM
    unfold F_Decoder_read at hw
    refine ⟨_, rfl, rfl, rfl, G, _, rfl, S0.sG, cW_call hw (fun v691 hw => ?_) (fun e he => hE e he _ (Same.refl _))⟩
    obtain ⟨g692, hw⟩ := cW_grd hw
    refine ⟨_, rfl, _, _, _, _, _, rfl, h_p_self, T.cl_Decoder, T.n_Decoder__probabilities, rfl, _, rfl, _, _, _, _, rfl, rfl, (SqL.of h_l_self_probs), (atI_map g692), ?_⟩
    have hw := cW_bnd hw
    refine ⟨_, rfl, _, _, _, rfl, h_p_self, rfl, _, rfl, rfl, rfl, G, _, _, _, _, self', _, rfl, S0.sG, (S0.gno (all_cons (.head _) (all_cons (.tail _ (.head _)) (all_cons (.tail _ (.tail _ (.head _))) all_nil)))), h_p_self, h_l_self_probs, h_l_self_octs, ne_self_0, cW_call hw (fun v694 hw H695 x696 h698 h699 h700  => ?_) (fun e he H2 e2 => hE e he H2 (Same.trans (Same.refl _) e2))⟩
    have S697 := S0.mut x696 (all_cons (.head _) (all_cons (.tail _ (.head _)) (all_cons (.tail _ (.tail _ (.head _))) all_nil))) (all_cons (some_ne h698) (all_cons (some_ne h699) (all_cons (some_ne h700) all_nil)))
    refine ⟨_, rfl, _, rfl, rfl, rfl, G, _, _, rfl, S697.sG, cW_callN hw (fun v705 hw => ?_) trivial⟩
    obtain ⟨g706, hw⟩ := cW_grd hw
    refine ⟨_, rfl, _, _, _, _, _, rfl, h698, T.cl_Decoder, T.n_Decoder__probabilities, rfl, _, rfl, _, _, _, _, rfl, rfl, h699, (ixN_map g706), ?_⟩
    generalize g707 : upd H695 l_self_probs _ = H708
    obtain ⟨x709, h710⟩ := gen_mut g707
    have h711 : H708 l_self_probs = some (.lst ((setL (v694.2.probs) (context') (v705) : (List Int)).map V.int)) := set_map h710
    have S712 := S697.mut1 x709 (.tail _ (.head _)) h711
    have hw := cW_bnd hw
    refine ⟨_, rfl, ?_⟩
    have h714 := (x709 _ _ h698 (ne_of h698 h699 (fun z => nomatch z)))
    have h715 := (x709 _ _ h700 (ne_self_0).symm)
    have hw := cW_ok hw
    exact hK0 _ hw _ S712.base h714 h711 h715

abbrev N_SymbolReader_flag : List Str := ["self", "base"]
theorem sc_SymbolReader_flag : FnScope N_SymbolReader_flag ["self", "base"] (defScope s_SymbolReader_flag) := ⟨rfl, rfl, rfl, by decide +kernel, rfl, by decide +kernel, by decide +kernel⟩
theorem ok_SymbolReader_flag (D : MethX K AD.c_SymbolReader "SymbolReader.flag" "flag" s_SymbolReader_flag ["self", "base"] pats_SymbolReader_flag) (T : Txt K mg AD) (c__check_contexts : CalX P w K mg base 1 "_check_contexts" (sp__check_contexts K AD) pats__check_contexts) (c_Decoder_read : MetX P w K mg base 3 AD.c_Decoder "read" (sp_Decoder_read K AD) pats_Decoder_read) : MetX P w K mg base 4 AD.c_SymbolReader "flag" (sp_SymbolReader_flag K AD) pats_SymbolReader_flag := by
  refine D.ok T.cl_SymbolReader sc_SymbolReader_flag (fun vs H Q E h => ?_) (fun f cdv A_ outer s H vs Q E hr h => ?_)
  · obtain ⟨G, p_self, p_self_dec, l_self_dec_probs, l_self_dec_octs, dx_self, dx_self_dec, self', base', rfl, _⟩ := h
    rfl
  · obtain ⟨G, p_self, p_self_dec, l_self_dec_probs, l_self_dec_octs, dx_self, dx_self_dec, self', base', rfl, sG, gM, h_p_self, h_p_self_dec, h_l_self_dec_probs, h_l_self_dec_octs, ne_self_0, ne_self_1, hw⟩ := h
    refine ⟨_, (pss_cons (ps_expr (vx_callX c__check_contexts pat__check_contexts_0 (.head _) hr (by decide) (takes_of rfl rfl rfl rfl) rfl (pa_cons (pv 1) (pa_cons pe_int pa_nil)) pk_nil))
      (pss_one (ps_ret (pe_cmp (pc_eqI (vx_methX c_Decoder_read pat_Decoder_read_0 (.head _) hr (by decide) (takes_of rfl rfl rfl rfl) (fldK (K := K) (pv 0)) (pa_cons (pv 1) pa_nil) pk_nil) pe_int))))), ?_⟩
    obtain ⟨KK, EE, hK0, hE, hw⟩ := cW_gen hw
    have S0 := Sep.startM (M := [p_self, p_self_dec, l_self_dec_probs, l_self_dec_octs]) sG (all_cons (some_ne h_p_self) (all_cons (some_ne h_p_self_dec) (all_cons (some_ne h_l_self_dec_probs) (all_cons (some_ne h_l_self_dec_octs) all_nil)))) gM
    unfold F_SymbolReader_flag at hw
    refine ⟨_, rfl, rfl, rfl, G, _, _, rfl, S0.sG, cW_call hw (fun v716 hw => ?_) (fun e he => hE e he _ (Same.refl _))⟩
    refine ⟨_, rfl, _, _, _, _, _, rfl, h_p_self, T.cl_SymbolReader, T.n_SymbolReader__decoder, rfl, _, _, _, rfl, h_p_self_dec, rfl, _, rfl, rfl, rfl, G, _, _, _, _, self'.dec, _, rfl, S0.sG, (S0.gno (all_cons (.tail _ (.head _)) (all_cons (.tail _ (.tail _ (.head _))) (all_cons (.tail _ (.tail _ (.tail _ (.head _)))) all_nil)))), h_p_self_dec, h_l_self_dec_probs, h_l_self_dec_octs, ne_self_0, cW_call hw (fun v717 hw H718 x719 h721 h722 h723  => ?_) (fun e he H2 e2 => hE e he H2 (Same.trans (Same.refl _) e2))⟩
    have S720 := S0.mut x719 (all_cons (.tail _ (.head _)) (all_cons (.tail _ (.tail _ (.head _))) (all_cons (.tail _ (.tail _ (.tail _ (.head _)))) all_nil))) (all_cons (some_ne h721) (all_cons (some_ne h722) (all_cons (some_ne h723) all_nil)))
    refine ⟨_, _, rfl, rfl, ?_⟩
    have h728 := (x719 _ _ h_p_self (ni3 ne_self_1 (ne_of h_p_self h_l_self_dec_probs (fun z => nomatch z)) (ne_of h_p_self h_l_self_dec_octs (fun z => nomatch z))))
    have hw := cW_ok hw
    exact hK0 _ hw _ S720.base h728 h721 h722 h723

abbrev N__choice_digits : List Str := ["base", "count", "digits"]
theorem sc__choice_digits : FnScope N__choice_digits ["base", "count"] (defScope s__choice_digits) := ⟨rfl, rfl, rfl, by decide +kernel, rfl, by decide +kernel, by decide +kernel⟩
theorem ok__choice_digits (D : DefX K mg "_choice_digits" s__choice_digits ["base", "count"] pats__choice_digits) (T : Txt K mg AD) (c__check_contexts : CalX P w K mg base 1 "_check_contexts" (sp__check_contexts K AD) pats__check_contexts) : CalX P w K mg base 2 "_choice_digits" (sp__choice_digits K AD) pats__choice_digits := by
  refine D.ok sc__choice_digits (fun vs H Q E h => ?_) (fun f cdv A_ outer s H vs Q E hr h => ?_)
  · obtain ⟨G, base', count', rfl, _⟩ := h
    rfl
  · obtain ⟨G, base', count', rfl, sG, hw⟩ := h
    refine ⟨_, (pss_cons (ps_if (pt_not (pt_chain op_le op_le pe_int (pv 1) (C8.pe_gc rfl T.g_MOST_CHOICES))) (pss_one (ps_raise rfl (takes_of rfl rfl rfl rfl) (pmk_own PySem.F.excBase_ValueError T.xx_OutOfRange T.xg_OutOfRange T.xk_OutOfRange (raises_own T.xb_OutOfRange T.xt_OutOfRange) rfl))) pss_nil)
      (pss_cons (ps_set (i := 2) sc__choice_digits.nd rfl (Or.inl rfl) (pe_bits (pe_op op_sub (pv 1) pe_int)))
      (pss_cons (ps_expr (vx_callX c__check_contexts pat__check_contexts_0 (.head _) hr (by decide) (takes_of rfl rfl rfl rfl) rfl (pa_cons (pv 0) (pa_cons (pe_op op_sub (pe_op op_shlW pe_int (pv 2)) pe_int) pa_nil)) pk_nil))
      (pss_one (ps_ret (pv 2)))))), ?_⟩
    obtain ⟨KK, EE, hK0, hE, hw⟩ := cW_gen hw
    have S0 := Sep.startG sG
    unfold F__choice_digits at hw
    refine ⟨_, rfl, _, _, rfl, rfl, _, rfl, ?_⟩
    refine iteD (fun c729 => ?_) (fun c729 => ?_)
    · have hw := cW_pos c729 hw
      refine ⟨_, _, rfl, rfl, _, rfl, ?_⟩
      refine iteN (fun c730 => ?_) (fun c730 => ?_)
      · have hw := cW_neg c730 hw
        exact hE 1 (cW_er hw) _ S0.b0
      · have hw := cW_pos c730 hw
        refine ⟨_, rfl, _, _, rfl, rfl, _, rfl, ?_⟩
        have hw := cW_bnd hw
        obtain ⟨g732, hw⟩ := cW_grd hw
        refine ⟨_, rfl, _, rfl, _, _, rfl, rfl, (shl_side g732.1 g732.2.1 g732.2.2.1 g732.2.2.2), _, _, rfl, rfl, rfl, rfl, G, _, _, rfl, S0.sG, cW_call hw (fun v733 hw => ?_) (fun e he => hE e he _ S0.b0)⟩
        refine ⟨_, rfl, ?_⟩
        have hw := cW_ok hw
        exact hK0 _ hw _ S0.b0
    · have hw := cW_neg c729 hw
      refine ⟨_, rfl, ?_⟩
      refine iteT ?_
      exact hE 1 (cW_er hw) _ S0.b0

abbrev N_SymbolWriter_choice : List Str := ["self", "base", "value", "count", "digits", "path", "shift", "digit"]
theorem sc_SymbolWriter_choice : FnScope N_SymbolWriter_choice ["self", "base", "value", "count"] (defScope s_SymbolWriter_choice) := ⟨rfl, rfl, rfl, by decide +kernel, rfl, by decide +kernel, by decide +kernel⟩
theorem ok_SymbolWriter_choice (D : MethX K AD.c_SymbolWriter "SymbolWriter.choice" "choice" s_SymbolWriter_choice ["self", "base", "value", "count"] pats_SymbolWriter_choice) (T : Txt K mg AD) (c__choice_digits : CalX P w K mg base 2 "_choice_digits" (sp__choice_digits K AD) pats__choice_digits) (c_Encoder_code : MetX P w K mg base 3 AD.c_Encoder "code" (sp_Encoder_code K AD) pats_Encoder_code) : MetX P w K mg base 4 AD.c_SymbolWriter "choice" (sp_SymbolWriter_choice K AD) pats_SymbolWriter_choice := by
  refine D.ok T.cl_SymbolWriter sc_SymbolWriter_choice (fun vs H Q E h => ?_) (fun f cdv A_ outer s H vs Q E hr h => ?_)
  · obtain ⟨G, p_self, p_self_enc, l_self_enc_probs, l_self_enc_front, dx_self, dx_self_enc, self', base', value', count', rfl, _⟩ := h
    rfl
  · obtain ⟨G, p_self, p_self_enc, l_self_enc_probs, l_self_enc_front, dx_self, dx_self_enc, self', base', value', count', rfl, sG, gM, h_p_self, h_p_self_enc, h_l_self_enc_probs, h_l_self_enc_front, ne_self_0, ne_self_1, hw⟩ := h
    refine ⟨_, (pss_cons (ps_set (i := 4) sc_SymbolWriter_choice.nd rfl (Or.inl rfl) (vx_callX c__choice_digits pat__choice_digits_0 (.head _) hr (by decide) (takes_of rfl rfl rfl rfl) rfl (pa_cons (pv 1) (pa_cons (pv 3) pa_nil)) pk_nil))
      (pss_cons (ps_if (pt_not (pt_chain op_le op_lt pe_int (pv 2) (pv 3))) (pss_one (ps_raise rfl (takes_of rfl rfl rfl rfl) (pmk_own PySem.F.excBase_ValueError T.xx_OutOfRange T.xg_OutOfRange T.xk_OutOfRange (raises_own T.xb_OutOfRange T.xt_OutOfRange) rfl))) pss_nil)
      (pss_cons (ps_set (i := 5) sc_SymbolWriter_choice.nd rfl (Or.inl rfl) pe_int)
      (pss_one (ps_for (passes_of rfl) rfl (pi_range3 rfl T.b_range (pa_cons (pe_op op_sub (pv 4) pe_int) (pa_cons (pe_un un_neg pe_int) (pa_cons (pe_un un_neg pe_int) pa_nil)))) (pg_name (i := 6) sc_SymbolWriter_choice.nd rfl (Or.inl rfl)) (pss_cons (ps_set (i := 7) sc_SymbolWriter_choice.nd rfl (Or.inl rfl) (pe_op op_and (pe_op op_shr (pv 2) (pv 6)) pe_int))
      (pss_cons (ps_expr (vx_methX c_Encoder_code pat_Encoder_code_0 (.head _) hr (by decide) (takes_of rfl rfl rfl rfl) (fldK (K := K) (pv 0)) (pa_cons (pe_op op_sub (pe_op op_add (pv 1) (pv 5)) pe_int) (pa_cons (pv 7) pa_nil)) pk_nil))
      (pss_one (ps_set (i := 5) sc_SymbolWriter_choice.nd rfl (Or.inl rfl) (pe_op op_add (pe_op op_mul pe_int (pv 5)) (pv 7))))))))))), ?_⟩
    obtain ⟨KK, EE, hK0, hE, hw⟩ := cW_gen hw
    have S0 := Sep.startM (M := [p_self, p_self_enc, l_self_enc_probs, l_self_enc_front]) sG (all_cons (some_ne h_p_self) (all_cons (some_ne h_p_self_enc) (all_cons (some_ne h_l_self_enc_probs) (all_cons (some_ne h_l_self_enc_front) all_nil)))) gM
    unfold F_SymbolWriter_choice at hw
    refine ⟨_, rfl, _, rfl, rfl, rfl, G, _, _, rfl, S0.sG, cW_call hw (fun v734 hw H735 e736 => ?_) (fun e he H2 e2 => hE e he H2 (Same.trans (Same.refl _) e2))⟩
    have S737 := S0.same e736
    refine ⟨_, rfl, _, _, rfl, rfl, _, rfl, ?_⟩
    refine iteD (fun c738 => ?_) (fun c738 => ?_)
    · have hw := cW_pos c738 hw
      refine ⟨_, rfl, _, _, rfl, rfl, _, rfl, ?_⟩
      refine iteN (fun c739 => ?_) (fun c739 => ?_)
      · have hw := cW_neg c739 hw
        exact hE 1 (cW_er hw) _ e736
      · have hw := cW_pos c739 hw
        obtain ⟨g740, hw⟩ := cW_grd hw
        obtain ⟨K743, hK744, hw⟩ := cW_push hw
        refine ⟨_, rfl, _, _, rfl, rfl, _, rfl, _, rfl, _, _, _, _, rfl, (RgC.neg g740.1 g740.2.1 g740.2.2.1 g740.2.2.2), for_rangeC (lo := (v734 - 1)) (c := -1) (n := Int.toNat ((v734 - 1) - (-1))) (fun i σ H' => ∃ (self_745 : St_SymbolWriter) (path_746 : Int) (u747 : Option V) (u748 : Option V) (G' : Hp), σ = [some (V.ref p_self), some (V.int (base')), some (V.int (value')), some (V.int (count')), some (V.int (v734)), some (V.int path_746), u747, u748] ∧ Same G G' ∧ Sep [p_self, p_self_enc, l_self_enc_probs, l_self_enc_front] H G G' H' [p_self, p_self_enc, l_self_enc_probs, l_self_enc_front] ∧ H' p_self = some (.ins AD.c_SymbolWriter dx_self [("_encoder", V.ref p_self_enc)]) ∧ H' p_self_enc = some (.ins AD.c_Encoder dx_self_enc [("_probabilities", V.ref l_self_enc_probs), ("_front", V.ref l_self_enc_front), ("_low", V.int (self_745.enc.low)), ("_span", V.int (self_745.enc.span))]) ∧ H' l_self_enc_probs = some (.lst ((self_745.enc.probs : (List Int)).map V.int)) ∧ H' l_self_enc_front = some (.lst ((self_745.enc.front : (List Int)).map V.int)) ∧ cW (forS (List.drop i (rngD ((v734 - 1)) (Int.toNat ((v734 - 1) - (-1))))) (self_745, path_746) (fun s x => F_SymbolWriter_choice_b1 (base') (value') (s.1) (s.2) x)) K743 EE) ?_ ?_ ?_⟩
        · have h749 := (e736 _ _ h_p_self)
          have h750 := (e736 _ _ h_p_self_enc)
          have h751 := (e736 _ _ h_l_self_enc_probs)
          have h752 := (e736 _ _ h_l_self_enc_front)
          exact ⟨(self'), (1), _, _, _, rfl, (Same.refl _), S737, h749, h750, h751, h752, hw⟩
        · intro i σ H753 hi hw
          obtain ⟨self_745, path_746, u747, u748, G759, rfl, eG760, S754, h755, h756, h757, h758, hw⟩ := hw
          have hw := cW_forS (rngD_get hi) hw
          generalize ((v734 - 1) + ((i : Nat) : Int) * (-1)) = x761 at hw ⊢
          have hw : cW (F_SymbolWriter_choice_b1 (base') (value') (self_745) (path_746) (x761)) _ EE := hw
          unfold F_SymbolWriter_choice_b1 at hw
          obtain ⟨K764, hK765, hw⟩ := cW_name hw
          obtain ⟨g767, hw⟩ := cW_grd hw
          refine ⟨_, rfl, _, rfl, _, _, rfl, rfl, g767, _, _, rfl, rfl, ?_⟩
          have hw := cW_bnd hw
          refine ⟨_, rfl, _, _, _, _, _, rfl, h755, T.cl_SymbolWriter, T.n_SymbolWriter__encoder, rfl, _, _, _, rfl, h756, rfl, _, rfl, _, rfl, _, _, rfl, rfl, _, _, rfl, rfl, _, rfl, rfl, rfl, G759, _, _, _, _, self_745.enc, _, _, rfl, S754.sG, (S754.gno (all_cons (.tail _ (.head _)) (all_cons (.tail _ (.tail _ (.head _))) (all_cons (.tail _ (.tail _ (.tail _ (.head _)))) all_nil)))), h756, h757, h758, ne_self_0, cW_callN hw (fun v769 hw H770 x771 h773 h774 h775  => ?_) trivial⟩
          have S772 := S754.mut x771 (all_cons (.tail _ (.head _)) (all_cons (.tail _ (.tail _ (.head _))) (all_cons (.tail _ (.tail _ (.tail _ (.head _)))) all_nil))) (all_cons (some_ne h773) (all_cons (some_ne h774) (all_cons (some_ne h775) all_nil)))
          refine ⟨_, rfl, _, _, rfl, rfl, (.inl ⟨by decide, by decide⟩), _, rfl, _, _, rfl, rfl, ?_⟩
          have hw := cW_bnd hw
          have hw := cW_ok hw
          have hw := hK765 _ hw
          have h781 := (x771 _ _ h755 (ni3 ne_self_1 (ne_of h755 h757 (fun z => nomatch z)) (ne_of h755 h758 (fun z => nomatch z))))
          exact ⟨((⟨v769⟩ : St_SymbolWriter)), (((2 * path_746) + (PySem.Builtin.bitAnd ((value' / 2 ^ Int.toNat (x761))) (1)))), _, _, _, rfl, eG760, S772, h781, h773, h774, h775, hw⟩
        · intro σ H782 hw
          obtain ⟨self_745, path_746, u747, u748, G788, rfl, eG789, S783, h784, h785, h786, h787, hw⟩ := hw
          have hw := hK744 _ (cW_forS0 (rngD_len _ _).symm hw)
          have hw : cW (F_SymbolWriter_choice_r1  (self_745) (path_746)) _ EE := hw
          unfold F_SymbolWriter_choice_r1 at hw
          have hw := cW_ok hw
          exact hK0 _ hw _ S783.base h784 h785 h786 h787
    · have hw := cW_neg c738 hw
      refine ⟨_, rfl, ?_⟩
      refine iteT ?_
      exact hE 1 (cW_er hw) _ e736

abbrev N_SymbolReader_choice : List Str := ["self", "base", "count", "digits", "path", "_"]
theorem sc_SymbolReader_choice : FnScope N_SymbolReader_choice ["self", "base", "count"] (defScope s_SymbolReader_choice) := ⟨rfl, rfl, rfl, by decide +kernel, rfl, by decide +kernel, by decide +kernel⟩
theorem ok_SymbolReader_choice (D : MethX K AD.c_SymbolReader "SymbolReader.choice" "choice" s_SymbolReader_choice ["self", "base", "count"] pats_SymbolReader_choice) (T : Txt K mg AD) (c__choice_digits : CalX P w K mg base 2 "_choice_digits" (sp__choice_digits K AD) pats__choice_digits) (c_Decoder_read : MetX P w K mg base 3 AD.c_Decoder "read" (sp_Decoder_read K AD) pats_Decoder_read) : MetX P w K mg base 4 AD.c_SymbolReader "choice" (sp_SymbolReader_choice K AD) pats_SymbolReader_choice := by
  refine D.ok T.cl_SymbolReader sc_SymbolReader_choice (fun vs H Q E h => ?_) (fun f cdv A_ outer s H vs Q E hr h => ?_)
  · obtain ⟨G, p_self, p_self_dec, l_self_dec_probs, l_self_dec_octs, dx_self, dx_self_dec, self', base', count', rfl, _⟩ := h
    rfl
  · obtain ⟨G, p_self, p_self_dec, l_self_dec_probs, l_self_dec_octs, dx_self, dx_self_dec, self', base', count', rfl, sG, gM, h_p_self, h_p_self_dec, h_l_self_dec_probs, h_l_self_dec_octs, ne_self_0, ne_self_1, hw⟩ := h
    refine ⟨_, (pss_cons (ps_set (i := 3) sc_SymbolReader_choice.nd rfl (Or.inl rfl) (vx_callX c__choice_digits pat__choice_digits_0 (.head _) hr (by decide) (takes_of rfl rfl rfl rfl) rfl (pa_cons (pv 1) (pa_cons (pv 2) pa_nil)) pk_nil))
      (pss_cons (ps_set (i := 4) sc_SymbolReader_choice.nd rfl (Or.inl rfl) pe_int)
      (pss_cons (ps_for (passes_of rfl) rfl (pi_range1 rfl T.b_range (pa_cons (pv 3) pa_nil)) (pg_name (i := 5) sc_SymbolReader_choice.nd rfl (Or.inl rfl)) (pss_one (ps_set (i := 4) sc_SymbolReader_choice.nd rfl (Or.inl rfl) (pe_op op_add (pe_op op_mul pe_int (pv 4)) (vx_methX c_Decoder_read pat_Decoder_read_0 (.head _) hr (by decide) (takes_of rfl rfl rfl rfl) (fldK (K := K) (pv 0)) (pa_cons (pe_op op_sub (pe_op op_add (pv 1) (pv 4)) pe_int) pa_nil) pk_nil)))))
      (pss_one (ps_ret (pe_callB (call_min2 rfl) (by rfl) T.b_min (by decide +kernel) (pa_cons (pe_op op_sub (pv 4) (pe_op op_shlW pe_int (pv 3))) (pa_cons (pe_op op_sub (pv 2) pe_int) pa_nil)))))))), ?_⟩
    obtain ⟨KK, EE, hK0, hE, hw⟩ := cW_gen hw
    have S0 := Sep.startM (M := [p_self, p_self_dec, l_self_dec_probs, l_self_dec_octs]) sG (all_cons (some_ne h_p_self) (all_cons (some_ne h_p_self_dec) (all_cons (some_ne h_l_self_dec_probs) (all_cons (some_ne h_l_self_dec_octs) all_nil)))) gM
    unfold F_SymbolReader_choice at hw
    refine ⟨_, rfl, _, rfl, rfl, rfl, G, _, _, rfl, S0.sG, cW_call hw (fun v792 hw H793 e794 => ?_) (fun e he H2 e2 => hE e he H2 (Same.trans (Same.refl _) e2))⟩
    have S795 := S0.same e794
    obtain ⟨g796, hw⟩ := cW_grd hw
    obtain ⟨K800, hK801, hw⟩ := cW_push hw
    refine ⟨_, rfl, _, rfl, g796.1, g796.2, for_range (lo := 0) (n := Int.toNat (v792)) (fun i σ H' => ∃ (self_802 : St_SymbolReader) (path_803 : Int) (u804 : Option V) (G' : Hp), σ = [some (V.ref p_self), some (V.int (base')), some (V.int (count')), some (V.int (v792)), some (V.int path_803), u804] ∧ Same G G' ∧ Sep [p_self, p_self_dec, l_self_dec_probs, l_self_dec_octs] H G G' H' [p_self, p_self_dec, l_self_dec_probs, l_self_dec_octs] ∧ H' p_self = some (.ins AD.c_SymbolReader dx_self [("_decoder", V.ref p_self_dec)]) ∧ H' p_self_dec = some (.ins AD.c_Decoder dx_self_dec [("_probabilities", V.ref l_self_dec_probs), ("_octets", V.ref l_self_dec_octs), ("_place", V.int (self_802.dec.place)), ("_span", V.int (self_802.dec.span)), ("_value", V.int (self_802.dec.value))]) ∧ H' l_self_dec_probs = some (.lst ((self_802.dec.probs : (List Int)).map V.int)) ∧ H' l_self_dec_octs = some (.lst ((self_802.dec.octs : (List Int)).map V.int)) ∧ cW (forS (List.drop i (rng (0) (Int.toNat (v792)))) (self_802, path_803) (fun s x => F_SymbolReader_choice_b1 (base') (s.1) (s.2) x)) K800 EE) ?_ ?_ ?_⟩
    · have h805 := (e794 _ _ h_p_self)
      have h806 := (e794 _ _ h_p_self_dec)
      have h807 := (e794 _ _ h_l_self_dec_probs)
      have h808 := (e794 _ _ h_l_self_dec_octs)
      exact ⟨(self'), (1), _, _, rfl, (Same.refl _), S795, h805, h806, h807, h808, hw⟩
    · intro i σ H809 hi hw
      obtain ⟨self_802, path_803, u804, G815, rfl, eG816, S810, h811, h812, h813, h814, hw⟩ := hw
      have hw := cW_forS (rng_get hi) hw
      generalize (0 + (i : Int)) = x817 at hw ⊢
      have hw : cW (F_SymbolReader_choice_b1 (base') (self_802) (path_803) (x817)) _ EE := hw
      unfold F_SymbolReader_choice_b1 at hw
      obtain ⟨K820, hK821, hw⟩ := cW_name hw
      refine ⟨_, rfl, _, _, rfl, rfl, (.inl ⟨by decide, by decide⟩), _, rfl, _, _, _, _, _, rfl, h811, T.cl_SymbolReader, T.n_SymbolReader__decoder, rfl, _, _, _, rfl, h812, rfl, _, rfl, _, rfl, _, _, rfl, rfl, _, _, rfl, rfl, rfl, rfl, G815, _, _, _, _, self_802.dec, _, rfl, S810.sG, (S810.gno (all_cons (.tail _ (.head _)) (all_cons (.tail _ (.tail _ (.head _))) (all_cons (.tail _ (.tail _ (.tail _ (.head _)))) all_nil)))), h812, h813, h814, ne_self_0, cW_callN hw (fun v823 hw H824 x825 h827 h828 h829  => ?_) trivial⟩
      have S826 := S810.mut x825 (all_cons (.tail _ (.head _)) (all_cons (.tail _ (.tail _ (.head _))) (all_cons (.tail _ (.tail _ (.tail _ (.head _)))) all_nil))) (all_cons (some_ne h827) (all_cons (some_ne h828) (all_cons (some_ne h829) all_nil)))
      refine ⟨_, _, rfl, rfl, ?_⟩
      have hw := cW_bnd hw
      have hw := cW_ok hw
      have hw := hK821 _ hw
      have h835 := (x825 _ _ h811 (ni3 ne_self_1 (ne_of h811 h813 (fun z => nomatch z)) (ne_of h811 h814 (fun z => nomatch z))))
      exact ⟨((⟨v823.2⟩ : St_SymbolReader)), (((2 * path_803) + v823.1)), _, _, rfl, eG816, S826, h835, h827, h828, h829, hw⟩
    · intro σ H836 hw
      obtain ⟨self_802, path_803, u804, G842, rfl, eG843, S837, h838, h839, h840, h841, hw⟩ := hw
      have hw := hK801 _ (cW_forS0 (rng_len _ _).symm hw)
      have hw : cW (F_SymbolReader_choice_r1 (count') (v792) (self_802) (path_803)) _ EE := hw
      unfold F_SymbolReader_choice_r1 at hw
      obtain ⟨g846, hw⟩ := cW_grd hw
      refine ⟨_, rfl, _, rfl, _, _, rfl, rfl, (shl_side g846.1 g846.2.1 g846.2.2.1 g846.2.2.2), _, _, rfl, rfl, _, rfl, _, _, rfl, rfl, _, _, rfl, ?_⟩
      have hw := cW_ok hw
      exact hK0 _ hw _ S837.base h838 h839 h840 h841

abbrev N__check_unary : List Str := ["base", "most"]
theorem sc__check_unary : FnScope N__check_unary ["base", "most"] (defScope s__check_unary) := ⟨rfl, rfl, rfl, by decide +kernel, rfl, by decide +kernel, by decide +kernel⟩
theorem ok__check_unary (D : DefX K mg "_check_unary" s__check_unary ["base", "most"] pats__check_unary) (T : Txt K mg AD) (c__check_contexts : CalX P w K mg base 1 "_check_contexts" (sp__check_contexts K AD) pats__check_contexts) : CalX P w K mg base 2 "_check_unary" (sp__check_unary K AD) pats__check_unary := by
  refine D.ok sc__check_unary (fun vs H Q E h => ?_) (fun f cdv A_ outer s H vs Q E hr h => ?_)
  · obtain ⟨G, base', most', rfl, _⟩ := h
    rfl
  · obtain ⟨G, base', most', rfl, sG, hw⟩ := h
    refine ⟨_, (pss_cons (ps_if (pt_not (pt_chain op_le op_le pe_int (pv 1) (C8.pe_gc rfl T.g_GREATEST_UNARY))) (pss_one (ps_raise rfl (takes_of rfl rfl rfl rfl) (pmk_own PySem.F.excBase_ValueError T.xx_OutOfRange T.xg_OutOfRange T.xk_OutOfRange (raises_own T.xb_OutOfRange T.xt_OutOfRange) rfl))) pss_nil)
      (pss_one (ps_expr (vx_callX c__check_contexts pat__check_contexts_0 (.head _) hr (by decide) (takes_of rfl rfl rfl rfl) rfl (pa_cons (pv 0) (pa_cons (pe_callB (call_min2 rfl) (by rfl) T.b_min (by decide +kernel) (pa_cons (pv 1) (pa_cons (C8.pe_gc rfl T.g_SHARED) pa_nil))) pa_nil)) pk_nil)))), ?_⟩
    obtain ⟨KK, EE, hK0, hE, hw⟩ := cW_gen hw
    have S0 := Sep.startG sG
    unfold F__check_unary at hw
    refine ⟨_, rfl, _, _, rfl, rfl, _, rfl, ?_⟩
    refine iteD (fun c847 => ?_) (fun c847 => ?_)
    · have hw := cW_pos c847 hw
      refine ⟨_, _, rfl, rfl, _, rfl, ?_⟩
      refine iteN (fun c848 => ?_) (fun c848 => ?_)
      · have hw := cW_neg c848 hw
        exact hE 1 (cW_er hw)
      · have hw := cW_pos c848 hw
        refine ⟨_, rfl, _, rfl, _, _, rfl, rfl, rfl, G, _, _, rfl, S0.sG, cW_call hw (fun v849 hw => ?_) (fun e he => hE e he)⟩
        have hw := cW_ok hw
        exact hK0 _ hw
    · have hw := cW_neg c847 hw
      refine ⟨_, rfl, ?_⟩
      refine iteT ?_
      exact hE 1 (cW_er hw)

abbrev N_SymbolWriter_unary : List Str := ["self", "base", "value", "most", "index"]
theorem sc_SymbolWriter_unary : FnScope N_SymbolWriter_unary ["self", "base", "value", "most"] (defScope s_SymbolWriter_unary) := ⟨rfl, rfl, rfl, by decide +kernel, rfl, by decide +kernel, by decide +kernel⟩
theorem ok_SymbolWriter_unary (D : MethX K AD.c_SymbolWriter "SymbolWriter.unary" "unary" s_SymbolWriter_unary ["self", "base", "value", "most"] pats_SymbolWriter_unary) (T : Txt K mg AD) (c__check_unary : CalX P w K mg base 2 "_check_unary" (sp__check_unary K AD) pats__check_unary) (c_Encoder_code : MetX P w K mg base 3 AD.c_Encoder "code" (sp_Encoder_code K AD) pats_Encoder_code) : MetX P w K mg base 4 AD.c_SymbolWriter "unary" (sp_SymbolWriter_unary K AD) pats_SymbolWriter_unary := by
  refine D.ok T.cl_SymbolWriter sc_SymbolWriter_unary (fun vs H Q E h => ?_) (fun f cdv A_ outer s H vs Q E hr h => ?_)
  · obtain ⟨G, p_self, p_self_enc, l_self_enc_probs, l_self_enc_front, dx_self, dx_self_enc, self', base', value', most', rfl, _⟩ := h
    rfl
  · obtain ⟨G, p_self, p_self_enc, l_self_enc_probs, l_self_enc_front, dx_self, dx_self_enc, self', base', value', most', rfl, sG, gM, h_p_self, h_p_self_enc, h_l_self_enc_probs, h_l_self_enc_front, ne_self_0, ne_self_1, hw⟩ := h
    refine ⟨_, (pss_cons (ps_expr (vx_callX c__check_unary pat__check_unary_0 (.head _) hr (by decide) (takes_of rfl rfl rfl rfl) rfl (pa_cons (pv 1) (pa_cons (pv 3) pa_nil)) pk_nil))
      (pss_cons (ps_if (pt_not (pt_chain op_le op_le pe_int (pv 2) (pv 3))) (pss_one (ps_raise rfl (takes_of rfl rfl rfl rfl) (pmk_own PySem.F.excBase_ValueError T.xx_OutOfRange T.xg_OutOfRange T.xk_OutOfRange (raises_own T.xb_OutOfRange T.xt_OutOfRange) rfl))) pss_nil)
      (pss_cons (ps_for (passes_of rfl) rfl (pi_range1 rfl T.b_range (pa_cons (pv 2) pa_nil)) (pg_name (i := 4) sc_SymbolWriter_unary.nd rfl (Or.inl rfl)) (pss_one (ps_expr (vx_methX c_Encoder_code pat_Encoder_code_0 (.head _) hr (by decide) (takes_of rfl rfl rfl rfl) (fldK (K := K) (pv 0)) (pa_cons (pe_op op_add (pv 1) (pe_callB (call_min2 rfl) (by rfl) T.b_min (by decide +kernel) (pa_cons (pv 4) (pa_cons (pe_op op_sub (C8.pe_gc rfl T.g_SHARED) pe_int) pa_nil)))) (pa_cons pe_int pa_nil)) pk_nil))))
      (pss_one (ps_if (pt_cmp (pc_lt (pv 2) (pv 3))) (pss_one (ps_expr (vx_methX c_Encoder_code pat_Encoder_code_0 (.head _) hr (by decide) (takes_of rfl rfl rfl rfl) (fldK (K := K) (pv 0)) (pa_cons (pe_op op_add (pv 1) (pe_callB (call_min2 rfl) (by rfl) T.b_min (by decide +kernel) (pa_cons (pv 2) (pa_cons (pe_op op_sub (C8.pe_gc rfl T.g_SHARED) pe_int) pa_nil)))) (pa_cons pe_int pa_nil)) pk_nil))) pss_nil))))), ?_⟩
    obtain ⟨KK, EE, hK0, hE, hw⟩ := cW_gen hw
    have S0 := Sep.startM (M := [p_self, p_self_enc, l_self_enc_probs, l_self_enc_front]) sG (all_cons (some_ne h_p_self) (all_cons (some_ne h_p_self_enc) (all_cons (some_ne h_l_self_enc_probs) (all_cons (some_ne h_l_self_enc_front) all_nil)))) gM
    unfold F_SymbolWriter_unary at hw
    refine ⟨_, rfl, _, rfl, rfl, rfl, G, _, _, rfl, S0.sG, cW_call hw (fun v850 hw => ?_) (fun e he => hE e he _ (Same.refl _))⟩
    refine ⟨_, rfl, _, _, rfl, rfl, _, rfl, ?_⟩
    refine iteD (fun c851 => ?_) (fun c851 => ?_)
    · have hw := cW_pos c851 hw
      refine ⟨_, rfl, _, _, rfl, rfl, _, rfl, ?_⟩
      refine iteN (fun c852 => ?_) (fun c852 => ?_)
      · have hw := cW_neg c852 hw
        exact hE 1 (cW_er hw) _ (Same.refl _)
      · have hw := cW_pos c852 hw
        obtain ⟨g853, hw⟩ := cW_grd hw
        obtain ⟨K858, hK859, hw⟩ := cW_push hw
        refine ⟨_, rfl, _, rfl, g853.1, g853.2, for_range (lo := 0) (n := Int.toNat (value')) (fun i σ H' => ∃ (self_860 : St_SymbolWriter) (u861 : Option V) (G' : Hp), σ = [some (V.ref p_self), some (V.int (base')), some (V.int (value')), some (V.int (most')), u861] ∧ Same G G' ∧ Sep [p_self, p_self_enc, l_self_enc_probs, l_self_enc_front] H G G' H' [p_self, p_self_enc, l_self_enc_probs, l_self_enc_front] ∧ H' p_self = some (.ins AD.c_SymbolWriter dx_self [("_encoder", V.ref p_self_enc)]) ∧ H' p_self_enc = some (.ins AD.c_Encoder dx_self_enc [("_probabilities", V.ref l_self_enc_probs), ("_front", V.ref l_self_enc_front), ("_low", V.int (self_860.enc.low)), ("_span", V.int (self_860.enc.span))]) ∧ H' l_self_enc_probs = some (.lst ((self_860.enc.probs : (List Int)).map V.int)) ∧ H' l_self_enc_front = some (.lst ((self_860.enc.front : (List Int)).map V.int)) ∧ cW (forS (List.drop i (rng (0) (Int.toNat (value')))) self_860 (fun s x => F_SymbolWriter_unary_b1 (base') s x)) K858 EE) ?_ ?_ ?_⟩
        · exact ⟨(self'), _, _, rfl, (Same.refl _), S0, h_p_self, h_p_self_enc, h_l_self_enc_probs, h_l_self_enc_front, hw⟩
        · intro i σ H862 hi hw
          obtain ⟨self_860, u861, G868, rfl, eG869, S863, h864, h865, h866, h867, hw⟩ := hw
          have hw := cW_forS (rng_get hi) hw
          generalize (0 + (i : Int)) = x870 at hw ⊢
          have hw : cW (F_SymbolWriter_unary_b1 (base') (self_860) (x870)) _ EE := hw
          unfold F_SymbolWriter_unary_b1 at hw
          obtain ⟨K872, hK873, hw⟩ := cW_name hw
          refine ⟨_, rfl, _, _, _, _, _, rfl, h864, T.cl_SymbolWriter, T.n_SymbolWriter__encoder, rfl, _, _, _, rfl, h865, rfl, _, rfl, _, rfl, _, _, rfl, rfl, _, _, rfl, _, _, rfl, rfl, rfl, rfl, G868, _, _, _, _, self_860.enc, _, _, rfl, S863.sG, (S863.gno (all_cons (.tail _ (.head _)) (all_cons (.tail _ (.tail _ (.head _))) (all_cons (.tail _ (.tail _ (.tail _ (.head _)))) all_nil)))), h865, h866, h867, ne_self_0, cW_callN hw (fun v875 hw H876 x877 h879 h880 h881  => ?_) trivial⟩
          have S878 := S863.mut x877 (all_cons (.tail _ (.head _)) (all_cons (.tail _ (.tail _ (.head _))) (all_cons (.tail _ (.tail _ (.tail _ (.head _)))) all_nil))) (all_cons (some_ne h879) (all_cons (some_ne h880) (all_cons (some_ne h881) all_nil)))
          have hw := cW_ok hw
          have hw := hK873 _ hw
          have h886 := (x877 _ _ h864 (ni3 ne_self_1 (ne_of h864 h866 (fun z => nomatch z)) (ne_of h864 h867 (fun z => nomatch z))))
          exact ⟨((⟨v875⟩ : St_SymbolWriter)), _, _, rfl, eG869, S878, h886, h879, h880, h881, hw⟩
        · intro σ H887 hw
          obtain ⟨self_860, u861, G893, rfl, eG894, S888, h889, h890, h891, h892, hw⟩ := hw
          have hw := hK859 _ (cW_forS0 (rng_len _ _).symm hw)
          have hw : cW (F_SymbolWriter_unary_r1 (base') (value') (most') (self_860)) _ EE := hw
          unfold F_SymbolWriter_unary_r1 at hw
          refine ⟨_, rfl, _, rfl, _, _, rfl, rfl, _, rfl, ?_⟩
          refine iteD (fun c896 => ?_) (fun c896 => ?_)
          · have hw := cW_pos c896 hw
            refine ⟨_, rfl, _, _, _, _, _, rfl, h889, T.cl_SymbolWriter, T.n_SymbolWriter__encoder, rfl, _, _, _, rfl, h890, rfl, _, rfl, _, rfl, _, _, rfl, rfl, _, _, rfl, _, _, rfl, rfl, rfl, rfl, G893, _, _, _, _, self_860.enc, _, _, rfl, S888.sG, (S888.gno (all_cons (.tail _ (.head _)) (all_cons (.tail _ (.tail _ (.head _))) (all_cons (.tail _ (.tail _ (.tail _ (.head _)))) all_nil)))), h890, h891, h892, ne_self_0, cW_callN hw (fun v897 hw H898 x899 h901 h902 h903  => ?_) trivial⟩
            have S900 := S888.mut x899 (all_cons (.tail _ (.head _)) (all_cons (.tail _ (.tail _ (.head _))) (all_cons (.tail _ (.tail _ (.tail _ (.head _)))) all_nil))) (all_cons (some_ne h901) (all_cons (some_ne h902) (all_cons (some_ne h903) all_nil)))
            have h908 := (x899 _ _ h889 (ni3 ne_self_1 (ne_of h889 h891 (fun z => nomatch z)) (ne_of h889 h892 (fun z => nomatch z))))
            have hw := cW_ok hw
            exact hK0 _ hw _ S900.base h908 h901 h902 h903
          · have hw := cW_neg c896 hw
            have hw := cW_ok hw
            exact hK0 _ hw _ S888.base h889 h890 h891 h892
    · have hw := cW_neg c851 hw
      refine ⟨_, rfl, ?_⟩
      refine iteT ?_
      exact hE 1 (cW_er hw) _ (Same.refl _)

abbrev N_SymbolReader_unary : List Str := ["self", "base", "most", "value"]
theorem sc_SymbolReader_unary : FnScope N_SymbolReader_unary ["self", "base", "most"] (defScope s_SymbolReader_unary) := ⟨rfl, rfl, rfl, by decide +kernel, rfl, by decide +kernel, by decide +kernel⟩
theorem ok_SymbolReader_unary (D : MethX K AD.c_SymbolReader "SymbolReader.unary" "unary" s_SymbolReader_unary ["self", "base", "most"] pats_SymbolReader_unary) (T : Txt K mg AD) (c__check_unary : CalX P w K mg base 2 "_check_unary" (sp__check_unary K AD) pats__check_unary) (c_Decoder_read : MetX P w K mg base 3 AD.c_Decoder "read" (sp_Decoder_read K AD) pats_Decoder_read) : MetX P w K mg base 4 AD.c_SymbolReader "unary" (sp_SymbolReader_unary K AD) pats_SymbolReader_unary := by
  refine D.ok T.cl_SymbolReader sc_SymbolReader_unary (fun vs H Q E h => ?_) (fun f cdv A_ outer s H vs Q E hr h => ?_)
  · obtain ⟨G, p_self, p_self_dec, l_self_dec_probs, l_self_dec_octs, dx_self, dx_self_dec, self', base', most', rfl, _⟩ := h
    rfl
  · obtain ⟨G, p_self, p_self_dec, l_self_dec_probs, l_self_dec_octs, dx_self, dx_self_dec, self', base', most', rfl, sG, gM, h_p_self, h_p_self_dec, h_l_self_dec_probs, h_l_self_dec_octs, ne_self_0, ne_self_1, hw⟩ := h
    refine ⟨_, (pss_cons (ps_expr (vx_callX c__check_unary pat__check_unary_0 (.head _) hr (by decide) (takes_of rfl rfl rfl rfl) rfl (pa_cons (pv 1) (pa_cons (pv 2) pa_nil)) pk_nil))
      (pss_cons (ps_set (i := 3) sc_SymbolReader_unary.nd rfl (Or.inl rfl) pe_int)
      (pss_cons (ps_while (passes_of rfl) (PW.pt (pw_and (pt_cmp (pc_lt (pv 3) (pv 2))) (pw_and1 (pt_cmp (pc_eqI (vx_methX c_Decoder_read pat_Decoder_read_0 (.head _) hr (by decide) (takes_of rfl rfl rfl rfl) (fldK (K := K) (pv 0)) (pa_cons (pe_op op_add (pv 1) (pe_callB (call_min2 rfl) (by rfl) T.b_min (by decide +kernel) (pa_cons (pv 3) (pa_cons (pe_op op_sub (C8.pe_gc rfl T.g_SHARED) pe_int) pa_nil)))) pa_nil) pk_nil) pe_int))))) (pss_one (ps_aug (i := 3) sc_SymbolReader_unary.nd rfl (Or.inl rfl) pe_int (pip iop_add))))
      (pss_one (ps_ret (pv 3)))))), ?_⟩
    obtain ⟨KK, EE, hK0, hE, hw⟩ := cW_gen hw
    have S0 := Sep.startM (M := [p_self, p_self_dec, l_self_dec_probs, l_self_dec_octs]) sG (all_cons (some_ne h_p_self) (all_cons (some_ne h_p_self_dec) (all_cons (some_ne h_l_self_dec_probs) (all_cons (some_ne h_l_self_dec_octs) all_nil)))) gM
    unfold F_SymbolReader_unary at hw
    refine ⟨_, rfl, _, rfl, rfl, rfl, G, _, _, rfl, S0.sG, cW_call hw (fun v909 hw => ?_) (fun e he => hE e he _ (Same.refl _))⟩
    obtain ⟨K912, hK913, hw⟩ := cW_push hw
    refine ⟨fun m σ H' => ∃ (self_914 : St_SymbolReader) (value_915 : Int) (G' : Hp), σ = [some (V.ref p_self), some (V.int (base')), some (V.int (most')), some (V.int value_915)] ∧ Same G G' ∧ Sep [p_self, p_self_dec, l_self_dec_probs, l_self_dec_octs] H G G' H' [p_self, p_self_dec, l_self_dec_probs, l_self_dec_octs] ∧ H' p_self = some (.ins AD.c_SymbolReader dx_self [("_decoder", V.ref p_self_dec)]) ∧ H' p_self_dec = some (.ins AD.c_Decoder dx_self_dec [("_probabilities", V.ref l_self_dec_probs), ("_octets", V.ref l_self_dec_octs), ("_place", V.int (self_914.dec.place)), ("_span", V.int (self_914.dec.span)), ("_value", V.int (self_914.dec.value))]) ∧ H' l_self_dec_probs = some (.lst ((self_914.dec.probs : (List Int)).map V.int)) ∧ H' l_self_dec_octs = some (.lst ((self_914.dec.octs : (List Int)).map V.int)) ∧ cW (whileR m (self_914, value_915) (fun s => F_SymbolReader_unary_b1 (base') (most') (s.1) (s.2))) K912 EE, ?_, ?_⟩
    · exact ⟨_, ⟨(self'), (0), _, rfl, (Same.refl _), S0, h_p_self, h_p_self_dec, h_l_self_dec_probs, h_l_self_dec_octs, hw⟩⟩
    · intro m σ H916 hw
      obtain ⟨self_914, value_915, G922, rfl, eG923, S917, h918, h919, h920, h921, hw⟩ := hw
      obtain ⟨m924, rfl, hw2⟩ := cW_whileR hw
      have hw := hw2
      have hw : cW (F_SymbolReader_unary_b1 (base') (most') (self_914) (value_915)) _ EE := hw
      unfold F_SymbolReader_unary_b1 at hw
      obtain ⟨K927, hK928, hw⟩ := cW_name hw
      refine ⟨_, rfl, _, rfl, _, _, rfl, rfl, _, rfl, ?_⟩
      refine iteD (fun c929 => ?_) (fun c929 => ?_)
      · have hw := cW_pos c929 hw
        refine ⟨_, rfl, _, _, _, _, _, rfl, h918, T.cl_SymbolReader, T.n_SymbolReader__decoder, rfl, _, _, _, rfl, h919, rfl, _, rfl, _, rfl, _, _, rfl, rfl, _, _, rfl, _, _, rfl, rfl, rfl, rfl, G922, _, _, _, _, self_914.dec, _, rfl, S917.sG, (S917.gno (all_cons (.tail _ (.head _)) (all_cons (.tail _ (.tail _ (.head _))) (all_cons (.tail _ (.tail _ (.tail _ (.head _)))) all_nil)))), h919, h920, h921, ne_self_0, cW_callN hw (fun v930 hw H931 x932 h934 h935 h936  => ?_) trivial⟩
        have S933 := S917.mut x932 (all_cons (.tail _ (.head _)) (all_cons (.tail _ (.tail _ (.head _))) (all_cons (.tail _ (.tail _ (.tail _ (.head _)))) all_nil))) (all_cons (some_ne h934) (all_cons (some_ne h935) (all_cons (some_ne h936) all_nil)))
        refine ⟨_, _, rfl, rfl, _, rfl, ?_⟩
        refine iteD (fun c941 => ?_) (fun c941 => ?_)
        · have hw := cW_pos c941 hw
          refine ⟨(fun σ H' => ∃ m, (∃ (self_914 : St_SymbolReader) (value_915 : Int) (G' : Hp), σ = [some (V.ref p_self), some (V.int (base')), some (V.int (most')), some (V.int value_915)] ∧ Same G G' ∧ Sep [p_self, p_self_dec, l_self_dec_probs, l_self_dec_octs] H G G' H' [p_self, p_self_dec, l_self_dec_probs, l_self_dec_octs] ∧ H' p_self = some (.ins AD.c_SymbolReader dx_self [("_decoder", V.ref p_self_dec)]) ∧ H' p_self_dec = some (.ins AD.c_Decoder dx_self_dec [("_probabilities", V.ref l_self_dec_probs), ("_octets", V.ref l_self_dec_octs), ("_place", V.int (self_914.dec.place)), ("_span", V.int (self_914.dec.span)), ("_value", V.int (self_914.dec.value))]) ∧ H' l_self_dec_probs = some (.lst ((self_914.dec.probs : (List Int)).map V.int)) ∧ H' l_self_dec_octs = some (.lst ((self_914.dec.octs : (List Int)).map V.int)) ∧ cW (whileR m (self_914, value_915) (fun s => F_SymbolReader_unary_b1 (base') (most') (s.1) (s.2))) K912 EE) ∧ m < m924 + 1), (fun _ _ ⟨m', a, b⟩ => ⟨m', b, a⟩), ?_⟩
          refine ⟨_, rfl, _, _, rfl, rfl, ?_⟩
          have hw := cW_bnd hw
          have hw := cW_ok hw
          have hw := hK928 _ hw
          have h943 := (x932 _ _ h918 (ni3 ne_self_1 (ne_of h918 h920 (fun z => nomatch z)) (ne_of h918 h921 (fun z => nomatch z))))
          exact ⟨m924, ⟨((⟨v930.2⟩ : St_SymbolReader)), ((value_915 + 1)), _, rfl, eG923, S933, h943, h934, h935, h936, hw⟩, Nat.lt_succ_self _⟩
        · have hw := cW_neg c941 hw
          have hw := cW_ok hw
          have hw := hK928 _ hw
          have hw := cW_aftgo (hK913 (.go _) hw)
          have hw : cW (F_SymbolReader_unary_r1  ((⟨v930.2⟩ : St_SymbolReader)) (value_915)) _ EE := hw
          unfold F_SymbolReader_unary_r1 at hw
          refine ⟨_, rfl, ?_⟩
          have h946 := (x932 _ _ h918 (ni3 ne_self_1 (ne_of h918 h920 (fun z => nomatch z)) (ne_of h918 h921 (fun z => nomatch z))))
          have hw := cW_ok hw
          exact hK0 _ hw _ S933.base h946 h934 h935 h936
      · have hw := cW_neg c929 hw
        refine iteF ?_
        have hw := cW_ok hw
        have hw := hK928 _ hw
        have hw := cW_aftgo (hK913 (.go _) hw)
        have hw : cW (F_SymbolReader_unary_r1  (self_914) (value_915)) _ EE := hw
        unfold F_SymbolReader_unary_r1 at hw
        refine ⟨_, rfl, ?_⟩
        have hw := cW_ok hw
        exact hK0 _ hw _ S917.base h918 h919 h920 h921

abbrev N__digit_context : List Str := ["base", "digits"]
theorem sc__digit_context : FnScope N__digit_context ["base", "digits"] (defScope s__digit_context) := ⟨rfl, rfl, rfl, by decide +kernel, rfl, by decide +kernel, by decide +kernel⟩
theorem ok__digit_context (D : DefX K mg "_digit_context" s__digit_context ["base", "digits"] pats__digit_context) (T : Txt K mg AD)  : CalX P w K mg base 1 "_digit_context" (sp__digit_context K AD) pats__digit_context := by
  refine D.ok sc__digit_context (fun vs H Q E h => ?_) (fun f cdv A_ outer s H vs Q E hr h => ?_)
  · obtain ⟨G, base', digits', rfl, _⟩ := h
    rfl
  · obtain ⟨G, base', digits', rfl, sG, hw⟩ := h
    refine ⟨_, (pss_one (ps_ret (pe_op op_add (pe_op op_add (pv 0) (C8.pe_gc rfl T.g_SHARED)) (pe_callB (call_min2 rfl) (by rfl) T.b_min (by decide +kernel) (pa_cons (pe_op op_sub (pv 1) pe_int) (pa_cons (pe_op op_sub (C8.pe_gc rfl T.g_SHARED) pe_int) pa_nil)))))), ?_⟩
    obtain ⟨KK, EE, hK0, hE, hw⟩ := cW_gen hw
    have S0 := Sep.startG sG
    unfold F__digit_context at hw
    refine ⟨_, rfl, _, _, rfl, rfl, _, rfl, _, _, rfl, rfl, _, _, rfl, rfl, _, _, rfl, _, _, rfl, rfl, ?_⟩
    have hw := cW_ok hw
    exact hK0 _ hw

abbrev N_Encoder_code_even : List Str := ["self", "decision"]
theorem sc_Encoder_code_even : FnScope N_Encoder_code_even ["self", "decision"] (defScope s_Encoder_code_even) := ⟨rfl, rfl, rfl, by decide +kernel, rfl, by decide +kernel, by decide +kernel⟩
theorem ok_Encoder_code_even (D : MethX K AD.c_Encoder "Encoder.code_even" "code_even" s_Encoder_code_even ["self", "decision"] pats_Encoder_code_even) (T : Txt K mg AD) (c__check_decision : CalX P w K mg base 1 "_check_decision" (sp__check_decision K AD) pats__check_decision) (c_Encoder__narrow : MetX P w K mg base 2 AD.c_Encoder "_narrow" (sp_Encoder__narrow K AD) pats_Encoder__narrow) : MetX P w K mg base 3 AD.c_Encoder "code_even" (sp_Encoder_code_even K AD) pats_Encoder_code_even := by
  refine D.ok T.cl_Encoder sc_Encoder_code_even (fun vs H Q E h => ?_) (fun f cdv A_ outer s H vs Q E hr h => ?_)
  · obtain ⟨G, p_self, l_self_probs, l_self_front, dx_self, self', decision', rfl, _⟩ := h
    rfl
  · obtain ⟨G, p_self, l_self_probs, l_self_front, dx_self, self', decision', rfl, sG, gM, h_p_self, h_l_self_probs, h_l_self_front, ne_self_0, hw⟩ := h
    refine ⟨_, (pss_cons (ps_expr (vx_callX c__check_decision pat__check_decision_0 (.head _) hr (by decide) (takes_of rfl rfl rfl rfl) rfl (pa_cons (pv 1) pa_nil) pk_nil))
      (pss_one (ps_expr (vx_methX c_Encoder__narrow pat_Encoder__narrow_0 (.head _) hr (by decide) (takes_of rfl rfl rfl rfl) (pv 0) (pa_cons (C8.pe_gc rfl T.g_EVEN) (pa_cons (pv 1) pa_nil)) pk_nil)))), ?_⟩
    obtain ⟨KK, EE, hK0, hE, hw⟩ := cW_gen hw
    have S0 := Sep.startM (M := [p_self, l_self_probs, l_self_front]) sG (all_cons (some_ne h_p_self) (all_cons (some_ne h_l_self_probs) (all_cons (some_ne h_l_self_front) all_nil))) gM
    unfold F_Encoder_code_even at hw
    refine ⟨_, rfl, rfl, rfl, G, _, rfl, S0.sG, cW_call hw (fun v949 hw => ?_) (fun e he => hE e he _ (Same.refl _))⟩
    refine ⟨_, rfl, _, _, _, rfl, h_p_self, rfl, _, rfl, rfl, rfl, G, _, _, _, _, self', _, _, rfl, S0.sG, (S0.gno (all_cons (.head _) (all_cons (.tail _ (.head _)) (all_cons (.tail _ (.tail _ (.head _))) all_nil)))), h_p_self, h_l_self_probs, h_l_self_front, ne_self_0, cW_call hw (fun v950 hw H951 x952 h954 h955 h956  => ?_) (fun e he H2 e2 => hE e he H2 (Same.trans (Same.refl _) e2))⟩
    have S953 := S0.mut x952 (all_cons (.head _) (all_cons (.tail _ (.head _)) (all_cons (.tail _ (.tail _ (.head _))) all_nil))) (all_cons (some_ne h954) (all_cons (some_ne h955) (all_cons (some_ne h956) all_nil)))
    have hw := cW_ok hw
    exact hK0 _ hw _ S953.base h954 h955 h956

abbrev N_SymbolWriter_number : List Str := ["self", "base", "value", "digits", "shift", "digit"]
theorem sc_SymbolWriter_number : FnScope N_SymbolWriter_number ["self", "base", "value"] (defScope s_SymbolWriter_number) := ⟨rfl, rfl, rfl, by decide +kernel, rfl, by decide +kernel, by decide +kernel⟩
theorem ok_SymbolWriter_number (D : MethX K AD.c_SymbolWriter "SymbolWriter.number" "number" s_SymbolWriter_number ["self", "base", "value"] pats_SymbolWriter_number) (T : Txt K mg AD) (c__check_contexts : CalX P w K mg base 1 "_check_contexts" (sp__check_contexts K AD) pats__check_contexts) (c_SymbolWriter_unary : MetX P w K mg base 4 AD.c_SymbolWriter "unary" (sp_SymbolWriter_unary K AD) pats_SymbolWriter_unary) (c_Encoder_code : MetX P w K mg base 3 AD.c_Encoder "code" (sp_Encoder_code K AD) pats_Encoder_code) (c__digit_context : CalX P w K mg base 1 "_digit_context" (sp__digit_context K AD) pats__digit_context) (c_Encoder_code_even : MetX P w K mg base 3 AD.c_Encoder "code_even" (sp_Encoder_code_even K AD) pats_Encoder_code_even) : MetX P w K mg base 5 AD.c_SymbolWriter "number" (sp_SymbolWriter_number K AD) pats_SymbolWriter_number := by
  refine D.ok T.cl_SymbolWriter sc_SymbolWriter_number (fun vs H Q E h => ?_) (fun f cdv A_ outer s H vs Q E hr h => ?_)
  · obtain ⟨G, p_self, p_self_enc, l_self_enc_probs, l_self_enc_front, dx_self, dx_self_enc, self', base', value', rfl, _⟩ := h
    rfl
  · obtain ⟨G, p_self, p_self_enc, l_self_enc_probs, l_self_enc_front, dx_self, dx_self_enc, self', base', value', rfl, sG, gM, h_p_self, h_p_self_enc, h_l_self_enc_probs, h_l_self_enc_front, ne_self_0, ne_self_1, hw⟩ := h
    refine ⟨_, (pss_cons (ps_expr (vx_callX c__check_contexts pat__check_contexts_0 (.head _) hr (by decide) (takes_of rfl rfl rfl rfl) rfl (pa_cons (pv 1) (pa_cons (pe_op op_mul pe_int (C8.pe_gc rfl T.g_SHARED)) pa_nil)) pk_nil))
      (pss_cons (ps_if (pt_not (pt_chain op_le op_le pe_int (pv 2) (C8.pe_gc rfl T.g_GREATEST_NUMBER))) (pss_one (ps_raise rfl (takes_of rfl rfl rfl rfl) (pmk_own PySem.F.excBase_ValueError T.xx_OutOfRange T.xg_OutOfRange T.xk_OutOfRange (raises_own T.xb_OutOfRange T.xt_OutOfRange) rfl))) pss_nil)
      (pss_cons (ps_set (i := 3) sc_SymbolWriter_number.nd rfl (Or.inl rfl) (pe_op op_sub (pe_bits (pe_op op_add (pv 2) pe_int)) pe_int))
      (pss_cons (ps_expr (vx_methX c_SymbolWriter_unary pat_SymbolWriter_unary_0 (.head _) hr (by decide) (takes_of rfl rfl rfl rfl) (pv 0) (pa_cons (pv 1) (pa_cons (pv 3) pa_nil)) (pk_cons (C8.pe_gc rfl T.g_MOST_DIGITS) pk_nil)))
      (pss_one (ps_for (passes_of rfl) rfl (pi_range3 rfl T.b_range (pa_cons (pe_op op_sub (pv 3) pe_int) (pa_cons (pe_un un_neg pe_int) (pa_cons (pe_un un_neg pe_int) pa_nil)))) (pg_name (i := 4) sc_SymbolWriter_number.nd rfl (Or.inl rfl)) (pss_cons (ps_set (i := 5) sc_SymbolWriter_number.nd rfl (Or.inl rfl) (pe_op op_and (pe_op op_shr (pe_op op_add (pv 2) pe_int) (pv 4)) pe_int))
      (pss_one (ps_if (pt_cmp (pc_eqI (pv 4) (pe_op op_sub (pv 3) pe_int))) (pss_one (ps_expr (vx_methX c_Encoder_code pat_Encoder_code_0 (.head _) hr (by decide) (takes_of rfl rfl rfl rfl) (fldK (K := K) (pv 0)) (pa_cons (vx_callX c__digit_context pat__digit_context_0 (.head _) hr (by decide) (takes_of rfl rfl rfl rfl) rfl (pa_cons (pv 1) (pa_cons (pv 3) pa_nil)) pk_nil) (pa_cons (pv 5) pa_nil)) pk_nil))) (pss_one (ps_expr (vx_methX c_Encoder_code_even pat_Encoder_code_even_0 (.head _) hr (by decide) (takes_of rfl rfl rfl rfl) (fldK (K := K) (pv 0)) (pa_cons (pv 5) pa_nil) pk_nil)))))))))))), ?_⟩
    obtain ⟨KK, EE, hK0, hE, hw⟩ := cW_gen hw
    have S0 := Sep.startM (M := [p_self, p_self_enc, l_self_enc_probs, l_self_enc_front]) sG (all_cons (some_ne h_p_self) (all_cons (some_ne h_p_self_enc) (all_cons (some_ne h_l_self_enc_probs) (all_cons (some_ne h_l_self_enc_front) all_nil)))) gM
    unfold F_SymbolWriter_number at hw
    refine ⟨_, rfl, _, _, rfl, rfl, (.inl ⟨by decide, by decide⟩), rfl, rfl, G, _, _, rfl, S0.sG, cW_call hw (fun v961 hw => ?_) (fun e he => hE e he _ (Same.refl _))⟩
    refine ⟨_, rfl, _, _, rfl, rfl, _, rfl, ?_⟩
    refine iteD (fun c962 => ?_) (fun c962 => ?_)
    · have hw := cW_pos c962 hw
      refine ⟨_, _, rfl, rfl, _, rfl, ?_⟩
      refine iteN (fun c963 => ?_) (fun c963 => ?_)
      · have hw := cW_neg c963 hw
        exact hE 1 (cW_er hw) _ (Same.refl _)
      · have hw := cW_pos c963 hw
        refine ⟨_, rfl, _, _, rfl, rfl, _, rfl, _, _, rfl, rfl, ?_⟩
        have hw := cW_bnd hw
        refine ⟨_, rfl, _, _, _, rfl, h_p_self, rfl, _, rfl, _, rfl, rfl, rfl, G, _, _, _, _, _, _, self', _, _, _, rfl, S0.sG, (S0.gno (all_cons (.head _) (all_cons (.tail _ (.head _)) (all_cons (.tail _ (.tail _ (.head _))) (all_cons (.tail _ (.tail _ (.tail _ (.head _)))) all_nil))))), h_p_self, h_p_self_enc, h_l_self_enc_probs, h_l_self_enc_front, ne_self_0, ne_self_1, cW_call hw (fun v965 hw H966 x967 h969 h970 h971 h972  => ?_) (fun e he H2 e2 => hE e he H2 (Same.trans (Same.refl _) e2))⟩
        have S968 := S0.mut x967 (all_cons (.head _) (all_cons (.tail _ (.head _)) (all_cons (.tail _ (.tail _ (.head _))) (all_cons (.tail _ (.tail _ (.tail _ (.head _)))) all_nil)))) (all_cons (some_ne h969) (all_cons (some_ne h970) (all_cons (some_ne h971) (all_cons (some_ne h972) all_nil))))
        obtain ⟨g977, hw⟩ := cW_grd hw
        obtain ⟨K981, hK982, hw⟩ := cW_push hw
        refine ⟨_, rfl, _, _, rfl, rfl, _, rfl, _, rfl, _, _, _, _, rfl, (RgC.neg g977.1 g977.2.1 g977.2.2.1 g977.2.2.2), for_rangeC (lo := ((((PySem.Builtin.Int.intBits ((value' + 1)) : Nat) : Int) - 1) - 1)) (c := -1) (n := Int.toNat (((((PySem.Builtin.Int.intBits ((value' + 1)) : Nat) : Int) - 1) - 1) - (-1))) (fun i σ H' => ∃ (self_983 : St_SymbolWriter) (u984 : Option V) (u985 : Option V) (G' : Hp), σ = [some (V.ref p_self), some (V.int (base')), some (V.int (value')), some (V.int ((((PySem.Builtin.Int.intBits ((value' + 1)) : Nat) : Int) - 1))), u984, u985] ∧ Same G G' ∧ Sep [p_self, p_self_enc, l_self_enc_probs, l_self_enc_front] H G G' H' [p_self, p_self_enc, l_self_enc_probs, l_self_enc_front] ∧ H' p_self = some (.ins AD.c_SymbolWriter dx_self [("_encoder", V.ref p_self_enc)]) ∧ H' p_self_enc = some (.ins AD.c_Encoder dx_self_enc [("_probabilities", V.ref l_self_enc_probs), ("_front", V.ref l_self_enc_front), ("_low", V.int (self_983.enc.low)), ("_span", V.int (self_983.enc.span))]) ∧ H' l_self_enc_probs = some (.lst ((self_983.enc.probs : (List Int)).map V.int)) ∧ H' l_self_enc_front = some (.lst ((self_983.enc.front : (List Int)).map V.int)) ∧ cW (forS (List.drop i (rngD (((((PySem.Builtin.Int.intBits ((value' + 1)) : Nat) : Int) - 1) - 1)) (Int.toNat (((((PySem.Builtin.Int.intBits ((value' + 1)) : Nat) : Int) - 1) - 1) - (-1))))) self_983 (fun s x => F_SymbolWriter_number_b1 (base') (value') ((((PySem.Builtin.Int.intBits ((value' + 1)) : Nat) : Int) - 1)) s x)) K981 EE) ?_ ?_ ?_⟩
        · exact ⟨(v965), _, _, _, rfl, (Same.refl _), S968, h969, h970, h971, h972, hw⟩
        · intro i σ H986 hi hw
          obtain ⟨self_983, u984, u985, G992, rfl, eG993, S987, h988, h989, h990, h991, hw⟩ := hw
          have hw := cW_forS (rngD_get hi) hw
          generalize (((((PySem.Builtin.Int.intBits ((value' + 1)) : Nat) : Int) - 1) - 1) + ((i : Nat) : Int) * (-1)) = x994 at hw ⊢
          have hw : cW (F_SymbolWriter_number_b1 (base') (value') ((((PySem.Builtin.Int.intBits ((value' + 1)) : Nat) : Int) - 1)) (self_983) (x994)) _ EE := hw
          unfold F_SymbolWriter_number_b1 at hw
          obtain ⟨K996, hK997, hw⟩ := cW_name hw
          obtain ⟨g999, hw⟩ := cW_grd hw
          refine ⟨_, rfl, _, _, rfl, rfl, _, rfl, _, _, rfl, rfl, g999, _, _, rfl, rfl, ?_⟩
          have hw := cW_bnd hw
          refine ⟨_, rfl, _, rfl, _, _, rfl, rfl, _, _, rfl, rfl, _, rfl, ?_⟩
          refine iteD (fun c1001 => ?_) (fun c1001 => ?_)
          · have hw := cW_pos c1001 hw
            refine ⟨_, rfl, _, _, _, _, _, rfl, h988, T.cl_SymbolWriter, T.n_SymbolWriter__encoder, rfl, _, _, _, rfl, h989, rfl, _, rfl, _, rfl, rfl, rfl, G992, _, _, rfl, S987.sG, cW_callN hw (fun v1002 hw => ?_) trivial⟩
            refine ⟨_, rfl, rfl, rfl, G992, _, _, _, _, self_983.enc, _, _, rfl, S987.sG, (S987.gno (all_cons (.tail _ (.head _)) (all_cons (.tail _ (.tail _ (.head _))) (all_cons (.tail _ (.tail _ (.tail _ (.head _)))) all_nil)))), h989, h990, h991, ne_self_0, cW_callN hw (fun v1003 hw H1004 x1005 h1007 h1008 h1009  => ?_) trivial⟩
            have S1006 := S987.mut x1005 (all_cons (.tail _ (.head _)) (all_cons (.tail _ (.tail _ (.head _))) (all_cons (.tail _ (.tail _ (.tail _ (.head _)))) all_nil))) (all_cons (some_ne h1007) (all_cons (some_ne h1008) (all_cons (some_ne h1009) all_nil)))
            have hw := cW_ok hw
            have hw := hK997 _ hw
            have h1014 := (x1005 _ _ h988 (ni3 ne_self_1 (ne_of h988 h990 (fun z => nomatch z)) (ne_of h988 h991 (fun z => nomatch z))))
            exact ⟨((⟨v1003⟩ : St_SymbolWriter)), _, _, _, rfl, eG993, S1006, h1014, h1007, h1008, h1009, hw⟩
          · have hw := cW_neg c1001 hw
            refine ⟨_, rfl, _, _, _, _, _, rfl, h988, T.cl_SymbolWriter, T.n_SymbolWriter__encoder, rfl, _, _, _, rfl, h989, rfl, _, rfl, rfl, rfl, G992, _, _, _, _, self_983.enc, _, rfl, S987.sG, (S987.gno (all_cons (.tail _ (.head _)) (all_cons (.tail _ (.tail _ (.head _))) (all_cons (.tail _ (.tail _ (.tail _ (.head _)))) all_nil)))), h989, h990, h991, ne_self_0, cW_callN hw (fun v1015 hw H1016 x1017 h1019 h1020 h1021  => ?_) trivial⟩
            have S1018 := S987.mut x1017 (all_cons (.tail _ (.head _)) (all_cons (.tail _ (.tail _ (.head _))) (all_cons (.tail _ (.tail _ (.tail _ (.head _)))) all_nil))) (all_cons (some_ne h1019) (all_cons (some_ne h1020) (all_cons (some_ne h1021) all_nil)))
            have hw := cW_ok hw
            have hw := hK997 _ hw
            have h1026 := (x1017 _ _ h988 (ni3 ne_self_1 (ne_of h988 h990 (fun z => nomatch z)) (ne_of h988 h991 (fun z => nomatch z))))
            exact ⟨((⟨v1015⟩ : St_SymbolWriter)), _, _, _, rfl, eG993, S1018, h1026, h1019, h1020, h1021, hw⟩
        · intro σ H1027 hw
          obtain ⟨self_983, u984, u985, G1033, rfl, eG1034, S1028, h1029, h1030, h1031, h1032, hw⟩ := hw
          have hw := hK982 _ (cW_forS0 (rngD_len _ _).symm hw)
          have hw : cW (F_SymbolWriter_number_r1  (self_983)) _ EE := hw
          unfold F_SymbolWriter_number_r1 at hw
          have hw := cW_ok hw
          exact hK0 _ hw _ S1028.base h1029 h1030 h1031 h1032
    · have hw := cW_neg c962 hw
      refine ⟨_, rfl, ?_⟩
      refine iteT ?_
      exact hE 1 (cW_er hw) _ (Same.refl _)

abbrev N_Decoder_read_even : List Str := ["self"]
theorem sc_Decoder_read_even : FnScope N_Decoder_read_even ["self"] (defScope s_Decoder_read_even) := ⟨rfl, rfl, rfl, by decide +kernel, rfl, by decide +kernel, by decide +kernel⟩
theorem ok_Decoder_read_even (D : MethX K AD.c_Decoder "Decoder.read_even" "read_even" s_Decoder_read_even ["self"] pats_Decoder_read_even) (T : Txt K mg AD) (c_Decoder__decide : MetX P w K mg base 2 AD.c_Decoder "_decide" (sp_Decoder__decide K AD) pats_Decoder__decide) : MetX P w K mg base 3 AD.c_Decoder "read_even" (sp_Decoder_read_even K AD) pats_Decoder_read_even := by
  refine D.ok T.cl_Decoder sc_Decoder_read_even (fun vs H Q E h => ?_) (fun f cdv A_ outer s H vs Q E hr h => ?_)
  · obtain ⟨G, p_self, l_self_probs, l_self_octs, dx_self, self', rfl, _⟩ := h
    rfl
  · obtain ⟨G, p_self, l_self_probs, l_self_octs, dx_self, self', rfl, sG, gM, h_p_self, h_l_self_probs, h_l_self_octs, ne_self_0, hw⟩ := h
    refine ⟨_, (pss_one (ps_ret (vx_methX c_Decoder__decide pat_Decoder__decide_0 (.head _) hr (by decide) (takes_of rfl rfl rfl rfl) (pv 0) (pa_cons (C8.pe_gc rfl T.g_EVEN) pa_nil) pk_nil))), ?_⟩
    obtain ⟨KK, EE, hK0, hE, hw⟩ := cW_gen hw
    have S0 := Sep.startM (M := [p_self, l_self_probs, l_self_octs]) sG (all_cons (some_ne h_p_self) (all_cons (some_ne h_l_self_probs) (all_cons (some_ne h_l_self_octs) all_nil))) gM
    unfold F_Decoder_read_even at hw
    refine ⟨_, rfl, _, _, _, rfl, h_p_self, rfl, rfl, rfl, G, _, _, _, _, self', _, rfl, S0.sG, (S0.gno (all_cons (.head _) (all_cons (.tail _ (.head _)) (all_cons (.tail _ (.tail _ (.head _))) all_nil)))), h_p_self, h_l_self_probs, h_l_self_octs, ne_self_0, cW_call hw (fun v1036 hw H1037 x1038 h1040 h1041 h1042  => ?_) (fun e he H2 e2 => hE e he H2 (Same.trans (Same.refl _) e2))⟩
    have S1039 := S0.mut x1038 (all_cons (.head _) (all_cons (.tail _ (.head _)) (all_cons (.tail _ (.tail _ (.head _))) all_nil))) (all_cons (some_ne h1040) (all_cons (some_ne h1041) (all_cons (some_ne h1042) all_nil)))
    have hw := cW_ok hw
    exact hK0 _ hw _ S1039.base h1040 h1041 h1042

abbrev N_SymbolReader_number : List Str := ["self", "base", "digits", "grown", "_"]
theorem sc_SymbolReader_number : FnScope N_SymbolReader_number ["self", "base"] (defScope s_SymbolReader_number) := ⟨rfl, rfl, rfl, by decide +kernel, rfl, by decide +kernel, by decide +kernel⟩
theorem ok_SymbolReader_number (D : MethX K AD.c_SymbolReader "SymbolReader.number" "number" s_SymbolReader_number ["self", "base"] pats_SymbolReader_number) (T : Txt K mg AD) (c__check_contexts : CalX P w K mg base 1 "_check_contexts" (sp__check_contexts K AD) pats__check_contexts) (c_SymbolReader_unary : MetX P w K mg base 4 AD.c_SymbolReader "unary" (sp_SymbolReader_unary K AD) pats_SymbolReader_unary) (c_Decoder_read : MetX P w K mg base 3 AD.c_Decoder "read" (sp_Decoder_read K AD) pats_Decoder_read) (c__digit_context : CalX P w K mg base 1 "_digit_context" (sp__digit_context K AD) pats__digit_context) (c_Decoder_read_even : MetX P w K mg base 3 AD.c_Decoder "read_even" (sp_Decoder_read_even K AD) pats_Decoder_read_even) : MetX P w K mg base 5 AD.c_SymbolReader "number" (sp_SymbolReader_number K AD) pats_SymbolReader_number := by
  refine D.ok T.cl_SymbolReader sc_SymbolReader_number (fun vs H Q E h => ?_) (fun f cdv A_ outer s H vs Q E hr h => ?_)
  · obtain ⟨G, p_self, p_self_dec, l_self_dec_probs, l_self_dec_octs, dx_self, dx_self_dec, self', base', rfl, _⟩ := h
    rfl
  · obtain ⟨G, p_self, p_self_dec, l_self_dec_probs, l_self_dec_octs, dx_self, dx_self_dec, self', base', rfl, sG, gM, h_p_self, h_p_self_dec, h_l_self_dec_probs, h_l_self_dec_octs, ne_self_0, ne_self_1, hw⟩ := h
    refine ⟨_, (pss_cons (ps_expr (vx_callX c__check_contexts pat__check_contexts_0 (.head _) hr (by decide) (takes_of rfl rfl rfl rfl) rfl (pa_cons (pv 1) (pa_cons (pe_op op_mul pe_int (C8.pe_gc rfl T.g_SHARED)) pa_nil)) pk_nil))
      (pss_cons (ps_set (i := 2) sc_SymbolReader_number.nd rfl (Or.inl rfl) (vx_methX c_SymbolReader_unary pat_SymbolReader_unary_0 (.head _) hr (by decide) (takes_of rfl rfl rfl rfl) (pv 0) (pa_cons (pv 1) pa_nil) (pk_cons (C8.pe_gc rfl T.g_MOST_DIGITS) pk_nil)))
      (pss_cons (ps_set (i := 3) sc_SymbolReader_number.nd rfl (Or.inl rfl) pe_int)
      (C8.pss_cut (ps_if (pt_cmp (pc_gt (pv 2) pe_int)) (pss_one (ps_set (i := 3) sc_SymbolReader_number.nd rfl (Or.inl rfl) (pe_op op_add pe_int (vx_methX c_Decoder_read pat_Decoder_read_0 (.head _) hr (by decide) (takes_of rfl rfl rfl rfl) (fldK (K := K) (pv 0)) (pa_cons (vx_callX c__digit_context pat__digit_context_0 (.head _) hr (by decide) (takes_of rfl rfl rfl rfl) rfl (pa_cons (pv 1) (pa_cons (pv 2) pa_nil)) pk_nil) pa_nil) pk_nil)))) pss_nil)
      (pss_cons (ps_for (passes_of rfl) rfl (pi_range1 rfl T.b_range (pa_cons (pe_op op_sub (pv 2) pe_int) pa_nil)) (pg_name (i := 4) sc_SymbolReader_number.nd rfl (Or.inl rfl)) (pss_one (ps_set (i := 3) sc_SymbolReader_number.nd rfl (Or.inl rfl) (pe_op op_add (pe_op op_mul pe_int (pv 3)) (vx_methX0 c_Decoder_read_even pat_Decoder_read_even_0 (.head _) hr (by decide) (takes_of rfl rfl rfl rfl) (fldK (K := K) (pv 0)))))))
      (pss_one (ps_ret (pe_callB (call_min2 rfl) (by rfl) T.b_min (by decide +kernel) (pa_cons (pe_op op_sub (pv 3) pe_int) (pa_cons (C8.pe_gc rfl T.g_GREATEST_NUMBER) pa_nil)))))))))), ?_⟩
    obtain ⟨KK, EE, hK0, hE, hw⟩ := cW_gen hw
    have S0 := Sep.startM (M := [p_self, p_self_dec, l_self_dec_probs, l_self_dec_octs]) sG (all_cons (some_ne h_p_self) (all_cons (some_ne h_p_self_dec) (all_cons (some_ne h_l_self_dec_probs) (all_cons (some_ne h_l_self_dec_octs) all_nil)))) gM
    unfold F_SymbolReader_number at hw
    refine ⟨_, rfl, _, _, rfl, rfl, (.inl ⟨by decide, by decide⟩), rfl, rfl, G, _, _, rfl, S0.sG, cW_call hw (fun v1047 hw => ?_) (fun e he => hE e he _ (Same.refl _))⟩
    refine ⟨_, rfl, _, _, _, rfl, h_p_self, rfl, _, rfl, rfl, rfl, G, _, _, _, _, _, _, self', _, _, rfl, S0.sG, (S0.gno (all_cons (.head _) (all_cons (.tail _ (.head _)) (all_cons (.tail _ (.tail _ (.head _))) (all_cons (.tail _ (.tail _ (.tail _ (.head _)))) all_nil))))), h_p_self, h_p_self_dec, h_l_self_dec_probs, h_l_self_dec_octs, ne_self_0, ne_self_1, cW_call hw (fun v1048 hw H1049 x1050 h1052 h1053 h1054 h1055  => ?_) (fun e he H2 e2 => hE e he H2 (Same.trans (Same.refl _) e2))⟩
    have S1051 := S0.mut x1050 (all_cons (.head _) (all_cons (.tail _ (.head _)) (all_cons (.tail _ (.tail _ (.head _))) (all_cons (.tail _ (.tail _ (.tail _ (.head _)))) all_nil)))) (all_cons (some_ne h1052) (all_cons (some_ne h1053) (all_cons (some_ne h1054) (all_cons (some_ne h1055) all_nil))))
    refine ⟨fun σ H' => ∃ (self_1063 : St_SymbolReader) (grown_1064 : Int) (G' : Hp), σ = [some (V.ref p_self), some (V.int (base')), some (V.int (v1048.1)), some (V.int grown_1064), none] ∧ Same G G' ∧ Sep [p_self, p_self_dec, l_self_dec_probs, l_self_dec_octs] H G G' H' [p_self, p_self_dec, l_self_dec_probs, l_self_dec_octs] ∧ H' p_self = some (.ins AD.c_SymbolReader dx_self [("_decoder", V.ref p_self_dec)]) ∧ H' p_self_dec = some (.ins AD.c_Decoder dx_self_dec [("_probabilities", V.ref l_self_dec_probs), ("_octets", V.ref l_self_dec_octs), ("_place", V.int (self_1063.dec.place)), ("_span", V.int (self_1063.dec.span)), ("_value", V.int (self_1063.dec.value))]) ∧ H' l_self_dec_probs = some (.lst ((self_1063.dec.probs : (List Int)).map V.int)) ∧ H' l_self_dec_octs = some (.lst ((self_1063.dec.octs : (List Int)).map V.int)) ∧ cW (F_SymbolReader_number_k1 (v1048.1) self_1063 grown_1064) KK EE, ?_, ?_⟩
    · obtain ⟨K1065, hK1066, hw⟩ := cW_push hw
      refine ⟨_, rfl, _, _, rfl, rfl, _, rfl, ?_⟩
      refine iteD (fun c1067 => ?_) (fun c1067 => ?_)
      · have hw := cW_pos c1067 hw
        refine ⟨_, rfl, _, _, _, _, _, rfl, h1052, T.cl_SymbolReader, T.n_SymbolReader__decoder, rfl, _, _, _, rfl, h1053, rfl, _, rfl, _, rfl, rfl, rfl, G, _, _, rfl, S1051.sG, cW_callN hw (fun v1068 hw => ?_) trivial⟩
        refine ⟨rfl, rfl, G, _, _, _, _, v1048.2.dec, _, rfl, S1051.sG, (S1051.gno (all_cons (.tail _ (.head _)) (all_cons (.tail _ (.tail _ (.head _))) (all_cons (.tail _ (.tail _ (.tail _ (.head _)))) all_nil)))), h1053, h1054, h1055, ne_self_0, cW_callN hw (fun v1069 hw H1070 x1071 h1073 h1074 h1075  => ?_) trivial⟩
        have S1072 := S1051.mut x1071 (all_cons (.tail _ (.head _)) (all_cons (.tail _ (.tail _ (.head _))) (all_cons (.tail _ (.tail _ (.tail _ (.head _)))) all_nil))) (all_cons (some_ne h1073) (all_cons (some_ne h1074) (all_cons (some_ne h1075) all_nil)))
        refine ⟨_, _, rfl, rfl, ?_⟩
        have hw := cW_bnd hw
        have hw := cW_ok hw
        have hw := hK1066 _ hw
        have h1081 := (x1071 _ _ h1052 (ni3 ne_self_1 (ne_of h1052 h1054 (fun z => nomatch z)) (ne_of h1052 h1055 (fun z => nomatch z))))
        exact ⟨((⟨v1069.2⟩ : St_SymbolReader)), ((2 + v1069.1)), _, rfl, (Same.refl _), S1072, h1081, h1073, h1074, h1075, hw⟩
      · have hw := cW_neg c1067 hw
        have hw := cW_ok hw
        have hw := hK1066 _ hw
        exact ⟨(v1048.2), (1), _, rfl, (Same.refl _), S1051, h1052, h1053, h1054, h1055, hw⟩
    · intro σ H1082 hw
      obtain ⟨self_1063, grown_1064, G1088, rfl, eG1089, S1083, h1084, h1085, h1086, h1087, hw⟩ := hw
      unfold F_SymbolReader_number_k1 at hw
      obtain ⟨g1090, hw⟩ := cW_grd hw
      obtain ⟨K1091, hK1092, hw⟩ := cW_push hw
      refine ⟨_, rfl, _, _, rfl, rfl, _, rfl, g1090.1, g1090.2, for_range (lo := 0) (n := Int.toNat ((v1048.1 - 1))) (fun i σ H' => ∃ (self_1093 : St_SymbolReader) (grown_1094 : Int) (u1095 : Option V) (G' : Hp), σ = [some (V.ref p_self), some (V.int (base')), some (V.int (v1048.1)), some (V.int grown_1094), u1095] ∧ Same G1088 G' ∧ Sep [p_self, p_self_dec, l_self_dec_probs, l_self_dec_octs] H G G' H' [p_self, p_self_dec, l_self_dec_probs, l_self_dec_octs] ∧ H' p_self = some (.ins AD.c_SymbolReader dx_self [("_decoder", V.ref p_self_dec)]) ∧ H' p_self_dec = some (.ins AD.c_Decoder dx_self_dec [("_probabilities", V.ref l_self_dec_probs), ("_octets", V.ref l_self_dec_octs), ("_place", V.int (self_1093.dec.place)), ("_span", V.int (self_1093.dec.span)), ("_value", V.int (self_1093.dec.value))]) ∧ H' l_self_dec_probs = some (.lst ((self_1093.dec.probs : (List Int)).map V.int)) ∧ H' l_self_dec_octs = some (.lst ((self_1093.dec.octs : (List Int)).map V.int)) ∧ cW (forS (List.drop i (rng (0) (Int.toNat ((v1048.1 - 1))))) (self_1093, grown_1094) (fun s x => F_SymbolReader_number_b2  (s.1) (s.2) x)) K1091 EE) ?_ ?_ ?_⟩
      · exact ⟨(self_1063), (grown_1064), _, _, rfl, (Same.refl _), S1083, h1084, h1085, h1086, h1087, hw⟩
      · intro i σ H1096 hi hw
        obtain ⟨self_1093, grown_1094, u1095, G1102, rfl, eG1103, S1097, h1098, h1099, h1100, h1101, hw⟩ := hw
        have hw := cW_forS (rng_get hi) hw
        generalize (0 + (i : Int)) = x1104 at hw ⊢
        have hw : cW (F_SymbolReader_number_b2  (self_1093) (grown_1094) (x1104)) _ EE := hw
        unfold F_SymbolReader_number_b2 at hw
        obtain ⟨K1107, hK1108, hw⟩ := cW_name hw
        refine ⟨_, rfl, _, _, rfl, rfl, (.inl ⟨by decide, by decide⟩), _, rfl, _, _, _, _, _, rfl, h1098, T.cl_SymbolReader, T.n_SymbolReader__decoder, rfl, _, _, _, rfl, h1099, rfl, rfl, rfl, G1102, _, _, _, _, self_1093.dec, rfl, S1097.sG, (S1097.gno (all_cons (.tail _ (.head _)) (all_cons (.tail _ (.tail _ (.head _))) (all_cons (.tail _ (.tail _ (.tail _ (.head _)))) all_nil)))), h1099, h1100, h1101, ne_self_0, cW_callN hw (fun v1110 hw H1111 x1112 h1114 h1115 h1116  => ?_) trivial⟩
        have S1113 := S1097.mut x1112 (all_cons (.tail _ (.head _)) (all_cons (.tail _ (.tail _ (.head _))) (all_cons (.tail _ (.tail _ (.tail _ (.head _)))) all_nil))) (all_cons (some_ne h1114) (all_cons (some_ne h1115) (all_cons (some_ne h1116) all_nil)))
        refine ⟨_, _, rfl, rfl, ?_⟩
        have hw := cW_bnd hw
        have hw := cW_ok hw
        have hw := hK1108 _ hw
        have h1122 := (x1112 _ _ h1098 (ni3 ne_self_1 (ne_of h1098 h1100 (fun z => nomatch z)) (ne_of h1098 h1101 (fun z => nomatch z))))
        exact ⟨((⟨v1110.2⟩ : St_SymbolReader)), (((2 * grown_1094) + v1110.1)), _, _, rfl, eG1103, S1113, h1122, h1114, h1115, h1116, hw⟩
      · intro σ H1123 hw
        obtain ⟨self_1093, grown_1094, u1095, G1129, rfl, eG1130, S1124, h1125, h1126, h1127, h1128, hw⟩ := hw
        have hw := hK1092 _ (cW_forS0 (rng_len _ _).symm hw)
        have hw : cW (F_SymbolReader_number_r2  (self_1093) (grown_1094)) _ EE := hw
        unfold F_SymbolReader_number_r2 at hw
        refine ⟨_, rfl, _, _, rfl, rfl, _, _, rfl, ?_⟩
        have hw := cW_ok hw
        exact hK0 _ hw _ S1124.base h1125 h1126 h1127 h1128

abbrev N_SymbolWriter_signed : List Str := ["self", "base", "value"]
theorem sc_SymbolWriter_signed : FnScope N_SymbolWriter_signed ["self", "base", "value"] (defScope s_SymbolWriter_signed) := ⟨rfl, rfl, rfl, by decide +kernel, rfl, by decide +kernel, by decide +kernel⟩
theorem ok_SymbolWriter_signed (D : MethX K AD.c_SymbolWriter "SymbolWriter.signed" "signed" s_SymbolWriter_signed ["self", "base", "value"] pats_SymbolWriter_signed) (T : Txt K mg AD) (c_SymbolWriter_number : MetX P w K mg base 5 AD.c_SymbolWriter "number" (sp_SymbolWriter_number K AD) pats_SymbolWriter_number) (c_Encoder_code_even : MetX P w K mg base 3 AD.c_Encoder "code_even" (sp_Encoder_code_even K AD) pats_Encoder_code_even) : MetX P w K mg base 6 AD.c_SymbolWriter "signed" (sp_SymbolWriter_signed K AD) pats_SymbolWriter_signed := by
  refine D.ok T.cl_SymbolWriter sc_SymbolWriter_signed (fun vs H Q E h => ?_) (fun f cdv A_ outer s H vs Q E hr h => ?_)
  · obtain ⟨G, p_self, p_self_enc, l_self_enc_probs, l_self_enc_front, dx_self, dx_self_enc, self', base', value', rfl, _⟩ := h
    rfl
  · obtain ⟨G, p_self, p_self_enc, l_self_enc_probs, l_self_enc_front, dx_self, dx_self_enc, self', base', value', rfl, sG, gM, h_p_self, h_p_self_enc, h_l_self_enc_probs, h_l_self_enc_front, ne_self_0, ne_self_1, hw⟩ := h
    refine ⟨_, (pss_cons (ps_expr (vx_methX c_SymbolWriter_number pat_SymbolWriter_number_0 (.head _) hr (by decide) (takes_of rfl rfl rfl rfl) (pv 0) (pa_cons (pv 1) (pa_cons (pe_callB call_abs (by rfl) T.b_abs (by decide +kernel) (pa_cons (pv 2) pa_nil)) pa_nil)) pk_nil))
      (pss_one (ps_if (pt_cmp (pc_neI (pv 2) pe_int)) (pss_one (ps_expr (vx_methX c_Encoder_code_even pat_Encoder_code_even_0 (.head _) hr (by decide) (takes_of rfl rfl rfl rfl) (fldK (K := K) (pv 0)) (pa_cons (pe_ifExp (pt_cmp (pc_lt (pv 2) pe_int)) pe_int pe_int) pa_nil) pk_nil))) pss_nil))), ?_⟩
    obtain ⟨KK, EE, hK0, hE, hw⟩ := cW_gen hw
    have S0 := Sep.startM (M := [p_self, p_self_enc, l_self_enc_probs, l_self_enc_front]) sG (all_cons (some_ne h_p_self) (all_cons (some_ne h_p_self_enc) (all_cons (some_ne h_l_self_enc_probs) (all_cons (some_ne h_l_self_enc_front) all_nil)))) gM
    unfold F_SymbolWriter_signed at hw
    refine ⟨_, rfl, _, _, _, rfl, h_p_self, rfl, _, rfl, _, rfl, _, rfl, rfl, rfl, G, _, _, _, _, _, _, self', _, _, rfl, S0.sG, (S0.gno (all_cons (.head _) (all_cons (.tail _ (.head _)) (all_cons (.tail _ (.tail _ (.head _))) (all_cons (.tail _ (.tail _ (.tail _ (.head _)))) all_nil))))), h_p_self, h_p_self_enc, h_l_self_enc_probs, h_l_self_enc_front, ne_self_0, ne_self_1, cW_call hw (fun v1133 hw H1134 x1135 h1137 h1138 h1139 h1140  => ?_) (fun e he H2 e2 => hE e he H2 (Same.trans (Same.refl _) e2))⟩
    have S1136 := S0.mut x1135 (all_cons (.head _) (all_cons (.tail _ (.head _)) (all_cons (.tail _ (.tail _ (.head _))) (all_cons (.tail _ (.tail _ (.tail _ (.head _)))) all_nil)))) (all_cons (some_ne h1137) (all_cons (some_ne h1138) (all_cons (some_ne h1139) (all_cons (some_ne h1140) all_nil))))
    refine ⟨_, rfl, _, _, rfl, rfl, _, rfl, ?_⟩
    refine iteN (fun c1145 => ?_) (fun c1145 => ?_)
    · have hw := cW_neg c1145 hw
      refine ⟨_, rfl, _, _, _, _, _, rfl, h1137, T.cl_SymbolWriter, T.n_SymbolWriter__encoder, rfl, _, _, _, rfl, h1138, rfl, ?_⟩
      refine vv_if (vt_cmp (vv_cmp (val_var rfl) val_c (fun Q q => ⟨_, _, rfl, rfl, q⟩))) val_c val_c _ ?_
      refine ⟨rfl, rfl, G, _, _, _, _, v1133.enc, _, rfl, S1136.sG, (S1136.gno (all_cons (.tail _ (.head _)) (all_cons (.tail _ (.tail _ (.head _))) (all_cons (.tail _ (.tail _ (.tail _ (.head _)))) all_nil)))), h1138, h1139, h1140, ne_self_0, cW_callN hw (fun v1149 hw H1150 x1151 h1153 h1154 h1155  => ?_) trivial⟩
      have S1152 := S1136.mut x1151 (all_cons (.tail _ (.head _)) (all_cons (.tail _ (.tail _ (.head _))) (all_cons (.tail _ (.tail _ (.tail _ (.head _)))) all_nil))) (all_cons (some_ne h1153) (all_cons (some_ne h1154) (all_cons (some_ne h1155) all_nil)))
      have h1160 := (x1151 _ _ h1137 (ni3 ne_self_1 (ne_of h1137 h1139 (fun z => nomatch z)) (ne_of h1137 h1140 (fun z => nomatch z))))
      have hw := cW_ok hw
      exact hK0 _ hw _ S1152.base h1160 h1153 h1154 h1155
    · have hw := cW_pos c1145 hw
      have hw := cW_ok hw
      exact hK0 _ hw _ S1136.base h1137 h1138 h1139 h1140

abbrev N_SymbolReader_signed : List Str := ["self", "base", "size"]
theorem sc_SymbolReader_signed : FnScope N_SymbolReader_signed ["self", "base"] (defScope s_SymbolReader_signed) := ⟨rfl, rfl, rfl, by decide +kernel, rfl, by decide +kernel, by decide +kernel⟩
theorem ok_SymbolReader_signed (D : MethX K AD.c_SymbolReader "SymbolReader.signed" "signed" s_SymbolReader_signed ["self", "base"] pats_SymbolReader_signed) (T : Txt K mg AD) (c_SymbolReader_number : MetX P w K mg base 5 AD.c_SymbolReader "number" (sp_SymbolReader_number K AD) pats_SymbolReader_number) (c_Decoder_read_even : MetX P w K mg base 3 AD.c_Decoder "read_even" (sp_Decoder_read_even K AD) pats_Decoder_read_even) : MetX P w K mg base 6 AD.c_SymbolReader "signed" (sp_SymbolReader_signed K AD) pats_SymbolReader_signed := by
  refine D.ok T.cl_SymbolReader sc_SymbolReader_signed (fun vs H Q E h => ?_) (fun f cdv A_ outer s H vs Q E hr h => ?_)
  · obtain ⟨G, p_self, p_self_dec, l_self_dec_probs, l_self_dec_octs, dx_self, dx_self_dec, self', base', rfl, _⟩ := h
    rfl
  · obtain ⟨G, p_self, p_self_dec, l_self_dec_probs, l_self_dec_octs, dx_self, dx_self_dec, self', base', rfl, sG, gM, h_p_self, h_p_self_dec, h_l_self_dec_probs, h_l_self_dec_octs, ne_self_0, ne_self_1, hw⟩ := h
    refine ⟨_, (pss_cons (ps_set (i := 2) sc_SymbolReader_signed.nd rfl (Or.inl rfl) (vx_methX c_SymbolReader_number pat_SymbolReader_number_0 (.head _) hr (by decide) (takes_of rfl rfl rfl rfl) (pv 0) (pa_cons (pv 1) pa_nil) pk_nil))
      (pss_cons (ps_if (PW.pt (pw_and (pt_cmp (pc_neI (pv 2) pe_int)) (pw_and1 (pt_cmp (pc_eqI (vx_methX0 c_Decoder_read_even pat_Decoder_read_even_0 (.head _) hr (by decide) (takes_of rfl rfl rfl rfl) (fldK (K := K) (pv 0))) pe_int))))) (pss_one (ps_ret (pe_un un_neg (pv 2)))) pss_nil)
      (pss_one (ps_ret (pv 2))))), ?_⟩
    obtain ⟨KK, EE, hK0, hE, hw⟩ := cW_gen hw
    have S0 := Sep.startM (M := [p_self, p_self_dec, l_self_dec_probs, l_self_dec_octs]) sG (all_cons (some_ne h_p_self) (all_cons (some_ne h_p_self_dec) (all_cons (some_ne h_l_self_dec_probs) (all_cons (some_ne h_l_self_dec_octs) all_nil)))) gM
    unfold F_SymbolReader_signed at hw
    refine ⟨_, rfl, _, _, _, rfl, h_p_self, rfl, _, rfl, rfl, rfl, G, _, _, _, _, _, _, self', _, rfl, S0.sG, (S0.gno (all_cons (.head _) (all_cons (.tail _ (.head _)) (all_cons (.tail _ (.tail _ (.head _))) (all_cons (.tail _ (.tail _ (.tail _ (.head _)))) all_nil))))), h_p_self, h_p_self_dec, h_l_self_dec_probs, h_l_self_dec_octs, ne_self_0, ne_self_1, cW_call hw (fun v1161 hw H1162 x1163 h1165 h1166 h1167 h1168  => ?_) (fun e he H2 e2 => hE e he H2 (Same.trans (Same.refl _) e2))⟩
    have S1164 := S0.mut x1163 (all_cons (.head _) (all_cons (.tail _ (.head _)) (all_cons (.tail _ (.tail _ (.head _))) (all_cons (.tail _ (.tail _ (.tail _ (.head _)))) all_nil)))) (all_cons (some_ne h1165) (all_cons (some_ne h1166) (all_cons (some_ne h1167) (all_cons (some_ne h1168) all_nil))))
    refine ⟨_, rfl, _, _, rfl, rfl, _, rfl, ?_⟩
    refine iteN (fun c1173 => ?_) (fun c1173 => ?_)
    · have hw := cW_neg c1173 hw
      refine ⟨_, rfl, _, _, _, _, _, rfl, h1165, T.cl_SymbolReader, T.n_SymbolReader__decoder, rfl, _, _, _, rfl, h1166, rfl, rfl, rfl, G, _, _, _, _, v1161.2.dec, rfl, S1164.sG, (S1164.gno (all_cons (.tail _ (.head _)) (all_cons (.tail _ (.tail _ (.head _))) (all_cons (.tail _ (.tail _ (.tail _ (.head _)))) all_nil)))), h1166, h1167, h1168, ne_self_0, cW_callN hw (fun v1174 hw H1175 x1176 h1178 h1179 h1180  => ?_) trivial⟩
      have S1177 := S1164.mut x1176 (all_cons (.tail _ (.head _)) (all_cons (.tail _ (.tail _ (.head _))) (all_cons (.tail _ (.tail _ (.tail _ (.head _)))) all_nil))) (all_cons (some_ne h1178) (all_cons (some_ne h1179) (all_cons (some_ne h1180) all_nil)))
      refine ⟨_, _, rfl, rfl, _, rfl, ?_⟩
      refine iteD (fun c1185 => ?_) (fun c1185 => ?_)
      · have hw := cW_pos c1185 hw
        refine ⟨_, rfl, _, rfl, ?_⟩
        have h1186 := (x1176 _ _ h1165 (ni3 ne_self_1 (ne_of h1165 h1167 (fun z => nomatch z)) (ne_of h1165 h1168 (fun z => nomatch z))))
        have hw := cW_ok hw
        exact hK0 _ hw _ S1177.base h1186 h1178 h1179 h1180
      · have hw := cW_neg c1185 hw
        refine ⟨_, rfl, ?_⟩
        have h1187 := (x1176 _ _ h1165 (ni3 ne_self_1 (ne_of h1165 h1167 (fun z => nomatch z)) (ne_of h1165 h1168 (fun z => nomatch z))))
        have hw := cW_ok hw
        exact hK0 _ hw _ S1177.base h1187 h1178 h1179 h1180
    · have hw := cW_pos c1173 hw
      refine iteF ?_
      refine ⟨_, rfl, ?_⟩
      have hw := cW_ok hw
      exact hK0 _ hw _ S1164.base h1165 h1166 h1167 h1168

abbrev N_SymbolWriter_even : List Str := ["self", "decision"]
theorem sc_SymbolWriter_even : FnScope N_SymbolWriter_even ["self", "decision"] (defScope s_SymbolWriter_even) := ⟨rfl, rfl, rfl, by decide +kernel, rfl, by decide +kernel, by decide +kernel⟩
theorem ok_SymbolWriter_even (D : MethX K AD.c_SymbolWriter "SymbolWriter.even" "even" s_SymbolWriter_even ["self", "decision"] pats_SymbolWriter_even) (T : Txt K mg AD) (c_Encoder_code_even : MetX P w K mg base 3 AD.c_Encoder "code_even" (sp_Encoder_code_even K AD) pats_Encoder_code_even) : MetX P w K mg base 4 AD.c_SymbolWriter "even" (sp_SymbolWriter_even K AD) pats_SymbolWriter_even := by
  refine D.ok T.cl_SymbolWriter sc_SymbolWriter_even (fun vs H Q E h => ?_) (fun f cdv A_ outer s H vs Q E hr h => ?_)
  · obtain ⟨G, p_self, p_self_enc, l_self_enc_probs, l_self_enc_front, dx_self, dx_self_enc, self', decision', rfl, _⟩ := h
    rfl
  · obtain ⟨G, p_self, p_self_enc, l_self_enc_probs, l_self_enc_front, dx_self, dx_self_enc, self', decision', rfl, sG, gM, h_p_self, h_p_self_enc, h_l_self_enc_probs, h_l_self_enc_front, ne_self_0, ne_self_1, hw⟩ := h
    refine ⟨_, (pss_one (ps_expr (vx_methX c_Encoder_code_even pat_Encoder_code_even_0 (.head _) hr (by decide) (takes_of rfl rfl rfl rfl) (fldK (K := K) (pv 0)) (pa_cons (pv 1) pa_nil) pk_nil))), ?_⟩
    obtain ⟨KK, EE, hK0, hE, hw⟩ := cW_gen hw
    have S0 := Sep.startM (M := [p_self, p_self_enc, l_self_enc_probs, l_self_enc_front]) sG (all_cons (some_ne h_p_self) (all_cons (some_ne h_p_self_enc) (all_cons (some_ne h_l_self_enc_probs) (all_cons (some_ne h_l_self_enc_front) all_nil)))) gM
    unfold F_SymbolWriter_even at hw
    refine ⟨_, rfl, _, _, _, _, _, rfl, h_p_self, T.cl_SymbolWriter, T.n_SymbolWriter__encoder, rfl, _, _, _, rfl, h_p_self_enc, rfl, _, rfl, rfl, rfl, G, _, _, _, _, self'.enc, _, rfl, S0.sG, (S0.gno (all_cons (.tail _ (.head _)) (all_cons (.tail _ (.tail _ (.head _))) (all_cons (.tail _ (.tail _ (.tail _ (.head _)))) all_nil)))), h_p_self_enc, h_l_self_enc_probs, h_l_self_enc_front, ne_self_0, cW_call hw (fun v1188 hw H1189 x1190 h1192 h1193 h1194  => ?_) (fun e he H2 e2 => hE e he H2 (Same.trans (Same.refl _) e2))⟩
    have S1191 := S0.mut x1190 (all_cons (.tail _ (.head _)) (all_cons (.tail _ (.tail _ (.head _))) (all_cons (.tail _ (.tail _ (.tail _ (.head _)))) all_nil))) (all_cons (some_ne h1192) (all_cons (some_ne h1193) (all_cons (some_ne h1194) all_nil)))
    have h1199 := (x1190 _ _ h_p_self (ni3 ne_self_1 (ne_of h_p_self h_l_self_enc_probs (fun z => nomatch z)) (ne_of h_p_self h_l_self_enc_front (fun z => nomatch z))))
    have hw := cW_ok hw
    exact hK0 _ hw _ S1191.base h1199 h1192 h1193 h1194

abbrev N_SymbolReader_even : List Str := ["self"]
theorem sc_SymbolReader_even : FnScope N_SymbolReader_even ["self"] (defScope s_SymbolReader_even) := ⟨rfl, rfl, rfl, by decide +kernel, rfl, by decide +kernel, by decide +kernel⟩
theorem ok_SymbolReader_even (D : MethX K AD.c_SymbolReader "SymbolReader.even" "even" s_SymbolReader_even ["self"] pats_SymbolReader_even) (T : Txt K mg AD) (c_Decoder_read_even : MetX P w K mg base 3 AD.c_Decoder "read_even" (sp_Decoder_read_even K AD) pats_Decoder_read_even) : MetX P w K mg base 4 AD.c_SymbolReader "even" (sp_SymbolReader_even K AD) pats_SymbolReader_even := by
  refine D.ok T.cl_SymbolReader sc_SymbolReader_even (fun vs H Q E h => ?_) (fun f cdv A_ outer s H vs Q E hr h => ?_)
  · obtain ⟨G, p_self, p_self_dec, l_self_dec_probs, l_self_dec_octs, dx_self, dx_self_dec, self', rfl, _⟩ := h
    rfl
  · obtain ⟨G, p_self, p_self_dec, l_self_dec_probs, l_self_dec_octs, dx_self, dx_self_dec, self', rfl, sG, gM, h_p_self, h_p_self_dec, h_l_self_dec_probs, h_l_self_dec_octs, ne_self_0, ne_self_1, hw⟩ := h
    refine ⟨_, (pss_one (ps_ret (vx_methX0 c_Decoder_read_even pat_Decoder_read_even_0 (.head _) hr (by decide) (takes_of rfl rfl rfl rfl) (fldK (K := K) (pv 0))))), ?_⟩
    obtain ⟨KK, EE, hK0, hE, hw⟩ := cW_gen hw
    have S0 := Sep.startM (M := [p_self, p_self_dec, l_self_dec_probs, l_self_dec_octs]) sG (all_cons (some_ne h_p_self) (all_cons (some_ne h_p_self_dec) (all_cons (some_ne h_l_self_dec_probs) (all_cons (some_ne h_l_self_dec_octs) all_nil)))) gM
    unfold F_SymbolReader_even at hw
    refine ⟨_, rfl, _, _, _, _, _, rfl, h_p_self, T.cl_SymbolReader, T.n_SymbolReader__decoder, rfl, _, _, _, rfl, h_p_self_dec, rfl, rfl, rfl, G, _, _, _, _, self'.dec, rfl, S0.sG, (S0.gno (all_cons (.tail _ (.head _)) (all_cons (.tail _ (.tail _ (.head _))) (all_cons (.tail _ (.tail _ (.tail _ (.head _)))) all_nil)))), h_p_self_dec, h_l_self_dec_probs, h_l_self_dec_octs, ne_self_0, cW_call hw (fun v1200 hw H1201 x1202 h1204 h1205 h1206  => ?_) (fun e he H2 e2 => hE e he H2 (Same.trans (Same.refl _) e2))⟩
    have S1203 := S0.mut x1202 (all_cons (.tail _ (.head _)) (all_cons (.tail _ (.tail _ (.head _))) (all_cons (.tail _ (.tail _ (.tail _ (.head _)))) all_nil))) (all_cons (some_ne h1204) (all_cons (some_ne h1205) (all_cons (some_ne h1206) all_nil)))
    have h1211 := (x1202 _ _ h_p_self (ni3 ne_self_1 (ne_of h_p_self h_l_self_dec_probs (fun z => nomatch z)) (ne_of h_p_self h_l_self_dec_octs (fun z => nomatch z))))
    have hw := cW_ok hw
    exact hK0 _ hw _ S1203.base h1211 h1204 h1205 h1206

abbrev N__law_put : List Str := ["writer", "symbol"]
theorem sc__law_put : FnScope N__law_put ["writer", "symbol"] (defScope s__law_put) := ⟨rfl, rfl, rfl, by decide +kernel, rfl, by decide +kernel, by decide +kernel⟩
theorem ok__law_put (D : DefX K mg "_law_put" s__law_put ["writer", "symbol"] pats__law_put) (T : Txt K mg AD) (c_SymbolWriter_flag : MetX P w K mg base 4 AD.c_SymbolWriter "flag" (sp_SymbolWriter_flag K AD) pats_SymbolWriter_flag) (c_SymbolWriter_choice : MetX P w K mg base 4 AD.c_SymbolWriter "choice" (sp_SymbolWriter_choice K AD) pats_SymbolWriter_choice) (c_SymbolWriter_unary : MetX P w K mg base 4 AD.c_SymbolWriter "unary" (sp_SymbolWriter_unary K AD) pats_SymbolWriter_unary) (c_SymbolWriter_number : MetX P w K mg base 5 AD.c_SymbolWriter "number" (sp_SymbolWriter_number K AD) pats_SymbolWriter_number) (c_SymbolWriter_signed : MetX P w K mg base 6 AD.c_SymbolWriter "signed" (sp_SymbolWriter_signed K AD) pats_SymbolWriter_signed) (c_SymbolWriter_even : MetX P w K mg base 4 AD.c_SymbolWriter "even" (sp_SymbolWriter_even K AD) pats_SymbolWriter_even) : CalX P w K mg base 7 "_law_put" (sp__law_put K AD) pats__law_put := by
  refine D.ok sc__law_put (fun vs H Q E h => ?_) (fun f cdv A_ outer s H vs Q E hr h => ?_)
  · obtain ⟨G, p_writer, p_writer_enc, l_writer_enc_probs, l_writer_enc_front, dx_writer, dx_writer_enc, writer', v_symbol, symbol', rfl, _⟩ := h
    rfl
  · obtain ⟨G, p_writer, p_writer_enc, l_writer_enc_probs, l_writer_enc_front, dx_writer, dx_writer_enc, writer', v_symbol, symbol', rfl, sG, gM, h_p_writer, h_p_writer_enc, h_l_writer_enc_probs, h_l_writer_enc_front, ne_writer_0, ne_writer_1, r_symbol, hw⟩ := h
    refine ⟨_, (pss_cons (ps_if (pt_cmp (pc_eqI (pe_ix (ix_tupK (K := K)) (pv 1) pe_int (fun _ _ => rfl)) pe_int)) (pss_one (ps_expr (vx_methX c_SymbolWriter_flag pat_SymbolWriter_flag_0 (.head _) hr (by decide) (takes_of rfl rfl rfl rfl) (pv 0) (pa_cons (pe_ix (ix_tupK (K := K)) (pv 1) pe_int (fun _ _ => rfl)) (pa_cons (pe_cmp (pc_eqI (pe_ix (ix_tupK (K := K)) (pv 1) pe_int (fun _ _ => rfl)) pe_int)) pa_nil)) pk_nil))) pss_nil)
      (pss_cons (ps_if (pt_cmp (pc_eqI (pe_ix (ix_tupK (K := K)) (pv 1) pe_int (fun _ _ => rfl)) pe_int)) (pss_one (ps_expr (vx_methX c_SymbolWriter_choice pat_SymbolWriter_choice_0 (.head _) hr (by decide) (takes_of rfl rfl rfl rfl) (pv 0) (pa_cons (pe_ix (ix_tupK (K := K)) (pv 1) pe_int (fun _ _ => rfl)) (pa_cons (pe_ix (ix_tupK (K := K)) (pv 1) pe_int (fun _ _ => rfl)) pa_nil)) (pk_cons (pe_ix (ix_tupK (K := K)) (pv 1) pe_int (fun _ _ => rfl)) pk_nil)))) pss_nil)
      (pss_cons (ps_if (pt_cmp (pc_eqI (pe_ix (ix_tupK (K := K)) (pv 1) pe_int (fun _ _ => rfl)) pe_int)) (pss_one (ps_expr (vx_methX c_SymbolWriter_unary pat_SymbolWriter_unary_0 (.head _) hr (by decide) (takes_of rfl rfl rfl rfl) (pv 0) (pa_cons (pe_ix (ix_tupK (K := K)) (pv 1) pe_int (fun _ _ => rfl)) (pa_cons (pe_ix (ix_tupK (K := K)) (pv 1) pe_int (fun _ _ => rfl)) pa_nil)) (pk_cons (pe_ix (ix_tupK (K := K)) (pv 1) pe_int (fun _ _ => rfl)) pk_nil)))) pss_nil)
      (pss_cons (ps_if (pt_cmp (pc_eqI (pe_ix (ix_tupK (K := K)) (pv 1) pe_int (fun _ _ => rfl)) pe_int)) (pss_one (ps_expr (vx_methX c_SymbolWriter_number pat_SymbolWriter_number_0 (.head _) hr (by decide) (takes_of rfl rfl rfl rfl) (pv 0) (pa_cons (pe_ix (ix_tupK (K := K)) (pv 1) pe_int (fun _ _ => rfl)) (pa_cons (pe_ix (ix_tupK (K := K)) (pv 1) pe_int (fun _ _ => rfl)) pa_nil)) pk_nil))) pss_nil)
      (pss_cons (ps_if (pt_cmp (pc_eqI (pe_ix (ix_tupK (K := K)) (pv 1) pe_int (fun _ _ => rfl)) pe_int)) (pss_one (ps_expr (vx_methX c_SymbolWriter_signed pat_SymbolWriter_signed_0 (.head _) hr (by decide) (takes_of rfl rfl rfl rfl) (pv 0) (pa_cons (pe_ix (ix_tupK (K := K)) (pv 1) pe_int (fun _ _ => rfl)) (pa_cons (pe_ix (ix_tupK (K := K)) (pv 1) pe_int (fun _ _ => rfl)) pa_nil)) pk_nil))) pss_nil)
      (pss_one (ps_if (pt_cmp (pc_eqI (pe_ix (ix_tupK (K := K)) (pv 1) pe_int (fun _ _ => rfl)) pe_int)) (pss_one (ps_expr (vx_methX c_SymbolWriter_even pat_SymbolWriter_even_0 (.head _) hr (by decide) (takes_of rfl rfl rfl rfl) (pv 0) (pa_cons (pe_ix (ix_tupK (K := K)) (pv 1) pe_int (fun _ _ => rfl)) pa_nil) pk_nil))) pss_nil))))))), ?_⟩
    obtain ⟨KK, EE, hK0, hE, hw⟩ := cW_gen hw
    have S0 := Sep.startM (M := [p_writer, p_writer_enc, l_writer_enc_probs, l_writer_enc_front]) sG (all_cons (some_ne h_p_writer) (all_cons (some_ne h_p_writer_enc) (all_cons (some_ne h_l_writer_enc_probs) (all_cons (some_ne h_l_writer_enc_front) all_nil)))) gM
    unfold F__law_put at hw
    obtain ⟨a1212, v1214, v1215, v1216, v1217, rfl, h1213, r1218, r1219, r1220, r1221⟩ := rp_tup4 r_symbol
    obtain rfl := rp_int r1218
    obtain rfl := rp_int r1219
    obtain rfl := rp_int r1220
    obtain rfl := rp_int r1221
    refine ⟨_, rfl, _, _, _, _, rfl, rfl, (SqT.of (S0.bM _ _ h1213)), rfl, _, _, rfl, rfl, _, rfl, ?_⟩
    refine iteD (fun c1222 => ?_) (fun c1222 => ?_)
    · have hw := cW_pos c1222 hw
      refine ⟨_, rfl, _, _, _, rfl, h_p_writer, rfl, _, rfl, _, _, _, _, rfl, rfl, (SqT.of (S0.bM _ _ h1213)), rfl, _, rfl, _, _, _, _, rfl, rfl, (SqT.of (S0.bM _ _ h1213)), rfl, _, _, rfl, rfl, rfl, rfl, G, _, _, _, _, _, _, writer', _, _, rfl, S0.sG, (S0.gno (all_cons (.head _) (all_cons (.tail _ (.head _)) (all_cons (.tail _ (.tail _ (.head _))) (all_cons (.tail _ (.tail _ (.tail _ (.head _)))) all_nil))))), h_p_writer, h_p_writer_enc, h_l_writer_enc_probs, h_l_writer_enc_front, ne_writer_0, ne_writer_1, cW_call hw (fun v1223 hw H1224 x1225 h1227 h1228 h1229 h1230  => ?_) (fun e he H2 e2 => hE e he H2 (Same.trans (Same.refl _) e2))⟩
      have S1226 := S0.mut x1225 (all_cons (.head _) (all_cons (.tail _ (.head _)) (all_cons (.tail _ (.tail _ (.head _))) (all_cons (.tail _ (.tail _ (.tail _ (.head _)))) all_nil)))) (all_cons (some_ne h1227) (all_cons (some_ne h1228) (all_cons (some_ne h1229) (all_cons (some_ne h1230) all_nil))))
      refine ⟨_, rfl, _, _, _, _, rfl, rfl, (SqT.of (S1226.bM _ _ h1213)), rfl, _, _, rfl, rfl, _, rfl, ?_⟩
      refine iteD (fun c1235 => ?_) (fun c1235 => ?_)
      · have hw := cW_pos c1235 hw
        refine ⟨_, rfl, _, _, _, rfl, h1227, rfl, _, rfl, _, _, _, _, rfl, rfl, (SqT.of (S1226.bM _ _ h1213)), rfl, _, rfl, _, _, _, _, rfl, rfl, (SqT.of (S1226.bM _ _ h1213)), rfl, _, rfl, _, _, _, _, rfl, rfl, (SqT.of (S1226.bM _ _ h1213)), rfl, rfl, rfl, G, _, _, _, _, _, _, v1223, _, _, _, rfl, S1226.sG, (S1226.gno (all_cons (.head _) (all_cons (.tail _ (.head _)) (all_cons (.tail _ (.tail _ (.head _))) (all_cons (.tail _ (.tail _ (.tail _ (.head _)))) all_nil))))), h1227, h1228, h1229, h1230, ne_writer_0, ne_writer_1, cW_callN hw (fun v1236 hw H1237 x1238 h1240 h1241 h1242 h1243  => ?_) trivial⟩
        have S1239 := S1226.mut x1238 (all_cons (.head _) (all_cons (.tail _ (.head _)) (all_cons (.tail _ (.tail _ (.head _))) (all_cons (.tail _ (.tail _ (.tail _ (.head _)))) all_nil)))) (all_cons (some_ne h1240) (all_cons (some_ne h1241) (all_cons (some_ne h1242) (all_cons (some_ne h1243) all_nil))))
        refine ⟨_, rfl, _, _, _, _, rfl, rfl, (SqT.of (S1239.bM _ _ h1213)), rfl, _, _, rfl, rfl, _, rfl, ?_⟩
        refine iteD (fun c1248 => ?_) (fun c1248 => ?_)
        · have hw := cW_pos c1248 hw
          refine ⟨_, rfl, _, _, _, rfl, h1240, rfl, _, rfl, _, _, _, _, rfl, rfl, (SqT.of (S1239.bM _ _ h1213)), rfl, _, rfl, _, _, _, _, rfl, rfl, (SqT.of (S1239.bM _ _ h1213)), rfl, _, rfl, _, _, _, _, rfl, rfl, (SqT.of (S1239.bM _ _ h1213)), rfl, rfl, rfl, G, _, _, _, _, _, _, v1236, _, _, _, rfl, S1239.sG, (S1239.gno (all_cons (.head _) (all_cons (.tail _ (.head _)) (all_cons (.tail _ (.tail _ (.head _))) (all_cons (.tail _ (.tail _ (.tail _ (.head _)))) all_nil))))), h1240, h1241, h1242, h1243, ne_writer_0, ne_writer_1, cW_callN hw (fun v1249 hw H1250 x1251 h1253 h1254 h1255 h1256  => ?_) trivial⟩
          have S1252 := S1239.mut x1251 (all_cons (.head _) (all_cons (.tail _ (.head _)) (all_cons (.tail _ (.tail _ (.head _))) (all_cons (.tail _ (.tail _ (.tail _ (.head _)))) all_nil)))) (all_cons (some_ne h1253) (all_cons (some_ne h1254) (all_cons (some_ne h1255) (all_cons (some_ne h1256) all_nil))))
          refine ⟨_, rfl, _, _, _, _, rfl, rfl, (SqT.of (S1252.bM _ _ h1213)), rfl, _, _, rfl, rfl, _, rfl, ?_⟩
          refine iteD (fun c1261 => ?_) (fun c1261 => ?_)
          · have hw := cW_pos c1261 hw
            refine ⟨_, rfl, _, _, _, rfl, h1253, rfl, _, rfl, _, _, _, _, rfl, rfl, (SqT.of (S1252.bM _ _ h1213)), rfl, _, rfl, _, _, _, _, rfl, rfl, (SqT.of (S1252.bM _ _ h1213)), rfl, rfl, rfl, G, _, _, _, _, _, _, v1249, _, _, rfl, S1252.sG, (S1252.gno (all_cons (.head _) (all_cons (.tail _ (.head _)) (all_cons (.tail _ (.tail _ (.head _))) (all_cons (.tail _ (.tail _ (.tail _ (.head _)))) all_nil))))), h1253, h1254, h1255, h1256, ne_writer_0, ne_writer_1, cW_callN hw (fun v1262 hw H1263 x1264 h1266 h1267 h1268 h1269  => ?_) trivial⟩
            have S1265 := S1252.mut x1264 (all_cons (.head _) (all_cons (.tail _ (.head _)) (all_cons (.tail _ (.tail _ (.head _))) (all_cons (.tail _ (.tail _ (.tail _ (.head _)))) all_nil)))) (all_cons (some_ne h1266) (all_cons (some_ne h1267) (all_cons (some_ne h1268) (all_cons (some_ne h1269) all_nil))))
            refine ⟨_, rfl, _, _, _, _, rfl, rfl, (SqT.of (S1265.bM _ _ h1213)), rfl, _, _, rfl, rfl, _, rfl, ?_⟩
            refine iteD (fun c1274 => ?_) (fun c1274 => ?_)
            · have hw := cW_pos c1274 hw
              refine ⟨_, rfl, _, _, _, rfl, h1266, rfl, _, rfl, _, _, _, _, rfl, rfl, (SqT.of (S1265.bM _ _ h1213)), rfl, _, rfl, _, _, _, _, rfl, rfl, (SqT.of (S1265.bM _ _ h1213)), rfl, rfl, rfl, G, _, _, _, _, _, _, v1262, _, _, rfl, S1265.sG, (S1265.gno (all_cons (.head _) (all_cons (.tail _ (.head _)) (all_cons (.tail _ (.tail _ (.head _))) (all_cons (.tail _ (.tail _ (.tail _ (.head _)))) all_nil))))), h1266, h1267, h1268, h1269, ne_writer_0, ne_writer_1, cW_callN hw (fun v1275 hw H1276 x1277 h1279 h1280 h1281 h1282  => ?_) trivial⟩
              have S1278 := S1265.mut x1277 (all_cons (.head _) (all_cons (.tail _ (.head _)) (all_cons (.tail _ (.tail _ (.head _))) (all_cons (.tail _ (.tail _ (.tail _ (.head _)))) all_nil)))) (all_cons (some_ne h1279) (all_cons (some_ne h1280) (all_cons (some_ne h1281) (all_cons (some_ne h1282) all_nil))))
              refine ⟨_, rfl, _, _, _, _, rfl, rfl, (SqT.of (S1278.bM _ _ h1213)), rfl, _, _, rfl, rfl, _, rfl, ?_⟩
              refine iteD (fun c1287 => ?_) (fun c1287 => ?_)
              · have hw := cW_pos c1287 hw
                refine ⟨_, rfl, _, _, _, rfl, h1279, rfl, _, rfl, _, _, _, _, rfl, rfl, (SqT.of (S1278.bM _ _ h1213)), rfl, rfl, rfl, G, _, _, _, _, _, _, v1275, _, rfl, S1278.sG, (S1278.gno (all_cons (.head _) (all_cons (.tail _ (.head _)) (all_cons (.tail _ (.tail _ (.head _))) (all_cons (.tail _ (.tail _ (.tail _ (.head _)))) all_nil))))), h1279, h1280, h1281, h1282, ne_writer_0, ne_writer_1, cW_callN hw (fun v1288 hw H1289 x1290 h1292 h1293 h1294 h1295  => ?_) trivial⟩
                have S1291 := S1278.mut x1290 (all_cons (.head _) (all_cons (.tail _ (.head _)) (all_cons (.tail _ (.tail _ (.head _))) (all_cons (.tail _ (.tail _ (.tail _ (.head _)))) all_nil)))) (all_cons (some_ne h1292) (all_cons (some_ne h1293) (all_cons (some_ne h1294) (all_cons (some_ne h1295) all_nil))))
                have hw := cW_ok hw
                exact hK0 _ hw _ S1291.base h1292 h1293 h1294 h1295
              · have hw := cW_neg c1287 hw
                have hw := cW_ok hw
                exact hK0 _ hw _ S1278.base h1279 h1280 h1281 h1282
            · have hw := cW_neg c1274 hw
              refine ⟨_, rfl, _, _, _, _, rfl, rfl, (SqT.of (S1265.bM _ _ h1213)), rfl, _, _, rfl, rfl, _, rfl, ?_⟩
              refine iteD (fun c1300 => ?_) (fun c1300 => ?_)
              · have hw := cW_pos c1300 hw
                refine ⟨_, rfl, _, _, _, rfl, h1266, rfl, _, rfl, _, _, _, _, rfl, rfl, (SqT.of (S1265.bM _ _ h1213)), rfl, rfl, rfl, G, _, _, _, _, _, _, v1262, _, rfl, S1265.sG, (S1265.gno (all_cons (.head _) (all_cons (.tail _ (.head _)) (all_cons (.tail _ (.tail _ (.head _))) (all_cons (.tail _ (.tail _ (.tail _ (.head _)))) all_nil))))), h1266, h1267, h1268, h1269, ne_writer_0, ne_writer_1, cW_callN hw (fun v1301 hw H1302 x1303 h1305 h1306 h1307 h1308  => ?_) trivial⟩
                have S1304 := S1265.mut x1303 (all_cons (.head _) (all_cons (.tail _ (.head _)) (all_cons (.tail _ (.tail _ (.head _))) (all_cons (.tail _ (.tail _ (.tail _ (.head _)))) all_nil)))) (all_cons (some_ne h1305) (all_cons (some_ne h1306) (all_cons (some_ne h1307) (all_cons (some_ne h1308) all_nil))))
                have hw := cW_ok hw
                exact hK0 _ hw _ S1304.base h1305 h1306 h1307 h1308
              · have hw := cW_neg c1300 hw
                have hw := cW_ok hw
                exact hK0 _ hw _ S1265.base h1266 h1267 h1268 h1269
          · have hw := cW_neg c1261 hw
            refine ⟨_, rfl, _, _, _, _, rfl, rfl, (SqT.of (S1252.bM _ _ h1213)), rfl, _, _, rfl, rfl, _, rfl, ?_⟩
            refine iteD (fun c1313 => ?_) (fun c1313 => ?_)
            · have hw := cW_pos c1313 hw
              refine ⟨_, rfl, _, _, _, rfl, h1253, rfl, _, rfl, _, _, _, _, rfl, rfl, (SqT.of (S1252.bM _ _ h1213)), rfl, _, rfl, _, _, _, _, rfl, rfl, (SqT.of (S1252.bM _ _ h1213)), rfl, rfl, rfl, G, _, _, _, _, _, _, v1249, _, _, rfl, S1252.sG, (S1252.gno (all_cons (.head _) (all_cons (.tail _ (.head _)) (all_cons (.tail _ (.tail _ (.head _))) (all_cons (.tail _ (.tail _ (.tail _ (.head _)))) all_nil))))), h1253, h1254, h1255, h1256, ne_writer_0, ne_writer_1, cW_callN hw (fun v1314 hw H1315 x1316 h1318 h1319 h1320 h1321  => ?_) trivial⟩
              have S1317 := S1252.mut x1316 (all_cons (.head _) (all_cons (.tail _ (.head _)) (all_cons (.tail _ (.tail _ (.head _))) (all_cons (.tail _ (.tail _ (.tail _ (.head _)))) all_nil)))) (all_cons (some_ne h1318) (all_cons (some_ne h1319) (all_cons (some_ne h1320) (all_cons (some_ne h1321) all_nil))))
              refine ⟨_, rfl, _, _, _, _, rfl, rfl, (SqT.of (S1317.bM _ _ h1213)), rfl, _, _, rfl, rfl, _, rfl, ?_⟩
              refine iteD (fun c1326 => ?_) (fun c1326 => ?_)
              · have hw := cW_pos c1326 hw
                refine ⟨_, rfl, _, _, _, rfl, h1318, rfl, _, rfl, _, _, _, _, rfl, rfl, (SqT.of (S1317.bM _ _ h1213)), rfl, rfl, rfl, G, _, _, _, _, _, _, v1314, _, rfl, S1317.sG, (S1317.gno (all_cons (.head _) (all_cons (.tail _ (.head _)) (all_cons (.tail _ (.tail _ (.head _))) (all_cons (.tail _ (.tail _ (.tail _ (.head _)))) all_nil))))), h1318, h1319, h1320, h1321, ne_writer_0, ne_writer_1, cW_callN hw (fun v1327 hw H1328 x1329 h1331 h1332 h1333 h1334  => ?_) trivial⟩
                have S1330 := S1317.mut x1329 (all_cons (.head _) (all_cons (.tail _ (.head _)) (all_cons (.tail _ (.tail _ (.head _))) (all_cons (.tail _ (.tail _ (.tail _ (.head _)))) all_nil)))) (all_cons (some_ne h1331) (all_cons (some_ne h1332) (all_cons (some_ne h1333) (all_cons (some_ne h1334) all_nil))))
                have hw := cW_ok hw
                exact hK0 _ hw _ S1330.base h1331 h1332 h1333 h1334
              · have hw := cW_neg c1326 hw
                have hw := cW_ok hw
                exact hK0 _ hw _ S1317.base h1318 h1319 h1320 h1321
            · have hw := cW_neg c1313 hw
              refine ⟨_, rfl, _, _, _, _, rfl, rfl, (SqT.of (S1252.bM _ _ h1213)), rfl, _, _, rfl, rfl, _, rfl, ?_⟩
              refine iteD (fun c1339 => ?_) (fun c1339 => ?_)
              · have hw := cW_pos c1339 hw
                refine ⟨_, rfl, _, _, _, rfl, h1253, rfl, _, rfl, _, _, _, _, rfl, rfl, (SqT.of (S1252.bM _ _ h1213)), rfl, rfl, rfl, G, _, _, _, _, _, _, v1249, _, rfl, S1252.sG, (S1252.gno (all_cons (.head _) (all_cons (.tail _ (.head _)) (all_cons (.tail _ (.tail _ (.head _))) (all_cons (.tail _ (.tail _ (.tail _ (.head _)))) all_nil))))), h1253, h1254, h1255, h1256, ne_writer_0, ne_writer_1, cW_callN hw (fun v1340 hw H1341 x1342 h1344 h1345 h1346 h1347  => ?_) trivial⟩
                have S1343 := S1252.mut x1342 (all_cons (.head _) (all_cons (.tail _ (.head _)) (all_cons (.tail _ (.tail _ (.head _))) (all_cons (.tail _ (.tail _ (.tail _ (.head _)))) all_nil)))) (all_cons (some_ne h1344) (all_cons (some_ne h1345) (all_cons (some_ne h1346) (all_cons (some_ne h1347) all_nil))))
                have hw := cW_ok hw
                exact hK0 _ hw _ S1343.base h1344 h1345 h1346 h1347
              · have hw := cW_neg c1339 hw
                have hw := cW_ok hw
                exact hK0 _ hw _ S1252.base h1253 h1254 h1255 h1256
        · have hw := cW_neg c1248 hw
          refine ⟨_, rfl, _, _, _, _, rfl, rfl, (SqT.of (S1239.bM _ _ h1213)), rfl, _, _, rfl, rfl, _, rfl, ?_⟩
          refine iteD (fun c1352 => ?_) (fun c1352 => ?_)
          · have hw := cW_pos c1352 hw
            refine ⟨_, rfl, _, _, _, rfl, h1240, rfl, _, rfl, _, _, _, _, rfl, rfl, (SqT.of (S1239.bM _ _ h1213)), rfl, _, rfl, _, _, _, _, rfl, rfl, (SqT.of (S1239.bM _ _ h1213)), rfl, rfl, rfl, G, _, _, _, _, _, _, v1236, _, _, rfl, S1239.sG, (S1239.gno (all_cons (.head _) (all_cons (.tail _ (.head _)) (all_cons (.tail _ (.tail _ (.head _))) (all_cons (.tail _ (.tail _ (.tail _ (.head _)))) all_nil))))), h1240, h1241, h1242, h1243, ne_writer_0, ne_writer_1, cW_callN hw (fun v1353 hw H1354 x1355 h1357 h1358 h1359 h1360  => ?_) trivial⟩
            have S1356 := S1239.mut x1355 (all_cons (.head _) (all_cons (.tail _ (.head _)) (all_cons (.tail _ (.tail _ (.head _))) (all_cons (.tail _ (.tail _ (.tail _ (.head _)))) all_nil)))) (all_cons (some_ne h1357) (all_cons (some_ne h1358) (all_cons (some_ne h1359) (all_cons (some_ne h1360) all_nil))))
            refine ⟨_, rfl, _, _, _, _, rfl, rfl, (SqT.of (S1356.bM _ _ h1213)), rfl, _, _, rfl, rfl, _, rfl, ?_⟩
            refine iteD (fun c1365 => ?_) (fun c1365 => ?_)
            · have hw := cW_pos c1365 hw
              refine ⟨_, rfl, _, _, _, rfl, h1357, rfl, _, rfl, _, _, _, _, rfl, rfl, (SqT.of (S1356.bM _ _ h1213)), rfl, _, rfl, _, _, _, _, rfl, rfl, (SqT.of (S1356.bM _ _ h1213)), rfl, rfl, rfl, G, _, _, _, _, _, _, v1353, _, _, rfl, S1356.sG, (S1356.gno (all_cons (.head _) (all_cons (.tail _ (.head _)) (all_cons (.tail _ (.tail _ (.head _))) (all_cons (.tail _ (.tail _ (.tail _ (.head _)))) all_nil))))), h1357, h1358, h1359, h1360, ne_writer_0, ne_writer_1, cW_callN hw (fun v1366 hw H1367 x1368 h1370 h1371 h1372 h1373  => ?_) trivial⟩
              have S1369 := S1356.mut x1368 (all_cons (.head _) (all_cons (.tail _ (.head _)) (all_cons (.tail _ (.tail _ (.head _))) (all_cons (.tail _ (.tail _ (.tail _ (.head _)))) all_nil)))) (all_cons (some_ne h1370) (all_cons (some_ne h1371) (all_cons (some_ne h1372) (all_cons (some_ne h1373) all_nil))))
              refine ⟨_, rfl, _, _, _, _, rfl, rfl, (SqT.of (S1369.bM _ _ h1213)), rfl, _, _, rfl, rfl, _, rfl, ?_⟩
              refine iteD (fun c1378 => ?_) (fun c1378 => ?_)
              · have hw := cW_pos c1378 hw
                refine ⟨_, rfl, _, _, _, rfl, h1370, rfl, _, rfl, _, _, _, _, rfl, rfl, (SqT.of (S1369.bM _ _ h1213)), rfl, rfl, rfl, G, _, _, _, _, _, _, v1366, _, rfl, S1369.sG, (S1369.gno (all_cons (.head _) (all_cons (.tail _ (.head _)) (all_cons (.tail _ (.tail _ (.head _))) (all_cons (.tail _ (.tail _ (.tail _ (.head _)))) all_nil))))), h1370, h1371, h1372, h1373, ne_writer_0, ne_writer_1, cW_callN hw (fun v1379 hw H1380 x1381 h1383 h1384 h1385 h1386  => ?_) trivial⟩
                have S1382 := S1369.mut x1381 (all_cons (.head _) (all_cons (.tail _ (.head _)) (all_cons (.tail _ (.tail _ (.head _))) (all_cons (.tail _ (.tail _ (.tail _ (.head _)))) all_nil)))) (all_cons (some_ne h1383) (all_cons (some_ne h1384) (all_cons (some_ne h1385) (all_cons (some_ne h1386) all_nil))))
                have hw := cW_ok hw
                exact hK0 _ hw _ S1382.base h1383 h1384 h1385 h1386
              · have hw := cW_neg c1378 hw
                have hw := cW_ok hw
                exact hK0 _ hw _ S1369.base h1370 h1371 h1372 h1373
            · have hw := cW_neg c1365 hw
              refine ⟨_, rfl, _, _, _, _, rfl, rfl, (SqT.of (S1356.bM _ _ h1213)), rfl, _, _, rfl, rfl, _, rfl, ?_⟩
              refine iteD (fun c1391 => ?_) (fun c1391 => ?_)
              · have hw := cW_pos c1391 hw
                refine ⟨_, rfl, _, _, _, rfl, h1357, rfl, _, rfl, _, _, _, _, rfl, rfl, (SqT.of (S1356.bM _ _ h1213)), rfl, rfl, rfl, G, _, _, _, _, _, _, v1353, _, rfl, S1356.sG, (S1356.gno (all_cons (.head _) (all_cons (.tail _ (.head _)) (all_cons (.tail _ (.tail _ (.head _))) (all_cons (.tail _ (.tail _ (.tail _ (.head _)))) all_nil))))), h1357, h1358, h1359, h1360, ne_writer_0, ne_writer_1, cW_callN hw (fun v1392 hw H1393 x1394 h1396 h1397 h1398 h1399  => ?_) trivial⟩
                have S1395 := S1356.mut x1394 (all_cons (.head _) (all_cons (.tail _ (.head _)) (all_cons (.tail _ (.tail _ (.head _))) (all_cons (.tail _ (.tail _ (.tail _ (.head _)))) all_nil)))) (all_cons (some_ne h1396) (all_cons (some_ne h1397) (all_cons (some_ne h1398) (all_cons (some_ne h1399) all_nil))))
                have hw := cW_ok hw
                exact hK0 _ hw _ S1395.base h1396 h1397 h1398 h1399
              · have hw := cW_neg c1391 hw
                have hw := cW_ok hw
                exact hK0 _ hw _ S1356.base h1357 h1358 h1359 h1360
          · have hw := cW_neg c1352 hw
            refine ⟨_, rfl, _, _, _, _, rfl, rfl, (SqT.of (S1239.bM _ _ h1213)), rfl, _, _, rfl, rfl, _, rfl, ?_⟩
            refine iteD (fun c1404 => ?_) (fun c1404 => ?_)
            · have hw := cW_pos c1404 hw
              refine ⟨_, rfl, _, _, _, rfl, h1240, rfl, _, rfl, _, _, _, _, rfl, rfl, (SqT.of (S1239.bM _ _ h1213)), rfl, _, rfl, _, _, _, _, rfl, rfl, (SqT.of (S1239.bM _ _ h1213)), rfl, rfl, rfl, G, _, _, _, _, _, _, v1236, _, _, rfl, S1239.sG, (S1239.gno (all_cons (.head _) (all_cons (.tail _ (.head _)) (all_cons (.tail _ (.tail _ (.head _))) (all_cons (.tail _ (.tail _ (.tail _ (.head _)))) all_nil))))), h1240, h1241, h1242, h1243, ne_writer_0, ne_writer_1, cW_callN hw (fun v1405 hw H1406 x1407 h1409 h1410 h1411 h1412  => ?_) trivial⟩
              have S1408 := S1239.mut x1407 (all_cons (.head _) (all_cons (.tail _ (.head _)) (all_cons (.tail _ (.tail _ (.head _))) (all_cons (.tail _ (.tail _ (.tail _ (.head _)))) all_nil)))) (all_cons (some_ne h1409) (all_cons (some_ne h1410) (all_cons (some_ne h1411) (all_cons (some_ne h1412) all_nil))))
              refine ⟨_, rfl, _, _, _, _, rfl, rfl, (SqT.of (S1408.bM _ _ h1213)), rfl, _, _, rfl, rfl, _, rfl, ?_⟩
              refine iteD (fun c1417 => ?_) (fun c1417 => ?_)
              · have hw := cW_pos c1417 hw
                refine ⟨_, rfl, _, _, _, rfl, h1409, rfl, _, rfl, _, _, _, _, rfl, rfl, (SqT.of (S1408.bM _ _ h1213)), rfl, rfl, rfl, G, _, _, _, _, _, _, v1405, _, rfl, S1408.sG, (S1408.gno (all_cons (.head _) (all_cons (.tail _ (.head _)) (all_cons (.tail _ (.tail _ (.head _))) (all_cons (.tail _ (.tail _ (.tail _ (.head _)))) all_nil))))), h1409, h1410, h1411, h1412, ne_writer_0, ne_writer_1, cW_callN hw (fun v1418 hw H1419 x1420 h1422 h1423 h1424 h1425  => ?_) trivial⟩
                have S1421 := S1408.mut x1420 (all_cons (.head _) (all_cons (.tail _ (.head _)) (all_cons (.tail _ (.tail _ (.head _))) (all_cons (.tail _ (.tail _ (.tail _ (.head _)))) all_nil)))) (all_cons (some_ne h1422) (all_cons (some_ne h1423) (all_cons (some_ne h1424) (all_cons (some_ne h1425) all_nil))))
                have hw := cW_ok hw
                exact hK0 _ hw _ S1421.base h1422 h1423 h1424 h1425
              · have hw := cW_neg c1417 hw
                have hw := cW_ok hw
                exact hK0 _ hw _ S1408.base h1409 h1410 h1411 h1412
            · have hw := cW_neg c1404 hw
              refine ⟨_, rfl, _, _, _, _, rfl, rfl, (SqT.of (S1239.bM _ _ h1213)), rfl, _, _, rfl, rfl, _, rfl, ?_⟩
              refine iteD (fun c1430 => ?_) (fun c1430 => ?_)
              · have hw := cW_pos c1430 hw
                refine ⟨_, rfl, _, _, _, rfl, h1240, rfl, _, rfl, _, _, _, _, rfl, rfl, (SqT.of (S1239.bM _ _ h1213)), rfl, rfl, rfl, G, _, _, _, _, _, _, v1236, _, rfl, S1239.sG, (S1239.gno (all_cons (.head _) (all_cons (.tail _ (.head _)) (all_cons (.tail _ (.tail _ (.head _))) (all_cons (.tail _ (.tail _ (.tail _ (.head _)))) all_nil))))), h1240, h1241, h1242, h1243, ne_writer_0, ne_writer_1, cW_callN hw (fun v1431 hw H1432 x1433 h1435 h1436 h1437 h1438  => ?_) trivial⟩
                have S1434 := S1239.mut x1433 (all_cons (.head _) (all_cons (.tail _ (.head _)) (all_cons (.tail _ (.tail _ (.head _))) (all_cons (.tail _ (.tail _ (.tail _ (.head _)))) all_nil)))) (all_cons (some_ne h1435) (all_cons (some_ne h1436) (all_cons (some_ne h1437) (all_cons (some_ne h1438) all_nil))))
                have hw := cW_ok hw
                exact hK0 _ hw _ S1434.base h1435 h1436 h1437 h1438
              · have hw := cW_neg c1430 hw
                have hw := cW_ok hw
                exact hK0 _ hw _ S1239.base h1240 h1241 h1242 h1243
      · have hw := cW_neg c1235 hw
        refine ⟨_, rfl, _, _, _, _, rfl, rfl, (SqT.of (S1226.bM _ _ h1213)), rfl, _, _, rfl, rfl, _, rfl, ?_⟩
        refine iteD (fun c1443 => ?_) (fun c1443 => ?_)
        · have hw := cW_pos c1443 hw
          refine ⟨_, rfl, _, _, _, rfl, h1227, rfl, _, rfl, _, _, _, _, rfl, rfl, (SqT.of (S1226.bM _ _ h1213)), rfl, _, rfl, _, _, _, _, rfl, rfl, (SqT.of (S1226.bM _ _ h1213)), rfl, _, rfl, _, _, _, _, rfl, rfl, (SqT.of (S1226.bM _ _ h1213)), rfl, rfl, rfl, G, _, _, _, _, _, _, v1223, _, _, _, rfl, S1226.sG, (S1226.gno (all_cons (.head _) (all_cons (.tail _ (.head _)) (all_cons (.tail _ (.tail _ (.head _))) (all_cons (.tail _ (.tail _ (.tail _ (.head _)))) all_nil))))), h1227, h1228, h1229, h1230, ne_writer_0, ne_writer_1, cW_callN hw (fun v1444 hw H1445 x1446 h1448 h1449 h1450 h1451  => ?_) trivial⟩
          have S1447 := S1226.mut x1446 (all_cons (.head _) (all_cons (.tail _ (.head _)) (all_cons (.tail _ (.tail _ (.head _))) (all_cons (.tail _ (.tail _ (.tail _ (.head _)))) all_nil)))) (all_cons (some_ne h1448) (all_cons (some_ne h1449) (all_cons (some_ne h1450) (all_cons (some_ne h1451) all_nil))))
          refine ⟨_, rfl, _, _, _, _, rfl, rfl, (SqT.of (S1447.bM _ _ h1213)), rfl, _, _, rfl, rfl, _, rfl, ?_⟩
          refine iteD (fun c1456 => ?_) (fun c1456 => ?_)
          · have hw := cW_pos c1456 hw
            refine ⟨_, rfl, _, _, _, rfl, h1448, rfl, _, rfl, _, _, _, _, rfl, rfl, (SqT.of (S1447.bM _ _ h1213)), rfl, _, rfl, _, _, _, _, rfl, rfl, (SqT.of (S1447.bM _ _ h1213)), rfl, rfl, rfl, G, _, _, _, _, _, _, v1444, _, _, rfl, S1447.sG, (S1447.gno (all_cons (.head _) (all_cons (.tail _ (.head _)) (all_cons (.tail _ (.tail _ (.head _))) (all_cons (.tail _ (.tail _ (.tail _ (.head _)))) all_nil))))), h1448, h1449, h1450, h1451, ne_writer_0, ne_writer_1, cW_callN hw (fun v1457 hw H1458 x1459 h1461 h1462 h1463 h1464  => ?_) trivial⟩
            have S1460 := S1447.mut x1459 (all_cons (.head _) (all_cons (.tail _ (.head _)) (all_cons (.tail _ (.tail _ (.head _))) (all_cons (.tail _ (.tail _ (.tail _ (.head _)))) all_nil)))) (all_cons (some_ne h1461) (all_cons (some_ne h1462) (all_cons (some_ne h1463) (all_cons (some_ne h1464) all_nil))))
            refine ⟨_, rfl, _, _, _, _, rfl, rfl, (SqT.of (S1460.bM _ _ h1213)), rfl, _, _, rfl, rfl, _, rfl, ?_⟩
            refine iteD (fun c1469 => ?_) (fun c1469 => ?_)
            · have hw := cW_pos c1469 hw
              refine ⟨_, rfl, _, _, _, rfl, h1461, rfl, _, rfl, _, _, _, _, rfl, rfl, (SqT.of (S1460.bM _ _ h1213)), rfl, _, rfl, _, _, _, _, rfl, rfl, (SqT.of (S1460.bM _ _ h1213)), rfl, rfl, rfl, G, _, _, _, _, _, _, v1457, _, _, rfl, S1460.sG, (S1460.gno (all_cons (.head _) (all_cons (.tail _ (.head _)) (all_cons (.tail _ (.tail _ (.head _))) (all_cons (.tail _ (.tail _ (.tail _ (.head _)))) all_nil))))), h1461, h1462, h1463, h1464, ne_writer_0, ne_writer_1, cW_callN hw (fun v1470 hw H1471 x1472 h1474 h1475 h1476 h1477  => ?_) trivial⟩
              have S1473 := S1460.mut x1472 (all_cons (.head _) (all_cons (.tail _ (.head _)) (all_cons (.tail _ (.tail _ (.head _))) (all_cons (.tail _ (.tail _ (.tail _ (.head _)))) all_nil)))) (all_cons (some_ne h1474) (all_cons (some_ne h1475) (all_cons (some_ne h1476) (all_cons (some_ne h1477) all_nil))))
              refine ⟨_, rfl, _, _, _, _, rfl, rfl, (SqT.of (S1473.bM _ _ h1213)), rfl, _, _, rfl, rfl, _, rfl, ?_⟩
              refine iteD (fun c1482 => ?_) (fun c1482 => ?_)
              · have hw := cW_pos c1482 hw
                refine ⟨_, rfl, _, _, _, rfl, h1474, rfl, _, rfl, _, _, _, _, rfl, rfl, (SqT.of (S1473.bM _ _ h1213)), rfl, rfl, rfl, G, _, _, _, _, _, _, v1470, _, rfl, S1473.sG, (S1473.gno (all_cons (.head _) (all_cons (.tail _ (.head _)) (all_cons (.tail _ (.tail _ (.head _))) (all_cons (.tail _ (.tail _ (.tail _ (.head _)))) all_nil))))), h1474, h1475, h1476, h1477, ne_writer_0, ne_writer_1, cW_callN hw (fun v1483 hw H1484 x1485 h1487 h1488 h1489 h1490  => ?_) trivial⟩
                have S1486 := S1473.mut x1485 (all_cons (.head _) (all_cons (.tail _ (.head _)) (all_cons (.tail _ (.tail _ (.head _))) (all_cons (.tail _ (.tail _ (.tail _ (.head _)))) all_nil)))) (all_cons (some_ne h1487) (all_cons (some_ne h1488) (all_cons (some_ne h1489) (all_cons (some_ne h1490) all_nil))))
                have hw := cW_ok hw
                exact hK0 _ hw _ S1486.base h1487 h1488 h1489 h1490
              · have hw := cW_neg c1482 hw
                have hw := cW_ok hw
                exact hK0 _ hw _ S1473.base h1474 h1475 h1476 h1477
            · have hw := cW_neg c1469 hw
              refine ⟨_, rfl, _, _, _, _, rfl, rfl, (SqT.of (S1460.bM _ _ h1213)), rfl, _, _, rfl, rfl, _, rfl, ?_⟩
              refine iteD (fun c1495 => ?_) (fun c1495 => ?_)
              · have hw := cW_pos c1495 hw
                refine ⟨_, rfl, _, _, _, rfl, h1461, rfl, _, rfl, _, _, _, _, rfl, rfl, (SqT.of (S1460.bM _ _ h1213)), rfl, rfl, rfl, G, _, _, _, _, _, _, v1457, _, rfl, S1460.sG, (S1460.gno (all_cons (.head _) (all_cons (.tail _ (.head _)) (all_cons (.tail _ (.tail _ (.head _))) (all_cons (.tail _ (.tail _ (.tail _ (.head _)))) all_nil))))), h1461, h1462, h1463, h1464, ne_writer_0, ne_writer_1, cW_callN hw (fun v1496 hw H1497 x1498 h1500 h1501 h1502 h1503  => ?_) trivial⟩
                have S1499 := S1460.mut x1498 (all_cons (.head _) (all_cons (.tail _ (.head _)) (all_cons (.tail _ (.tail _ (.head _))) (all_cons (.tail _ (.tail _ (.tail _ (.head _)))) all_nil)))) (all_cons (some_ne h1500) (all_cons (some_ne h1501) (all_cons (some_ne h1502) (all_cons (some_ne h1503) all_nil))))
                have hw := cW_ok hw
                exact hK0 _ hw _ S1499.base h1500 h1501 h1502 h1503
              · have hw := cW_neg c1495 hw
                have hw := cW_ok hw
                exact hK0 _ hw _ S1460.base h1461 h1462 h1463 h1464
          · have hw := cW_neg c1456 hw
            refine ⟨_, rfl, _, _, _, _, rfl, rfl, (SqT.of (S1447.bM _ _ h1213)), rfl, _, _, rfl, rfl, _, rfl, ?_⟩
            refine iteD (fun c1508 => ?_) (fun c1508 => ?_)
            · have hw := cW_pos c1508 hw
              refine ⟨_, rfl, _, _, _, rfl, h1448, rfl, _, rfl, _, _, _, _, rfl, rfl, (SqT.of (S1447.bM _ _ h1213)), rfl, _, rfl, _, _, _, _, rfl, rfl, (SqT.of (S1447.bM _ _ h1213)), rfl, rfl, rfl, G, _, _, _, _, _, _, v1444, _, _, rfl, S1447.sG, (S1447.gno (all_cons (.head _) (all_cons (.tail _ (.head _)) (all_cons (.tail _ (.tail _ (.head _))) (all_cons (.tail _ (.tail _ (.tail _ (.head _)))) all_nil))))), h1448, h1449, h1450, h1451, ne_writer_0, ne_writer_1, cW_callN hw (fun v1509 hw H1510 x1511 h1513 h1514 h1515 h1516  => ?_) trivial⟩
              have S1512 := S1447.mut x1511 (all_cons (.head _) (all_cons (.tail _ (.head _)) (all_cons (.tail _ (.tail _ (.head _))) (all_cons (.tail _ (.tail _ (.tail _ (.head _)))) all_nil)))) (all_cons (some_ne h1513) (all_cons (some_ne h1514) (all_cons (some_ne h1515) (all_cons (some_ne h1516) all_nil))))
              refine ⟨_, rfl, _, _, _, _, rfl, rfl, (SqT.of (S1512.bM _ _ h1213)), rfl, _, _, rfl, rfl, _, rfl, ?_⟩
              refine iteD (fun c1521 => ?_) (fun c1521 => ?_)
              · have hw := cW_pos c1521 hw
                refine ⟨_, rfl, _, _, _, rfl, h1513, rfl, _, rfl, _, _, _, _, rfl, rfl, (SqT.of (S1512.bM _ _ h1213)), rfl, rfl, rfl, G, _, _, _, _, _, _, v1509, _, rfl, S1512.sG, (S1512.gno (all_cons (.head _) (all_cons (.tail _ (.head _)) (all_cons (.tail _ (.tail _ (.head _))) (all_cons (.tail _ (.tail _ (.tail _ (.head _)))) all_nil))))), h1513, h1514, h1515, h1516, ne_writer_0, ne_writer_1, cW_callN hw (fun v1522 hw H1523 x1524 h1526 h1527 h1528 h1529  => ?_) trivial⟩
                have S1525 := S1512.mut x1524 (all_cons (.head _) (all_cons (.tail _ (.head _)) (all_cons (.tail _ (.tail _ (.head _))) (all_cons (.tail _ (.tail _ (.tail _ (.head _)))) all_nil)))) (all_cons (some_ne h1526) (all_cons (some_ne h1527) (all_cons (some_ne h1528) (all_cons (some_ne h1529) all_nil))))
                have hw := cW_ok hw
                exact hK0 _ hw _ S1525.base h1526 h1527 h1528 h1529
              · have hw := cW_neg c1521 hw
                have hw := cW_ok hw
                exact hK0 _ hw _ S1512.base h1513 h1514 h1515 h1516
            · have hw := cW_neg c1508 hw
              refine ⟨_, rfl, _, _, _, _, rfl, rfl, (SqT.of (S1447.bM _ _ h1213)), rfl, _, _, rfl, rfl, _, rfl, ?_⟩
              refine iteD (fun c1534 => ?_) (fun c1534 => ?_)
              · have hw := cW_pos c1534 hw
                refine ⟨_, rfl, _, _, _, rfl, h1448, rfl, _, rfl, _, _, _, _, rfl, rfl, (SqT.of (S1447.bM _ _ h1213)), rfl, rfl, rfl, G, _, _, _, _, _, _, v1444, _, rfl, S1447.sG, (S1447.gno (all_cons (.head _) (all_cons (.tail _ (.head _)) (all_cons (.tail _ (.tail _ (.head _))) (all_cons (.tail _ (.tail _ (.tail _ (.head _)))) all_nil))))), h1448, h1449, h1450, h1451, ne_writer_0, ne_writer_1, cW_callN hw (fun v1535 hw H1536 x1537 h1539 h1540 h1541 h1542  => ?_) trivial⟩
                have S1538 := S1447.mut x1537 (all_cons (.head _) (all_cons (.tail _ (.head _)) (all_cons (.tail _ (.tail _ (.head _))) (all_cons (.tail _ (.tail _ (.tail _ (.head _)))) all_nil)))) (all_cons (some_ne h1539) (all_cons (some_ne h1540) (all_cons (some_ne h1541) (all_cons (some_ne h1542) all_nil))))
                have hw := cW_ok hw
                exact hK0 _ hw _ S1538.base h1539 h1540 h1541 h1542
              · have hw := cW_neg c1534 hw
                have hw := cW_ok hw
                exact hK0 _ hw _ S1447.base h1448 h1449 h1450 h1451
        · have hw := cW_neg c1443 hw
          refine ⟨_, rfl, _, _, _, _, rfl, rfl, (SqT.of (S1226.bM _ _ h1213)), rfl, _, _, rfl, rfl, _, rfl, ?_⟩
          refine iteD (fun c1547 => ?_) (fun c1547 => ?_)
          · have hw := cW_pos c1547 hw
            refine ⟨_, rfl, _, _, _, rfl, h1227, rfl, _, rfl, _, _, _, _, rfl, rfl, (SqT.of (S1226.bM _ _ h1213)), rfl, _, rfl, _, _, _, _, rfl, rfl, (SqT.of (S1226.bM _ _ h1213)), rfl, rfl, rfl, G, _, _, _, _, _, _, v1223, _, _, rfl, S1226.sG, (S1226.gno (all_cons (.head _) (all_cons (.tail _ (.head _)) (all_cons (.tail _ (.tail _ (.head _))) (all_cons (.tail _ (.tail _ (.tail _ (.head _)))) all_nil))))), h1227, h1228, h1229, h1230, ne_writer_0, ne_writer_1, cW_callN hw (fun v1548 hw H1549 x1550 h1552 h1553 h1554 h1555  => ?_) trivial⟩
            have S1551 := S1226.mut x1550 (all_cons (.head _) (all_cons (.tail _ (.head _)) (all_cons (.tail _ (.tail _ (.head _))) (all_cons (.tail _ (.tail _ (.tail _ (.head _)))) all_nil)))) (all_cons (some_ne h1552) (all_cons (some_ne h1553) (all_cons (some_ne h1554) (all_cons (some_ne h1555) all_nil))))
            refine ⟨_, rfl, _, _, _, _, rfl, rfl, (SqT.of (S1551.bM _ _ h1213)), rfl, _, _, rfl, rfl, _, rfl, ?_⟩
            refine iteD (fun c1560 => ?_) (fun c1560 => ?_)
            · have hw := cW_pos c1560 hw
              refine ⟨_, rfl, _, _, _, rfl, h1552, rfl, _, rfl, _, _, _, _, rfl, rfl, (SqT.of (S1551.bM _ _ h1213)), rfl, _, rfl, _, _, _, _, rfl, rfl, (SqT.of (S1551.bM _ _ h1213)), rfl, rfl, rfl, G, _, _, _, _, _, _, v1548, _, _, rfl, S1551.sG, (S1551.gno (all_cons (.head _) (all_cons (.tail _ (.head _)) (all_cons (.tail _ (.tail _ (.head _))) (all_cons (.tail _ (.tail _ (.tail _ (.head _)))) all_nil))))), h1552, h1553, h1554, h1555, ne_writer_0, ne_writer_1, cW_callN hw (fun v1561 hw H1562 x1563 h1565 h1566 h1567 h1568  => ?_) trivial⟩
              have S1564 := S1551.mut x1563 (all_cons (.head _) (all_cons (.tail _ (.head _)) (all_cons (.tail _ (.tail _ (.head _))) (all_cons (.tail _ (.tail _ (.tail _ (.head _)))) all_nil)))) (all_cons (some_ne h1565) (all_cons (some_ne h1566) (all_cons (some_ne h1567) (all_cons (some_ne h1568) all_nil))))
              refine ⟨_, rfl, _, _, _, _, rfl, rfl, (SqT.of (S1564.bM _ _ h1213)), rfl, _, _, rfl, rfl, _, rfl, ?_⟩
              refine iteD (fun c1573 => ?_) (fun c1573 => ?_)
              · have hw := cW_pos c1573 hw
                refine ⟨_, rfl, _, _, _, rfl, h1565, rfl, _, rfl, _, _, _, _, rfl, rfl, (SqT.of (S1564.bM _ _ h1213)), rfl, rfl, rfl, G, _, _, _, _, _, _, v1561, _, rfl, S1564.sG, (S1564.gno (all_cons (.head _) (all_cons (.tail _ (.head _)) (all_cons (.tail _ (.tail _ (.head _))) (all_cons (.tail _ (.tail _ (.tail _ (.head _)))) all_nil))))), h1565, h1566, h1567, h1568, ne_writer_0, ne_writer_1, cW_callN hw (fun v1574 hw H1575 x1576 h1578 h1579 h1580 h1581  => ?_) trivial⟩
                have S1577 := S1564.mut x1576 (all_cons (.head _) (all_cons (.tail _ (.head _)) (all_cons (.tail _ (.tail _ (.head _))) (all_cons (.tail _ (.tail _ (.tail _ (.head _)))) all_nil)))) (all_cons (some_ne h1578) (all_cons (some_ne h1579) (all_cons (some_ne h1580) (all_cons (some_ne h1581) all_nil))))
                have hw := cW_ok hw
                exact hK0 _ hw _ S1577.base h1578 h1579 h1580 h1581
              · have hw := cW_neg c1573 hw
                have hw := cW_ok hw
                exact hK0 _ hw _ S1564.base h1565 h1566 h1567 h1568
            · have hw := cW_neg c1560 hw
              refine ⟨_, rfl, _, _, _, _, rfl, rfl, (SqT.of (S1551.bM _ _ h1213)), rfl, _, _, rfl, rfl, _, rfl, ?_⟩
              refine iteD (fun c1586 => ?_) (fun c1586 => ?_)
              · have hw := cW_pos c1586 hw
                refine ⟨_, rfl, _, _, _, rfl, h1552, rfl, _, rfl, _, _, _, _, rfl, rfl, (SqT.of (S1551.bM _ _ h1213)), rfl, rfl, rfl, G, _, _, _, _, _, _, v1548, _, rfl, S1551.sG, (S1551.gno (all_cons (.head _) (all_cons (.tail _ (.head _)) (all_cons (.tail _ (.tail _ (.head _))) (all_cons (.tail _ (.tail _ (.tail _ (.head _)))) all_nil))))), h1552, h1553, h1554, h1555, ne_writer_0, ne_writer_1, cW_callN hw (fun v1587 hw H1588 x1589 h1591 h1592 h1593 h1594  => ?_) trivial⟩
                have S1590 := S1551.mut x1589 (all_cons (.head _) (all_cons (.tail _ (.head _)) (all_cons (.tail _ (.tail _ (.head _))) (all_cons (.tail _ (.tail _ (.tail _ (.head _)))) all_nil)))) (all_cons (some_ne h1591) (all_cons (some_ne h1592) (all_cons (some_ne h1593) (all_cons (some_ne h1594) all_nil))))
                have hw := cW_ok hw
                exact hK0 _ hw _ S1590.base h1591 h1592 h1593 h1594
              · have hw := cW_neg c1586 hw
                have hw := cW_ok hw
                exact hK0 _ hw _ S1551.base h1552 h1553 h1554 h1555
          · have hw := cW_neg c1547 hw
            refine ⟨_, rfl, _, _, _, _, rfl, rfl, (SqT.of (S1226.bM _ _ h1213)), rfl, _, _, rfl, rfl, _, rfl, ?_⟩
            refine iteD (fun c1599 => ?_) (fun c1599 => ?_)
            · have hw := cW_pos c1599 hw
              refine ⟨_, rfl, _, _, _, rfl, h1227, rfl, _, rfl, _, _, _, _, rfl, rfl, (SqT.of (S1226.bM _ _ h1213)), rfl, _, rfl, _, _, _, _, rfl, rfl, (SqT.of (S1226.bM _ _ h1213)), rfl, rfl, rfl, G, _, _, _, _, _, _, v1223, _, _, rfl, S1226.sG, (S1226.gno (all_cons (.head _) (all_cons (.tail _ (.head _)) (all_cons (.tail _ (.tail _ (.head _))) (all_cons (.tail _ (.tail _ (.tail _ (.head _)))) all_nil))))), h1227, h1228, h1229, h1230, ne_writer_0, ne_writer_1, cW_callN hw (fun v1600 hw H1601 x1602 h1604 h1605 h1606 h1607  => ?_) trivial⟩
              have S1603 := S1226.mut x1602 (all_cons (.head _) (all_cons (.tail _ (.head _)) (all_cons (.tail _ (.tail _ (.head _))) (all_cons (.tail _ (.tail _ (.tail _ (.head _)))) all_nil)))) (all_cons (some_ne h1604) (all_cons (some_ne h1605) (all_cons (some_ne h1606) (all_cons (some_ne h1607) all_nil))))
              refine ⟨_, rfl, _, _, _, _, rfl, rfl, (SqT.of (S1603.bM _ _ h1213)), rfl, _, _, rfl, rfl, _, rfl, ?_⟩
              refine iteD (fun c1612 => ?_) (fun c1612 => ?_)
              · have hw := cW_pos c1612 hw
                refine ⟨_, rfl, _, _, _, rfl, h1604, rfl, _, rfl, _, _, _, _, rfl, rfl, (SqT.of (S1603.bM _ _ h1213)), rfl, rfl, rfl, G, _, _, _, _, _, _, v1600, _, rfl, S1603.sG, (S1603.gno (all_cons (.head _) (all_cons (.tail _ (.head _)) (all_cons (.tail _ (.tail _ (.head _))) (all_cons (.tail _ (.tail _ (.tail _ (.head _)))) all_nil))))), h1604, h1605, h1606, h1607, ne_writer_0, ne_writer_1, cW_callN hw (fun v1613 hw H1614 x1615 h1617 h1618 h1619 h1620  => ?_) trivial⟩
                have S1616 := S1603.mut x1615 (all_cons (.head _) (all_cons (.tail _ (.head _)) (all_cons (.tail _ (.tail _ (.head _))) (all_cons (.tail _ (.tail _ (.tail _ (.head _)))) all_nil)))) (all_cons (some_ne h1617) (all_cons (some_ne h1618) (all_cons (some_ne h1619) (all_cons (some_ne h1620) all_nil))))
                have hw := cW_ok hw
                exact hK0 _ hw _ S1616.base h1617 h1618 h1619 h1620
              · have hw := cW_neg c1612 hw
                have hw := cW_ok hw
                exact hK0 _ hw _ S1603.base h1604 h1605 h1606 h1607
            · have hw := cW_neg c1599 hw
              refine ⟨_, rfl, _, _, _, _, rfl, rfl, (SqT.of (S1226.bM _ _ h1213)), rfl, _, _, rfl, rfl, _, rfl, ?_⟩
              refine iteD (fun c1625 => ?_) (fun c1625 => ?_)
              · have hw := cW_pos c1625 hw
                refine ⟨_, rfl, _, _, _, rfl, h1227, rfl, _, rfl, _, _, _, _, rfl, rfl, (SqT.of (S1226.bM _ _ h1213)), rfl, rfl, rfl, G, _, _, _, _, _, _, v1223, _, rfl, S1226.sG, (S1226.gno (all_cons (.head _) (all_cons (.tail _ (.head _)) (all_cons (.tail _ (.tail _ (.head _))) (all_cons (.tail _ (.tail _ (.tail _ (.head _)))) all_nil))))), h1227, h1228, h1229, h1230, ne_writer_0, ne_writer_1, cW_callN hw (fun v1626 hw H1627 x1628 h1630 h1631 h1632 h1633  => ?_) trivial⟩
                have S1629 := S1226.mut x1628 (all_cons (.head _) (all_cons (.tail _ (.head _)) (all_cons (.tail _ (.tail _ (.head _))) (all_cons (.tail _ (.tail _ (.tail _ (.head _)))) all_nil)))) (all_cons (some_ne h1630) (all_cons (some_ne h1631) (all_cons (some_ne h1632) (all_cons (some_ne h1633) all_nil))))
                have hw := cW_ok hw
                exact hK0 _ hw _ S1629.base h1630 h1631 h1632 h1633
              · have hw := cW_neg c1625 hw
                have hw := cW_ok hw
                exact hK0 _ hw _ S1226.base h1227 h1228 h1229 h1230
    · have hw := cW_neg c1222 hw
      refine ⟨_, rfl, _, _, _, _, rfl, rfl, (SqT.of (S0.bM _ _ h1213)), rfl, _, _, rfl, rfl, _, rfl, ?_⟩
      refine iteD (fun c1638 => ?_) (fun c1638 => ?_)
      · have hw := cW_pos c1638 hw
        refine ⟨_, rfl, _, _, _, rfl, h_p_writer, rfl, _, rfl, _, _, _, _, rfl, rfl, (SqT.of (S0.bM _ _ h1213)), rfl, _, rfl, _, _, _, _, rfl, rfl, (SqT.of (S0.bM _ _ h1213)), rfl, _, rfl, _, _, _, _, rfl, rfl, (SqT.of (S0.bM _ _ h1213)), rfl, rfl, rfl, G, _, _, _, _, _, _, writer', _, _, _, rfl, S0.sG, (S0.gno (all_cons (.head _) (all_cons (.tail _ (.head _)) (all_cons (.tail _ (.tail _ (.head _))) (all_cons (.tail _ (.tail _ (.tail _ (.head _)))) all_nil))))), h_p_writer, h_p_writer_enc, h_l_writer_enc_probs, h_l_writer_enc_front, ne_writer_0, ne_writer_1, cW_call hw (fun v1639 hw H1640 x1641 h1643 h1644 h1645 h1646  => ?_) (fun e he H2 e2 => hE e he H2 (Same.trans (Same.refl _) e2))⟩
        have S1642 := S0.mut x1641 (all_cons (.head _) (all_cons (.tail _ (.head _)) (all_cons (.tail _ (.tail _ (.head _))) (all_cons (.tail _ (.tail _ (.tail _ (.head _)))) all_nil)))) (all_cons (some_ne h1643) (all_cons (some_ne h1644) (all_cons (some_ne h1645) (all_cons (some_ne h1646) all_nil))))
        refine ⟨_, rfl, _, _, _, _, rfl, rfl, (SqT.of (S1642.bM _ _ h1213)), rfl, _, _, rfl, rfl, _, rfl, ?_⟩
        refine iteD (fun c1651 => ?_) (fun c1651 => ?_)
        · have hw := cW_pos c1651 hw
          refine ⟨_, rfl, _, _, _, rfl, h1643, rfl, _, rfl, _, _, _, _, rfl, rfl, (SqT.of (S1642.bM _ _ h1213)), rfl, _, rfl, _, _, _, _, rfl, rfl, (SqT.of (S1642.bM _ _ h1213)), rfl, _, rfl, _, _, _, _, rfl, rfl, (SqT.of (S1642.bM _ _ h1213)), rfl, rfl, rfl, G, _, _, _, _, _, _, v1639, _, _, _, rfl, S1642.sG, (S1642.gno (all_cons (.head _) (all_cons (.tail _ (.head _)) (all_cons (.tail _ (.tail _ (.head _))) (all_cons (.tail _ (.tail _ (.tail _ (.head _)))) all_nil))))), h1643, h1644, h1645, h1646, ne_writer_0, ne_writer_1, cW_callN hw (fun v1652 hw H1653 x1654 h1656 h1657 h1658 h1659  => ?_) trivial⟩
          have S1655 := S1642.mut x1654 (all_cons (.head _) (all_cons (.tail _ (.head _)) (all_cons (.tail _ (.tail _ (.head _))) (all_cons (.tail _ (.tail _ (.tail _ (.head _)))) all_nil)))) (all_cons (some_ne h1656) (all_cons (some_ne h1657) (all_cons (some_ne h1658) (all_cons (some_ne h1659) all_nil))))
          refine ⟨_, rfl, _, _, _, _, rfl, rfl, (SqT.of (S1655.bM _ _ h1213)), rfl, _, _, rfl, rfl, _, rfl, ?_⟩
          refine iteD (fun c1664 => ?_) (fun c1664 => ?_)
          · have hw := cW_pos c1664 hw
            refine ⟨_, rfl, _, _, _, rfl, h1656, rfl, _, rfl, _, _, _, _, rfl, rfl, (SqT.of (S1655.bM _ _ h1213)), rfl, _, rfl, _, _, _, _, rfl, rfl, (SqT.of (S1655.bM _ _ h1213)), rfl, rfl, rfl, G, _, _, _, _, _, _, v1652, _, _, rfl, S1655.sG, (S1655.gno (all_cons (.head _) (all_cons (.tail _ (.head _)) (all_cons (.tail _ (.tail _ (.head _))) (all_cons (.tail _ (.tail _ (.tail _ (.head _)))) all_nil))))), h1656, h1657, h1658, h1659, ne_writer_0, ne_writer_1, cW_callN hw (fun v1665 hw H1666 x1667 h1669 h1670 h1671 h1672  => ?_) trivial⟩
            have S1668 := S1655.mut x1667 (all_cons (.head _) (all_cons (.tail _ (.head _)) (all_cons (.tail _ (.tail _ (.head _))) (all_cons (.tail _ (.tail _ (.tail _ (.head _)))) all_nil)))) (all_cons (some_ne h1669) (all_cons (some_ne h1670) (all_cons (some_ne h1671) (all_cons (some_ne h1672) all_nil))))
            refine ⟨_, rfl, _, _, _, _, rfl, rfl, (SqT.of (S1668.bM _ _ h1213)), rfl, _, _, rfl, rfl, _, rfl, ?_⟩
            refine iteD (fun c1677 => ?_) (fun c1677 => ?_)
            · have hw := cW_pos c1677 hw
              refine ⟨_, rfl, _, _, _, rfl, h1669, rfl, _, rfl, _, _, _, _, rfl, rfl, (SqT.of (S1668.bM _ _ h1213)), rfl, _, rfl, _, _, _, _, rfl, rfl, (SqT.of (S1668.bM _ _ h1213)), rfl, rfl, rfl, G, _, _, _, _, _, _, v1665, _, _, rfl, S1668.sG, (S1668.gno (all_cons (.head _) (all_cons (.tail _ (.head _)) (all_cons (.tail _ (.tail _ (.head _))) (all_cons (.tail _ (.tail _ (.tail _ (.head _)))) all_nil))))), h1669, h1670, h1671, h1672, ne_writer_0, ne_writer_1, cW_callN hw (fun v1678 hw H1679 x1680 h1682 h1683 h1684 h1685  => ?_) trivial⟩
              have S1681 := S1668.mut x1680 (all_cons (.head _) (all_cons (.tail _ (.head _)) (all_cons (.tail _ (.tail _ (.head _))) (all_cons (.tail _ (.tail _ (.tail _ (.head _)))) all_nil)))) (all_cons (some_ne h1682) (all_cons (some_ne h1683) (all_cons (some_ne h1684) (all_cons (some_ne h1685) all_nil))))
              refine ⟨_, rfl, _, _, _, _, rfl, rfl, (SqT.of (S1681.bM _ _ h1213)), rfl, _, _, rfl, rfl, _, rfl, ?_⟩
              refine iteD (fun c1690 => ?_) (fun c1690 => ?_)
              · have hw := cW_pos c1690 hw
                refine ⟨_, rfl, _, _, _, rfl, h1682, rfl, _, rfl, _, _, _, _, rfl, rfl, (SqT.of (S1681.bM _ _ h1213)), rfl, rfl, rfl, G, _, _, _, _, _, _, v1678, _, rfl, S1681.sG, (S1681.gno (all_cons (.head _) (all_cons (.tail _ (.head _)) (all_cons (.tail _ (.tail _ (.head _))) (all_cons (.tail _ (.tail _ (.tail _ (.head _)))) all_nil))))), h1682, h1683, h1684, h1685, ne_writer_0, ne_writer_1, cW_callN hw (fun v1691 hw H1692 x1693 h1695 h1696 h1697 h1698  => ?_) trivial⟩
                have S1694 := S1681.mut x1693 (all_cons (.head _) (all_cons (.tail _ (.head _)) (all_cons (.tail _ (.tail _ (.head _))) (all_cons (.tail _ (.tail _ (.tail _ (.head _)))) all_nil)))) (all_cons (some_ne h1695) (all_cons (some_ne h1696) (all_cons (some_ne h1697) (all_cons (some_ne h1698) all_nil))))
                have hw := cW_ok hw
                exact hK0 _ hw _ S1694.base h1695 h1696 h1697 h1698
              · have hw := cW_neg c1690 hw
                have hw := cW_ok hw
                exact hK0 _ hw _ S1681.base h1682 h1683 h1684 h1685
            · have hw := cW_neg c1677 hw
              refine ⟨_, rfl, _, _, _, _, rfl, rfl, (SqT.of (S1668.bM _ _ h1213)), rfl, _, _, rfl, rfl, _, rfl, ?_⟩
              refine iteD (fun c1703 => ?_) (fun c1703 => ?_)
              · have hw := cW_pos c1703 hw
                refine ⟨_, rfl, _, _, _, rfl, h1669, rfl, _, rfl, _, _, _, _, rfl, rfl, (SqT.of (S1668.bM _ _ h1213)), rfl, rfl, rfl, G, _, _, _, _, _, _, v1665, _, rfl, S1668.sG, (S1668.gno (all_cons (.head _) (all_cons (.tail _ (.head _)) (all_cons (.tail _ (.tail _ (.head _))) (all_cons (.tail _ (.tail _ (.tail _ (.head _)))) all_nil))))), h1669, h1670, h1671, h1672, ne_writer_0, ne_writer_1, cW_callN hw (fun v1704 hw H1705 x1706 h1708 h1709 h1710 h1711  => ?_) trivial⟩
                have S1707 := S1668.mut x1706 (all_cons (.head _) (all_cons (.tail _ (.head _)) (all_cons (.tail _ (.tail _ (.head _))) (all_cons (.tail _ (.tail _ (.tail _ (.head _)))) all_nil)))) (all_cons (some_ne h1708) (all_cons (some_ne h1709) (all_cons (some_ne h1710) (all_cons (some_ne h1711) all_nil))))
                have hw := cW_ok hw
                exact hK0 _ hw _ S1707.base h1708 h1709 h1710 h1711
              · have hw := cW_neg c1703 hw
                have hw := cW_ok hw
                exact hK0 _ hw _ S1668.base h1669 h1670 h1671 h1672
          · have hw := cW_neg c1664 hw
            refine ⟨_, rfl, _, _, _, _, rfl, rfl, (SqT.of (S1655.bM _ _ h1213)), rfl, _, _, rfl, rfl, _, rfl, ?_⟩
            refine iteD (fun c1716 => ?_) (fun c1716 => ?_)
            · have hw := cW_pos c1716 hw
              refine ⟨_, rfl, _, _, _, rfl, h1656, rfl, _, rfl, _, _, _, _, rfl, rfl, (SqT.of (S1655.bM _ _ h1213)), rfl, _, rfl, _, _, _, _, rfl, rfl, (SqT.of (S1655.bM _ _ h1213)), rfl, rfl, rfl, G, _, _, _, _, _, _, v1652, _, _, rfl, S1655.sG, (S1655.gno (all_cons (.head _) (all_cons (.tail _ (.head _)) (all_cons (.tail _ (.tail _ (.head _))) (all_cons (.tail _ (.tail _ (.tail _ (.head _)))) all_nil))))), h1656, h1657, h1658, h1659, ne_writer_0, ne_writer_1, cW_callN hw (fun v1717 hw H1718 x1719 h1721 h1722 h1723 h1724  => ?_) trivial⟩
              have S1720 := S1655.mut x1719 (all_cons (.head _) (all_cons (.tail _ (.head _)) (all_cons (.tail _ (.tail _ (.head _))) (all_cons (.tail _ (.tail _ (.tail _ (.head _)))) all_nil)))) (all_cons (some_ne h1721) (all_cons (some_ne h1722) (all_cons (some_ne h1723) (all_cons (some_ne h1724) all_nil))))
              refine ⟨_, rfl, _, _, _, _, rfl, rfl, (SqT.of (S1720.bM _ _ h1213)), rfl, _, _, rfl, rfl, _, rfl, ?_⟩
              refine iteD (fun c1729 => ?_) (fun c1729 => ?_)
              · have hw := cW_pos c1729 hw
                refine ⟨_, rfl, _, _, _, rfl, h1721, rfl, _, rfl, _, _, _, _, rfl, rfl, (SqT.of (S1720.bM _ _ h1213)), rfl, rfl, rfl, G, _, _, _, _, _, _, v1717, _, rfl, S1720.sG, (S1720.gno (all_cons (.head _) (all_cons (.tail _ (.head _)) (all_cons (.tail _ (.tail _ (.head _))) (all_cons (.tail _ (.tail _ (.tail _ (.head _)))) all_nil))))), h1721, h1722, h1723, h1724, ne_writer_0, ne_writer_1, cW_callN hw (fun v1730 hw H1731 x1732 h1734 h1735 h1736 h1737  => ?_) trivial⟩
                have S1733 := S1720.mut x1732 (all_cons (.head _) (all_cons (.tail _ (.head _)) (all_cons (.tail _ (.tail _ (.head _))) (all_cons (.tail _ (.tail _ (.tail _ (.head _)))) all_nil)))) (all_cons (some_ne h1734) (all_cons (some_ne h1735) (all_cons (some_ne h1736) (all_cons (some_ne h1737) all_nil))))
                have hw := cW_ok hw
                exact hK0 _ hw _ S1733.base h1734 h1735 h1736 h1737
              · have hw := cW_neg c1729 hw
                have hw := cW_ok hw
                exact hK0 _ hw _ S1720.base h1721 h1722 h1723 h1724
            · have hw := cW_neg c1716 hw
              refine ⟨_, rfl, _, _, _, _, rfl, rfl, (SqT.of (S1655.bM _ _ h1213)), rfl, _, _, rfl, rfl, _, rfl, ?_⟩
              refine iteD (fun c1742 => ?_) (fun c1742 => ?_)
              · have hw := cW_pos c1742 hw
                refine ⟨_, rfl, _, _, _, rfl, h1656, rfl, _, rfl, _, _, _, _, rfl, rfl, (SqT.of (S1655.bM _ _ h1213)), rfl, rfl, rfl, G, _, _, _, _, _, _, v1652, _, rfl, S1655.sG, (S1655.gno (all_cons (.head _) (all_cons (.tail _ (.head _)) (all_cons (.tail _ (.tail _ (.head _))) (all_cons (.tail _ (.tail _ (.tail _ (.head _)))) all_nil))))), h1656, h1657, h1658, h1659, ne_writer_0, ne_writer_1, cW_callN hw (fun v1743 hw H1744 x1745 h1747 h1748 h1749 h1750  => ?_) trivial⟩
                have S1746 := S1655.mut x1745 (all_cons (.head _) (all_cons (.tail _ (.head _)) (all_cons (.tail _ (.tail _ (.head _))) (all_cons (.tail _ (.tail _ (.tail _ (.head _)))) all_nil)))) (all_cons (some_ne h1747) (all_cons (some_ne h1748) (all_cons (some_ne h1749) (all_cons (some_ne h1750) all_nil))))
                have hw := cW_ok hw
                exact hK0 _ hw _ S1746.base h1747 h1748 h1749 h1750
              · have hw := cW_neg c1742 hw
                have hw := cW_ok hw
                exact hK0 _ hw _ S1655.base h1656 h1657 h1658 h1659
        · have hw := cW_neg c1651 hw
          refine ⟨_, rfl, _, _, _, _, rfl, rfl, (SqT.of (S1642.bM _ _ h1213)), rfl, _, _, rfl, rfl, _, rfl, ?_⟩
          refine iteD (fun c1755 => ?_) (fun c1755 => ?_)
          · have hw := cW_pos c1755 hw
            refine ⟨_, rfl, _, _, _, rfl, h1643, rfl, _, rfl, _, _, _, _, rfl, rfl, (SqT.of (S1642.bM _ _ h1213)), rfl, _, rfl, _, _, _, _, rfl, rfl, (SqT.of (S1642.bM _ _ h1213)), rfl, rfl, rfl, G, _, _, _, _, _, _, v1639, _, _, rfl, S1642.sG, (S1642.gno (all_cons (.head _) (all_cons (.tail _ (.head _)) (all_cons (.tail _ (.tail _ (.head _))) (all_cons (.tail _ (.tail _ (.tail _ (.head _)))) all_nil))))), h1643, h1644, h1645, h1646, ne_writer_0, ne_writer_1, cW_callN hw (fun v1756 hw H1757 x1758 h1760 h1761 h1762 h1763  => ?_) trivial⟩
            have S1759 := S1642.mut x1758 (all_cons (.head _) (all_cons (.tail _ (.head _)) (all_cons (.tail _ (.tail _ (.head _))) (all_cons (.tail _ (.tail _ (.tail _ (.head _)))) all_nil)))) (all_cons (some_ne h1760) (all_cons (some_ne h1761) (all_cons (some_ne h1762) (all_cons (some_ne h1763) all_nil))))
            refine ⟨_, rfl, _, _, _, _, rfl, rfl, (SqT.of (S1759.bM _ _ h1213)), rfl, _, _, rfl, rfl, _, rfl, ?_⟩
            refine iteD (fun c1768 => ?_) (fun c1768 => ?_)
            · have hw := cW_pos c1768 hw
              refine ⟨_, rfl, _, _, _, rfl, h1760, rfl, _, rfl, _, _, _, _, rfl, rfl, (SqT.of (S1759.bM _ _ h1213)), rfl, _, rfl, _, _, _, _, rfl, rfl, (SqT.of (S1759.bM _ _ h1213)), rfl, rfl, rfl, G, _, _, _, _, _, _, v1756, _, _, rfl, S1759.sG, (S1759.gno (all_cons (.head _) (all_cons (.tail _ (.head _)) (all_cons (.tail _ (.tail _ (.head _))) (all_cons (.tail _ (.tail _ (.tail _ (.head _)))) all_nil))))), h1760, h1761, h1762, h1763, ne_writer_0, ne_writer_1, cW_callN hw (fun v1769 hw H1770 x1771 h1773 h1774 h1775 h1776  => ?_) trivial⟩
              have S1772 := S1759.mut x1771 (all_cons (.head _) (all_cons (.tail _ (.head _)) (all_cons (.tail _ (.tail _ (.head _))) (all_cons (.tail _ (.tail _ (.tail _ (.head _)))) all_nil)))) (all_cons (some_ne h1773) (all_cons (some_ne h1774) (all_cons (some_ne h1775) (all_cons (some_ne h1776) all_nil))))
              refine ⟨_, rfl, _, _, _, _, rfl, rfl, (SqT.of (S1772.bM _ _ h1213)), rfl, _, _, rfl, rfl, _, rfl, ?_⟩
              refine iteD (fun c1781 => ?_) (fun c1781 => ?_)
              · have hw := cW_pos c1781 hw
                refine ⟨_, rfl, _, _, _, rfl, h1773, rfl, _, rfl, _, _, _, _, rfl, rfl, (SqT.of (S1772.bM _ _ h1213)), rfl, rfl, rfl, G, _, _, _, _, _, _, v1769, _, rfl, S1772.sG, (S1772.gno (all_cons (.head _) (all_cons (.tail _ (.head _)) (all_cons (.tail _ (.tail _ (.head _))) (all_cons (.tail _ (.tail _ (.tail _ (.head _)))) all_nil))))), h1773, h1774, h1775, h1776, ne_writer_0, ne_writer_1, cW_callN hw (fun v1782 hw H1783 x1784 h1786 h1787 h1788 h1789  => ?_) trivial⟩
                have S1785 := S1772.mut x1784 (all_cons (.head _) (all_cons (.tail _ (.head _)) (all_cons (.tail _ (.tail _ (.head _))) (all_cons (.tail _ (.tail _ (.tail _ (.head _)))) all_nil)))) (all_cons (some_ne h1786) (all_cons (some_ne h1787) (all_cons (some_ne h1788) (all_cons (some_ne h1789) all_nil))))
                have hw := cW_ok hw
                exact hK0 _ hw _ S1785.base h1786 h1787 h1788 h1789
              · have hw := cW_neg c1781 hw
                have hw := cW_ok hw
                exact hK0 _ hw _ S1772.base h1773 h1774 h1775 h1776
            · have hw := cW_neg c1768 hw
              refine ⟨_, rfl, _, _, _, _, rfl, rfl, (SqT.of (S1759.bM _ _ h1213)), rfl, _, _, rfl, rfl, _, rfl, ?_⟩
              refine iteD (fun c1794 => ?_) (fun c1794 => ?_)
              · have hw := cW_pos c1794 hw
                refine ⟨_, rfl, _, _, _, rfl, h1760, rfl, _, rfl, _, _, _, _, rfl, rfl, (SqT.of (S1759.bM _ _ h1213)), rfl, rfl, rfl, G, _, _, _, _, _, _, v1756, _, rfl, S1759.sG, (S1759.gno (all_cons (.head _) (all_cons (.tail _ (.head _)) (all_cons (.tail _ (.tail _ (.head _))) (all_cons (.tail _ (.tail _ (.tail _ (.head _)))) all_nil))))), h1760, h1761, h1762, h1763, ne_writer_0, ne_writer_1, cW_callN hw (fun v1795 hw H1796 x1797 h1799 h1800 h1801 h1802  => ?_) trivial⟩
                have S1798 := S1759.mut x1797 (all_cons (.head _) (all_cons (.tail _ (.head _)) (all_cons (.tail _ (.tail _ (.head _))) (all_cons (.tail _ (.tail _ (.tail _ (.head _)))) all_nil)))) (all_cons (some_ne h1799) (all_cons (some_ne h1800) (all_cons (some_ne h1801) (all_cons (some_ne h1802) all_nil))))
                have hw := cW_ok hw
                exact hK0 _ hw _ S1798.base h1799 h1800 h1801 h1802
              · have hw := cW_neg c1794 hw
                have hw := cW_ok hw
                exact hK0 _ hw _ S1759.base h1760 h1761 h1762 h1763
          · have hw := cW_neg c1755 hw
            refine ⟨_, rfl, _, _, _, _, rfl, rfl, (SqT.of (S1642.bM _ _ h1213)), rfl, _, _, rfl, rfl, _, rfl, ?_⟩
            refine iteD (fun c1807 => ?_) (fun c1807 => ?_)
            · have hw := cW_pos c1807 hw
              refine ⟨_, rfl, _, _, _, rfl, h1643, rfl, _, rfl, _, _, _, _, rfl, rfl, (SqT.of (S1642.bM _ _ h1213)), rfl, _, rfl, _, _, _, _, rfl, rfl, (SqT.of (S1642.bM _ _ h1213)), rfl, rfl, rfl, G, _, _, _, _, _, _, v1639, _, _, rfl, S1642.sG, (S1642.gno (all_cons (.head _) (all_cons (.tail _ (.head _)) (all_cons (.tail _ (.tail _ (.head _))) (all_cons (.tail _ (.tail _ (.tail _ (.head _)))) all_nil))))), h1643, h1644, h1645, h1646, ne_writer_0, ne_writer_1, cW_callN hw (fun v1808 hw H1809 x1810 h1812 h1813 h1814 h1815  => ?_) trivial⟩
              have S1811 := S1642.mut x1810 (all_cons (.head _) (all_cons (.tail _ (.head _)) (all_cons (.tail _ (.tail _ (.head _))) (all_cons (.tail _ (.tail _ (.tail _ (.head _)))) all_nil)))) (all_cons (some_ne h1812) (all_cons (some_ne h1813) (all_cons (some_ne h1814) (all_cons (some_ne h1815) all_nil))))
              refine ⟨_, rfl, _, _, _, _, rfl, rfl, (SqT.of (S1811.bM _ _ h1213)), rfl, _, _, rfl, rfl, _, rfl, ?_⟩
              refine iteD (fun c1820 => ?_) (fun c1820 => ?_)
              · have hw := cW_pos c1820 hw
                refine ⟨_, rfl, _, _, _, rfl, h1812, rfl, _, rfl, _, _, _, _, rfl, rfl, (SqT.of (S1811.bM _ _ h1213)), rfl, rfl, rfl, G, _, _, _, _, _, _, v1808, _, rfl, S1811.sG, (S1811.gno (all_cons (.head _) (all_cons (.tail _ (.head _)) (all_cons (.tail _ (.tail _ (.head _))) (all_cons (.tail _ (.tail _ (.tail _ (.head _)))) all_nil))))), h1812, h1813, h1814, h1815, ne_writer_0, ne_writer_1, cW_callN hw (fun v1821 hw H1822 x1823 h1825 h1826 h1827 h1828  => ?_) trivial⟩
                have S1824 := S1811.mut x1823 (all_cons (.head _) (all_cons (.tail _ (.head _)) (all_cons (.tail _ (.tail _ (.head _))) (all_cons (.tail _ (.tail _ (.tail _ (.head _)))) all_nil)))) (all_cons (some_ne h1825) (all_cons (some_ne h1826) (all_cons (some_ne h1827) (all_cons (some_ne h1828) all_nil))))
                have hw := cW_ok hw
                exact hK0 _ hw _ S1824.base h1825 h1826 h1827 h1828
              · have hw := cW_neg c1820 hw
                have hw := cW_ok hw
                exact hK0 _ hw _ S1811.base h1812 h1813 h1814 h1815
            · have hw := cW_neg c1807 hw
              refine ⟨_, rfl, _, _, _, _, rfl, rfl, (SqT.of (S1642.bM _ _ h1213)), rfl, _, _, rfl, rfl, _, rfl, ?_⟩
              refine iteD (fun c1833 => ?_) (fun c1833 => ?_)
              · have hw := cW_pos c1833 hw
                refine ⟨_, rfl, _, _, _, rfl, h1643, rfl, _, rfl, _, _, _, _, rfl, rfl, (SqT.of (S1642.bM _ _ h1213)), rfl, rfl, rfl, G, _, _, _, _, _, _, v1639, _, rfl, S1642.sG, (S1642.gno (all_cons (.head _) (all_cons (.tail _ (.head _)) (all_cons (.tail _ (.tail _ (.head _))) (all_cons (.tail _ (.tail _ (.tail _ (.head _)))) all_nil))))), h1643, h1644, h1645, h1646, ne_writer_0, ne_writer_1, cW_callN hw (fun v1834 hw H1835 x1836 h1838 h1839 h1840 h1841  => ?_) trivial⟩
                have S1837 := S1642.mut x1836 (all_cons (.head _) (all_cons (.tail _ (.head _)) (all_cons (.tail _ (.tail _ (.head _))) (all_cons (.tail _ (.tail _ (.tail _ (.head _)))) all_nil)))) (all_cons (some_ne h1838) (all_cons (some_ne h1839) (all_cons (some_ne h1840) (all_cons (some_ne h1841) all_nil))))
                have hw := cW_ok hw
                exact hK0 _ hw _ S1837.base h1838 h1839 h1840 h1841
              · have hw := cW_neg c1833 hw
                have hw := cW_ok hw
                exact hK0 _ hw _ S1642.base h1643 h1644 h1645 h1646
      · have hw := cW_neg c1638 hw
        refine ⟨_, rfl, _, _, _, _, rfl, rfl, (SqT.of (S0.bM _ _ h1213)), rfl, _, _, rfl, rfl, _, rfl, ?_⟩
        refine iteD (fun c1846 => ?_) (fun c1846 => ?_)
        · have hw := cW_pos c1846 hw
          refine ⟨_, rfl, _, _, _, rfl, h_p_writer, rfl, _, rfl, _, _, _, _, rfl, rfl, (SqT.of (S0.bM _ _ h1213)), rfl, _, rfl, _, _, _, _, rfl, rfl, (SqT.of (S0.bM _ _ h1213)), rfl, _, rfl, _, _, _, _, rfl, rfl, (SqT.of (S0.bM _ _ h1213)), rfl, rfl, rfl, G, _, _, _, _, _, _, writer', _, _, _, rfl, S0.sG, (S0.gno (all_cons (.head _) (all_cons (.tail _ (.head _)) (all_cons (.tail _ (.tail _ (.head _))) (all_cons (.tail _ (.tail _ (.tail _ (.head _)))) all_nil))))), h_p_writer, h_p_writer_enc, h_l_writer_enc_probs, h_l_writer_enc_front, ne_writer_0, ne_writer_1, cW_call hw (fun v1847 hw H1848 x1849 h1851 h1852 h1853 h1854  => ?_) (fun e he H2 e2 => hE e he H2 (Same.trans (Same.refl _) e2))⟩
          have S1850 := S0.mut x1849 (all_cons (.head _) (all_cons (.tail _ (.head _)) (all_cons (.tail _ (.tail _ (.head _))) (all_cons (.tail _ (.tail _ (.tail _ (.head _)))) all_nil)))) (all_cons (some_ne h1851) (all_cons (some_ne h1852) (all_cons (some_ne h1853) (all_cons (some_ne h1854) all_nil))))
          refine ⟨_, rfl, _, _, _, _, rfl, rfl, (SqT.of (S1850.bM _ _ h1213)), rfl, _, _, rfl, rfl, _, rfl, ?_⟩
          refine iteD (fun c1859 => ?_) (fun c1859 => ?_)
          · have hw := cW_pos c1859 hw
            refine ⟨_, rfl, _, _, _, rfl, h1851, rfl, _, rfl, _, _, _, _, rfl, rfl, (SqT.of (S1850.bM _ _ h1213)), rfl, _, rfl, _, _, _, _, rfl, rfl, (SqT.of (S1850.bM _ _ h1213)), rfl, rfl, rfl, G, _, _, _, _, _, _, v1847, _, _, rfl, S1850.sG, (S1850.gno (all_cons (.head _) (all_cons (.tail _ (.head _)) (all_cons (.tail _ (.tail _ (.head _))) (all_cons (.tail _ (.tail _ (.tail _ (.head _)))) all_nil))))), h1851, h1852, h1853, h1854, ne_writer_0, ne_writer_1, cW_callN hw (fun v1860 hw H1861 x1862 h1864 h1865 h1866 h1867  => ?_) trivial⟩
            have S1863 := S1850.mut x1862 (all_cons (.head _) (all_cons (.tail _ (.head _)) (all_cons (.tail _ (.tail _ (.head _))) (all_cons (.tail _ (.tail _ (.tail _ (.head _)))) all_nil)))) (all_cons (some_ne h1864) (all_cons (some_ne h1865) (all_cons (some_ne h1866) (all_cons (some_ne h1867) all_nil))))
            refine ⟨_, rfl, _, _, _, _, rfl, rfl, (SqT.of (S1863.bM _ _ h1213)), rfl, _, _, rfl, rfl, _, rfl, ?_⟩
            refine iteD (fun c1872 => ?_) (fun c1872 => ?_)
            · have hw := cW_pos c1872 hw
              refine ⟨_, rfl, _, _, _, rfl, h1864, rfl, _, rfl, _, _, _, _, rfl, rfl, (SqT.of (S1863.bM _ _ h1213)), rfl, _, rfl, _, _, _, _, rfl, rfl, (SqT.of (S1863.bM _ _ h1213)), rfl, rfl, rfl, G, _, _, _, _, _, _, v1860, _, _, rfl, S1863.sG, (S1863.gno (all_cons (.head _) (all_cons (.tail _ (.head _)) (all_cons (.tail _ (.tail _ (.head _))) (all_cons (.tail _ (.tail _ (.tail _ (.head _)))) all_nil))))), h1864, h1865, h1866, h1867, ne_writer_0, ne_writer_1, cW_callN hw (fun v1873 hw H1874 x1875 h1877 h1878 h1879 h1880  => ?_) trivial⟩
              have S1876 := S1863.mut x1875 (all_cons (.head _) (all_cons (.tail _ (.head _)) (all_cons (.tail _ (.tail _ (.head _))) (all_cons (.tail _ (.tail _ (.tail _ (.head _)))) all_nil)))) (all_cons (some_ne h1877) (all_cons (some_ne h1878) (all_cons (some_ne h1879) (all_cons (some_ne h1880) all_nil))))
              refine ⟨_, rfl, _, _, _, _, rfl, rfl, (SqT.of (S1876.bM _ _ h1213)), rfl, _, _, rfl, rfl, _, rfl, ?_⟩
              refine iteD (fun c1885 => ?_) (fun c1885 => ?_)
              · have hw := cW_pos c1885 hw
                refine ⟨_, rfl, _, _, _, rfl, h1877, rfl, _, rfl, _, _, _, _, rfl, rfl, (SqT.of (S1876.bM _ _ h1213)), rfl, rfl, rfl, G, _, _, _, _, _, _, v1873, _, rfl, S1876.sG, (S1876.gno (all_cons (.head _) (all_cons (.tail _ (.head _)) (all_cons (.tail _ (.tail _ (.head _))) (all_cons (.tail _ (.tail _ (.tail _ (.head _)))) all_nil))))), h1877, h1878, h1879, h1880, ne_writer_0, ne_writer_1, cW_callN hw (fun v1886 hw H1887 x1888 h1890 h1891 h1892 h1893  => ?_) trivial⟩
                have S1889 := S1876.mut x1888 (all_cons (.head _) (all_cons (.tail _ (.head _)) (all_cons (.tail _ (.tail _ (.head _))) (all_cons (.tail _ (.tail _ (.tail _ (.head _)))) all_nil)))) (all_cons (some_ne h1890) (all_cons (some_ne h1891) (all_cons (some_ne h1892) (all_cons (some_ne h1893) all_nil))))
                have hw := cW_ok hw
                exact hK0 _ hw _ S1889.base h1890 h1891 h1892 h1893
              · have hw := cW_neg c1885 hw
                have hw := cW_ok hw
                exact hK0 _ hw _ S1876.base h1877 h1878 h1879 h1880
            · have hw := cW_neg c1872 hw
              refine ⟨_, rfl, _, _, _, _, rfl, rfl, (SqT.of (S1863.bM _ _ h1213)), rfl, _, _, rfl, rfl, _, rfl, ?_⟩
              refine iteD (fun c1898 => ?_) (fun c1898 => ?_)
              · have hw := cW_pos c1898 hw
                refine ⟨_, rfl, _, _, _, rfl, h1864, rfl, _, rfl, _, _, _, _, rfl, rfl, (SqT.of (S1863.bM _ _ h1213)), rfl, rfl, rfl, G, _, _, _, _, _, _, v1860, _, rfl, S1863.sG, (S1863.gno (all_cons (.head _) (all_cons (.tail _ (.head _)) (all_cons (.tail _ (.tail _ (.head _))) (all_cons (.tail _ (.tail _ (.tail _ (.head _)))) all_nil))))), h1864, h1865, h1866, h1867, ne_writer_0, ne_writer_1, cW_callN hw (fun v1899 hw H1900 x1901 h1903 h1904 h1905 h1906  => ?_) trivial⟩
                have S1902 := S1863.mut x1901 (all_cons (.head _) (all_cons (.tail _ (.head _)) (all_cons (.tail _ (.tail _ (.head _))) (all_cons (.tail _ (.tail _ (.tail _ (.head _)))) all_nil)))) (all_cons (some_ne h1903) (all_cons (some_ne h1904) (all_cons (some_ne h1905) (all_cons (some_ne h1906) all_nil))))
                have hw := cW_ok hw
                exact hK0 _ hw _ S1902.base h1903 h1904 h1905 h1906
              · have hw := cW_neg c1898 hw
                have hw := cW_ok hw
                exact hK0 _ hw _ S1863.base h1864 h1865 h1866 h1867
          · have hw := cW_neg c1859 hw
            refine ⟨_, rfl, _, _, _, _, rfl, rfl, (SqT.of (S1850.bM _ _ h1213)), rfl, _, _, rfl, rfl, _, rfl, ?_⟩
            refine iteD (fun c1911 => ?_) (fun c1911 => ?_)
            · have hw := cW_pos c1911 hw
              refine ⟨_, rfl, _, _, _, rfl, h1851, rfl, _, rfl, _, _, _, _, rfl, rfl, (SqT.of (S1850.bM _ _ h1213)), rfl, _, rfl, _, _, _, _, rfl, rfl, (SqT.of (S1850.bM _ _ h1213)), rfl, rfl, rfl, G, _, _, _, _, _, _, v1847, _, _, rfl, S1850.sG, (S1850.gno (all_cons (.head _) (all_cons (.tail _ (.head _)) (all_cons (.tail _ (.tail _ (.head _))) (all_cons (.tail _ (.tail _ (.tail _ (.head _)))) all_nil))))), h1851, h1852, h1853, h1854, ne_writer_0, ne_writer_1, cW_callN hw (fun v1912 hw H1913 x1914 h1916 h1917 h1918 h1919  => ?_) trivial⟩
              have S1915 := S1850.mut x1914 (all_cons (.head _) (all_cons (.tail _ (.head _)) (all_cons (.tail _ (.tail _ (.head _))) (all_cons (.tail _ (.tail _ (.tail _ (.head _)))) all_nil)))) (all_cons (some_ne h1916) (all_cons (some_ne h1917) (all_cons (some_ne h1918) (all_cons (some_ne h1919) all_nil))))
              refine ⟨_, rfl, _, _, _, _, rfl, rfl, (SqT.of (S1915.bM _ _ h1213)), rfl, _, _, rfl, rfl, _, rfl, ?_⟩
              refine iteD (fun c1924 => ?_) (fun c1924 => ?_)
              · have hw := cW_pos c1924 hw
                refine ⟨_, rfl, _, _, _, rfl, h1916, rfl, _, rfl, _, _, _, _, rfl, rfl, (SqT.of (S1915.bM _ _ h1213)), rfl, rfl, rfl, G, _, _, _, _, _, _, v1912, _, rfl, S1915.sG, (S1915.gno (all_cons (.head _) (all_cons (.tail _ (.head _)) (all_cons (.tail _ (.tail _ (.head _))) (all_cons (.tail _ (.tail _ (.tail _ (.head _)))) all_nil))))), h1916, h1917, h1918, h1919, ne_writer_0, ne_writer_1, cW_callN hw (fun v1925 hw H1926 x1927 h1929 h1930 h1931 h1932  => ?_) trivial⟩
                have S1928 := S1915.mut x1927 (all_cons (.head _) (all_cons (.tail _ (.head _)) (all_cons (.tail _ (.tail _ (.head _))) (all_cons (.tail _ (.tail _ (.tail _ (.head _)))) all_nil)))) (all_cons (some_ne h1929) (all_cons (some_ne h1930) (all_cons (some_ne h1931) (all_cons (some_ne h1932) all_nil))))
                have hw := cW_ok hw
                exact hK0 _ hw _ S1928.base h1929 h1930 h1931 h1932
              · have hw := cW_neg c1924 hw
                have hw := cW_ok hw
                exact hK0 _ hw _ S1915.base h1916 h1917 h1918 h1919
            · have hw := cW_neg c1911 hw
              refine ⟨_, rfl, _, _, _, _, rfl, rfl, (SqT.of (S1850.bM _ _ h1213)), rfl, _, _, rfl, rfl, _, rfl, ?_⟩
              refine iteD (fun c1937 => ?_) (fun c1937 => ?_)
              · have hw := cW_pos c1937 hw
                refine ⟨_, rfl, _, _, _, rfl, h1851, rfl, _, rfl, _, _, _, _, rfl, rfl, (SqT.of (S1850.bM _ _ h1213)), rfl, rfl, rfl, G, _, _, _, _, _, _, v1847, _, rfl, S1850.sG, (S1850.gno (all_cons (.head _) (all_cons (.tail _ (.head _)) (all_cons (.tail _ (.tail _ (.head _))) (all_cons (.tail _ (.tail _ (.tail _ (.head _)))) all_nil))))), h1851, h1852, h1853, h1854, ne_writer_0, ne_writer_1, cW_callN hw (fun v1938 hw H1939 x1940 h1942 h1943 h1944 h1945  => ?_) trivial⟩
                have S1941 := S1850.mut x1940 (all_cons (.head _) (all_cons (.tail _ (.head _)) (all_cons (.tail _ (.tail _ (.head _))) (all_cons (.tail _ (.tail _ (.tail _ (.head _)))) all_nil)))) (all_cons (some_ne h1942) (all_cons (some_ne h1943) (all_cons (some_ne h1944) (all_cons (some_ne h1945) all_nil))))
                have hw := cW_ok hw
                exact hK0 _ hw _ S1941.base h1942 h1943 h1944 h1945
              · have hw := cW_neg c1937 hw
                have hw := cW_ok hw
                exact hK0 _ hw _ S1850.base h1851 h1852 h1853 h1854
        · have hw := cW_neg c1846 hw
          refine ⟨_, rfl, _, _, _, _, rfl, rfl, (SqT.of (S0.bM _ _ h1213)), rfl, _, _, rfl, rfl, _, rfl, ?_⟩
          refine iteD (fun c1950 => ?_) (fun c1950 => ?_)
          · have hw := cW_pos c1950 hw
            refine ⟨_, rfl, _, _, _, rfl, h_p_writer, rfl, _, rfl, _, _, _, _, rfl, rfl, (SqT.of (S0.bM _ _ h1213)), rfl, _, rfl, _, _, _, _, rfl, rfl, (SqT.of (S0.bM _ _ h1213)), rfl, rfl, rfl, G, _, _, _, _, _, _, writer', _, _, rfl, S0.sG, (S0.gno (all_cons (.head _) (all_cons (.tail _ (.head _)) (all_cons (.tail _ (.tail _ (.head _))) (all_cons (.tail _ (.tail _ (.tail _ (.head _)))) all_nil))))), h_p_writer, h_p_writer_enc, h_l_writer_enc_probs, h_l_writer_enc_front, ne_writer_0, ne_writer_1, cW_call hw (fun v1951 hw H1952 x1953 h1955 h1956 h1957 h1958  => ?_) (fun e he H2 e2 => hE e he H2 (Same.trans (Same.refl _) e2))⟩
            have S1954 := S0.mut x1953 (all_cons (.head _) (all_cons (.tail _ (.head _)) (all_cons (.tail _ (.tail _ (.head _))) (all_cons (.tail _ (.tail _ (.tail _ (.head _)))) all_nil)))) (all_cons (some_ne h1955) (all_cons (some_ne h1956) (all_cons (some_ne h1957) (all_cons (some_ne h1958) all_nil))))
            refine ⟨_, rfl, _, _, _, _, rfl, rfl, (SqT.of (S1954.bM _ _ h1213)), rfl, _, _, rfl, rfl, _, rfl, ?_⟩
            refine iteD (fun c1963 => ?_) (fun c1963 => ?_)
            · have hw := cW_pos c1963 hw
              refine ⟨_, rfl, _, _, _, rfl, h1955, rfl, _, rfl, _, _, _, _, rfl, rfl, (SqT.of (S1954.bM _ _ h1213)), rfl, _, rfl, _, _, _, _, rfl, rfl, (SqT.of (S1954.bM _ _ h1213)), rfl, rfl, rfl, G, _, _, _, _, _, _, v1951, _, _, rfl, S1954.sG, (S1954.gno (all_cons (.head _) (all_cons (.tail _ (.head _)) (all_cons (.tail _ (.tail _ (.head _))) (all_cons (.tail _ (.tail _ (.tail _ (.head _)))) all_nil))))), h1955, h1956, h1957, h1958, ne_writer_0, ne_writer_1, cW_callN hw (fun v1964 hw H1965 x1966 h1968 h1969 h1970 h1971  => ?_) trivial⟩
              have S1967 := S1954.mut x1966 (all_cons (.head _) (all_cons (.tail _ (.head _)) (all_cons (.tail _ (.tail _ (.head _))) (all_cons (.tail _ (.tail _ (.tail _ (.head _)))) all_nil)))) (all_cons (some_ne h1968) (all_cons (some_ne h1969) (all_cons (some_ne h1970) (all_cons (some_ne h1971) all_nil))))
              refine ⟨_, rfl, _, _, _, _, rfl, rfl, (SqT.of (S1967.bM _ _ h1213)), rfl, _, _, rfl, rfl, _, rfl, ?_⟩
              refine iteD (fun c1976 => ?_) (fun c1976 => ?_)
              · have hw := cW_pos c1976 hw
                refine ⟨_, rfl, _, _, _, rfl, h1968, rfl, _, rfl, _, _, _, _, rfl, rfl, (SqT.of (S1967.bM _ _ h1213)), rfl, rfl, rfl, G, _, _, _, _, _, _, v1964, _, rfl, S1967.sG, (S1967.gno (all_cons (.head _) (all_cons (.tail _ (.head _)) (all_cons (.tail _ (.tail _ (.head _))) (all_cons (.tail _ (.tail _ (.tail _ (.head _)))) all_nil))))), h1968, h1969, h1970, h1971, ne_writer_0, ne_writer_1, cW_callN hw (fun v1977 hw H1978 x1979 h1981 h1982 h1983 h1984  => ?_) trivial⟩
                have S1980 := S1967.mut x1979 (all_cons (.head _) (all_cons (.tail _ (.head _)) (all_cons (.tail _ (.tail _ (.head _))) (all_cons (.tail _ (.tail _ (.tail _ (.head _)))) all_nil)))) (all_cons (some_ne h1981) (all_cons (some_ne h1982) (all_cons (some_ne h1983) (all_cons (some_ne h1984) all_nil))))
                have hw := cW_ok hw
                exact hK0 _ hw _ S1980.base h1981 h1982 h1983 h1984
              · have hw := cW_neg c1976 hw
                have hw := cW_ok hw
                exact hK0 _ hw _ S1967.base h1968 h1969 h1970 h1971
            · have hw := cW_neg c1963 hw
              refine ⟨_, rfl, _, _, _, _, rfl, rfl, (SqT.of (S1954.bM _ _ h1213)), rfl, _, _, rfl, rfl, _, rfl, ?_⟩
              refine iteD (fun c1989 => ?_) (fun c1989 => ?_)
              · have hw := cW_pos c1989 hw
                refine ⟨_, rfl, _, _, _, rfl, h1955, rfl, _, rfl, _, _, _, _, rfl, rfl, (SqT.of (S1954.bM _ _ h1213)), rfl, rfl, rfl, G, _, _, _, _, _, _, v1951, _, rfl, S1954.sG, (S1954.gno (all_cons (.head _) (all_cons (.tail _ (.head _)) (all_cons (.tail _ (.tail _ (.head _))) (all_cons (.tail _ (.tail _ (.tail _ (.head _)))) all_nil))))), h1955, h1956, h1957, h1958, ne_writer_0, ne_writer_1, cW_callN hw (fun v1990 hw H1991 x1992 h1994 h1995 h1996 h1997  => ?_) trivial⟩
                have S1993 := S1954.mut x1992 (all_cons (.head _) (all_cons (.tail _ (.head _)) (all_cons (.tail _ (.tail _ (.head _))) (all_cons (.tail _ (.tail _ (.tail _ (.head _)))) all_nil)))) (all_cons (some_ne h1994) (all_cons (some_ne h1995) (all_cons (some_ne h1996) (all_cons (some_ne h1997) all_nil))))
                have hw := cW_ok hw
                exact hK0 _ hw _ S1993.base h1994 h1995 h1996 h1997
              · have hw := cW_neg c1989 hw
                have hw := cW_ok hw
                exact hK0 _ hw _ S1954.base h1955 h1956 h1957 h1958
          · have hw := cW_neg c1950 hw
            refine ⟨_, rfl, _, _, _, _, rfl, rfl, (SqT.of (S0.bM _ _ h1213)), rfl, _, _, rfl, rfl, _, rfl, ?_⟩
            refine iteD (fun c2002 => ?_) (fun c2002 => ?_)
            · have hw := cW_pos c2002 hw
              refine ⟨_, rfl, _, _, _, rfl, h_p_writer, rfl, _, rfl, _, _, _, _, rfl, rfl, (SqT.of (S0.bM _ _ h1213)), rfl, _, rfl, _, _, _, _, rfl, rfl, (SqT.of (S0.bM _ _ h1213)), rfl, rfl, rfl, G, _, _, _, _, _, _, writer', _, _, rfl, S0.sG, (S0.gno (all_cons (.head _) (all_cons (.tail _ (.head _)) (all_cons (.tail _ (.tail _ (.head _))) (all_cons (.tail _ (.tail _ (.tail _ (.head _)))) all_nil))))), h_p_writer, h_p_writer_enc, h_l_writer_enc_probs, h_l_writer_enc_front, ne_writer_0, ne_writer_1, cW_call hw (fun v2003 hw H2004 x2005 h2007 h2008 h2009 h2010  => ?_) (fun e he H2 e2 => hE e he H2 (Same.trans (Same.refl _) e2))⟩
              have S2006 := S0.mut x2005 (all_cons (.head _) (all_cons (.tail _ (.head _)) (all_cons (.tail _ (.tail _ (.head _))) (all_cons (.tail _ (.tail _ (.tail _ (.head _)))) all_nil)))) (all_cons (some_ne h2007) (all_cons (some_ne h2008) (all_cons (some_ne h2009) (all_cons (some_ne h2010) all_nil))))
              refine ⟨_, rfl, _, _, _, _, rfl, rfl, (SqT.of (S2006.bM _ _ h1213)), rfl, _, _, rfl, rfl, _, rfl, ?_⟩
              refine iteD (fun c2015 => ?_) (fun c2015 => ?_)
              · have hw := cW_pos c2015 hw
                refine ⟨_, rfl, _, _, _, rfl, h2007, rfl, _, rfl, _, _, _, _, rfl, rfl, (SqT.of (S2006.bM _ _ h1213)), rfl, rfl, rfl, G, _, _, _, _, _, _, v2003, _, rfl, S2006.sG, (S2006.gno (all_cons (.head _) (all_cons (.tail _ (.head _)) (all_cons (.tail _ (.tail _ (.head _))) (all_cons (.tail _ (.tail _ (.tail _ (.head _)))) all_nil))))), h2007, h2008, h2009, h2010, ne_writer_0, ne_writer_1, cW_callN hw (fun v2016 hw H2017 x2018 h2020 h2021 h2022 h2023  => ?_) trivial⟩
                have S2019 := S2006.mut x2018 (all_cons (.head _) (all_cons (.tail _ (.head _)) (all_cons (.tail _ (.tail _ (.head _))) (all_cons (.tail _ (.tail _ (.tail _ (.head _)))) all_nil)))) (all_cons (some_ne h2020) (all_cons (some_ne h2021) (all_cons (some_ne h2022) (all_cons (some_ne h2023) all_nil))))
                have hw := cW_ok hw
                exact hK0 _ hw _ S2019.base h2020 h2021 h2022 h2023
              · have hw := cW_neg c2015 hw
                have hw := cW_ok hw
                exact hK0 _ hw _ S2006.base h2007 h2008 h2009 h2010
            · have hw := cW_neg c2002 hw
              refine ⟨_, rfl, _, _, _, _, rfl, rfl, (SqT.of (S0.bM _ _ h1213)), rfl, _, _, rfl, rfl, _, rfl, ?_⟩
              refine iteD (fun c2028 => ?_) (fun c2028 => ?_)
              · have hw := cW_pos c2028 hw
                refine ⟨_, rfl, _, _, _, rfl, h_p_writer, rfl, _, rfl, _, _, _, _, rfl, rfl, (SqT.of (S0.bM _ _ h1213)), rfl, rfl, rfl, G, _, _, _, _, _, _, writer', _, rfl, S0.sG, (S0.gno (all_cons (.head _) (all_cons (.tail _ (.head _)) (all_cons (.tail _ (.tail _ (.head _))) (all_cons (.tail _ (.tail _ (.tail _ (.head _)))) all_nil))))), h_p_writer, h_p_writer_enc, h_l_writer_enc_probs, h_l_writer_enc_front, ne_writer_0, ne_writer_1, cW_call hw (fun v2029 hw H2030 x2031 h2033 h2034 h2035 h2036  => ?_) (fun e he H2 e2 => hE e he H2 (Same.trans (Same.refl _) e2))⟩
                have S2032 := S0.mut x2031 (all_cons (.head _) (all_cons (.tail _ (.head _)) (all_cons (.tail _ (.tail _ (.head _))) (all_cons (.tail _ (.tail _ (.tail _ (.head _)))) all_nil)))) (all_cons (some_ne h2033) (all_cons (some_ne h2034) (all_cons (some_ne h2035) (all_cons (some_ne h2036) all_nil))))
                have hw := cW_ok hw
                exact hK0 _ hw _ S2032.base h2033 h2034 h2035 h2036
              · have hw := cW_neg c2028 hw
                have hw := cW_ok hw
                exact hK0 _ hw _ S0.base h_p_writer h_p_writer_enc h_l_writer_enc_probs h_l_writer_enc_front

abbrev N_Decoder___init__ : List Str := ["self", "octets", "_"]
theorem sc_Decoder___init__ : FnScope N_Decoder___init__ ["self", "octets"] (defScope s_Decoder___init__) := ⟨rfl, rfl, rfl, by decide +kernel, rfl, by decide +kernel, by decide +kernel⟩
theorem ok_Decoder___init__ (D : InitX K mg AD.c_Decoder "Decoder" "Decoder.__init__" s_Decoder___init__ ["self", "octets"] pats_Decoder___init__) (T : Txt K mg AD) (c_Decoder__shift : MetX P w K mg base 1 AD.c_Decoder "_shift" (sp_Decoder__shift K AD) pats_Decoder__shift) : MakX P w K mg base 2 "Decoder" AD.c_Decoder (sp_Decoder___init__ K AD) pats_Decoder___init__ := by
  refine D.ok sc_Decoder___init__ (fun vs H Q E h => ?_) (fun f cdv A_ outer s H vs Q E hr h => ?_)
  · obtain ⟨G, p_self, dx_self, a_octets, octets', rfl, _⟩ := h
    rfl
  · obtain ⟨G, p_self, dx_self, a_octets, octets', rfl, sG, gM, h_self, q_octets, hw⟩ := h
    refine ⟨_, (pss_cons (ps_fld (pv 0) (pe_op op_rep (pe_lst (pa_cons (C8.pe_gc rfl T.g_EVEN) pa_nil)) (C8.pe_gc rfl T.g_CONTEXTS_coder)) rfl)
      (pss_cons (ps_fld (pv 0) (pe_callTy (call_listLK (K := K)) (by rfl) T.b_list (by decide +kernel) (pa_cons (pv 1) pa_nil)) rfl)
      (pss_cons (ps_fld (pv 0) pe_int rfl)
      (pss_cons (ps_fld (pv 0) (pe_op op_sub (C8.pe_gc rfl T.g_WORD) pe_int) rfl)
      (pss_cons (ps_fld (pv 0) pe_int rfl)
      (pss_cons (ps_for (passes_of rfl) rfl (pi_range1 rfl T.b_range (pa_cons pe_int pa_nil)) (pg_name (i := 2) sc_Decoder___init__.nd rfl (Or.inl rfl)) (pss_one (ps_expr (vx_methX0 c_Decoder__shift pat_Decoder__shift_0 (.head _) hr (by decide) (takes_of rfl rfl rfl rfl) (pv 0)))))
      (pss_one (ps_fld (pv 0) (pe_callB (call_min2 rfl) (by rfl) T.b_min (by decide +kernel) (pa_cons (fldK (K := K) (pv 0)) (pa_cons (pe_op op_sub (C8.pe_gc rfl T.g_WORD) pe_int) pa_nil))) rfl)))))))), ?_⟩
    obtain ⟨KK, EE, hK0, hE, hw⟩ := cW_gen hw
    have S0 := Sep.startM (M := [p_self]) sG (all_cons (some_ne h_self) all_nil) gM
    unfold F_Decoder___init__ at hw
    refine ⟨(by show 1 ≤ sizeLine; decide), fun p2041 n2042 => ?_⟩
    generalize g2043 : upd H p2041 _ = H2044
    obtain ⟨e2045, h2046⟩ := gen_new n2042 g2043
    have h2047 : H2044 p2041 = some (.lst (([2048] : (List Int)).map V.int)) := h2046
    have fr2048 := S0.free n2042
    have S2049 := S0.new n2042 e2045 h2047 fr2048
    obtain ⟨g2050, hw⟩ := cW_grd hw
    refine ⟨_, _, _, rfl, rfl, h2047, g2050.1, g2050.2.1, (rep_lenM g2050.2.2), fun p2051 n2052 => ?_⟩
    generalize g2053 : upd H2044 p2051 _ = H2054
    obtain ⟨e2055, h2056⟩ := gen_new n2052 g2053
    have h2057 : H2054 p2051 = some (.lst ((repL ([2048]) (256) : (List Int)).map V.int)) := rep_map h2056
    have fr2058 := S2049.free n2052
    have S2059 := S2049.new n2052 e2055 h2057 fr2058
    have h2060 := (e2055 _ _ (e2045 _ _ h_self))
    refine ⟨_, rfl, _, _, _, _, rfl, h2060, T.cl_Decoder, T.n_Decoder__probabilities, (by show 0 < 1000; decide), ?_⟩
    generalize g2061 : upd H2054 p_self _ = H2062
    obtain ⟨x2063, h2064⟩ := gen_mut g2061
    have h2065 : H2062 p_self = some (.ins AD.c_Decoder dx_self [("_probabilities", V.ref p2051)]) := h2064
    have S2066 := S2059.mut1 x2063 (.tail _ (.tail _ (.head _))) h2065
    refine ⟨_, rfl, _, _, rfl, (SqL.of (S2066.bM _ _ q_octets)), fun p2067 n2068 => ?_⟩
    generalize g2069 : upd H2062 p2067 _ = H2070
    obtain ⟨e2071, h2072⟩ := gen_new n2068 g2069
    have h2073 : H2070 p2067 = some (.lst ((octets' : (List Int)).map V.int)) := h2072
    have fr2074 := S2066.free n2068
    have S2075 := S2066.new n2068 e2071 h2073 fr2074
    have h2076 := (e2071 _ _ h2065)
    refine ⟨_, rfl, _, _, _, _, rfl, h2076, T.cl_Decoder, T.n_Decoder__octets, (by show 1 < 1000; decide), ?_⟩
    generalize g2077 : upd H2070 p_self _ = H2078
    obtain ⟨x2079, h2080⟩ := gen_mut g2077
    have h2081 : H2078 p_self = some (.ins AD.c_Decoder dx_self [("_probabilities", V.ref p2051), ("_octets", V.ref p2067)]) := h2080
    have S2082 := S2075.mut1 x2079 (.tail _ (.tail _ (.tail _ (.head _)))) h2081
    refine ⟨_, rfl, _, _, _, _, rfl, h2081, T.cl_Decoder, T.n_Decoder__place, (by show 2 < 1000; decide), ?_⟩
    generalize g2083 : upd H2078 p_self _ = H2084
    obtain ⟨x2085, h2086⟩ := gen_mut g2083
    have h2087 : H2084 p_self = some (.ins AD.c_Decoder dx_self [("_probabilities", V.ref p2051), ("_octets", V.ref p2067), ("_place", V.int (0))]) := h2086
    have S2088 := S2082.mut1 x2085 (.tail _ (.tail _ (.tail _ (.head _)))) h2087
    have hw := cW_bnd hw
    refine ⟨_, _, rfl, rfl, _, rfl, _, _, _, _, rfl, h2087, T.cl_Decoder, T.n_Decoder__span, (by show 3 < 1000; decide), ?_⟩
    generalize g2090 : upd H2084 p_self _ = H2091
    obtain ⟨x2092, h2093⟩ := gen_mut g2090
    have h2094 : H2091 p_self = some (.ins AD.c_Decoder dx_self [("_probabilities", V.ref p2051), ("_octets", V.ref p2067), ("_place", V.int (0)), ("_span", V.int ((4294967296 - 1)))]) := h2093
    have S2095 := S2088.mut1 x2092 (.tail _ (.tail _ (.tail _ (.head _)))) h2094
    refine ⟨_, rfl, _, _, _, _, rfl, h2094, T.cl_Decoder, T.n_Decoder__value, (by show 4 < 1000; decide), ?_⟩
    generalize g2096 : upd H2091 p_self _ = H2097
    obtain ⟨x2098, h2099⟩ := gen_mut g2096
    have h2100 : H2097 p_self = some (.ins AD.c_Decoder dx_self [("_probabilities", V.ref p2051), ("_octets", V.ref p2067), ("_place", V.int (0)), ("_span", V.int ((4294967296 - 1))), ("_value", V.int (0))]) := h2099
    have S2101 := S2095.mut1 x2098 (.tail _ (.tail _ (.tail _ (.head _)))) h2100
    obtain ⟨K2102, hK2103, hw⟩ := cW_push hw
    refine ⟨_, rfl, (by decide), (by decide), for_range (lo := 0) (n := Int.toNat (4)) (fun i σ H' => ∃ (self_2104 : St_Decoder) (u2105 : Option V) (G' : Hp), σ = [some (V.ref p_self), some (V.ref a_octets), u2105] ∧ Same G G' ∧ Sep [p_self] H G G' H' [p_self, p2051, p2067] ∧ H' p_self = some (.ins AD.c_Decoder dx_self [("_probabilities", V.ref p2051), ("_octets", V.ref p2067), ("_place", V.int (self_2104.place)), ("_span", V.int (self_2104.span)), ("_value", V.int (self_2104.value))]) ∧ H' p2051 = some (.lst ((self_2104.probs : (List Int)).map V.int)) ∧ H' p2067 = some (.lst ((self_2104.octs : (List Int)).map V.int)) ∧ cW (forS (List.drop i (rng (0) (Int.toNat (4)))) self_2104 (fun s x => F_Decoder___init___b1  s x)) K2102 EE) ?_ ?_ ?_⟩
    · have h2106 := (x2098 _ _ (x2092 _ _ (x2085 _ _ (x2079 _ _ (e2071 _ _ (x2063 _ _ h2057 (ne_of_none (e2045 _ _ h_self) n2052).symm)) (ne_of_none (e2045 _ _ h_self) n2052).symm) (ne_of_none (e2045 _ _ h_self) n2052).symm) (ne_of_none (e2045 _ _ h_self) n2052).symm) (ne_of_none (e2045 _ _ h_self) n2052).symm)
      have h2107 := (x2098 _ _ (x2092 _ _ (x2085 _ _ (x2079 _ _ h2073 (ne_of_none h2065 n2068).symm) (ne_of_none h2065 n2068).symm) (ne_of_none h2065 n2068).symm) (ne_of_none h2065 n2068).symm)
      exact ⟨((⟨repL ([2048]) (256), octets', 0, (4294967296 - 1), 0⟩ : St_Decoder)), _, _, rfl, (Same.refl _), (S2101.sub (all_cons (.tail _ (.tail _ (.tail _ (.head _)))) (all_cons (.tail _ (.head _)) (all_cons (.head _) all_nil)))), h2100, h2106, h2107, hw⟩
    · intro i σ H2108 hi hw
      obtain ⟨self_2104, u2105, G2113, rfl, eG2114, S2109, h2110, h2111, h2112, hw⟩ := hw
      have hw := cW_forS (rng_get hi) hw
      generalize (0 + (i : Int)) = x2115 at hw ⊢
      have hw : cW (F_Decoder___init___b1  (self_2104) (x2115)) _ EE := hw
      unfold F_Decoder___init___b1 at hw
      obtain ⟨K2117, hK2118, hw⟩ := cW_name hw
      refine ⟨_, rfl, _, _, _, rfl, h2110, rfl, rfl, rfl, G2113, _, _, _, _, self_2104, rfl, S2109.sG, (S2109.gno (all_cons (.head _) (all_cons (.tail _ (.head _)) (all_cons (.tail _ (.tail _ (.head _))) all_nil)))), h2110, h2111, h2112, (ne_of_none (x2063 _ _ h2057 (ne_of_none (e2045 _ _ h_self) n2052).symm) n2068), cW_callN hw (fun v2120 hw H2121 x2122 h2124 h2125 h2126  => ?_) trivial⟩
      have S2123 := S2109.mut x2122 (all_cons (.head _) (all_cons (.tail _ (.head _)) (all_cons (.tail _ (.tail _ (.head _))) all_nil))) (all_cons (some_ne h2124) (all_cons (some_ne h2125) (all_cons (some_ne h2126) all_nil)))
      have hw := cW_ok hw
      have hw := hK2118 _ hw
      exact ⟨(v2120), _, _, rfl, eG2114, S2123, h2124, h2125, h2126, hw⟩
    · intro σ H2131 hw
      obtain ⟨self_2104, u2105, G2136, rfl, eG2137, S2132, h2133, h2134, h2135, hw⟩ := hw
      have hw := hK2103 _ (cW_forS0 (rng_len _ _).symm hw)
      have hw : cW (F_Decoder___init___r1  (self_2104)) _ EE := hw
      unfold F_Decoder___init___r1 at hw
      have hw := cW_bnd hw
      refine ⟨_, rfl, _, _, _, _, _, rfl, h2133, T.cl_Decoder, T.n_Decoder__value, rfl, _, _, rfl, rfl, _, _, rfl, _, rfl, _, _, _, _, rfl, h2133, T.cl_Decoder, T.n_Decoder__value, (by show 5 < 1000; decide), ?_⟩
      generalize g2140 : upd H2131 p_self _ = H2141
      obtain ⟨x2142, h2143⟩ := gen_mut g2140
      have h2144 : H2141 p_self = some (.ins AD.c_Decoder dx_self [("_probabilities", V.ref p2051), ("_octets", V.ref p2067), ("_place", V.int (self_2104.place)), ("_span", V.int (self_2104.span)), ("_value", V.int ((if (4294967296 - 2) < self_2104.value then (4294967296 - 2) else self_2104.value)))]) := h2143
      have S2145 := S2132.mut1 x2142 (.head _) h2144
      have h2146 := (x2142 _ _ h2134 (ne_of_none (e2045 _ _ h_self) n2052).symm)
      have h2147 := (x2142 _ _ h2135 (ne_of_none h2065 n2068).symm)
      have hw := cW_ok hw
      exact hK0 _ hw _ _ _ (sameX_of S2145.base) fr2058 fr2074 (ne_of_none (x2063 _ _ h2057 (ne_of_none (e2045 _ _ h_self) n2052).symm) n2068) h2144 h2146 h2147

abbrev N__law_get : List Str := ["reader", "symbol"]
theorem sc__law_get : FnScope N__law_get ["reader", "symbol"] (defScope s__law_get) := ⟨rfl, rfl, rfl, by decide +kernel, rfl, by decide +kernel, by decide +kernel⟩
theorem ok__law_get (D : DefX K mg "_law_get" s__law_get ["reader", "symbol"] pats__law_get) (T : Txt K mg AD) (c_SymbolReader_flag : MetX P w K mg base 4 AD.c_SymbolReader "flag" (sp_SymbolReader_flag K AD) pats_SymbolReader_flag) (c_SymbolReader_choice : MetX P w K mg base 4 AD.c_SymbolReader "choice" (sp_SymbolReader_choice K AD) pats_SymbolReader_choice) (c_SymbolReader_unary : MetX P w K mg base 4 AD.c_SymbolReader "unary" (sp_SymbolReader_unary K AD) pats_SymbolReader_unary) (c_SymbolReader_number : MetX P w K mg base 5 AD.c_SymbolReader "number" (sp_SymbolReader_number K AD) pats_SymbolReader_number) (c_SymbolReader_even : MetX P w K mg base 4 AD.c_SymbolReader "even" (sp_SymbolReader_even K AD) pats_SymbolReader_even) (c_SymbolReader_signed : MetX P w K mg base 6 AD.c_SymbolReader "signed" (sp_SymbolReader_signed K AD) pats_SymbolReader_signed) : CalX P w K mg base 7 "_law_get" (sp__law_get K AD) pats__law_get := by
  refine D.ok sc__law_get (fun vs H Q E h => ?_) (fun f cdv A_ outer s H vs Q E hr h => ?_)
  · obtain ⟨G, p_reader, p_reader_dec, l_reader_dec_probs, l_reader_dec_octs, dx_reader, dx_reader_dec, reader', v_symbol, symbol', rfl, _⟩ := h
    rfl
  · obtain ⟨G, p_reader, p_reader_dec, l_reader_dec_probs, l_reader_dec_octs, dx_reader, dx_reader_dec, reader', v_symbol, symbol', rfl, sG, gM, h_p_reader, h_p_reader_dec, h_l_reader_dec_probs, h_l_reader_dec_octs, ne_reader_0, ne_reader_1, r_symbol, hw⟩ := h
    refine ⟨_, (pss_cons (ps_if (pt_cmp (pc_eqI (pe_ix (ix_tupK (K := K)) (pv 1) pe_int (fun _ _ => rfl)) pe_int)) (pss_one (ps_ret (vx_methX c_SymbolReader_flag pat_SymbolReader_flag_0 (.head _) hr (by decide) (takes_of rfl rfl rfl rfl) (pv 0) (pa_cons (pe_ix (ix_tupK (K := K)) (pv 1) pe_int (fun _ _ => rfl)) pa_nil) pk_nil))) pss_nil)
      (pss_cons (ps_if (pt_cmp (pc_eqI (pe_ix (ix_tupK (K := K)) (pv 1) pe_int (fun _ _ => rfl)) pe_int)) (pss_one (ps_ret (vx_methX c_SymbolReader_choice pat_SymbolReader_choice_0 (.head _) hr (by decide) (takes_of rfl rfl rfl rfl) (pv 0) (pa_cons (pe_ix (ix_tupK (K := K)) (pv 1) pe_int (fun _ _ => rfl)) pa_nil) (pk_cons (pe_ix (ix_tupK (K := K)) (pv 1) pe_int (fun _ _ => rfl)) pk_nil)))) pss_nil)
      (pss_cons (ps_if (pt_cmp (pc_eqI (pe_ix (ix_tupK (K := K)) (pv 1) pe_int (fun _ _ => rfl)) pe_int)) (pss_one (ps_ret (vx_methX c_SymbolReader_unary pat_SymbolReader_unary_0 (.head _) hr (by decide) (takes_of rfl rfl rfl rfl) (pv 0) (pa_cons (pe_ix (ix_tupK (K := K)) (pv 1) pe_int (fun _ _ => rfl)) pa_nil) (pk_cons (pe_ix (ix_tupK (K := K)) (pv 1) pe_int (fun _ _ => rfl)) pk_nil)))) pss_nil)
      (pss_cons (ps_if (pt_cmp (pc_eqI (pe_ix (ix_tupK (K := K)) (pv 1) pe_int (fun _ _ => rfl)) pe_int)) (pss_one (ps_ret (vx_methX c_SymbolReader_number pat_SymbolReader_number_0 (.head _) hr (by decide) (takes_of rfl rfl rfl rfl) (pv 0) (pa_cons (pe_ix (ix_tupK (K := K)) (pv 1) pe_int (fun _ _ => rfl)) pa_nil) pk_nil))) pss_nil)
      (pss_cons (ps_if (pt_cmp (pc_eqI (pe_ix (ix_tupK (K := K)) (pv 1) pe_int (fun _ _ => rfl)) pe_int)) (pss_one (ps_ret (vx_methX0 c_SymbolReader_even pat_SymbolReader_even_0 (.head _) hr (by decide) (takes_of rfl rfl rfl rfl) (pv 0)))) pss_nil)
      (pss_one (ps_ret (vx_methX c_SymbolReader_signed pat_SymbolReader_signed_0 (.head _) hr (by decide) (takes_of rfl rfl rfl rfl) (pv 0) (pa_cons (pe_ix (ix_tupK (K := K)) (pv 1) pe_int (fun _ _ => rfl)) pa_nil) pk_nil)))))))), ?_⟩
    obtain ⟨KK, EE, hK0, hE, hw⟩ := cW_gen hw
    have S0 := Sep.startM (M := [p_reader, p_reader_dec, l_reader_dec_probs, l_reader_dec_octs]) sG (all_cons (some_ne h_p_reader) (all_cons (some_ne h_p_reader_dec) (all_cons (some_ne h_l_reader_dec_probs) (all_cons (some_ne h_l_reader_dec_octs) all_nil)))) gM
    unfold F__law_get at hw
    obtain ⟨a2148, v2150, v2151, v2152, v2153, rfl, h2149, r2154, r2155, r2156, r2157⟩ := rp_tup4 r_symbol
    obtain rfl := rp_int r2154
    obtain rfl := rp_int r2155
    obtain rfl := rp_int r2156
    obtain rfl := rp_int r2157
    refine ⟨_, rfl, _, _, _, _, rfl, rfl, (SqT.of (S0.bM _ _ h2149)), rfl, _, _, rfl, rfl, _, rfl, ?_⟩
    refine iteD (fun c2158 => ?_) (fun c2158 => ?_)
    · have hw := cW_pos c2158 hw
      refine ⟨_, rfl, _, _, _, rfl, h_p_reader, rfl, _, rfl, _, _, _, _, rfl, rfl, (SqT.of (S0.bM _ _ h2149)), rfl, rfl, rfl, G, _, _, _, _, _, _, reader', _, rfl, S0.sG, (S0.gno (all_cons (.head _) (all_cons (.tail _ (.head _)) (all_cons (.tail _ (.tail _ (.head _))) (all_cons (.tail _ (.tail _ (.tail _ (.head _)))) all_nil))))), h_p_reader, h_p_reader_dec, h_l_reader_dec_probs, h_l_reader_dec_octs, ne_reader_0, ne_reader_1, cW_call hw (fun v2159 hw H2160 x2161 h2163 h2164 h2165 h2166  => ?_) (fun e he H2 e2 => hE e he H2 (Same.trans (Same.refl _) e2))⟩
      have S2162 := S0.mut x2161 (all_cons (.head _) (all_cons (.tail _ (.head _)) (all_cons (.tail _ (.tail _ (.head _))) (all_cons (.tail _ (.tail _ (.tail _ (.head _)))) all_nil)))) (all_cons (some_ne h2163) (all_cons (some_ne h2164) (all_cons (some_ne h2165) (all_cons (some_ne h2166) all_nil))))
      have hw := cW_ok hw
      exact hK0 _ hw _ S2162.base h2163 h2164 h2165 h2166
    · have hw := cW_neg c2158 hw
      refine ⟨_, rfl, _, _, _, _, rfl, rfl, (SqT.of (S0.bM _ _ h2149)), rfl, _, _, rfl, rfl, _, rfl, ?_⟩
      refine iteD (fun c2171 => ?_) (fun c2171 => ?_)
      · have hw := cW_pos c2171 hw
        refine ⟨_, rfl, _, _, _, rfl, h_p_reader, rfl, _, rfl, _, _, _, _, rfl, rfl, (SqT.of (S0.bM _ _ h2149)), rfl, _, rfl, _, _, _, _, rfl, rfl, (SqT.of (S0.bM _ _ h2149)), rfl, rfl, rfl, G, _, _, _, _, _, _, reader', _, _, rfl, S0.sG, (S0.gno (all_cons (.head _) (all_cons (.tail _ (.head _)) (all_cons (.tail _ (.tail _ (.head _))) (all_cons (.tail _ (.tail _ (.tail _ (.head _)))) all_nil))))), h_p_reader, h_p_reader_dec, h_l_reader_dec_probs, h_l_reader_dec_octs, ne_reader_0, ne_reader_1, cW_call hw (fun v2172 hw H2173 x2174 h2176 h2177 h2178 h2179  => ?_) (fun e he H2 e2 => hE e he H2 (Same.trans (Same.refl _) e2))⟩
        have S2175 := S0.mut x2174 (all_cons (.head _) (all_cons (.tail _ (.head _)) (all_cons (.tail _ (.tail _ (.head _))) (all_cons (.tail _ (.tail _ (.tail _ (.head _)))) all_nil)))) (all_cons (some_ne h2176) (all_cons (some_ne h2177) (all_cons (some_ne h2178) (all_cons (some_ne h2179) all_nil))))
        have hw := cW_ok hw
        exact hK0 _ hw _ S2175.base h2176 h2177 h2178 h2179
      · have hw := cW_neg c2171 hw
        refine ⟨_, rfl, _, _, _, _, rfl, rfl, (SqT.of (S0.bM _ _ h2149)), rfl, _, _, rfl, rfl, _, rfl, ?_⟩
        refine iteD (fun c2184 => ?_) (fun c2184 => ?_)
        · have hw := cW_pos c2184 hw
          refine ⟨_, rfl, _, _, _, rfl, h_p_reader, rfl, _, rfl, _, _, _, _, rfl, rfl, (SqT.of (S0.bM _ _ h2149)), rfl, _, rfl, _, _, _, _, rfl, rfl, (SqT.of (S0.bM _ _ h2149)), rfl, rfl, rfl, G, _, _, _, _, _, _, reader', _, _, rfl, S0.sG, (S0.gno (all_cons (.head _) (all_cons (.tail _ (.head _)) (all_cons (.tail _ (.tail _ (.head _))) (all_cons (.tail _ (.tail _ (.tail _ (.head _)))) all_nil))))), h_p_reader, h_p_reader_dec, h_l_reader_dec_probs, h_l_reader_dec_octs, ne_reader_0, ne_reader_1, cW_call hw (fun v2185 hw H2186 x2187 h2189 h2190 h2191 h2192  => ?_) (fun e he H2 e2 => hE e he H2 (Same.trans (Same.refl _) e2))⟩
          have S2188 := S0.mut x2187 (all_cons (.head _) (all_cons (.tail _ (.head _)) (all_cons (.tail _ (.tail _ (.head _))) (all_cons (.tail _ (.tail _ (.tail _ (.head _)))) all_nil)))) (all_cons (some_ne h2189) (all_cons (some_ne h2190) (all_cons (some_ne h2191) (all_cons (some_ne h2192) all_nil))))
          have hw := cW_ok hw
          exact hK0 _ hw _ S2188.base h2189 h2190 h2191 h2192
        · have hw := cW_neg c2184 hw
          refine ⟨_, rfl, _, _, _, _, rfl, rfl, (SqT.of (S0.bM _ _ h2149)), rfl, _, _, rfl, rfl, _, rfl, ?_⟩
          refine iteD (fun c2197 => ?_) (fun c2197 => ?_)
          · have hw := cW_pos c2197 hw
            refine ⟨_, rfl, _, _, _, rfl, h_p_reader, rfl, _, rfl, _, _, _, _, rfl, rfl, (SqT.of (S0.bM _ _ h2149)), rfl, rfl, rfl, G, _, _, _, _, _, _, reader', _, rfl, S0.sG, (S0.gno (all_cons (.head _) (all_cons (.tail _ (.head _)) (all_cons (.tail _ (.tail _ (.head _))) (all_cons (.tail _ (.tail _ (.tail _ (.head _)))) all_nil))))), h_p_reader, h_p_reader_dec, h_l_reader_dec_probs, h_l_reader_dec_octs, ne_reader_0, ne_reader_1, cW_call hw (fun v2198 hw H2199 x2200 h2202 h2203 h2204 h2205  => ?_) (fun e he H2 e2 => hE e he H2 (Same.trans (Same.refl _) e2))⟩
            have S2201 := S0.mut x2200 (all_cons (.head _) (all_cons (.tail _ (.head _)) (all_cons (.tail _ (.tail _ (.head _))) (all_cons (.tail _ (.tail _ (.tail _ (.head _)))) all_nil)))) (all_cons (some_ne h2202) (all_cons (some_ne h2203) (all_cons (some_ne h2204) (all_cons (some_ne h2205) all_nil))))
            have hw := cW_ok hw
            exact hK0 _ hw _ S2201.base h2202 h2203 h2204 h2205
          · have hw := cW_neg c2197 hw
            refine ⟨_, rfl, _, _, _, _, rfl, rfl, (SqT.of (S0.bM _ _ h2149)), rfl, _, _, rfl, rfl, _, rfl, ?_⟩
            refine iteD (fun c2210 => ?_) (fun c2210 => ?_)
            · have hw := cW_pos c2210 hw
              refine ⟨_, rfl, _, _, _, rfl, h_p_reader, rfl, rfl, rfl, G, _, _, _, _, _, _, reader', rfl, S0.sG, (S0.gno (all_cons (.head _) (all_cons (.tail _ (.head _)) (all_cons (.tail _ (.tail _ (.head _))) (all_cons (.tail _ (.tail _ (.tail _ (.head _)))) all_nil))))), h_p_reader, h_p_reader_dec, h_l_reader_dec_probs, h_l_reader_dec_octs, ne_reader_0, ne_reader_1, cW_call hw (fun v2211 hw H2212 x2213 h2215 h2216 h2217 h2218  => ?_) (fun e he H2 e2 => hE e he H2 (Same.trans (Same.refl _) e2))⟩
              have S2214 := S0.mut x2213 (all_cons (.head _) (all_cons (.tail _ (.head _)) (all_cons (.tail _ (.tail _ (.head _))) (all_cons (.tail _ (.tail _ (.tail _ (.head _)))) all_nil)))) (all_cons (some_ne h2215) (all_cons (some_ne h2216) (all_cons (some_ne h2217) (all_cons (some_ne h2218) all_nil))))
              have hw := cW_ok hw
              exact hK0 _ hw _ S2214.base h2215 h2216 h2217 h2218
            · have hw := cW_neg c2210 hw
              refine ⟨_, rfl, _, _, _, rfl, h_p_reader, rfl, _, rfl, _, _, _, _, rfl, rfl, (SqT.of (S0.bM _ _ h2149)), rfl, rfl, rfl, G, _, _, _, _, _, _, reader', _, rfl, S0.sG, (S0.gno (all_cons (.head _) (all_cons (.tail _ (.head _)) (all_cons (.tail _ (.tail _ (.head _))) (all_cons (.tail _ (.tail _ (.tail _ (.head _)))) all_nil))))), h_p_reader, h_p_reader_dec, h_l_reader_dec_probs, h_l_reader_dec_octs, ne_reader_0, ne_reader_1, cW_call hw (fun v2223 hw H2224 x2225 h2227 h2228 h2229 h2230  => ?_) (fun e he H2 e2 => hE e he H2 (Same.trans (Same.refl _) e2))⟩
              have S2226 := S0.mut x2225 (all_cons (.head _) (all_cons (.tail _ (.head _)) (all_cons (.tail _ (.tail _ (.head _))) (all_cons (.tail _ (.tail _ (.tail _ (.head _)))) all_nil)))) (all_cons (some_ne h2227) (all_cons (some_ne h2228) (all_cons (some_ne h2229) (all_cons (some_ne h2230) all_nil))))
              have hw := cW_ok hw
              exact hK0 _ hw _ S2226.base h2227 h2228 h2229 h2230

abbrev N_Encoder_octets : List Str := ["self", "octets", "shift"]
theorem sc_Encoder_octets : FnScope N_Encoder_octets ["self"] (defScope s_Encoder_octets) := ⟨rfl, rfl, rfl, by decide +kernel, rfl, by decide +kernel, by decide +kernel⟩
theorem ok_Encoder_octets (D : MethX K AD.c_Encoder "Encoder.octets" "octets" s_Encoder_octets ["self"] pats_Encoder_octets) (T : Txt K mg AD)  : MetX P w K mg base 1 AD.c_Encoder "octets" (sp_Encoder_octets K AD) pats_Encoder_octets := by
  refine D.ok T.cl_Encoder sc_Encoder_octets (fun vs H Q E h => ?_) (fun f cdv A_ outer s H vs Q E hr h => ?_)
  · obtain ⟨G, p_self, l_self_probs, l_self_front, dx_self, self', rfl, _⟩ := h
    rfl
  · obtain ⟨G, p_self, l_self_probs, l_self_front, dx_self, self', rfl, sG, h_p_self, h_l_self_probs, h_l_self_front, hw⟩ := h
    refine ⟨_, (pss_cons (ps_set (i := 1) sc_Encoder_octets.nd rfl (Or.inl rfl) (pe_op op_cat (fldK (K := K) (pv 0)) (pe_lc (own := [("shift", 2)]) (g := gName 2) (by rfl) sc_Encoder_octets.nd (pi_tupK (K := K) (pe_tup (pa_cons pe_int (pa_cons pe_int (pa_cons pe_int (pa_cons pe_int pa_nil)))))) (blkOk_by (own := [("shift", 2)]) (N := N_Encoder_octets) (sc := defScope s_Encoder_octets) (by decide +kernel)) (fun _ _ _ _ _ => (pg_name (i := 2) sc_Encoder_octets.nd rfl (Or.inl rfl))) (fun _ _ _ _ _ => pts_nil) (fun _ _ _ _ _ => (pe_op op_and (pe_op op_shr (fldK (K := K) (pv 0)) (pv 2)) pe_int)))))
      (pss_cons (ps_while (passes_of rfl) (PW.pt (pw_and (pt_truth (pv 1) (fun _ => rfl)) (pw_and1 (pt_cmp (pc_eqI (pe_ix (ix_listK (K := K)) (pv 1) (pe_un un_neg pe_int) (fun _ _ => rfl)) pe_int))))) (pss_one (ps_expr (pe_bm0 PySem.F.plainAttrs_list PySem.F.slot_list_pop PySem.F.type_list_pop mt_pop (pv 1)))))
      (pss_one (ps_ret (pv 1))))), ?_⟩
    obtain ⟨KK, EE, hK0, hE, hw⟩ := cW_gen hw
    have S0 := Sep.startG sG
    unfold F_Encoder_octets at hw
    refine ⟨_, rfl, _, _, _, _, _, rfl, (S0.bM _ _ h_p_self), T.cl_Encoder, T.n_Encoder__front, rfl, (by show 4 ≤ sizeLine; decide), fun p2235 n2236 => ?_⟩
    generalize g2237 : upd H p2235 _ = H2238
    obtain ⟨e2239, h2240⟩ := gen_new n2236 g2237
    have h2241 : H2238 p2235 = some (.tup [V.int (24), V.int (16), V.int (8), V.int (0)]) := h2240
    have fr2242 := S0.free n2236
    obtain ⟨G2244, eG2245, hg2246, S2243⟩ := S0.grow n2236 e2239 h2241 fr2242
    obtain ⟨K2249, hK2250, hw⟩ := cW_push hw
    refine ⟨_, rfl, ⟨_, (SqT.of (S2243.sG _ _ hg2246))⟩, fun D2251 n2252 => lc_tup (K := K) (a := p2235) (xs := (([24, 16, 8, 0] : List Int).map V.int)) (fun i H' => ∃ (G' : Hp) (acc2254 : (List Int)), Same G2244 G' ∧ Sep [] H G G' H' [D2251] ∧ H' D2251 = some (.lst ((acc2254 : (List Int)).map V.int)) ∧ Same H2238 H' ∧ cW (mapA (List.drop i ([24, 16, 8, 0])) acc2254 (fun x => noEr (F_Encoder_octets_c1 (self') x))) K2249 EE) ?_ ?_ ?_ ?_⟩
    · generalize g2256 : upd H2238 D2251 _ = H2257
      obtain ⟨e2258, h2259⟩ := gen_new n2252 g2256
      have fr2260 := S2243.free n2252
      have S2261 := S2243.new n2252 e2258 h2259 fr2260
      exact ⟨_, [], Same.refl _, S2261, h2259, e2258, hw⟩
    · intro i H2262 _ hw
      obtain ⟨G2265, acc2267, eG2266, S2263, h2264, eo2273, hw⟩ := hw
      exact (SqT.of (S2263.sG _ _ (eG2266 _ _ hg2246)))
    · intro i x H2274 hj hw
      obtain ⟨G2277, acc2279, eG2278, S2275, h2276, eo2285, hw⟩ := hw
      obtain ⟨x2286, hx, rfl⟩ := map_get hj
      obtain ⟨z2287, hw⟩ := cW_mapA hx hw
      have hw := cW_noEr hw
      have hw : cW (F_Encoder_octets_c1 (self') (x2286)) _ (fun _ => False) := hw
      unfold F_Encoder_octets_c1 at hw
      refine ⟨rfl, ?_⟩
      refine tyes_go ?_
      obtain ⟨g2289, hw⟩ := cW_grd hw
      refine ⟨_, rfl, _, _, _, _, _, rfl, (S2275.bM _ _ h_p_self), T.cl_Encoder, T.n_Encoder__low, rfl, _, rfl, _, _, rfl, rfl, g2289, _, _, rfl, rfl, _, h2276, (app_lenM z2287), ?_⟩
      generalize g2290 : upd H2274 D2251 _ = H2291
      obtain ⟨x2292, h2293⟩ := gen_mut g2290
      have S2294 := S2275.mut1 x2292 (.head _) h2293
      have hw := cW_ok hw
      exact ⟨_, (acc2279 ++ [(PySem.Builtin.bitAnd ((self'.low / 2 ^ Int.toNat (x2286))) (255))]), eG2278, S2294, (snoc_map h2293), (same_mut eo2285 x2292 n2252), hw⟩
    intro H2295 hw
    obtain ⟨G2298, acc2300, eG2299, S2296, h2297, eo2306, hw⟩ := hw
    have hw := hK2250 _ (cW_mapA0 (by rw [List.length_map]) hw)
    have fr2307 := S2243.free n2252
    obtain ⟨g2308, hw⟩ := cW_grd hw
    refine ⟨_, _, _, _, rfl, rfl, (S2296.bM _ _ h_l_self_front), h2297, (cat_lenM g2308), fun p2309 n2310 => ?_⟩
    generalize g2311 : upd H2295 p2309 _ = H2312
    obtain ⟨e2313, h2314⟩ := gen_new n2310 g2311
    have h2315 : H2312 p2309 = some (.lst (((self'.front) ++ (acc2300) : (List Int)).map V.int)) := cat_map h2314
    have fr2316 := S2296.free n2310
    have S2317 := S2296.new n2310 e2313 h2315 fr2316
    obtain ⟨K2318, hK2319, hw⟩ := cW_push hw
    refine ⟨fun m σ H' => ∃ (octets_2320 : (List Int)) (G' : Hp), σ = [some (V.ref p_self), some (V.ref p2309), none] ∧ Same G2298 G' ∧ Sep [] H G G' H' [p2309] ∧ H' p2309 = some (.lst ((octets_2320 : (List Int)).map V.int)) ∧ cW (whileR m octets_2320 (fun s => F_Encoder_octets_b2  s)) K2318 EE, ?_, ?_⟩
    · exact ⟨_, ⟨((self'.front) ++ (acc2300)), _, rfl, (Same.refl _), (S2317.sub (all_cons (.head _) all_nil)), h2315, hw⟩⟩
    · intro m σ H2321 hw
      obtain ⟨octets_2320, G2324, rfl, eG2325, S2322, h2323, hw⟩ := hw
      obtain ⟨m2326, rfl, hw2⟩ := cW_whileR hw
      have hw := hw2
      have hw : cW (F_Encoder_octets_b2  (octets_2320)) _ EE := hw
      unfold F_Encoder_octets_b2 at hw
      obtain ⟨K2328, hK2329, hw⟩ := cW_name hw
      refine ⟨_, rfl, _, (.inl ⟨_, (SqL.of h2323), tru_map⟩), ?_⟩
      refine iteN (fun c2330 => ?_) (fun c2330 => ?_)
      · have hw := cW_neg c2330 hw
        obtain ⟨g2331, hw⟩ := cW_grd hw
        refine ⟨_, rfl, _, rfl, _, _, _, _, rfl, rfl, (SqL.of h2323), (atI_map g2331), _, _, rfl, rfl, _, rfl, ?_⟩
        refine iteD (fun c2332 => ?_) (fun c2332 => ?_)
        · have hw := cW_pos c2332 hw
          refine ⟨(fun σ H' => ∃ m, (∃ (octets_2320 : (List Int)) (G' : Hp), σ = [some (V.ref p_self), some (V.ref p2309), none] ∧ Same G2298 G' ∧ Sep [] H G G' H' [p2309] ∧ H' p2309 = some (.lst ((octets_2320 : (List Int)).map V.int)) ∧ cW (whileR m octets_2320 (fun s => F_Encoder_octets_b2  s)) K2318 EE) ∧ m < m2326 + 1), (fun _ _ ⟨m', a, b⟩ => ⟨m', b, a⟩), ?_⟩
          obtain ⟨g2333, hw⟩ := cW_grd hw
          refine ⟨_, rfl, (.inl ⟨rfl, _, SqL.of h2323⟩), _, _, _, rfl, rfl, h2323, (pop_map g2333), ?_⟩
          generalize g2334 : upd H2321 p2309 _ = H2335
          obtain ⟨x2336, h2337⟩ := gen_mut g2334
          have h2338 : H2335 p2309 = some (.lst (((octets_2320).dropLast : (List Int)).map V.int)) := drop_map h2337
          have S2339 := S2322.mut1 x2336 (.head _) h2338
          have hw := cW_bnd hw
          have hw := cW_ok hw
          have hw := hK2329 _ hw
          exact ⟨m2326, ⟨((octets_2320).dropLast), _, rfl, eG2325, S2339, h2338, hw⟩, Nat.lt_succ_self _⟩
        · have hw := cW_neg c2332 hw
          have hw := cW_ok hw
          have hw := hK2329 _ hw
          have hw := cW_aftgo (hK2319 (.go _) hw)
          have hw : cW (F_Encoder_octets_r2  (octets_2320)) _ EE := hw
          unfold F_Encoder_octets_r2 at hw
          refine ⟨_, rfl, ?_⟩
          have hw := cW_ok hw
          exact hK0 _ hw _ _ fr2316 S2322.b0 h2323
      · have hw := cW_pos c2330 hw
        refine iteF ?_
        have hw := cW_ok hw
        have hw := hK2329 _ hw
        have hw := cW_aftgo (hK2319 (.go _) hw)
        have hw : cW (F_Encoder_octets_r2  (octets_2320)) _ EE := hw
        unfold F_Encoder_octets_r2 at hw
        refine ⟨_, rfl, ?_⟩
        have hw := cW_ok hw
        exact hK0 _ hw _ _ fr2316 S2322.b0 h2323

abbrev N_law : List Str := ["script", "symbols", "encoder", "writer", "symbol", "reader", "value", "cell"]
theorem sc_law : FnScope N_law ["script"] (defScope s_law) := ⟨rfl, rfl, rfl, by decide +kernel, rfl, by decide +kernel, by decide +kernel⟩
theorem ok_law {f : Addr} {fd : FuncData} (F : FunD K "law" "law" (defArgs s_law) (defBody s_law) (defScope s_law) [] [] f fd) (T : Txt K mg AD) (c__law_symbol : CalX P w K mg base 2 "_law_symbol" (sp__law_symbol K AD) pats__law_symbol) (c_Encoder___init__ : MakX P w K mg base 1 "Encoder" AD.c_Encoder (sp_Encoder___init__ K AD) pats_Encoder___init__) (c_SymbolWriter___init__ : MakX P w K mg base 1 "SymbolWriter" AD.c_SymbolWriter (sp_SymbolWriter___init__ K AD) pats_SymbolWriter___init__) (c__law_put : CalX P w K mg base 7 "_law_put" (sp__law_put K AD) pats__law_put) (c_SymbolReader___init__ : MakX P w K mg base 1 "SymbolReader" AD.c_SymbolReader (sp_SymbolReader___init__ K AD) pats_SymbolReader___init__) (c_Decoder___init__ : MakX P w K mg base 2 "Decoder" AD.c_Decoder (sp_Decoder___init__ K AD) pats_Decoder___init__) (c_Encoder_octets : MetX P w K mg base 1 AD.c_Encoder "octets" (sp_Encoder_octets K AD) pats_Encoder_octets) (c__law_get : CalX P w K mg base 7 "_law_get" (sp__law_get K AD) pats__law_get) : FnG P w K mg base CX0 8 f fd ["script"] (sp_law K AD) := by
  refine FnG.bodyN F sc_law (fun vs H Q E h => ?_) (fun cdv A_ outer s H vs Q E hr h => ?_)
  · obtain ⟨a_script, script, rfl, _⟩ := h
    rfl
  · obtain ⟨a_script, script', rfl, q_script, hw, k⟩ := h
    refine ⟨_, (pss_cons (ps_setLc (i := 1) (y := "symbols") rfl sc_law.nd rfl rfl (sw_true rfl rfl rfl (by decide +kernel)) (own := [("cell", 7)]) (g := gName 7) (pi_listK (K := K) (pv 0)) (blkOk_by (own := [("cell", 7)]) (N := N_law) (sc := defScope s_law) (by decide +kernel)) (fun _ _ _ _ _ => (pg_name (i := 7) sc_law.nd rfl (Or.inl rfl))) (fun _ _ _ _ _ => pts_nil) (fun _ _ _ _ _ => (vx_callX c__law_symbol pat__law_symbol_0 (.head _) hr (by decide) takes0 rfl (pa_cons (pv 7) pa_nil) pk_nil)))
      (pss_cons (ps_set (i := 2) sc_law.nd rfl (Or.inl rfl) (vx_makeX0 c_Encoder___init__ pat_Encoder___init___0 (.head _) hr (by decide) takes0 rfl))
      (pss_cons (ps_set (i := 3) sc_law.nd rfl (Or.inl rfl) (vx_makeX c_SymbolWriter___init__ pat_SymbolWriter___init___0 (.head _) hr (by decide) takes0 rfl (pa_cons (pv 2) pa_nil) pk_nil))
      (pss_cons (ps_for PassesOwn.never rfl (pi_listK (K := K) (pv 1)) (pg_name (i := 4) sc_law.nd rfl (Or.inl rfl)) (pss_one (ps_expr (vx_callX c__law_put pat__law_put_0 (.head _) hr (by decide) takes0 rfl (pa_cons (pv 3) (pa_cons (pv 4) pa_nil)) pk_nil))))
      (pss_cons (ps_set (i := 5) sc_law.nd rfl (Or.inl rfl) (vx_makeX c_SymbolReader___init__ pat_SymbolReader___init___0 (.head _) hr (by decide) takes0 rfl (pa_cons (vx_makeX c_Decoder___init__ pat_Decoder___init___0 (.head _) hr (by decide) takes0 rfl (pa_cons (vx_methX0 c_Encoder_octets pat_Encoder_octets_0 (.head _) hr (by decide) takes0 (pv 2)) pa_nil) pk_nil) pa_nil) pk_nil))
      (pss_cons (ps_for PassesOwn.never rfl (pi_listK (K := K) (pv 1)) (pg_name (i := 4) sc_law.nd rfl (Or.inl rfl)) (pss_cons (ps_set (i := 6) sc_law.nd rfl (Or.inl rfl) (vx_callX c__law_get pat__law_get_0 (.head _) hr (by decide) takes0 rfl (pa_cons (pv 5) (pa_cons (pv 4) pa_nil)) pk_nil))
      (pss_cons (ps_if (PW.pt (pw_and (pt_cmp (pc_eqI (pe_ix (ix_tupK (K := K)) (pv 4) pe_int (fun _ _ => rfl)) pe_int)) (pw_and1 (PW.pt (pw_or (pt_not (pt_val (pe_callB call_isi (by rfl) T.b_isinstance (by decide +kernel) (pa_cons (pv 6) (pa_cons (pe_bltn (v := V.ty "bool") (u := Value.type "bool") (by rfl) T.b_bool (by decide +kernel) rfl) pa_nil))))) (pw_or1 (pt_cmpR op_ne (pv 6) (pe_cmp (pc_eqI (pe_ix (ix_tupK (K := K)) (pv 4) pe_int (fun _ _ => rfl)) pe_int)) (nomark _)))))))) (pss_one (ps_ret pe_bl)) pss_nil)
      (pss_one (ps_if (PW.pt (pw_and (pt_cmp (pc_gt (pe_ix (ix_tupK (K := K)) (pv 4) pe_int (fun _ _ => rfl)) pe_int)) (pw_and1 (PW.pt (pw_or (pt_not (pt_val (pe_callB call_isi (by rfl) T.b_isinstance (by decide +kernel) (pa_cons (pv 6) (pa_cons (pe_bltn (v := V.ty "int") (u := Value.type "int") (by rfl) T.b_int (by decide +kernel) rfl) pa_nil))))) (pw_or (pt_val (pe_callB call_isi (by rfl) T.b_isinstance (by decide +kernel) (pa_cons (pv 6) (pa_cons (pe_bltn (v := V.ty "bool") (u := Value.type "bool") (by rfl) T.b_bool (by decide +kernel) rfl) pa_nil)))) (pw_or1 (pt_cmp (pc_neI (pv 6) (pe_ix (ix_tupK (K := K)) (pv 4) pe_int (fun _ _ => rfl))))))))))) (pss_one (ps_ret pe_bl)) pss_nil)))))
      (pss_one (ps_ret pe_bl)))))))), ?_⟩
    obtain ⟨KK, EE, hK0, hE, hw⟩ := cW_gen hw
    have S0 := Sep.start0 H
    unfold F_law at hw
    obtain ⟨K2344, hK2345, hw⟩ := cW_push hw
    refine ⟨_, rfl, _, rfl, ⟨_, (S0.b0.seq q_script)⟩, fun D2346 n2347 => lc_list (K := K) (a := a_script) (xs := (script' : List Int).map V.int) (fun i H' => ∃ (G' : Hp) (acc2349 : (List (Int × Int × Int × Int))) (vs2350 : List V), Same H G' ∧ Sep [] H H G' H' [D2346] ∧ H' D2346 = some (.lst vs2350) ∧ RpAll G' vs2350 ((acc2349 : (List (Int × Int × Int × Int))).map (encT4 PyData.int PyData.int PyData.int PyData.int)) ∧ Same H H' ∧ cW (mapA (List.drop i (script')) acc2349 (fun x => noEr (F_law_c1  x))) K2344 EE) ?_ ?_ ?_ ?_⟩
    · generalize g2351 : upd H D2346 _ = H2352
      obtain ⟨e2353, h2354⟩ := gen_new n2347 g2351
      have fr2355 := S0.free n2347
      have S2356 := S0.new n2347 e2353 h2354 fr2355
      exact ⟨_, [], [], Same.refl _, S2356, h2354, RpAll.nil, e2353, hw⟩
    · intro i H2357 _ hw
      obtain ⟨G2360, acc2362, vs2363, eG2361, S2358, h2359, d2364, eo2368, hw⟩ := hw
      exact (S2358.b0.seq q_script)
    · intro i x H2369 hj hw
      obtain ⟨G2372, acc2374, vs2375, eG2373, S2370, h2371, d2376, eo2380, hw⟩ := hw
      obtain ⟨x2381, hx, rfl⟩ := map_get hj
      obtain ⟨z2382, hw⟩ := cW_mapA hx hw
      have hw := cW_noEr hw
      have hw : cW (F_law_c1  (x2381)) _ (fun _ => False) := hw
      unfold F_law_c1 at hw
      refine ⟨rfl, ?_⟩
      refine tyes_go ?_
      refine ⟨_, rfl, rfl, rfl, G2372, _, rfl, S2370.sG, cW_call hw (fun v2384 hw v2387 H2385 G2388 e2386 eG2389 sG2390 hn2391 r2392 => ?_) (fun e he => he.elim)⟩
      have S2393 := S2370.step e2386 eG2389 sG2390 hn2391
      obtain ⟨a2394, v2396, v2397, v2398, v2399, rfl, h2395, r2400, r2401, r2402, r2403⟩ := rp_tup4 r2392
      obtain rfl := rp_int r2400
      obtain rfl := rp_int r2401
      obtain rfl := rp_int r2402
      obtain rfl := rp_int r2403
      have h2404 := (e2386 _ _ h2371)
      refine ⟨_, h2404, (app_len (RpAll.mono eG2389 d2376) z2382), ?_⟩
      generalize g2405 : upd H2385 D2346 _ = H2406
      obtain ⟨x2407, h2408⟩ := gen_mut g2405
      have S2409 := S2393.mut1 x2407 (.head _) h2408
      have hw := cW_ok hw
      exact ⟨_, (acc2374 ++ [v2384]), _, (Same.trans eG2373 eG2389), S2409, h2408, (app_map (RpAll.mono eG2389 d2376) (RpAll.one (rp_mk4 h2395 (.int _) (.int _) (.int _) (.int _)))), (same_mut (Same.trans eo2380 e2386) x2407 n2347), hw⟩
    intro H2410 hw
    obtain ⟨G2413, acc2415, vs2416, eG2414, S2411, h2412, d2417, eo2421, hw⟩ := hw
    have hw := hK2345 _ (cW_mapA0 (by rw [List.length_map]) hw)
    have fr2422 := S0.free n2347
    refine ⟨rfl, rfl, fun x2423 dx2424 n2425 n2426 n2427 => ?_⟩
    generalize g2428 : upd (upd H2410 dx2424 _) x2423 _ = H2429
    obtain ⟨e2430, h2431⟩ := gen_obj n2425 n2426 n2427 g2428
    have fr2432 := S2411.free n2425
    have S2433 := S2411.new n2425 e2430 h2431 fr2432
    refine ⟨G2413, _, _, rfl, S2433.sG, (S2433.gno (all_cons (.head _) all_nil)), h2431, cW_call hw (fun v2434 hw H2437 l2435 l2436 x2438 n2443 n2444 ne2445 h2439 h2441 h2442 => ⟨rfl, ?_⟩) (fun e he => (hE e he).elim)⟩
    have fr2446 := S2433.free n2443
    have fr2447 := S2433.free n2444
    have S2440 : Sep _ _ _ _ H2437 [l2435, l2436, x2423, D2346] := Sep.init S2433 x2438 (.head _) h2439 [l2435, l2436] (all_cons ⟨n2443, some_ne h2441, fr2446⟩ (all_cons ⟨n2444, some_ne h2442, fr2447⟩ all_nil))
    refine ⟨_, rfl, rfl, rfl, fun x2448 dx2449 n2450 n2451 n2452 => ?_⟩
    generalize g2453 : upd (upd H2437 dx2449 _) x2448 _ = H2454
    obtain ⟨e2455, h2456⟩ := gen_obj n2450 n2451 n2452 g2453
    have fr2457 := S2440.free n2450
    have S2458 := S2440.new n2450 e2455 h2456 fr2457
    have h2459 := (e2455 _ _ h2439)
    have h2460 := (e2455 _ _ h2441)
    have h2461 := (e2455 _ _ h2442)
    refine ⟨G2413, _, _, _, _, _, _, v2434, rfl, S2458.sG, (S2458.gno (all_cons (.head _) all_nil)), h2456, ((hideL_out (ni1 (ne_of_none h2439 n2450))).trans h2459), ((hideL_out (ni1 (ne_of_none h2441 n2450))).trans h2460), ((hideL_out (ni1 (ne_of_none h2442 n2450))).trans h2461), cW_call hw (fun v2462 hw H2463 x2464 h2465 => ⟨rfl, ?_⟩) (fun e he => (hE e he).elim)⟩
    have S2466 : Sep _ _ _ _ H2463 [x2448, l2435, l2436, x2423, D2346] := Sep.init S2458 x2464 (.head _) h2465 [] all_nil
    have h2467 := ((SameXs.of x2464) _ _ (e2455 _ _ ((SameXs.of x2438) _ _ (e2430 _ _ h2412) (ni1 (ne_of_none h2412 n2425)))) (ni1 (ne_of_none ((SameXs.of x2438) _ _ (e2430 _ _ h2412) (ni1 (ne_of_none h2412 n2425))) n2450)))
    obtain ⟨K2469, hK2470, hw⟩ := cW_push hw
    refine ⟨_, rfl, _, rfl, ⟨_, (SqL.of h2467)⟩, for_list (K := K) (a := D2346) (xs := vs2416) (fun i σ H' => ∃ (writer_2471 : St_SymbolWriter) (u2472 : Option V) (G' : Hp), σ = [some (V.ref a_script), some (V.ref D2346), some (V.ref x2423), some (V.ref x2448), u2472, none, none, none] ∧ Same G2413 G' ∧ Sep [] H H G' H' [D2346, x2423, l2435, l2436, x2448] ∧ H' D2346 = some (.lst (vs2416)) ∧ H' x2423 = some (.ins AD.c_Encoder dx2424 [("_probabilities", V.ref l2435), ("_front", V.ref l2436), ("_low", V.int (writer_2471.enc.low)), ("_span", V.int (writer_2471.enc.span))]) ∧ H' l2435 = some (.lst ((writer_2471.enc.probs : (List Int)).map V.int)) ∧ H' l2436 = some (.lst ((writer_2471.enc.front : (List Int)).map V.int)) ∧ H' x2448 = some (.ins AD.c_SymbolWriter dx2449 [("_encoder", V.ref x2423)]) ∧ cW (forS (List.drop i (acc2415)) writer_2471 (fun s x => F_law_b2  s x)) K2469 EE) ?_ ?_ ?_ ?_⟩
    · have h2473 := ((SameXs.of x2464) _ _ h2459 (ni1 (ne_of_none h2439 n2450)))
      have h2474 := ((SameXs.of x2464) _ _ h2460 (ni1 (ne_of_none h2441 n2450)))
      have h2475 := ((SameXs.of x2464) _ _ h2461 (ni1 (ne_of_none h2442 n2450)))
      exact ⟨((⟨v2434⟩ : St_SymbolWriter)), _, _, rfl, (Same.refl _), (S2466.sub (all_cons (.tail _ (.tail _ (.tail _ (.tail _ (.head _))))) (all_cons (.tail _ (.tail _ (.tail _ (.head _)))) (all_cons (.tail _ (.head _)) (all_cons (.tail _ (.tail _ (.head _))) (all_cons (.head _) all_nil)))))), h2467, h2473, h2474, h2475, h2465, hw⟩
    · intro i σ H2476 _ hw
      obtain ⟨writer_2471, u2472, G2483, rfl, eG2484, S2477, h2478, h2479, h2480, h2481, h2482, hw⟩ := hw
      exact (SqL.of h2478)
    · intro i x σ H2485 hj hw
      obtain ⟨writer_2471, u2472, G2492, rfl, eG2493, S2486, h2487, h2488, h2489, h2490, h2491, hw⟩ := hw
      obtain ⟨x2494, hx, r2495⟩ := RpAll.get (RpAll.mono eG2493 d2417) hj
      obtain ⟨a2496, v2498, v2499, v2500, v2501, rfl, h2497, r2502, r2503, r2504, r2505⟩ := rp_tup4 r2495
      obtain rfl := rp_int r2502
      obtain rfl := rp_int r2503
      obtain rfl := rp_int r2504
      obtain rfl := rp_int r2505
      have hw := cW_forS hx hw
      have hw : cW (F_law_b2  (writer_2471) (x2494)) _ EE := hw
      unfold F_law_b2 at hw
      obtain ⟨K2507, hK2508, hw⟩ := cW_name hw
      refine ⟨_, rfl, _, rfl, rfl, rfl, G2492, _, _, _, _, _, _, writer_2471, _, _, rfl, S2486.sG, (S2486.gno (all_cons (.tail _ (.tail _ (.tail _ (.tail _ (.head _))))) (all_cons (.tail _ (.head _)) (all_cons (.tail _ (.tail _ (.head _))) (all_cons (.tail _ (.tail _ (.tail _ (.head _)))) all_nil))))), h2491, h2488, h2489, h2490, ne2445, (ne_of_none h2439 n2450).symm, (Rp.mono (S2486.hid (all_cons (.tail _ (.tail _ (.tail _ (.tail _ (.head _))))) (all_cons (.tail _ (.head _)) (all_cons (.tail _ (.tail _ (.head _))) (all_cons (.tail _ (.tail _ (.tail _ (.head _)))) all_nil))))) (rp_mk4 h2497 (.int _) (.int _) (.int _) (.int _))), cW_call hw (fun v2510 hw H2511 x2512 h2514 h2515 h2516 h2517  => ?_) (fun e he => (hE e he).elim)⟩
      have S2513 := S2486.mut x2512 (all_cons (.tail _ (.tail _ (.tail _ (.tail _ (.head _))))) (all_cons (.tail _ (.head _)) (all_cons (.tail _ (.tail _ (.head _))) (all_cons (.tail _ (.tail _ (.tail _ (.head _)))) all_nil)))) (all_cons (some_ne h2514) (all_cons (some_ne h2515) (all_cons (some_ne h2516) (all_cons (some_ne h2517) all_nil))))
      have hw := cW_ok hw
      have hw := hK2508 _ hw
      have h2522 := (x2512 _ _ h2487 (ni4 (ne_of_none ((SameXs.of x2438) _ _ (e2430 _ _ h2412) (ni1 (ne_of_none h2412 n2425))) n2450) (ne_of_none h2412 n2425) (ne_of_none (e2430 _ _ h2412) n2443) (ne_of_none (e2430 _ _ h2412) n2444)))
      exact ⟨(v2510), _, _, rfl, eG2493, S2513, h2522, h2515, h2516, h2517, h2514, hw⟩
    · intro σ H2523 hw
      obtain ⟨writer_2471, u2472, G2530, rfl, eG2531, S2524, h2525, h2526, h2527, h2528, h2529, hw⟩ := hw
      have hw := hK2470 _ (cW_forS0 (by rw [(RpAll.mono eG2531 d2417).len, List.length_map]) hw)
      have hw : cW (F_law_r2 (acc2415) (writer_2471)) _ EE := hw
      unfold F_law_r2 at hw
      refine ⟨_, rfl, _, _, _, rfl, h2526, rfl, rfl, rfl, G2530, _, _, _, _, writer_2471.enc, rfl, S2524.sG, (hide_nil h2526), (hide_nil h2527), (hide_nil h2528), cW_call hw (fun v2533 hw p2536 H2534 n2537 e2535 h2538 => ?_) (fun e he => (hE e he).elim)⟩
      have h2539 : H2534 p2536 = some (.lst ((v2533 : (List Int)).map V.int)) := h2538
      have fr2540 := S2524.free n2537
      have S2541 := S2524.new n2537 e2535 h2539 fr2540
      refine ⟨rfl, rfl, fun x2542 dx2543 n2544 n2545 n2546 => ?_⟩
      generalize g2547 : upd (upd H2534 dx2543 _) x2542 _ = H2548
      obtain ⟨e2549, h2550⟩ := gen_obj n2544 n2545 n2546 g2547
      have fr2551 := S2541.free n2544
      have S2552 := S2541.new n2544 e2549 h2550 fr2551
      have h2553 := (e2549 _ _ h2539)
      refine ⟨G2530, _, _, _, _, rfl, S2552.sG, (S2552.gno (all_cons (.head _) all_nil)), h2550, ((hideL_out (ni1 (ne_of_none h2539 n2544))).trans h2553), cW_call hw (fun v2554 hw H2557 l2555 l2556 x2558 n2563 n2564 ne2565 h2559 h2561 h2562 => ⟨rfl, ?_⟩) (fun e he => (hE e he).elim)⟩
      have fr2566 := S2552.free n2563
      have fr2567 := S2552.free n2564
      have S2560 : Sep _ _ _ _ H2557 [l2555, l2556, x2542, p2536, D2346, x2423, l2435, l2436, x2448] := Sep.init S2552 x2558 (.head _) h2559 [l2555, l2556] (all_cons ⟨n2563, some_ne h2561, fr2566⟩ (all_cons ⟨n2564, some_ne h2562, fr2567⟩ all_nil))
      refine ⟨rfl, rfl, fun x2568 dx2569 n2570 n2571 n2572 => ?_⟩
      generalize g2573 : upd (upd H2557 dx2569 _) x2568 _ = H2574
      obtain ⟨e2575, h2576⟩ := gen_obj n2570 n2571 n2572 g2573
      have fr2577 := S2560.free n2570
      have S2578 := S2560.new n2570 e2575 h2576 fr2577
      have h2579 := (e2575 _ _ h2559)
      have h2580 := (e2575 _ _ h2561)
      have h2581 := (e2575 _ _ h2562)
      refine ⟨G2530, _, _, _, _, _, _, v2554, rfl, S2578.sG, (S2578.gno (all_cons (.head _) all_nil)), h2576, ((hideL_out (ni1 (ne_of_none h2559 n2570))).trans h2579), ((hideL_out (ni1 (ne_of_none h2561 n2570))).trans h2580), ((hideL_out (ni1 (ne_of_none h2562 n2570))).trans h2581), cW_call hw (fun v2582 hw H2583 x2584 h2585 => ⟨rfl, ?_⟩) (fun e he => (hE e he).elim)⟩
      have S2586 : Sep _ _ _ _ H2583 [x2568, l2555, l2556, x2542, p2536, D2346, x2423, l2435, l2436, x2448] := Sep.init S2578 x2584 (.head _) h2585 [] all_nil
      have h2587 := ((SameXs.of x2584) _ _ (e2575 _ _ ((SameXs.of x2558) _ _ (e2549 _ _ (e2535 _ _ h2525)) (ni1 (ne_of_none (e2535 _ _ h2525) n2544)))) (ni1 (ne_of_none ((SameXs.of x2558) _ _ (e2549 _ _ (e2535 _ _ h2525)) (ni1 (ne_of_none (e2535 _ _ h2525) n2544))) n2570)))
      obtain ⟨K2588, hK2589, hw⟩ := cW_push hw
      refine ⟨_, rfl, _, rfl, ⟨_, (SqL.of h2587)⟩, for_list (K := K) (a := D2346) (xs := vs2416) (fun i σ H' => ∃ (u2590 : Option V) (reader_2591 : St_SymbolReader) (u2592 : Option V) (G' : Hp), σ = [some (V.ref a_script), some (V.ref D2346), some (V.ref x2423), some (V.ref x2448), u2590, some (V.ref x2568), u2592, none] ∧ Same G2530 G' ∧ Sep [] H H G' H' [D2346, x2423, l2435, l2436, x2448, x2568, x2542, l2555, l2556] ∧ H' D2346 = some (.lst (vs2416)) ∧ H' x2423 = some (.ins AD.c_Encoder dx2424 [("_probabilities", V.ref l2435), ("_front", V.ref l2436), ("_low", V.int (writer_2471.enc.low)), ("_span", V.int (writer_2471.enc.span))]) ∧ H' l2435 = some (.lst ((writer_2471.enc.probs : (List Int)).map V.int)) ∧ H' l2436 = some (.lst ((writer_2471.enc.front : (List Int)).map V.int)) ∧ H' x2448 = some (.ins AD.c_SymbolWriter dx2449 [("_encoder", V.ref x2423)]) ∧ H' x2568 = some (.ins AD.c_SymbolReader dx2569 [("_decoder", V.ref x2542)]) ∧ H' x2542 = some (.ins AD.c_Decoder dx2543 [("_probabilities", V.ref l2555), ("_octets", V.ref l2556), ("_place", V.int (reader_2591.dec.place)), ("_span", V.int (reader_2591.dec.span)), ("_value", V.int (reader_2591.dec.value))]) ∧ H' l2555 = some (.lst ((reader_2591.dec.probs : (List Int)).map V.int)) ∧ H' l2556 = some (.lst ((reader_2591.dec.octs : (List Int)).map V.int)) ∧ cW (forR (List.drop i (acc2415)) reader_2591 (fun s x => F_law_b3  s x)) K2588 EE) ?_ ?_ ?_ ?_⟩
      · have h2593 := ((SameXs.of x2584) _ _ (e2575 _ _ ((SameXs.of x2558) _ _ (e2549 _ _ (e2535 _ _ h2526)) (ni1 (ne_of_none (e2535 _ _ h2526) n2544)))) (ni1 (ne_of_none ((SameXs.of x2558) _ _ (e2549 _ _ (e2535 _ _ h2526)) (ni1 (ne_of_none (e2535 _ _ h2526) n2544))) n2570)))
        have h2594 := ((SameXs.of x2584) _ _ (e2575 _ _ ((SameXs.of x2558) _ _ (e2549 _ _ (e2535 _ _ h2527)) (ni1 (ne_of_none (e2535 _ _ h2527) n2544)))) (ni1 (ne_of_none ((SameXs.of x2558) _ _ (e2549 _ _ (e2535 _ _ h2527)) (ni1 (ne_of_none (e2535 _ _ h2527) n2544))) n2570)))
        have h2595 := ((SameXs.of x2584) _ _ (e2575 _ _ ((SameXs.of x2558) _ _ (e2549 _ _ (e2535 _ _ h2528)) (ni1 (ne_of_none (e2535 _ _ h2528) n2544)))) (ni1 (ne_of_none ((SameXs.of x2558) _ _ (e2549 _ _ (e2535 _ _ h2528)) (ni1 (ne_of_none (e2535 _ _ h2528) n2544))) n2570)))
        have h2596 := ((SameXs.of x2584) _ _ (e2575 _ _ ((SameXs.of x2558) _ _ (e2549 _ _ (e2535 _ _ h2529)) (ni1 (ne_of_none (e2535 _ _ h2529) n2544)))) (ni1 (ne_of_none ((SameXs.of x2558) _ _ (e2549 _ _ (e2535 _ _ h2529)) (ni1 (ne_of_none (e2535 _ _ h2529) n2544))) n2570)))
        have h2597 := ((SameXs.of x2584) _ _ h2579 (ni1 (ne_of_none h2559 n2570)))
        have h2598 := ((SameXs.of x2584) _ _ h2580 (ni1 (ne_of_none h2561 n2570)))
        have h2599 := ((SameXs.of x2584) _ _ h2581 (ni1 (ne_of_none h2562 n2570)))
        exact ⟨_, ((⟨v2554⟩ : St_SymbolReader)), _, _, rfl, (Same.refl _), (S2586.sub (all_cons (.tail _ (.tail _ (.tail _ (.tail _ (.tail _ (.head _)))))) (all_cons (.tail _ (.tail _ (.tail _ (.tail _ (.tail _ (.tail _ (.head _))))))) (all_cons (.tail _ (.tail _ (.tail _ (.tail _ (.tail _ (.tail _ (.tail _ (.head _)))))))) (all_cons (.tail _ (.tail _ (.tail _ (.tail _ (.tail _ (.tail _ (.tail _ (.tail _ (.head _))))))))) (all_cons (.tail _ (.tail _ (.tail _ (.tail _ (.tail _ (.tail _ (.tail _ (.tail _ (.tail _ (.head _)))))))))) (all_cons (.head _) (all_cons (.tail _ (.tail _ (.tail _ (.head _)))) (all_cons (.tail _ (.head _)) (all_cons (.tail _ (.tail _ (.head _))) all_nil)))))))))), h2587, h2593, h2594, h2595, h2596, h2585, h2597, h2598, h2599, hw⟩
      · intro i σ H2600 _ hw
        obtain ⟨u2590, reader_2591, u2592, G2611, rfl, eG2612, S2601, h2602, h2603, h2604, h2605, h2606, h2607, h2608, h2609, h2610, hw⟩ := hw
        exact (SqL.of h2602)
      · intro i x σ H2613 hj hw
        obtain ⟨u2590, reader_2591, u2592, G2624, rfl, eG2625, S2614, h2615, h2616, h2617, h2618, h2619, h2620, h2621, h2622, h2623, hw⟩ := hw
        obtain ⟨x2626, hx, r2627⟩ := RpAll.get (RpAll.mono eG2625 (RpAll.mono eG2531 d2417)) hj
        obtain ⟨a2628, v2630, v2631, v2632, v2633, rfl, h2629, r2634, r2635, r2636, r2637⟩ := rp_tup4 r2627
        obtain rfl := rp_int r2634
        obtain rfl := rp_int r2635
        obtain rfl := rp_int r2636
        obtain rfl := rp_int r2637
        have hw := cW_forR hx hw
        have hw : cW (F_law_b3  (reader_2591) (x2626)) _ EE := hw
        unfold F_law_b3 at hw
        obtain ⟨K2639, hK2640, hw⟩ := cW_name hw
        refine ⟨_, rfl, _, rfl, rfl, rfl, G2624, _, _, _, _, _, _, reader_2591, _, _, rfl, S2614.sG, (S2614.gno (all_cons (.tail _ (.tail _ (.tail _ (.tail _ (.tail _ (.head _)))))) (all_cons (.tail _ (.tail _ (.tail _ (.tail _ (.tail _ (.tail _ (.head _))))))) (all_cons (.tail _ (.tail _ (.tail _ (.tail _ (.tail _ (.tail _ (.tail _ (.head _)))))))) (all_cons (.tail _ (.tail _ (.tail _ (.tail _ (.tail _ (.tail _ (.tail _ (.tail _ (.head _))))))))) all_nil))))), h2620, h2621, h2622, h2623, ne2565, (ne_of_none h2559 n2570).symm, (Rp.mono (S2614.hid (all_cons (.tail _ (.tail _ (.tail _ (.tail _ (.tail _ (.head _)))))) (all_cons (.tail _ (.tail _ (.tail _ (.tail _ (.tail _ (.tail _ (.head _))))))) (all_cons (.tail _ (.tail _ (.tail _ (.tail _ (.tail _ (.tail _ (.tail _ (.head _)))))))) (all_cons (.tail _ (.tail _ (.tail _ (.tail _ (.tail _ (.tail _ (.tail _ (.tail _ (.head _))))))))) all_nil))))) (rp_mk4 h2629 (.int _) (.int _) (.int _) (.int _))), cW_call hw (fun v2642 hw H2643 x2644 h2646 h2647 h2648 h2649  => ?_) (fun e he => (hE e he).elim)⟩
        have S2645 := S2614.mut x2644 (all_cons (.tail _ (.tail _ (.tail _ (.tail _ (.tail _ (.head _)))))) (all_cons (.tail _ (.tail _ (.tail _ (.tail _ (.tail _ (.tail _ (.head _))))))) (all_cons (.tail _ (.tail _ (.tail _ (.tail _ (.tail _ (.tail _ (.tail _ (.head _)))))))) (all_cons (.tail _ (.tail _ (.tail _ (.tail _ (.tail _ (.tail _ (.tail _ (.tail _ (.head _))))))))) all_nil)))) (all_cons (some_ne h2646) (all_cons (some_ne h2647) (all_cons (some_ne h2648) (all_cons (some_ne h2649) all_nil))))
        generalize v2642.1 = q2654 at hw ⊢
        cases q2654 with
        | b x2655 =>
          have hw := cW_elb hw
          refine ⟨_, rfl, _, _, _, _, rfl, rfl, (SqT.of (S2645.sG _ _ h2629)), rfl, _, _, rfl, rfl, _, rfl, ?_⟩
          refine iteD (fun c2656 => ?_) (fun c2656 => ?_)
          · have hw := cW_pos c2656 hw
            refine ⟨_, rfl, _, _, _, _, _, rfl, (.ty _), (.base (.bl _)), rfl, _, rfl, ?_⟩
            refine iteF ?_
            refine ⟨_, rfl, _, rfl, _, _, _, _, rfl, rfl, (SqT.of (S2645.sG _ _ h2629)), rfl, _, _, rfl, rfl, rfl, _, rfl, ?_⟩
            refine iteN (fun c2657 => ?_) (fun c2657 => ?_)
            · have hw := cW_neg c2657 hw
              have hw := cW_ok hw
              have hw := hK2640 (.rt _) hw
              have hw := hK2589 (.rt _) hw
              have hw := cW_ok hw
              exact eq_bl (k _) (hK0 _ hw).symm
            · have hw := cW_pos c2657 hw
              refine ⟨_, rfl, _, _, _, _, rfl, rfl, (SqT.of (S2645.sG _ _ h2629)), rfl, _, _, rfl, rfl, _, rfl, ?_⟩
              refine iteD (fun c2658 => ?_) (fun c2658 => ?_)
              · have hw := cW_pos c2658 hw
                refine ⟨_, rfl, _, _, _, _, _, rfl, (.ty _), (.base (.bl _)), rfl, _, rfl, ?_⟩
                refine iteF ?_
                refine ⟨_, rfl, _, _, _, _, _, rfl, (.ty _), (.base (.bl _)), rfl, _, rfl, ?_⟩
                refine iteT ?_
                refine iteT ?_
                have hw := cW_ok hw
                have hw := hK2640 (.rt _) hw
                have hw := hK2589 (.rt _) hw
                have hw := cW_ok hw
                exact eq_bl (k _) (hK0 _ hw).symm
              · have hw := cW_neg c2658 hw
                refine iteF ?_
                have hw := cW_ok hw
                have hw := hK2640 _ hw
                have h2659 := (x2644 _ _ h2615 (ni4 (ne_of_none ((SameXs.of x2558) _ _ (e2549 _ _ (e2535 _ _ h2525)) (ni1 (ne_of_none (e2535 _ _ h2525) n2544))) n2570) (ne_of_none (e2535 _ _ h2525) n2544) (ne_of_none (e2549 _ _ (e2535 _ _ h2525)) n2563) (ne_of_none (e2549 _ _ (e2535 _ _ h2525)) n2564)))
                have h2660 := (x2644 _ _ h2616 (ni4 (ne_of_none ((SameXs.of x2558) _ _ (e2549 _ _ (e2535 _ _ h2526)) (ni1 (ne_of_none (e2535 _ _ h2526) n2544))) n2570) (ne_of_none (e2535 _ _ h2526) n2544) (ne_of_none (e2549 _ _ (e2535 _ _ h2526)) n2563) (ne_of_none (e2549 _ _ (e2535 _ _ h2526)) n2564)))
                have h2661 := (x2644 _ _ h2617 (ni4 (ne_of_none ((SameXs.of x2558) _ _ (e2549 _ _ (e2535 _ _ h2527)) (ni1 (ne_of_none (e2535 _ _ h2527) n2544))) n2570) (ne_of_none (e2535 _ _ h2527) n2544) (ne_of_none (e2549 _ _ (e2535 _ _ h2527)) n2563) (ne_of_none (e2549 _ _ (e2535 _ _ h2527)) n2564)))
                have h2662 := (x2644 _ _ h2618 (ni4 (ne_of_none ((SameXs.of x2558) _ _ (e2549 _ _ (e2535 _ _ h2528)) (ni1 (ne_of_none (e2535 _ _ h2528) n2544))) n2570) (ne_of_none (e2535 _ _ h2528) n2544) (ne_of_none (e2549 _ _ (e2535 _ _ h2528)) n2563) (ne_of_none (e2549 _ _ (e2535 _ _ h2528)) n2564)))
                have h2663 := (x2644 _ _ h2619 (ni4 (ne_of_none ((SameXs.of x2558) _ _ (e2549 _ _ (e2535 _ _ h2529)) (ni1 (ne_of_none (e2535 _ _ h2529) n2544))) n2570) (ne_of_none (e2535 _ _ h2529) n2544) (ne_of_none (e2549 _ _ (e2535 _ _ h2529)) n2563) (ne_of_none (e2549 _ _ (e2535 _ _ h2529)) n2564)))
                exact ⟨_, (v2642.2), _, _, rfl, eG2625, S2645, h2659, h2660, h2661, h2662, h2663, h2646, h2647, h2648, h2649, hw⟩
          · have hw := cW_neg c2656 hw
            refine iteF ?_
            refine ⟨_, rfl, _, _, _, _, rfl, rfl, (SqT.of (S2645.sG _ _ h2629)), rfl, _, _, rfl, rfl, _, rfl, ?_⟩
            refine iteD (fun c2664 => ?_) (fun c2664 => ?_)
            · have hw := cW_pos c2664 hw
              refine ⟨_, rfl, _, _, _, _, _, rfl, (.ty _), (.base (.bl _)), rfl, _, rfl, ?_⟩
              refine iteF ?_
              refine ⟨_, rfl, _, _, _, _, _, rfl, (.ty _), (.base (.bl _)), rfl, _, rfl, ?_⟩
              refine iteT ?_
              refine iteT ?_
              have hw := cW_ok hw
              have hw := hK2640 (.rt _) hw
              have hw := hK2589 (.rt _) hw
              have hw := cW_ok hw
              exact eq_bl (k _) (hK0 _ hw).symm
            · have hw := cW_neg c2664 hw
              refine iteF ?_
              have hw := cW_ok hw
              have hw := hK2640 _ hw
              have h2665 := (x2644 _ _ h2615 (ni4 (ne_of_none ((SameXs.of x2558) _ _ (e2549 _ _ (e2535 _ _ h2525)) (ni1 (ne_of_none (e2535 _ _ h2525) n2544))) n2570) (ne_of_none (e2535 _ _ h2525) n2544) (ne_of_none (e2549 _ _ (e2535 _ _ h2525)) n2563) (ne_of_none (e2549 _ _ (e2535 _ _ h2525)) n2564)))
              have h2666 := (x2644 _ _ h2616 (ni4 (ne_of_none ((SameXs.of x2558) _ _ (e2549 _ _ (e2535 _ _ h2526)) (ni1 (ne_of_none (e2535 _ _ h2526) n2544))) n2570) (ne_of_none (e2535 _ _ h2526) n2544) (ne_of_none (e2549 _ _ (e2535 _ _ h2526)) n2563) (ne_of_none (e2549 _ _ (e2535 _ _ h2526)) n2564)))
              have h2667 := (x2644 _ _ h2617 (ni4 (ne_of_none ((SameXs.of x2558) _ _ (e2549 _ _ (e2535 _ _ h2527)) (ni1 (ne_of_none (e2535 _ _ h2527) n2544))) n2570) (ne_of_none (e2535 _ _ h2527) n2544) (ne_of_none (e2549 _ _ (e2535 _ _ h2527)) n2563) (ne_of_none (e2549 _ _ (e2535 _ _ h2527)) n2564)))
              have h2668 := (x2644 _ _ h2618 (ni4 (ne_of_none ((SameXs.of x2558) _ _ (e2549 _ _ (e2535 _ _ h2528)) (ni1 (ne_of_none (e2535 _ _ h2528) n2544))) n2570) (ne_of_none (e2535 _ _ h2528) n2544) (ne_of_none (e2549 _ _ (e2535 _ _ h2528)) n2563) (ne_of_none (e2549 _ _ (e2535 _ _ h2528)) n2564)))
              have h2669 := (x2644 _ _ h2619 (ni4 (ne_of_none ((SameXs.of x2558) _ _ (e2549 _ _ (e2535 _ _ h2529)) (ni1 (ne_of_none (e2535 _ _ h2529) n2544))) n2570) (ne_of_none (e2535 _ _ h2529) n2544) (ne_of_none (e2549 _ _ (e2535 _ _ h2529)) n2563) (ne_of_none (e2549 _ _ (e2535 _ _ h2529)) n2564)))
              exact ⟨_, (v2642.2), _, _, rfl, eG2625, S2645, h2665, h2666, h2667, h2668, h2669, h2646, h2647, h2648, h2649, hw⟩
        | n x2655 =>
          have hw := cW_eln hw
          refine ⟨_, rfl, _, _, _, _, rfl, rfl, (SqT.of (S2645.sG _ _ h2629)), rfl, _, _, rfl, rfl, _, rfl, ?_⟩
          refine iteD (fun c2670 => ?_) (fun c2670 => ?_)
          · have hw := cW_pos c2670 hw
            refine ⟨_, rfl, _, _, _, _, _, rfl, (.ty _), (.base (.int _)), rfl, _, rfl, ?_⟩
            refine iteT ?_
            refine iteT ?_
            have hw := cW_ok hw
            have hw := hK2640 (.rt _) hw
            have hw := hK2589 (.rt _) hw
            have hw := cW_ok hw
            exact eq_bl (k _) (hK0 _ hw).symm
          · have hw := cW_neg c2670 hw
            refine iteF ?_
            refine ⟨_, rfl, _, _, _, _, rfl, rfl, (SqT.of (S2645.sG _ _ h2629)), rfl, _, _, rfl, rfl, _, rfl, ?_⟩
            refine iteD (fun c2671 => ?_) (fun c2671 => ?_)
            · have hw := cW_pos c2671 hw
              refine ⟨_, rfl, _, _, _, _, _, rfl, (.ty _), (.base (.int _)), rfl, _, rfl, ?_⟩
              refine iteF ?_
              refine ⟨_, rfl, _, _, _, _, _, rfl, (.ty _), (.base (.int _)), rfl, _, rfl, ?_⟩
              refine iteF ?_
              refine ⟨_, rfl, _, rfl, _, _, _, _, rfl, rfl, (SqT.of (S2645.sG _ _ h2629)), rfl, _, _, rfl, rfl, _, rfl, ?_⟩
              refine iteN (fun c2672 => ?_) (fun c2672 => ?_)
              · have hw := cW_neg c2672 hw
                have hw := cW_ok hw
                have hw := hK2640 (.rt _) hw
                have hw := hK2589 (.rt _) hw
                have hw := cW_ok hw
                exact eq_bl (k _) (hK0 _ hw).symm
              · have hw := cW_pos c2672 hw
                have hw := cW_ok hw
                have hw := hK2640 _ hw
                have h2673 := (x2644 _ _ h2615 (ni4 (ne_of_none ((SameXs.of x2558) _ _ (e2549 _ _ (e2535 _ _ h2525)) (ni1 (ne_of_none (e2535 _ _ h2525) n2544))) n2570) (ne_of_none (e2535 _ _ h2525) n2544) (ne_of_none (e2549 _ _ (e2535 _ _ h2525)) n2563) (ne_of_none (e2549 _ _ (e2535 _ _ h2525)) n2564)))
                have h2674 := (x2644 _ _ h2616 (ni4 (ne_of_none ((SameXs.of x2558) _ _ (e2549 _ _ (e2535 _ _ h2526)) (ni1 (ne_of_none (e2535 _ _ h2526) n2544))) n2570) (ne_of_none (e2535 _ _ h2526) n2544) (ne_of_none (e2549 _ _ (e2535 _ _ h2526)) n2563) (ne_of_none (e2549 _ _ (e2535 _ _ h2526)) n2564)))
                have h2675 := (x2644 _ _ h2617 (ni4 (ne_of_none ((SameXs.of x2558) _ _ (e2549 _ _ (e2535 _ _ h2527)) (ni1 (ne_of_none (e2535 _ _ h2527) n2544))) n2570) (ne_of_none (e2535 _ _ h2527) n2544) (ne_of_none (e2549 _ _ (e2535 _ _ h2527)) n2563) (ne_of_none (e2549 _ _ (e2535 _ _ h2527)) n2564)))
                have h2676 := (x2644 _ _ h2618 (ni4 (ne_of_none ((SameXs.of x2558) _ _ (e2549 _ _ (e2535 _ _ h2528)) (ni1 (ne_of_none (e2535 _ _ h2528) n2544))) n2570) (ne_of_none (e2535 _ _ h2528) n2544) (ne_of_none (e2549 _ _ (e2535 _ _ h2528)) n2563) (ne_of_none (e2549 _ _ (e2535 _ _ h2528)) n2564)))
                have h2677 := (x2644 _ _ h2619 (ni4 (ne_of_none ((SameXs.of x2558) _ _ (e2549 _ _ (e2535 _ _ h2529)) (ni1 (ne_of_none (e2535 _ _ h2529) n2544))) n2570) (ne_of_none (e2535 _ _ h2529) n2544) (ne_of_none (e2549 _ _ (e2535 _ _ h2529)) n2563) (ne_of_none (e2549 _ _ (e2535 _ _ h2529)) n2564)))
                exact ⟨_, (v2642.2), _, _, rfl, eG2625, S2645, h2673, h2674, h2675, h2676, h2677, h2646, h2647, h2648, h2649, hw⟩
            · have hw := cW_neg c2671 hw
              refine iteF ?_
              have hw := cW_ok hw
              have hw := hK2640 _ hw
              have h2678 := (x2644 _ _ h2615 (ni4 (ne_of_none ((SameXs.of x2558) _ _ (e2549 _ _ (e2535 _ _ h2525)) (ni1 (ne_of_none (e2535 _ _ h2525) n2544))) n2570) (ne_of_none (e2535 _ _ h2525) n2544) (ne_of_none (e2549 _ _ (e2535 _ _ h2525)) n2563) (ne_of_none (e2549 _ _ (e2535 _ _ h2525)) n2564)))
              have h2679 := (x2644 _ _ h2616 (ni4 (ne_of_none ((SameXs.of x2558) _ _ (e2549 _ _ (e2535 _ _ h2526)) (ni1 (ne_of_none (e2535 _ _ h2526) n2544))) n2570) (ne_of_none (e2535 _ _ h2526) n2544) (ne_of_none (e2549 _ _ (e2535 _ _ h2526)) n2563) (ne_of_none (e2549 _ _ (e2535 _ _ h2526)) n2564)))
              have h2680 := (x2644 _ _ h2617 (ni4 (ne_of_none ((SameXs.of x2558) _ _ (e2549 _ _ (e2535 _ _ h2527)) (ni1 (ne_of_none (e2535 _ _ h2527) n2544))) n2570) (ne_of_none (e2535 _ _ h2527) n2544) (ne_of_none (e2549 _ _ (e2535 _ _ h2527)) n2563) (ne_of_none (e2549 _ _ (e2535 _ _ h2527)) n2564)))
              have h2681 := (x2644 _ _ h2618 (ni4 (ne_of_none ((SameXs.of x2558) _ _ (e2549 _ _ (e2535 _ _ h2528)) (ni1 (ne_of_none (e2535 _ _ h2528) n2544))) n2570) (ne_of_none (e2535 _ _ h2528) n2544) (ne_of_none (e2549 _ _ (e2535 _ _ h2528)) n2563) (ne_of_none (e2549 _ _ (e2535 _ _ h2528)) n2564)))
              have h2682 := (x2644 _ _ h2619 (ni4 (ne_of_none ((SameXs.of x2558) _ _ (e2549 _ _ (e2535 _ _ h2529)) (ni1 (ne_of_none (e2535 _ _ h2529) n2544))) n2570) (ne_of_none (e2535 _ _ h2529) n2544) (ne_of_none (e2549 _ _ (e2535 _ _ h2529)) n2563) (ne_of_none (e2549 _ _ (e2535 _ _ h2529)) n2564)))
              exact ⟨_, (v2642.2), _, _, rfl, eG2625, S2645, h2678, h2679, h2680, h2681, h2682, h2646, h2647, h2648, h2649, hw⟩
      · intro σ H2683 hw
        obtain ⟨u2590, reader_2591, u2592, G2694, rfl, eG2695, S2684, h2685, h2686, h2687, h2688, h2689, h2690, h2691, h2692, h2693, hw⟩ := hw
        have hw := cW_aftgo (hK2589 _ (cW_forR0 (by rw [(RpAll.mono eG2695 (RpAll.mono eG2531 d2417)).len, List.length_map]) hw))
        have hw : cW (F_law_r3  (reader_2591)) _ EE := hw
        unfold F_law_r3 at hw
        have hw := cW_ok hw
        exact eq_bl (k _) (hK0 _ hw).symm
end
def spL (K : PySem.W.Frag) : Sp := fun vs H Q _ => ∃ (a_script : Addr) (script : List Int), vs = [.ref a_script] ∧ SqL K H a_script (script.map V.int) ∧ script.length ≤ 63 ∧ ∀ H', Q (.bl true) H'
theorem all_mk {l : PySem.W.OpenLaw} {w : World} {K : PySem.W.Frag} {h : Heap} {mg : Str → Option Value} {fa : Addr} (X : K.In h) (G : h.Ns mainGlobals mg) (hfa : mg "law" = some (.ref fa))
    {f0 f1 f2 f3 f4 f5 f6 f7 f8 f9 f10 f11 f12 f13 f14 f15 f16 f17 f18 f19 f20 f21 f22 f23 f24 f25 f26 f27 f28 f29 f30 f31 f32 f33 f34 f35 f36 CEncoder CSymbolWriter CDecoder CSymbolReader XOutOfRange : Addr} {od0 an0 od1 an1 od2 an2 od3 an3 od4 an4 od5 an5 od6 an6 od7 an7 od8 an8 od9 an9 od10 an10 od11 an11 od12 an12 od13 an13 od14 an14 od15 an15 od16 an16 od17 an17 od18 an18 od19 an19 od20 an20 od21 an21 od22 an22 od23 an23 od24 an24 od25 an25 od26 an26 od27 an27 od28 an28 od29 an29 od30 an30 od31 an31 od32 an32 od33 an33 od34 an34 od35 an35 od36 an36 : Option Addr} {sl0 sl1 sl2 sl3 sl4 sl5 sl6 sl7 sl8 sl9 sl10 sl11 sl12 sl13 sl14 sl15 sl16 sl17 sl18 sl19 sl20 sl21 sl22 sl23 sl24 sl25 sl26 sl27 sl28 sl29 sl30 sl31 sl32 sl33 sl34 sl35 sl36 : Array (Option Value)} {oc0 kV0 dc0 pm0 cd0 ct0 oc1 kV1 dc1 pm1 cd1 ct1 oc2 kV2 dc2 pm2 cd2 ct2 oc3 kV3 dc3 pm3 cd3 ct3 oc4 kV4 dc4 pm4 cd4 ct4 oc5 kV5 dc5 pm5 cd5 ct5 oc6 kV6 dc6 pm6 cd6 ct6 oc7 kV7 dc7 pm7 cd7 ct7 oc8 kV8 dc8 pm8 cd8 ct8 oc9 kV9 dc9 pm9 cd9 ct9 oc10 kV10 dc10 pm10 cd10 ct10 oc11 kV11 dc11 pm11 cd11 ct11 oc12 kV12 dc12 pm12 cd12 ct12 oc13 kV13 dc13 pm13 cd13 ct13 oc14 kV14 dc14 pm14 cd14 ct14 oc15 kV15 dc15 pm15 cd15 ct15 oc16 kV16 dc16 pm16 cd16 ct16 oc17 kV17 dc17 pm17 cd17 ct17 oc18 kV18 dc18 pm18 cd18 ct18 oc19 kV19 dc19 pm19 cd19 ct19 oc20 kV20 dc20 pm20 cd20 ct20 oc21 kV21 dc21 pm21 cd21 ct21 oc22 kV22 dc22 pm22 cd22 ct22 oc23 kV23 dc23 pm23 cd23 ct23 oc24 kV24 dc24 pm24 cd24 ct24 oc25 kV25 dc25 pm25 cd25 ct25 oc26 kV26 dc26 pm26 cd26 ct26 oc27 kV27 dc27 pm27 cd27 ct27 oc28 kV28 dc28 pm28 cd28 ct28 oc29 kV29 dc29 pm29 cd29 ct29 oc30 kV30 dc30 pm30 cd30 ct30 oc31 kV31 dc31 pm31 cd31 ct31 oc32 kV32 dc32 pm32 cd32 ct32 oc33 kV33 dc33 pm33 cd33 ct33 oc34 kV34 dc34 pm34 cd34 ct34 oc35 kV35 dc35 pm35 cd35 ct35 oc36 kV36 dc36 pm36 cd36 ct36 : Value} {tk0 tk1 tk2 tk7 tk8 tk9 tk11 tk12 tk13 tk15 tk16 tk17 tk18 : Tok}
    (wEncoder : PySem.W.nsIn K mainGlobals "Encoder" = some (some (.ref CEncoder))) (wSymbolWriter : PySem.W.nsIn K mainGlobals "SymbolWriter" = some (some (.ref CSymbolWriter))) (wDecoder : PySem.W.nsIn K mainGlobals "Decoder" = some (some (.ref CDecoder))) (wSymbolReader : PySem.W.nsIn K mainGlobals "SymbolReader" = some (some (.ref CSymbolReader))) (vOutOfRange : PySem.W.nsIn K mainGlobals "OutOfRange" = some (some (.ref XOutOfRange))) (a0 : PySem.W.findIn K (.ref CEncoder) "__init__" = some (some (.ref f0))) (b0 : PySem.W.isFn K (.ref f0) = true) (d0 : PySem.W.makesIn K CEncoder = true) (e0 : PySem.W.keepIn K (.ref CEncoder) = true) (l0 : K.lookup f0 = some ⟨oc0, od0, .func (PySem.W.fnOf "__init__" "Encoder.__init__" (defArgs s_Encoder___init__) (defBody s_Encoder___init__) (defScope s_Encoder___init__) .none kV0 dc0 pm0 an0 cd0 ct0), sl0⟩) (c0 : PySem.W.codeIn K cd0 "Encoder.__init__" = true) (k0 : PySem.W.keepIn K (.ref f0) = true) (a1 : PySem.W.findIn K (.ref CSymbolWriter) "__init__" = some (some (.ref f1))) (b1 : PySem.W.isFn K (.ref f1) = true) (d1 : PySem.W.makesIn K CSymbolWriter = true) (e1 : PySem.W.keepIn K (.ref CSymbolWriter) = true) (l1 : K.lookup f1 = some ⟨oc1, od1, .func (PySem.W.fnOf "__init__" "SymbolWriter.__init__" (defArgs s_SymbolWriter___init__) (defBody s_SymbolWriter___init__) (defScope s_SymbolWriter___init__) .none kV1 dc1 pm1 an1 cd1 ct1), sl1⟩) (c1 : PySem.W.codeIn K cd1 "SymbolWriter.__init__" = true) (k1 : PySem.W.keepIn K (.ref f1) = true) (a2 : PySem.W.findIn K (.ref CSymbolReader) "__init__" = some (some (.ref f2))) (b2 : PySem.W.isFn K (.ref f2) = true) (d2 : PySem.W.makesIn K CSymbolReader = true) (e2 : PySem.W.keepIn K (.ref CSymbolReader) = true) (l2 : K.lookup f2 = some ⟨oc2, od2, .func (PySem.W.fnOf "__init__" "SymbolReader.__init__" (defArgs s_SymbolReader___init__) (defBody s_SymbolReader___init__) (defScope s_SymbolReader___init__) .none kV2 dc2 pm2 an2 cd2 ct2), sl2⟩) (c2 : PySem.W.codeIn K cd2 "SymbolReader.__init__" = true) (k2 : PySem.W.keepIn K (.ref f2) = true) (a3 : PySem.W.nsIn K mainGlobals "_law_draws" = some (some (.ref f3))) (l3 : K.lookup f3 = some ⟨oc3, od3, .func (PySem.W.fnOf "_law_draws" "_law_draws" (defArgs s__law_draws) (defBody s__law_draws) (defScope s__law_draws) .none kV3 dc3 pm3 an3 cd3 ct3), sl3⟩) (c3 : PySem.W.codeIn K cd3 "_law_draws" = true) (k3 : PySem.W.keepIn K (.ref f3) = true) (a4 : PySem.W.nsIn K mainGlobals "_law_symbol" = some (some (.ref f4))) (l4 : K.lookup f4 = some ⟨oc4, od4, .func (PySem.W.fnOf "_law_symbol" "_law_symbol" (defArgs s__law_symbol) (defBody s__law_symbol) (defScope s__law_symbol) .none kV4 dc4 pm4 an4 cd4 ct4), sl4⟩) (c4 : PySem.W.codeIn K cd4 "_law_symbol" = true) (k4 : PySem.W.keepIn K (.ref f4) = true) (a5 : PySem.W.nsIn K mainGlobals "_check_contexts" = some (some (.ref f5))) (l5 : K.lookup f5 = some ⟨oc5, od5, .func (PySem.W.fnOf "_check_contexts" "_check_contexts" (defArgs s__check_contexts) (defBody s__check_contexts) (defScope s__check_contexts) .none kV5 dc5 pm5 an5 cd5 ct5), sl5⟩) (c5 : PySem.W.codeIn K cd5 "_check_contexts" = true) (k5 : PySem.W.keepIn K (.ref f5) = true) (a6 : PySem.W.nsIn K mainGlobals "_check_context" = some (some (.ref f6))) (l6 : K.lookup f6 = some ⟨oc6, od6, .func (PySem.W.fnOf "_check_context" "_check_context" (defArgs s__check_context) (defBody s__check_context) (defScope s__check_context) .none kV6 dc6 pm6 an6 cd6 ct6), sl6⟩) (c6 : PySem.W.codeIn K cd6 "_check_context" = true) (k6 : PySem.W.keepIn K (.ref f6) = true) (a7 : PySem.W.nsIn K mainGlobals "_check_decision" = some (some (.ref f7))) (l7 : K.lookup f7 = some ⟨oc7, od7, .func (PySem.W.fnOf "_check_decision" "_check_decision" (defArgs s__check_decision) (defBody s__check_decision) (defScope s__check_decision) .none kV7 dc7 pm7 an7 cd7 ct7), sl7⟩) (c7 : PySem.W.codeIn K cd7 "_check_decision" = true) (k7 : PySem.W.keepIn K (.ref f7) = true) (a8 : PySem.W.nsIn K mainGlobals "_adapted" = some (some (.ref f8))) (l8 : K.lookup f8 = some ⟨oc8, od8, .func (PySem.W.fnOf "_adapted" "_adapted" (defArgs s__adapted) (defBody s__adapted) (defScope s__adapted) .none kV8 dc8 pm8 an8 cd8 ct8), sl8⟩) (c8 : PySem.W.codeIn K cd8 "_adapted" = true) (k8 : PySem.W.keepIn K (.ref f8) = true) (a9 : PySem.W.findIn K (.ref CEncoder) "_carry" = some (some (.ref f9))) (b9 : PySem.W.isFn K (.ref f9) = true) (l9 : K.lookup f9 = some ⟨oc9, od9, .func (PySem.W.fnOf "_carry" "Encoder._carry" (defArgs s_Encoder__carry) (defBody s_Encoder__carry) (defScope s_Encoder__carry) .none kV9 dc9 pm9 an9 cd9 ct9), sl9⟩) (c9 : PySem.W.codeIn K cd9 "Encoder._carry" = true) (k9 : PySem.W.keepIn K (.ref f9) = true) (a10 : PySem.W.findIn K (.ref CEncoder) "_narrow" = some (some (.ref f10))) (b10 : PySem.W.isFn K (.ref f10) = true) (l10 : K.lookup f10 = some ⟨oc10, od10, .func (PySem.W.fnOf "_narrow" "Encoder._narrow" (defArgs s_Encoder__narrow) (defBody s_Encoder__narrow) (defScope s_Encoder__narrow) .none kV10 dc10 pm10 an10 cd10 ct10), sl10⟩) (c10 : PySem.W.codeIn K cd10 "Encoder._narrow" = true) (k10 : PySem.W.keepIn K (.ref f10) = true) (a11 : PySem.W.findIn K (.ref CEncoder) "code" = some (some (.ref f11))) (b11 : PySem.W.isFn K (.ref f11) = true) (l11 : K.lookup f11 = some ⟨oc11, od11, .func (PySem.W.fnOf "code" "Encoder.code" (defArgs s_Encoder_code) (defBody s_Encoder_code) (defScope s_Encoder_code) .none kV11 dc11 pm11 an11 cd11 ct11), sl11⟩) (c11 : PySem.W.codeIn K cd11 "Encoder.code" = true) (k11 : PySem.W.keepIn K (.ref f11) = true) (a12 : PySem.W.findIn K (.ref CSymbolWriter) "flag" = some (some (.ref f12))) (b12 : PySem.W.isFn K (.ref f12) = true) (l12 : K.lookup f12 = some ⟨oc12, od12, .func (PySem.W.fnOf "flag" "SymbolWriter.flag" (defArgs s_SymbolWriter_flag) (defBody s_SymbolWriter_flag) (defScope s_SymbolWriter_flag) .none kV12 dc12 pm12 an12 cd12 ct12), sl12⟩) (c12 : PySem.W.codeIn K cd12 "SymbolWriter.flag" = true) (k12 : PySem.W.keepIn K (.ref f12) = true) (a13 : PySem.W.findIn K (.ref CDecoder) "_shift" = some (some (.ref f13))) (b13 : PySem.W.isFn K (.ref f13) = true) (l13 : K.lookup f13 = some ⟨oc13, od13, .func (PySem.W.fnOf "_shift" "Decoder._shift" (defArgs s_Decoder__shift) (defBody s_Decoder__shift) (defScope s_Decoder__shift) .none kV13 dc13 pm13 an13 cd13 ct13), sl13⟩) (c13 : PySem.W.codeIn K cd13 "Decoder._shift" = true) (k13 : PySem.W.keepIn K (.ref f13) = true) (a14 : PySem.W.findIn K (.ref CDecoder) "_decide" = some (some (.ref f14))) (b14 : PySem.W.isFn K (.ref f14) = true) (l14 : K.lookup f14 = some ⟨oc14, od14, .func (PySem.W.fnOf "_decide" "Decoder._decide" (defArgs s_Decoder__decide) (defBody s_Decoder__decide) (defScope s_Decoder__decide) .none kV14 dc14 pm14 an14 cd14 ct14), sl14⟩) (c14 : PySem.W.codeIn K cd14 "Decoder._decide" = true) (k14 : PySem.W.keepIn K (.ref f14) = true) (a15 : PySem.W.findIn K (.ref CDecoder) "read" = some (some (.ref f15))) (b15 : PySem.W.isFn K (.ref f15) = true) (l15 : K.lookup f15 = some ⟨oc15, od15, .func (PySem.W.fnOf "read" "Decoder.read" (defArgs s_Decoder_read) (defBody s_Decoder_read) (defScope s_Decoder_read) .none kV15 dc15 pm15 an15 cd15 ct15), sl15⟩) (c15 : PySem.W.codeIn K cd15 "Decoder.read" = true) (k15 : PySem.W.keepIn K (.ref f15) = true) (a16 : PySem.W.findIn K (.ref CSymbolReader) "flag" = some (some (.ref f16))) (b16 : PySem.W.isFn K (.ref f16) = true) (l16 : K.lookup f16 = some ⟨oc16, od16, .func (PySem.W.fnOf "flag" "SymbolReader.flag" (defArgs s_SymbolReader_flag) (defBody s_SymbolReader_flag) (defScope s_SymbolReader_flag) .none kV16 dc16 pm16 an16 cd16 ct16), sl16⟩) (c16 : PySem.W.codeIn K cd16 "SymbolReader.flag" = true) (k16 : PySem.W.keepIn K (.ref f16) = true) (a17 : PySem.W.nsIn K mainGlobals "_choice_digits" = some (some (.ref f17))) (l17 : K.lookup f17 = some ⟨oc17, od17, .func (PySem.W.fnOf "_choice_digits" "_choice_digits" (defArgs s__choice_digits) (defBody s__choice_digits) (defScope s__choice_digits) .none kV17 dc17 pm17 an17 cd17 ct17), sl17⟩) (c17 : PySem.W.codeIn K cd17 "_choice_digits" = true) (k17 : PySem.W.keepIn K (.ref f17) = true) (a18 : PySem.W.findIn K (.ref CSymbolWriter) "choice" = some (some (.ref f18))) (b18 : PySem.W.isFn K (.ref f18) = true) (l18 : K.lookup f18 = some ⟨oc18, od18, .func (PySem.W.fnOf "choice" "SymbolWriter.choice" (defArgs s_SymbolWriter_choice) (defBody s_SymbolWriter_choice) (defScope s_SymbolWriter_choice) .none kV18 dc18 pm18 an18 cd18 ct18), sl18⟩) (c18 : PySem.W.codeIn K cd18 "SymbolWriter.choice" = true) (k18 : PySem.W.keepIn K (.ref f18) = true) (a19 : PySem.W.findIn K (.ref CSymbolReader) "choice" = some (some (.ref f19))) (b19 : PySem.W.isFn K (.ref f19) = true) (l19 : K.lookup f19 = some ⟨oc19, od19, .func (PySem.W.fnOf "choice" "SymbolReader.choice" (defArgs s_SymbolReader_choice) (defBody s_SymbolReader_choice) (defScope s_SymbolReader_choice) .none kV19 dc19 pm19 an19 cd19 ct19), sl19⟩) (c19 : PySem.W.codeIn K cd19 "SymbolReader.choice" = true) (k19 : PySem.W.keepIn K (.ref f19) = true) (a20 : PySem.W.nsIn K mainGlobals "_check_unary" = some (some (.ref f20))) (l20 : K.lookup f20 = some ⟨oc20, od20, .func (PySem.W.fnOf "_check_unary" "_check_unary" (defArgs s__check_unary) (defBody s__check_unary) (defScope s__check_unary) .none kV20 dc20 pm20 an20 cd20 ct20), sl20⟩) (c20 : PySem.W.codeIn K cd20 "_check_unary" = true) (k20 : PySem.W.keepIn K (.ref f20) = true) (a21 : PySem.W.findIn K (.ref CSymbolWriter) "unary" = some (some (.ref f21))) (b21 : PySem.W.isFn K (.ref f21) = true) (l21 : K.lookup f21 = some ⟨oc21, od21, .func (PySem.W.fnOf "unary" "SymbolWriter.unary" (defArgs s_SymbolWriter_unary) (defBody s_SymbolWriter_unary) (defScope s_SymbolWriter_unary) .none kV21 dc21 pm21 an21 cd21 ct21), sl21⟩) (c21 : PySem.W.codeIn K cd21 "SymbolWriter.unary" = true) (k21 : PySem.W.keepIn K (.ref f21) = true) (a22 : PySem.W.findIn K (.ref CSymbolReader) "unary" = some (some (.ref f22))) (b22 : PySem.W.isFn K (.ref f22) = true) (l22 : K.lookup f22 = some ⟨oc22, od22, .func (PySem.W.fnOf "unary" "SymbolReader.unary" (defArgs s_SymbolReader_unary) (defBody s_SymbolReader_unary) (defScope s_SymbolReader_unary) .none kV22 dc22 pm22 an22 cd22 ct22), sl22⟩) (c22 : PySem.W.codeIn K cd22 "SymbolReader.unary" = true) (k22 : PySem.W.keepIn K (.ref f22) = true) (a23 : PySem.W.nsIn K mainGlobals "_digit_context" = some (some (.ref f23))) (l23 : K.lookup f23 = some ⟨oc23, od23, .func (PySem.W.fnOf "_digit_context" "_digit_context" (defArgs s__digit_context) (defBody s__digit_context) (defScope s__digit_context) .none kV23 dc23 pm23 an23 cd23 ct23), sl23⟩) (c23 : PySem.W.codeIn K cd23 "_digit_context" = true) (k23 : PySem.W.keepIn K (.ref f23) = true) (a24 : PySem.W.findIn K (.ref CEncoder) "code_even" = some (some (.ref f24))) (b24 : PySem.W.isFn K (.ref f24) = true) (l24 : K.lookup f24 = some ⟨oc24, od24, .func (PySem.W.fnOf "code_even" "Encoder.code_even" (defArgs s_Encoder_code_even) (defBody s_Encoder_code_even) (defScope s_Encoder_code_even) .none kV24 dc24 pm24 an24 cd24 ct24), sl24⟩) (c24 : PySem.W.codeIn K cd24 "Encoder.code_even" = true) (k24 : PySem.W.keepIn K (.ref f24) = true) (a25 : PySem.W.findIn K (.ref CSymbolWriter) "number" = some (some (.ref f25))) (b25 : PySem.W.isFn K (.ref f25) = true) (l25 : K.lookup f25 = some ⟨oc25, od25, .func (PySem.W.fnOf "number" "SymbolWriter.number" (defArgs s_SymbolWriter_number) (defBody s_SymbolWriter_number) (defScope s_SymbolWriter_number) .none kV25 dc25 pm25 an25 cd25 ct25), sl25⟩) (c25 : PySem.W.codeIn K cd25 "SymbolWriter.number" = true) (k25 : PySem.W.keepIn K (.ref f25) = true) (a26 : PySem.W.findIn K (.ref CDecoder) "read_even" = some (some (.ref f26))) (b26 : PySem.W.isFn K (.ref f26) = true) (l26 : K.lookup f26 = some ⟨oc26, od26, .func (PySem.W.fnOf "read_even" "Decoder.read_even" (defArgs s_Decoder_read_even) (defBody s_Decoder_read_even) (defScope s_Decoder_read_even) .none kV26 dc26 pm26 an26 cd26 ct26), sl26⟩) (c26 : PySem.W.codeIn K cd26 "Decoder.read_even" = true) (k26 : PySem.W.keepIn K (.ref f26) = true) (a27 : PySem.W.findIn K (.ref CSymbolReader) "number" = some (some (.ref f27))) (b27 : PySem.W.isFn K (.ref f27) = true) (l27 : K.lookup f27 = some ⟨oc27, od27, .func (PySem.W.fnOf "number" "SymbolReader.number" (defArgs s_SymbolReader_number) (defBody s_SymbolReader_number) (defScope s_SymbolReader_number) .none kV27 dc27 pm27 an27 cd27 ct27), sl27⟩) (c27 : PySem.W.codeIn K cd27 "SymbolReader.number" = true) (k27 : PySem.W.keepIn K (.ref f27) = true) (a28 : PySem.W.findIn K (.ref CSymbolWriter) "signed" = some (some (.ref f28))) (b28 : PySem.W.isFn K (.ref f28) = true) (l28 : K.lookup f28 = some ⟨oc28, od28, .func (PySem.W.fnOf "signed" "SymbolWriter.signed" (defArgs s_SymbolWriter_signed) (defBody s_SymbolWriter_signed) (defScope s_SymbolWriter_signed) .none kV28 dc28 pm28 an28 cd28 ct28), sl28⟩) (c28 : PySem.W.codeIn K cd28 "SymbolWriter.signed" = true) (k28 : PySem.W.keepIn K (.ref f28) = true) (a29 : PySem.W.findIn K (.ref CSymbolReader) "signed" = some (some (.ref f29))) (b29 : PySem.W.isFn K (.ref f29) = true) (l29 : K.lookup f29 = some ⟨oc29, od29, .func (PySem.W.fnOf "signed" "SymbolReader.signed" (defArgs s_SymbolReader_signed) (defBody s_SymbolReader_signed) (defScope s_SymbolReader_signed) .none kV29 dc29 pm29 an29 cd29 ct29), sl29⟩) (c29 : PySem.W.codeIn K cd29 "SymbolReader.signed" = true) (k29 : PySem.W.keepIn K (.ref f29) = true) (a30 : PySem.W.findIn K (.ref CSymbolWriter) "even" = some (some (.ref f30))) (b30 : PySem.W.isFn K (.ref f30) = true) (l30 : K.lookup f30 = some ⟨oc30, od30, .func (PySem.W.fnOf "even" "SymbolWriter.even" (defArgs s_SymbolWriter_even) (defBody s_SymbolWriter_even) (defScope s_SymbolWriter_even) .none kV30 dc30 pm30 an30 cd30 ct30), sl30⟩) (c30 : PySem.W.codeIn K cd30 "SymbolWriter.even" = true) (k30 : PySem.W.keepIn K (.ref f30) = true) (a31 : PySem.W.findIn K (.ref CSymbolReader) "even" = some (some (.ref f31))) (b31 : PySem.W.isFn K (.ref f31) = true) (l31 : K.lookup f31 = some ⟨oc31, od31, .func (PySem.W.fnOf "even" "SymbolReader.even" (defArgs s_SymbolReader_even) (defBody s_SymbolReader_even) (defScope s_SymbolReader_even) .none kV31 dc31 pm31 an31 cd31 ct31), sl31⟩) (c31 : PySem.W.codeIn K cd31 "SymbolReader.even" = true) (k31 : PySem.W.keepIn K (.ref f31) = true) (a32 : PySem.W.nsIn K mainGlobals "_law_put" = some (some (.ref f32))) (l32 : K.lookup f32 = some ⟨oc32, od32, .func (PySem.W.fnOf "_law_put" "_law_put" (defArgs s__law_put) (defBody s__law_put) (defScope s__law_put) .none kV32 dc32 pm32 an32 cd32 ct32), sl32⟩) (c32 : PySem.W.codeIn K cd32 "_law_put" = true) (k32 : PySem.W.keepIn K (.ref f32) = true) (a33 : PySem.W.findIn K (.ref CDecoder) "__init__" = some (some (.ref f33))) (b33 : PySem.W.isFn K (.ref f33) = true) (d33 : PySem.W.makesIn K CDecoder = true) (e33 : PySem.W.keepIn K (.ref CDecoder) = true) (l33 : K.lookup f33 = some ⟨oc33, od33, .func (PySem.W.fnOf "__init__" "Decoder.__init__" (defArgs s_Decoder___init__) (defBody s_Decoder___init__) (defScope s_Decoder___init__) .none kV33 dc33 pm33 an33 cd33 ct33), sl33⟩) (c33 : PySem.W.codeIn K cd33 "Decoder.__init__" = true) (k33 : PySem.W.keepIn K (.ref f33) = true) (a34 : PySem.W.nsIn K mainGlobals "_law_get" = some (some (.ref f34))) (l34 : K.lookup f34 = some ⟨oc34, od34, .func (PySem.W.fnOf "_law_get" "_law_get" (defArgs s__law_get) (defBody s__law_get) (defScope s__law_get) .none kV34 dc34 pm34 an34 cd34 ct34), sl34⟩) (c34 : PySem.W.codeIn K cd34 "_law_get" = true) (k34 : PySem.W.keepIn K (.ref f34) = true) (a35 : PySem.W.findIn K (.ref CEncoder) "octets" = some (some (.ref f35))) (b35 : PySem.W.isFn K (.ref f35) = true) (l35 : K.lookup f35 = some ⟨oc35, od35, .func (PySem.W.fnOf "octets" "Encoder.octets" (defArgs s_Encoder_octets) (defBody s_Encoder_octets) (defScope s_Encoder_octets) .none kV35 dc35 pm35 an35 cd35 ct35), sl35⟩) (c35 : PySem.W.codeIn K cd35 "Encoder.octets" = true) (k35 : PySem.W.keepIn K (.ref f35) = true) (a36 : PySem.W.nsIn K mainGlobals "law" = some (some (.ref f36))) (l36 : K.lookup f36 = some ⟨oc36, od36, .func (PySem.W.fnOf "law" "law" (defArgs s_law) (defBody s_law) (defScope s_law) .none kV36 dc36 pm36 an36 cd36 ct36), sl36⟩) (c36 : PySem.W.codeIn K cd36 "law" = true) (k36 : PySem.W.keepIn K (.ref f36) = true)
    (z0 : PySem.W.nsIn K mainGlobals "EVEN" = some (some (.int 2048 tk0))) (z1 : PySem.W.nsIn K mainGlobals "CONTEXTS_coder" = some (some (.int 256 tk1))) (z2 : PySem.W.nsIn K mainGlobals "WORD" = some (some (.int 4294967296 tk2))) (z3 : PySem.W.nsIn K mainGlobals "abs" = some none) (z4 : PySem.W.nsIn K mainGlobals "int" = some none) (z5 : PySem.W.nsIn K mainGlobals "min" = some none) (z6 : PySem.W.nsIn K mainGlobals "max" = some none) (z7 : PySem.W.nsIn K mainGlobals "CONTEXTS_symbols" = some (some (.int 256 tk7))) (z8 : PySem.W.nsIn K mainGlobals "SCALE" = some (some (.int 4096 tk8))) (z9 : PySem.W.nsIn K mainGlobals "RATE" = some (some (.int 5 tk9))) (z10 : PySem.W.nsIn K mainGlobals "len" = some none) (z11 : PySem.W.nsIn K mainGlobals "SCALE_BITS" = some (some (.int 12 tk11))) (z12 : PySem.W.nsIn K mainGlobals "LEAST_SPAN" = some (some (.int 16777216 tk12))) (z13 : PySem.W.nsIn K mainGlobals "MOST_CHOICES" = some (some (.int 16 tk13))) (z14 : PySem.W.nsIn K mainGlobals "range" = some none) (z15 : PySem.W.nsIn K mainGlobals "GREATEST_UNARY" = some (some (.int 64 tk15))) (z16 : PySem.W.nsIn K mainGlobals "SHARED" = some (some (.int 8 tk16))) (z17 : PySem.W.nsIn K mainGlobals "GREATEST_NUMBER" = some (some (.int 1048576 tk17))) (z18 : PySem.W.nsIn K mainGlobals "MOST_DIGITS" = some (some (.int 20 tk18))) (z19 : PySem.W.nsIn K mainGlobals "list" = some none) (z20 : PySem.W.nsIn K mainGlobals "isinstance" = some none) (z21 : PySem.W.nsIn K mainGlobals "bool" = some none) (yEncoder0 : PySem.W.plainGet K CEncoder Str.empty = true) (yEncoder1 : PySem.W.hasDictIn K CEncoder = true) (yEncoder2 : PySem.W.plainOver K CEncoder = true) (yEncoder3 : PySem.W.findIn K (.ref CEncoder) "__setattr__" = some (some (.builtin "object.__setattr__"))) (xEncoder0 : PySem.W.findIn K (.ref CEncoder) "_probabilities" = some none) (xEncoder1 : PySem.W.findIn K (.ref CEncoder) "_front" = some none) (xEncoder2 : PySem.W.findIn K (.ref CEncoder) "_low" = some none) (xEncoder3 : PySem.W.findIn K (.ref CEncoder) "_span" = some none) (ySymbolWriter0 : PySem.W.plainGet K CSymbolWriter Str.empty = true) (ySymbolWriter1 : PySem.W.hasDictIn K CSymbolWriter = true) (ySymbolWriter2 : PySem.W.plainOver K CSymbolWriter = true) (ySymbolWriter3 : PySem.W.findIn K (.ref CSymbolWriter) "__setattr__" = some (some (.builtin "object.__setattr__"))) (xSymbolWriter0 : PySem.W.findIn K (.ref CSymbolWriter) "_encoder" = some none) (ySymbolReader0 : PySem.W.plainGet K CSymbolReader Str.empty = true) (ySymbolReader1 : PySem.W.hasDictIn K CSymbolReader = true) (ySymbolReader2 : PySem.W.plainOver K CSymbolReader = true) (ySymbolReader3 : PySem.W.findIn K (.ref CSymbolReader) "__setattr__" = some (some (.builtin "object.__setattr__"))) (xSymbolReader0 : PySem.W.findIn K (.ref CSymbolReader) "_decoder" = some none) (yDecoder0 : PySem.W.plainGet K CDecoder Str.empty = true) (yDecoder1 : PySem.W.hasDictIn K CDecoder = true) (yDecoder2 : PySem.W.plainOver K CDecoder = true) (yDecoder3 : PySem.W.findIn K (.ref CDecoder) "__setattr__" = some (some (.builtin "object.__setattr__"))) (xDecoder0 : PySem.W.findIn K (.ref CDecoder) "_probabilities" = some none) (xDecoder1 : PySem.W.findIn K (.ref CDecoder) "_octets" = some none) (xDecoder2 : PySem.W.findIn K (.ref CDecoder) "_place" = some none) (xDecoder3 : PySem.W.findIn K (.ref CDecoder) "_span" = some none) (xDecoder4 : PySem.W.findIn K (.ref CDecoder) "_value" = some none) (exOutOfRange : PySem.W.excIn K XOutOfRange [.type "ValueError", .type "Exception", .type "BaseException", .type "object"] "ValueError.__new__" = true) (ekOutOfRange : PySem.W.keepIn K (.ref XOutOfRange) = true) (ebOutOfRange : PySem.W.subIn K (.ref XOutOfRange) (.type "BaseException") = some true) (etOutOfRange : PySem.W.typeIn K (.ref XOutOfRange) = some (.type "type")) :
    ∃ fd : FuncData, (∀ (s : Shared) (v : Value), BindsTo s fd ⟨[v], []⟩ [("script", v)]) ∧ ∀ base : Heap, K.In base → base.Ns mainGlobals mg → FnG l.prog w K mg base CX0 8 fa fd ["script"] (spL K) := by
  have e := hfa.symm.trans (PySem.W.mg_of X G a36)
  cases e
  have T : Txt K mg ⟨CEncoder, CSymbolWriter, CDecoder, CSymbolReader, fa, XOutOfRange, fa⟩ := ⟨⟨_, PySem.W.mg_of X G z0, ⟨_, rfl⟩⟩, ⟨_, PySem.W.mg_of X G z1, ⟨_, rfl⟩⟩, ⟨_, PySem.W.mg_of X G z2, ⟨_, rfl⟩⟩, PySem.W.mg_none_of X G z3, PySem.W.mg_none_of X G z4, PySem.W.mg_none_of X G z5, PySem.W.mg_none_of X G z6, ⟨_, PySem.W.mg_of X G z7, ⟨_, rfl⟩⟩, ⟨_, PySem.W.mg_of X G z8, ⟨_, rfl⟩⟩, ⟨_, PySem.W.mg_of X G z9, ⟨_, rfl⟩⟩, PySem.W.mg_none_of X G z10, ⟨_, PySem.W.mg_of X G z11, ⟨_, rfl⟩⟩, ⟨_, PySem.W.mg_of X G z12, ⟨_, rfl⟩⟩, ⟨_, PySem.W.mg_of X G z13, ⟨_, rfl⟩⟩, PySem.W.mg_none_of X G z14, ⟨_, PySem.W.mg_of X G z15, ⟨_, rfl⟩⟩, ⟨_, PySem.W.mg_of X G z16, ⟨_, rfl⟩⟩, ⟨_, PySem.W.mg_of X G z17, ⟨_, rfl⟩⟩, ⟨_, PySem.W.mg_of X G z18, ⟨_, rfl⟩⟩, PySem.W.mg_none_of X G z19, PySem.W.mg_none_of X G z20, PySem.W.mg_none_of X G z21, ⟨yEncoder0, yEncoder1, yEncoder2, yEncoder3⟩, xEncoder0, xEncoder1, xEncoder2, xEncoder3, ⟨ySymbolWriter0, ySymbolWriter1, ySymbolWriter2, ySymbolWriter3⟩, xSymbolWriter0, ⟨ySymbolReader0, ySymbolReader1, ySymbolReader2, ySymbolReader3⟩, xSymbolReader0, ⟨yDecoder0, yDecoder1, yDecoder2, yDecoder3⟩, xDecoder0, xDecoder1, xDecoder2, xDecoder3, xDecoder4, PySem.W.mg_of X G vOutOfRange, exOutOfRange, ekOutOfRange, ebOutOfRange, etOutOfRange⟩
  have F0 : FunD K "__init__" "Encoder.__init__" (defArgs s_Encoder___init__) (defBody s_Encoder___init__) (defScope s_Encoder___init__) [] [] f0 _ := ⟨⟨_, _, _, _, _, _, _, _, _, _, rfl, l0, c0, .inl ⟨rfl, rfl⟩, .inl rfl⟩, k0⟩
  have D_0 : InitX K mg CEncoder "Encoder" "Encoder.__init__" s_Encoder___init__ ["self"] pats_Encoder___init__ := ⟨_, _, _, _, F0, ⟨d0, a0, b0, e0⟩, PySem.W.mg_of X G wEncoder, (all_consQ (Bnd.all fun us ws vs zs l1 l2 r rz => by
      obtain ⟨u0, rfl⟩ := len1 (r.length.symm.trans l1)
      obtain rfl := len0 (rz.length.symm.trans l2)
      cases r with | cons r0 r =>
        cases r
        cases rz
        exact ⟨[u0], rfl, (.cons r0 .nil)⟩) all_nilQ)⟩
  have F1 : FunD K "__init__" "SymbolWriter.__init__" (defArgs s_SymbolWriter___init__) (defBody s_SymbolWriter___init__) (defScope s_SymbolWriter___init__) [] [] f1 _ := ⟨⟨_, _, _, _, _, _, _, _, _, _, rfl, l1, c1, .inl ⟨rfl, rfl⟩, .inl rfl⟩, k1⟩
  have D_1 : InitX K mg CSymbolWriter "SymbolWriter" "SymbolWriter.__init__" s_SymbolWriter___init__ ["self", "encoder"] pats_SymbolWriter___init__ := ⟨_, _, _, _, F1, ⟨d1, a1, b1, e1⟩, PySem.W.mg_of X G wSymbolWriter, (all_consQ (Bnd.all fun us ws vs zs l1 l2 r rz => by
      obtain ⟨u0, u1, rfl⟩ := len2 (r.length.symm.trans l1)
      obtain rfl := len0 (rz.length.symm.trans l2)
      cases r with | cons r0 r =>
        cases r with | cons r1 r =>
          cases r
          cases rz
          exact ⟨[u0, u1], rfl, (.cons r0 (.cons r1 .nil))⟩) all_nilQ)⟩
  have F2 : FunD K "__init__" "SymbolReader.__init__" (defArgs s_SymbolReader___init__) (defBody s_SymbolReader___init__) (defScope s_SymbolReader___init__) [] [] f2 _ := ⟨⟨_, _, _, _, _, _, _, _, _, _, rfl, l2, c2, .inl ⟨rfl, rfl⟩, .inl rfl⟩, k2⟩
  have D_2 : InitX K mg CSymbolReader "SymbolReader" "SymbolReader.__init__" s_SymbolReader___init__ ["self", "decoder"] pats_SymbolReader___init__ := ⟨_, _, _, _, F2, ⟨d2, a2, b2, e2⟩, PySem.W.mg_of X G wSymbolReader, (all_consQ (Bnd.all fun us ws vs zs l1 l2 r rz => by
      obtain ⟨u0, u1, rfl⟩ := len2 (r.length.symm.trans l1)
      obtain rfl := len0 (rz.length.symm.trans l2)
      cases r with | cons r0 r =>
        cases r with | cons r1 r =>
          cases r
          cases rz
          exact ⟨[u0, u1], rfl, (.cons r0 (.cons r1 .nil))⟩) all_nilQ)⟩
  have F3 : FunD K "_law_draws" "_law_draws" (defArgs s__law_draws) (defBody s__law_draws) (defScope s__law_draws) [] [] f3 _ := ⟨⟨_, _, _, _, _, _, _, _, _, _, rfl, l3, c3, .inl ⟨rfl, rfl⟩, .inl rfl⟩, k3⟩
  have D_3 : DefX K mg "_law_draws" s__law_draws ["cell", "limits"] pats__law_draws := ⟨_, _, _, _, F3, PySem.W.mg_of X G a3, (all_consQ (Bnd.all fun us ws vs zs l1 l2 r rz => by
      obtain ⟨u0, u1, rfl⟩ := len2 (r.length.symm.trans l1)
      obtain rfl := len0 (rz.length.symm.trans l2)
      cases r with | cons r0 r =>
        cases r with | cons r1 r =>
          cases r
          cases rz
          exact ⟨[u0, u1], rfl, (.cons r0 (.cons r1 .nil))⟩) all_nilQ)⟩
  have F4 : FunD K "_law_symbol" "_law_symbol" (defArgs s__law_symbol) (defBody s__law_symbol) (defScope s__law_symbol) [] [] f4 _ := ⟨⟨_, _, _, _, _, _, _, _, _, _, rfl, l4, c4, .inl ⟨rfl, rfl⟩, .inl rfl⟩, k4⟩
  have D_4 : DefX K mg "_law_symbol" s__law_symbol ["cell"] pats__law_symbol := ⟨_, _, _, _, F4, PySem.W.mg_of X G a4, (all_consQ (Bnd.all fun us ws vs zs l1 l2 r rz => by
      obtain ⟨u0, rfl⟩ := len1 (r.length.symm.trans l1)
      obtain rfl := len0 (rz.length.symm.trans l2)
      cases r with | cons r0 r =>
        cases r
        cases rz
        exact ⟨[u0], rfl, (.cons r0 .nil)⟩) all_nilQ)⟩
  have F5 : FunD K "_check_contexts" "_check_contexts" (defArgs s__check_contexts) (defBody s__check_contexts) (defScope s__check_contexts) [] [] f5 _ := ⟨⟨_, _, _, _, _, _, _, _, _, _, rfl, l5, c5, .inl ⟨rfl, rfl⟩, .inl rfl⟩, k5⟩
  have D_5 : DefX K mg "_check_contexts" s__check_contexts ["base", "count"] pats__check_contexts := ⟨_, _, _, _, F5, PySem.W.mg_of X G a5, (all_consQ (Bnd.all fun us ws vs zs l1 l2 r rz => by
      obtain ⟨u0, u1, rfl⟩ := len2 (r.length.symm.trans l1)
      obtain rfl := len0 (rz.length.symm.trans l2)
      cases r with | cons r0 r =>
        cases r with | cons r1 r =>
          cases r
          cases rz
          exact ⟨[u0, u1], rfl, (.cons r0 (.cons r1 .nil))⟩) all_nilQ)⟩
  have F6 : FunD K "_check_context" "_check_context" (defArgs s__check_context) (defBody s__check_context) (defScope s__check_context) [] [] f6 _ := ⟨⟨_, _, _, _, _, _, _, _, _, _, rfl, l6, c6, .inl ⟨rfl, rfl⟩, .inl rfl⟩, k6⟩
  have D_6 : DefX K mg "_check_context" s__check_context ["context"] pats__check_context := ⟨_, _, _, _, F6, PySem.W.mg_of X G a6, (all_consQ (Bnd.all fun us ws vs zs l1 l2 r rz => by
      obtain ⟨u0, rfl⟩ := len1 (r.length.symm.trans l1)
      obtain rfl := len0 (rz.length.symm.trans l2)
      cases r with | cons r0 r =>
        cases r
        cases rz
        exact ⟨[u0], rfl, (.cons r0 .nil)⟩) all_nilQ)⟩
  have F7 : FunD K "_check_decision" "_check_decision" (defArgs s__check_decision) (defBody s__check_decision) (defScope s__check_decision) [] [] f7 _ := ⟨⟨_, _, _, _, _, _, _, _, _, _, rfl, l7, c7, .inl ⟨rfl, rfl⟩, .inl rfl⟩, k7⟩
  have D_7 : DefX K mg "_check_decision" s__check_decision ["decision"] pats__check_decision := ⟨_, _, _, _, F7, PySem.W.mg_of X G a7, (all_consQ (Bnd.all fun us ws vs zs l1 l2 r rz => by
      obtain ⟨u0, rfl⟩ := len1 (r.length.symm.trans l1)
      obtain rfl := len0 (rz.length.symm.trans l2)
      cases r with | cons r0 r =>
        cases r
        cases rz
        exact ⟨[u0], rfl, (.cons r0 .nil)⟩) all_nilQ)⟩
  have F8 : FunD K "_adapted" "_adapted" (defArgs s__adapted) (defBody s__adapted) (defScope s__adapted) [] [] f8 _ := ⟨⟨_, _, _, _, _, _, _, _, _, _, rfl, l8, c8, .inl ⟨rfl, rfl⟩, .inl rfl⟩, k8⟩
  have D_8 : DefX K mg "_adapted" s__adapted ["chance", "decision"] pats__adapted := ⟨_, _, _, _, F8, PySem.W.mg_of X G a8, (all_consQ (Bnd.all fun us ws vs zs l1 l2 r rz => by
      obtain ⟨u0, u1, rfl⟩ := len2 (r.length.symm.trans l1)
      obtain rfl := len0 (rz.length.symm.trans l2)
      cases r with | cons r0 r =>
        cases r with | cons r1 r =>
          cases r
          cases rz
          exact ⟨[u0, u1], rfl, (.cons r0 (.cons r1 .nil))⟩) all_nilQ)⟩
  have F9 : FunD K "_carry" "Encoder._carry" (defArgs s_Encoder__carry) (defBody s_Encoder__carry) (defScope s_Encoder__carry) [] [] f9 _ := ⟨⟨_, _, _, _, _, _, _, _, _, _, rfl, l9, c9, .inl ⟨rfl, rfl⟩, .inl rfl⟩, k9⟩
  have D_9 : MethX K CEncoder "Encoder._carry" "_carry" s_Encoder__carry ["self"] pats_Encoder__carry := ⟨_, _, _, _, F9, ⟨a9, b9, k9⟩, (all_consQ (Bnd.all fun us ws vs zs l1 l2 r rz => by
      obtain ⟨u0, rfl⟩ := len1 (r.length.symm.trans l1)
      obtain rfl := len0 (rz.length.symm.trans l2)
      cases r with | cons r0 r =>
        cases r
        cases rz
        exact ⟨[u0], rfl, (.cons r0 .nil)⟩) all_nilQ)⟩
  have F10 : FunD K "_narrow" "Encoder._narrow" (defArgs s_Encoder__narrow) (defBody s_Encoder__narrow) (defScope s_Encoder__narrow) [] [] f10 _ := ⟨⟨_, _, _, _, _, _, _, _, _, _, rfl, l10, c10, .inl ⟨rfl, rfl⟩, .inl rfl⟩, k10⟩
  have D_10 : MethX K CEncoder "Encoder._narrow" "_narrow" s_Encoder__narrow ["self", "chance", "decision"] pats_Encoder__narrow := ⟨_, _, _, _, F10, ⟨a10, b10, k10⟩, (all_consQ (Bnd.all fun us ws vs zs l1 l2 r rz => by
      obtain ⟨u0, u1, u2, rfl⟩ := len3 (r.length.symm.trans l1)
      obtain rfl := len0 (rz.length.symm.trans l2)
      cases r with | cons r0 r =>
        cases r with | cons r1 r =>
          cases r with | cons r2 r =>
            cases r
            cases rz
            exact ⟨[u0, u1, u2], rfl, (.cons r0 (.cons r1 (.cons r2 .nil)))⟩) all_nilQ)⟩
  have F11 : FunD K "code" "Encoder.code" (defArgs s_Encoder_code) (defBody s_Encoder_code) (defScope s_Encoder_code) [] [] f11 _ := ⟨⟨_, _, _, _, _, _, _, _, _, _, rfl, l11, c11, .inl ⟨rfl, rfl⟩, .inl rfl⟩, k11⟩
  have D_11 : MethX K CEncoder "Encoder.code" "code" s_Encoder_code ["self", "context", "decision"] pats_Encoder_code := ⟨_, _, _, _, F11, ⟨a11, b11, k11⟩, (all_consQ (Bnd.all fun us ws vs zs l1 l2 r rz => by
      obtain ⟨u0, u1, u2, rfl⟩ := len3 (r.length.symm.trans l1)
      obtain rfl := len0 (rz.length.symm.trans l2)
      cases r with | cons r0 r =>
        cases r with | cons r1 r =>
          cases r with | cons r2 r =>
            cases r
            cases rz
            exact ⟨[u0, u1, u2], rfl, (.cons r0 (.cons r1 (.cons r2 .nil)))⟩) all_nilQ)⟩
  have F12 : FunD K "flag" "SymbolWriter.flag" (defArgs s_SymbolWriter_flag) (defBody s_SymbolWriter_flag) (defScope s_SymbolWriter_flag) [] [] f12 _ := ⟨⟨_, _, _, _, _, _, _, _, _, _, rfl, l12, c12, .inl ⟨rfl, rfl⟩, .inl rfl⟩, k12⟩
  have D_12 : MethX K CSymbolWriter "SymbolWriter.flag" "flag" s_SymbolWriter_flag ["self", "base", "value"] pats_SymbolWriter_flag := ⟨_, _, _, _, F12, ⟨a12, b12, k12⟩, (all_consQ (Bnd.all fun us ws vs zs l1 l2 r rz => by
      obtain ⟨u0, u1, u2, rfl⟩ := len3 (r.length.symm.trans l1)
      obtain rfl := len0 (rz.length.symm.trans l2)
      cases r with | cons r0 r =>
        cases r with | cons r1 r =>
          cases r with | cons r2 r =>
            cases r
            cases rz
            exact ⟨[u0, u1, u2], rfl, (.cons r0 (.cons r1 (.cons r2 .nil)))⟩) all_nilQ)⟩
  have F13 : FunD K "_shift" "Decoder._shift" (defArgs s_Decoder__shift) (defBody s_Decoder__shift) (defScope s_Decoder__shift) [] [] f13 _ := ⟨⟨_, _, _, _, _, _, _, _, _, _, rfl, l13, c13, .inl ⟨rfl, rfl⟩, .inl rfl⟩, k13⟩
  have D_13 : MethX K CDecoder "Decoder._shift" "_shift" s_Decoder__shift ["self"] pats_Decoder__shift := ⟨_, _, _, _, F13, ⟨a13, b13, k13⟩, (all_consQ (Bnd.all fun us ws vs zs l1 l2 r rz => by
      obtain ⟨u0, rfl⟩ := len1 (r.length.symm.trans l1)
      obtain rfl := len0 (rz.length.symm.trans l2)
      cases r with | cons r0 r =>
        cases r
        cases rz
        exact ⟨[u0], rfl, (.cons r0 .nil)⟩) all_nilQ)⟩
  have F14 : FunD K "_decide" "Decoder._decide" (defArgs s_Decoder__decide) (defBody s_Decoder__decide) (defScope s_Decoder__decide) [] [] f14 _ := ⟨⟨_, _, _, _, _, _, _, _, _, _, rfl, l14, c14, .inl ⟨rfl, rfl⟩, .inl rfl⟩, k14⟩
  have D_14 : MethX K CDecoder "Decoder._decide" "_decide" s_Decoder__decide ["self", "chance"] pats_Decoder__decide := ⟨_, _, _, _, F14, ⟨a14, b14, k14⟩, (all_consQ (Bnd.all fun us ws vs zs l1 l2 r rz => by
      obtain ⟨u0, u1, rfl⟩ := len2 (r.length.symm.trans l1)
      obtain rfl := len0 (rz.length.symm.trans l2)
      cases r with | cons r0 r =>
        cases r with | cons r1 r =>
          cases r
          cases rz
          exact ⟨[u0, u1], rfl, (.cons r0 (.cons r1 .nil))⟩) all_nilQ)⟩
  have F15 : FunD K "read" "Decoder.read" (defArgs s_Decoder_read) (defBody s_Decoder_read) (defScope s_Decoder_read) [] [] f15 _ := ⟨⟨_, _, _, _, _, _, _, _, _, _, rfl, l15, c15, .inl ⟨rfl, rfl⟩, .inl rfl⟩, k15⟩
  have D_15 : MethX K CDecoder "Decoder.read" "read" s_Decoder_read ["self", "context"] pats_Decoder_read := ⟨_, _, _, _, F15, ⟨a15, b15, k15⟩, (all_consQ (Bnd.all fun us ws vs zs l1 l2 r rz => by
      obtain ⟨u0, u1, rfl⟩ := len2 (r.length.symm.trans l1)
      obtain rfl := len0 (rz.length.symm.trans l2)
      cases r with | cons r0 r =>
        cases r with | cons r1 r =>
          cases r
          cases rz
          exact ⟨[u0, u1], rfl, (.cons r0 (.cons r1 .nil))⟩) all_nilQ)⟩
  have F16 : FunD K "flag" "SymbolReader.flag" (defArgs s_SymbolReader_flag) (defBody s_SymbolReader_flag) (defScope s_SymbolReader_flag) [] [] f16 _ := ⟨⟨_, _, _, _, _, _, _, _, _, _, rfl, l16, c16, .inl ⟨rfl, rfl⟩, .inl rfl⟩, k16⟩
  have D_16 : MethX K CSymbolReader "SymbolReader.flag" "flag" s_SymbolReader_flag ["self", "base"] pats_SymbolReader_flag := ⟨_, _, _, _, F16, ⟨a16, b16, k16⟩, (all_consQ (Bnd.all fun us ws vs zs l1 l2 r rz => by
      obtain ⟨u0, u1, rfl⟩ := len2 (r.length.symm.trans l1)
      obtain rfl := len0 (rz.length.symm.trans l2)
      cases r with | cons r0 r =>
        cases r with | cons r1 r =>
          cases r
          cases rz
          exact ⟨[u0, u1], rfl, (.cons r0 (.cons r1 .nil))⟩) all_nilQ)⟩
  have F17 : FunD K "_choice_digits" "_choice_digits" (defArgs s__choice_digits) (defBody s__choice_digits) (defScope s__choice_digits) [] [] f17 _ := ⟨⟨_, _, _, _, _, _, _, _, _, _, rfl, l17, c17, .inl ⟨rfl, rfl⟩, .inl rfl⟩, k17⟩
  have D_17 : DefX K mg "_choice_digits" s__choice_digits ["base", "count"] pats__choice_digits := ⟨_, _, _, _, F17, PySem.W.mg_of X G a17, (all_consQ (Bnd.all fun us ws vs zs l1 l2 r rz => by
      obtain ⟨u0, u1, rfl⟩ := len2 (r.length.symm.trans l1)
      obtain rfl := len0 (rz.length.symm.trans l2)
      cases r with | cons r0 r =>
        cases r with | cons r1 r =>
          cases r
          cases rz
          exact ⟨[u0, u1], rfl, (.cons r0 (.cons r1 .nil))⟩) all_nilQ)⟩
  have F18 : FunD K "choice" "SymbolWriter.choice" (defArgs s_SymbolWriter_choice) (defBody s_SymbolWriter_choice) (defScope s_SymbolWriter_choice) [] [] f18 _ := ⟨⟨_, _, _, _, _, _, _, _, _, _, rfl, l18, c18, .inl ⟨rfl, rfl⟩, .inl rfl⟩, k18⟩
  have D_18 : MethX K CSymbolWriter "SymbolWriter.choice" "choice" s_SymbolWriter_choice ["self", "base", "value", "count"] pats_SymbolWriter_choice := ⟨_, _, _, _, F18, ⟨a18, b18, k18⟩, (all_consQ (Bnd.all fun us ws vs zs l1 l2 r rz => by
      obtain ⟨u0, u1, u2, rfl⟩ := len3 (r.length.symm.trans l1)
      obtain ⟨w0, rfl⟩ := len1 (rz.length.symm.trans l2)
      cases r with | cons r0 r =>
        cases r with | cons r1 r =>
          cases r with | cons r2 r =>
            cases r
            cases rz with | cons q0 rz =>
              cases rz
              exact ⟨[u0, u1, u2, w0], rfl, (.cons r0 (.cons r1 (.cons r2 (.cons q0 .nil))))⟩) all_nilQ)⟩
  have F19 : FunD K "choice" "SymbolReader.choice" (defArgs s_SymbolReader_choice) (defBody s_SymbolReader_choice) (defScope s_SymbolReader_choice) [] [] f19 _ := ⟨⟨_, _, _, _, _, _, _, _, _, _, rfl, l19, c19, .inl ⟨rfl, rfl⟩, .inl rfl⟩, k19⟩
  have D_19 : MethX K CSymbolReader "SymbolReader.choice" "choice" s_SymbolReader_choice ["self", "base", "count"] pats_SymbolReader_choice := ⟨_, _, _, _, F19, ⟨a19, b19, k19⟩, (all_consQ (Bnd.all fun us ws vs zs l1 l2 r rz => by
      obtain ⟨u0, u1, rfl⟩ := len2 (r.length.symm.trans l1)
      obtain ⟨w0, rfl⟩ := len1 (rz.length.symm.trans l2)
      cases r with | cons r0 r =>
        cases r with | cons r1 r =>
          cases r
          cases rz with | cons q0 rz =>
            cases rz
            exact ⟨[u0, u1, w0], rfl, (.cons r0 (.cons r1 (.cons q0 .nil)))⟩) all_nilQ)⟩
  have F20 : FunD K "_check_unary" "_check_unary" (defArgs s__check_unary) (defBody s__check_unary) (defScope s__check_unary) [] [] f20 _ := ⟨⟨_, _, _, _, _, _, _, _, _, _, rfl, l20, c20, .inl ⟨rfl, rfl⟩, .inl rfl⟩, k20⟩
  have D_20 : DefX K mg "_check_unary" s__check_unary ["base", "most"] pats__check_unary := ⟨_, _, _, _, F20, PySem.W.mg_of X G a20, (all_consQ (Bnd.all fun us ws vs zs l1 l2 r rz => by
      obtain ⟨u0, u1, rfl⟩ := len2 (r.length.symm.trans l1)
      obtain rfl := len0 (rz.length.symm.trans l2)
      cases r with | cons r0 r =>
        cases r with | cons r1 r =>
          cases r
          cases rz
          exact ⟨[u0, u1], rfl, (.cons r0 (.cons r1 .nil))⟩) all_nilQ)⟩
  have F21 : FunD K "unary" "SymbolWriter.unary" (defArgs s_SymbolWriter_unary) (defBody s_SymbolWriter_unary) (defScope s_SymbolWriter_unary) [] [] f21 _ := ⟨⟨_, _, _, _, _, _, _, _, _, _, rfl, l21, c21, .inl ⟨rfl, rfl⟩, .inl rfl⟩, k21⟩
  have D_21 : MethX K CSymbolWriter "SymbolWriter.unary" "unary" s_SymbolWriter_unary ["self", "base", "value", "most"] pats_SymbolWriter_unary := ⟨_, _, _, _, F21, ⟨a21, b21, k21⟩, (all_consQ (Bnd.all fun us ws vs zs l1 l2 r rz => by
      obtain ⟨u0, u1, u2, rfl⟩ := len3 (r.length.symm.trans l1)
      obtain ⟨w0, rfl⟩ := len1 (rz.length.symm.trans l2)
      cases r with | cons r0 r =>
        cases r with | cons r1 r =>
          cases r with | cons r2 r =>
            cases r
            cases rz with | cons q0 rz =>
              cases rz
              exact ⟨[u0, u1, u2, w0], rfl, (.cons r0 (.cons r1 (.cons r2 (.cons q0 .nil))))⟩) all_nilQ)⟩
  have F22 : FunD K "unary" "SymbolReader.unary" (defArgs s_SymbolReader_unary) (defBody s_SymbolReader_unary) (defScope s_SymbolReader_unary) [] [] f22 _ := ⟨⟨_, _, _, _, _, _, _, _, _, _, rfl, l22, c22, .inl ⟨rfl, rfl⟩, .inl rfl⟩, k22⟩
  have D_22 : MethX K CSymbolReader "SymbolReader.unary" "unary" s_SymbolReader_unary ["self", "base", "most"] pats_SymbolReader_unary := ⟨_, _, _, _, F22, ⟨a22, b22, k22⟩, (all_consQ (Bnd.all fun us ws vs zs l1 l2 r rz => by
      obtain ⟨u0, u1, rfl⟩ := len2 (r.length.symm.trans l1)
      obtain ⟨w0, rfl⟩ := len1 (rz.length.symm.trans l2)
      cases r with | cons r0 r =>
        cases r with | cons r1 r =>
          cases r
          cases rz with | cons q0 rz =>
            cases rz
            exact ⟨[u0, u1, w0], rfl, (.cons r0 (.cons r1 (.cons q0 .nil)))⟩) all_nilQ)⟩
  have F23 : FunD K "_digit_context" "_digit_context" (defArgs s__digit_context) (defBody s__digit_context) (defScope s__digit_context) [] [] f23 _ := ⟨⟨_, _, _, _, _, _, _, _, _, _, rfl, l23, c23, .inl ⟨rfl, rfl⟩, .inl rfl⟩, k23⟩
  have D_23 : DefX K mg "_digit_context" s__digit_context ["base", "digits"] pats__digit_context := ⟨_, _, _, _, F23, PySem.W.mg_of X G a23, (all_consQ (Bnd.all fun us ws vs zs l1 l2 r rz => by
      obtain ⟨u0, u1, rfl⟩ := len2 (r.length.symm.trans l1)
      obtain rfl := len0 (rz.length.symm.trans l2)
      cases r with | cons r0 r =>
        cases r with | cons r1 r =>
          cases r
          cases rz
          exact ⟨[u0, u1], rfl, (.cons r0 (.cons r1 .nil))⟩) all_nilQ)⟩
  have F24 : FunD K "code_even" "Encoder.code_even" (defArgs s_Encoder_code_even) (defBody s_Encoder_code_even) (defScope s_Encoder_code_even) [] [] f24 _ := ⟨⟨_, _, _, _, _, _, _, _, _, _, rfl, l24, c24, .inl ⟨rfl, rfl⟩, .inl rfl⟩, k24⟩
  have D_24 : MethX K CEncoder "Encoder.code_even" "code_even" s_Encoder_code_even ["self", "decision"] pats_Encoder_code_even := ⟨_, _, _, _, F24, ⟨a24, b24, k24⟩, (all_consQ (Bnd.all fun us ws vs zs l1 l2 r rz => by
      obtain ⟨u0, u1, rfl⟩ := len2 (r.length.symm.trans l1)
      obtain rfl := len0 (rz.length.symm.trans l2)
      cases r with | cons r0 r =>
        cases r with | cons r1 r =>
          cases r
          cases rz
          exact ⟨[u0, u1], rfl, (.cons r0 (.cons r1 .nil))⟩) all_nilQ)⟩
  have F25 : FunD K "number" "SymbolWriter.number" (defArgs s_SymbolWriter_number) (defBody s_SymbolWriter_number) (defScope s_SymbolWriter_number) [] [] f25 _ := ⟨⟨_, _, _, _, _, _, _, _, _, _, rfl, l25, c25, .inl ⟨rfl, rfl⟩, .inl rfl⟩, k25⟩
  have D_25 : MethX K CSymbolWriter "SymbolWriter.number" "number" s_SymbolWriter_number ["self", "base", "value"] pats_SymbolWriter_number := ⟨_, _, _, _, F25, ⟨a25, b25, k25⟩, (all_consQ (Bnd.all fun us ws vs zs l1 l2 r rz => by
      obtain ⟨u0, u1, u2, rfl⟩ := len3 (r.length.symm.trans l1)
      obtain rfl := len0 (rz.length.symm.trans l2)
      cases r with | cons r0 r =>
        cases r with | cons r1 r =>
          cases r with | cons r2 r =>
            cases r
            cases rz
            exact ⟨[u0, u1, u2], rfl, (.cons r0 (.cons r1 (.cons r2 .nil)))⟩) all_nilQ)⟩
  have F26 : FunD K "read_even" "Decoder.read_even" (defArgs s_Decoder_read_even) (defBody s_Decoder_read_even) (defScope s_Decoder_read_even) [] [] f26 _ := ⟨⟨_, _, _, _, _, _, _, _, _, _, rfl, l26, c26, .inl ⟨rfl, rfl⟩, .inl rfl⟩, k26⟩
  have D_26 : MethX K CDecoder "Decoder.read_even" "read_even" s_Decoder_read_even ["self"] pats_Decoder_read_even := ⟨_, _, _, _, F26, ⟨a26, b26, k26⟩, (all_consQ (Bnd.all fun us ws vs zs l1 l2 r rz => by
      obtain ⟨u0, rfl⟩ := len1 (r.length.symm.trans l1)
      obtain rfl := len0 (rz.length.symm.trans l2)
      cases r with | cons r0 r =>
        cases r
        cases rz
        exact ⟨[u0], rfl, (.cons r0 .nil)⟩) all_nilQ)⟩
  have F27 : FunD K "number" "SymbolReader.number" (defArgs s_SymbolReader_number) (defBody s_SymbolReader_number) (defScope s_SymbolReader_number) [] [] f27 _ := ⟨⟨_, _, _, _, _, _, _, _, _, _, rfl, l27, c27, .inl ⟨rfl, rfl⟩, .inl rfl⟩, k27⟩
  have D_27 : MethX K CSymbolReader "SymbolReader.number" "number" s_SymbolReader_number ["self", "base"] pats_SymbolReader_number := ⟨_, _, _, _, F27, ⟨a27, b27, k27⟩, (all_consQ (Bnd.all fun us ws vs zs l1 l2 r rz => by
      obtain ⟨u0, u1, rfl⟩ := len2 (r.length.symm.trans l1)
      obtain rfl := len0 (rz.length.symm.trans l2)
      cases r with | cons r0 r =>
        cases r with | cons r1 r =>
          cases r
          cases rz
          exact ⟨[u0, u1], rfl, (.cons r0 (.cons r1 .nil))⟩) all_nilQ)⟩
  have F28 : FunD K "signed" "SymbolWriter.signed" (defArgs s_SymbolWriter_signed) (defBody s_SymbolWriter_signed) (defScope s_SymbolWriter_signed) [] [] f28 _ := ⟨⟨_, _, _, _, _, _, _, _, _, _, rfl, l28, c28, .inl ⟨rfl, rfl⟩, .inl rfl⟩, k28⟩
  have D_28 : MethX K CSymbolWriter "SymbolWriter.signed" "signed" s_SymbolWriter_signed ["self", "base", "value"] pats_SymbolWriter_signed := ⟨_, _, _, _, F28, ⟨a28, b28, k28⟩, (all_consQ (Bnd.all fun us ws vs zs l1 l2 r rz => by
      obtain ⟨u0, u1, u2, rfl⟩ := len3 (r.length.symm.trans l1)
      obtain rfl := len0 (rz.length.symm.trans l2)
      cases r with | cons r0 r =>
        cases r with | cons r1 r =>
          cases r with | cons r2 r =>
            cases r
            cases rz
            exact ⟨[u0, u1, u2], rfl, (.cons r0 (.cons r1 (.cons r2 .nil)))⟩) all_nilQ)⟩
  have F29 : FunD K "signed" "SymbolReader.signed" (defArgs s_SymbolReader_signed) (defBody s_SymbolReader_signed) (defScope s_SymbolReader_signed) [] [] f29 _ := ⟨⟨_, _, _, _, _, _, _, _, _, _, rfl, l29, c29, .inl ⟨rfl, rfl⟩, .inl rfl⟩, k29⟩
  have D_29 : MethX K CSymbolReader "SymbolReader.signed" "signed" s_SymbolReader_signed ["self", "base"] pats_SymbolReader_signed := ⟨_, _, _, _, F29, ⟨a29, b29, k29⟩, (all_consQ (Bnd.all fun us ws vs zs l1 l2 r rz => by
      obtain ⟨u0, u1, rfl⟩ := len2 (r.length.symm.trans l1)
      obtain rfl := len0 (rz.length.symm.trans l2)
      cases r with | cons r0 r =>
        cases r with | cons r1 r =>
          cases r
          cases rz
          exact ⟨[u0, u1], rfl, (.cons r0 (.cons r1 .nil))⟩) all_nilQ)⟩
  have F30 : FunD K "even" "SymbolWriter.even" (defArgs s_SymbolWriter_even) (defBody s_SymbolWriter_even) (defScope s_SymbolWriter_even) [] [] f30 _ := ⟨⟨_, _, _, _, _, _, _, _, _, _, rfl, l30, c30, .inl ⟨rfl, rfl⟩, .inl rfl⟩, k30⟩
  have D_30 : MethX K CSymbolWriter "SymbolWriter.even" "even" s_SymbolWriter_even ["self", "decision"] pats_SymbolWriter_even := ⟨_, _, _, _, F30, ⟨a30, b30, k30⟩, (all_consQ (Bnd.all fun us ws vs zs l1 l2 r rz => by
      obtain ⟨u0, u1, rfl⟩ := len2 (r.length.symm.trans l1)
      obtain rfl := len0 (rz.length.symm.trans l2)
      cases r with | cons r0 r =>
        cases r with | cons r1 r =>
          cases r
          cases rz
          exact ⟨[u0, u1], rfl, (.cons r0 (.cons r1 .nil))⟩) all_nilQ)⟩
  have F31 : FunD K "even" "SymbolReader.even" (defArgs s_SymbolReader_even) (defBody s_SymbolReader_even) (defScope s_SymbolReader_even) [] [] f31 _ := ⟨⟨_, _, _, _, _, _, _, _, _, _, rfl, l31, c31, .inl ⟨rfl, rfl⟩, .inl rfl⟩, k31⟩
  have D_31 : MethX K CSymbolReader "SymbolReader.even" "even" s_SymbolReader_even ["self"] pats_SymbolReader_even := ⟨_, _, _, _, F31, ⟨a31, b31, k31⟩, (all_consQ (Bnd.all fun us ws vs zs l1 l2 r rz => by
      obtain ⟨u0, rfl⟩ := len1 (r.length.symm.trans l1)
      obtain rfl := len0 (rz.length.symm.trans l2)
      cases r with | cons r0 r =>
        cases r
        cases rz
        exact ⟨[u0], rfl, (.cons r0 .nil)⟩) all_nilQ)⟩
  have F32 : FunD K "_law_put" "_law_put" (defArgs s__law_put) (defBody s__law_put) (defScope s__law_put) [] [] f32 _ := ⟨⟨_, _, _, _, _, _, _, _, _, _, rfl, l32, c32, .inl ⟨rfl, rfl⟩, .inl rfl⟩, k32⟩
  have D_32 : DefX K mg "_law_put" s__law_put ["writer", "symbol"] pats__law_put := ⟨_, _, _, _, F32, PySem.W.mg_of X G a32, (all_consQ (Bnd.all fun us ws vs zs l1 l2 r rz => by
      obtain ⟨u0, u1, rfl⟩ := len2 (r.length.symm.trans l1)
      obtain rfl := len0 (rz.length.symm.trans l2)
      cases r with | cons r0 r =>
        cases r with | cons r1 r =>
          cases r
          cases rz
          exact ⟨[u0, u1], rfl, (.cons r0 (.cons r1 .nil))⟩) all_nilQ)⟩
  have F33 : FunD K "__init__" "Decoder.__init__" (defArgs s_Decoder___init__) (defBody s_Decoder___init__) (defScope s_Decoder___init__) [] [] f33 _ := ⟨⟨_, _, _, _, _, _, _, _, _, _, rfl, l33, c33, .inl ⟨rfl, rfl⟩, .inl rfl⟩, k33⟩
  have D_33 : InitX K mg CDecoder "Decoder" "Decoder.__init__" s_Decoder___init__ ["self", "octets"] pats_Decoder___init__ := ⟨_, _, _, _, F33, ⟨d33, a33, b33, e33⟩, PySem.W.mg_of X G wDecoder, (all_consQ (Bnd.all fun us ws vs zs l1 l2 r rz => by
      obtain ⟨u0, u1, rfl⟩ := len2 (r.length.symm.trans l1)
      obtain rfl := len0 (rz.length.symm.trans l2)
      cases r with | cons r0 r =>
        cases r with | cons r1 r =>
          cases r
          cases rz
          exact ⟨[u0, u1], rfl, (.cons r0 (.cons r1 .nil))⟩) all_nilQ)⟩
  have F34 : FunD K "_law_get" "_law_get" (defArgs s__law_get) (defBody s__law_get) (defScope s__law_get) [] [] f34 _ := ⟨⟨_, _, _, _, _, _, _, _, _, _, rfl, l34, c34, .inl ⟨rfl, rfl⟩, .inl rfl⟩, k34⟩
  have D_34 : DefX K mg "_law_get" s__law_get ["reader", "symbol"] pats__law_get := ⟨_, _, _, _, F34, PySem.W.mg_of X G a34, (all_consQ (Bnd.all fun us ws vs zs l1 l2 r rz => by
      obtain ⟨u0, u1, rfl⟩ := len2 (r.length.symm.trans l1)
      obtain rfl := len0 (rz.length.symm.trans l2)
      cases r with | cons r0 r =>
        cases r with | cons r1 r =>
          cases r
          cases rz
          exact ⟨[u0, u1], rfl, (.cons r0 (.cons r1 .nil))⟩) all_nilQ)⟩
  have F35 : FunD K "octets" "Encoder.octets" (defArgs s_Encoder_octets) (defBody s_Encoder_octets) (defScope s_Encoder_octets) [] [] f35 _ := ⟨⟨_, _, _, _, _, _, _, _, _, _, rfl, l35, c35, .inl ⟨rfl, rfl⟩, .inl rfl⟩, k35⟩
  have D_35 : MethX K CEncoder "Encoder.octets" "octets" s_Encoder_octets ["self"] pats_Encoder_octets := ⟨_, _, _, _, F35, ⟨a35, b35, k35⟩, (all_consQ (Bnd.all fun us ws vs zs l1 l2 r rz => by
      obtain ⟨u0, rfl⟩ := len1 (r.length.symm.trans l1)
      obtain rfl := len0 (rz.length.symm.trans l2)
      cases r with | cons r0 r =>
        cases r
        cases rz
        exact ⟨[u0], rfl, (.cons r0 .nil)⟩) all_nilQ)⟩
  have F36 : FunD K "law" "law" (defArgs s_law) (defBody s_law) (defScope s_law) [] [] _ _ := ⟨⟨_, _, _, _, _, _, _, _, _, _, rfl, l36, c36, .inl ⟨rfl, rfl⟩, .inl rfl⟩, k36⟩
  have R_Encoder___init__ : ∀ base : Heap, MakX l.prog w K mg base 1 "Encoder" (⟨CEncoder, CSymbolWriter, CDecoder, CSymbolReader, fa, XOutOfRange, fa⟩ : Ads).c_Encoder (sp_Encoder___init__ K ⟨CEncoder, CSymbolWriter, CDecoder, CSymbolReader, fa, XOutOfRange, fa⟩) pats_Encoder___init__ := fun base => ok_Encoder___init__ D_0 T 
  have R_SymbolWriter___init__ : ∀ base : Heap, MakX l.prog w K mg base 1 "SymbolWriter" (⟨CEncoder, CSymbolWriter, CDecoder, CSymbolReader, fa, XOutOfRange, fa⟩ : Ads).c_SymbolWriter (sp_SymbolWriter___init__ K ⟨CEncoder, CSymbolWriter, CDecoder, CSymbolReader, fa, XOutOfRange, fa⟩) pats_SymbolWriter___init__ := fun base => ok_SymbolWriter___init__ D_1 T 
  have R_SymbolReader___init__ : ∀ base : Heap, MakX l.prog w K mg base 1 "SymbolReader" (⟨CEncoder, CSymbolWriter, CDecoder, CSymbolReader, fa, XOutOfRange, fa⟩ : Ads).c_SymbolReader (sp_SymbolReader___init__ K ⟨CEncoder, CSymbolWriter, CDecoder, CSymbolReader, fa, XOutOfRange, fa⟩) pats_SymbolReader___init__ := fun base => ok_SymbolReader___init__ D_2 T 
  have R__law_draws : ∀ base : Heap, CalX l.prog w K mg base 1 "_law_draws" (sp__law_draws K ⟨CEncoder, CSymbolWriter, CDecoder, CSymbolReader, fa, XOutOfRange, fa⟩) pats__law_draws := fun base => ok__law_draws D_3 T 
  have R__law_symbol : ∀ base : Heap, CalX l.prog w K mg base 2 "_law_symbol" (sp__law_symbol K ⟨CEncoder, CSymbolWriter, CDecoder, CSymbolReader, fa, XOutOfRange, fa⟩) pats__law_symbol := fun base => ok__law_symbol D_4 T (R__law_draws base)
  have R__check_contexts : ∀ base : Heap, CalX l.prog w K mg base 1 "_check_contexts" (sp__check_contexts K ⟨CEncoder, CSymbolWriter, CDecoder, CSymbolReader, fa, XOutOfRange, fa⟩) pats__check_contexts := fun base => ok__check_contexts D_5 T 
  have R__check_context : ∀ base : Heap, CalX l.prog w K mg base 1 "_check_context" (sp__check_context K ⟨CEncoder, CSymbolWriter, CDecoder, CSymbolReader, fa, XOutOfRange, fa⟩) pats__check_context := fun base => ok__check_context D_6 T 
  have R__check_decision : ∀ base : Heap, CalX l.prog w K mg base 1 "_check_decision" (sp__check_decision K ⟨CEncoder, CSymbolWriter, CDecoder, CSymbolReader, fa, XOutOfRange, fa⟩) pats__check_decision := fun base => ok__check_decision D_7 T 
  have R__adapted : ∀ base : Heap, CalX l.prog w K mg base 1 "_adapted" (sp__adapted K ⟨CEncoder, CSymbolWriter, CDecoder, CSymbolReader, fa, XOutOfRange, fa⟩) pats__adapted := fun base => ok__adapted D_8 T 
  have R_Encoder__carry : ∀ base : Heap, MetX l.prog w K mg base 1 (⟨CEncoder, CSymbolWriter, CDecoder, CSymbolReader, fa, XOutOfRange, fa⟩ : Ads).c_Encoder "_carry" (sp_Encoder__carry K ⟨CEncoder, CSymbolWriter, CDecoder, CSymbolReader, fa, XOutOfRange, fa⟩) pats_Encoder__carry := fun base => ok_Encoder__carry D_9 T 
  have R_Encoder__narrow : ∀ base : Heap, MetX l.prog w K mg base 2 (⟨CEncoder, CSymbolWriter, CDecoder, CSymbolReader, fa, XOutOfRange, fa⟩ : Ads).c_Encoder "_narrow" (sp_Encoder__narrow K ⟨CEncoder, CSymbolWriter, CDecoder, CSymbolReader, fa, XOutOfRange, fa⟩) pats_Encoder__narrow := fun base => ok_Encoder__narrow D_10 T (R_Encoder__carry base)
  have R_Encoder_code : ∀ base : Heap, MetX l.prog w K mg base 3 (⟨CEncoder, CSymbolWriter, CDecoder, CSymbolReader, fa, XOutOfRange, fa⟩ : Ads).c_Encoder "code" (sp_Encoder_code K ⟨CEncoder, CSymbolWriter, CDecoder, CSymbolReader, fa, XOutOfRange, fa⟩) pats_Encoder_code := fun base => ok_Encoder_code D_11 T (R__check_context base) (R__check_decision base) (R_Encoder__narrow base) (R__adapted base)
  have R_SymbolWriter_flag : ∀ base : Heap, MetX l.prog w K mg base 4 (⟨CEncoder, CSymbolWriter, CDecoder, CSymbolReader, fa, XOutOfRange, fa⟩ : Ads).c_SymbolWriter "flag" (sp_SymbolWriter_flag K ⟨CEncoder, CSymbolWriter, CDecoder, CSymbolReader, fa, XOutOfRange, fa⟩) pats_SymbolWriter_flag := fun base => ok_SymbolWriter_flag D_12 T (R__check_contexts base) (R_Encoder_code base)
  have R_Decoder__shift : ∀ base : Heap, MetX l.prog w K mg base 1 (⟨CEncoder, CSymbolWriter, CDecoder, CSymbolReader, fa, XOutOfRange, fa⟩ : Ads).c_Decoder "_shift" (sp_Decoder__shift K ⟨CEncoder, CSymbolWriter, CDecoder, CSymbolReader, fa, XOutOfRange, fa⟩) pats_Decoder__shift := fun base => ok_Decoder__shift D_13 T 
  have R_Decoder__decide : ∀ base : Heap, MetX l.prog w K mg base 2 (⟨CEncoder, CSymbolWriter, CDecoder, CSymbolReader, fa, XOutOfRange, fa⟩ : Ads).c_Decoder "_decide" (sp_Decoder__decide K ⟨CEncoder, CSymbolWriter, CDecoder, CSymbolReader, fa, XOutOfRange, fa⟩) pats_Decoder__decide := fun base => ok_Decoder__decide D_14 T (R_Decoder__shift base)
  have R_Decoder_read : ∀ base : Heap, MetX l.prog w K mg base 3 (⟨CEncoder, CSymbolWriter, CDecoder, CSymbolReader, fa, XOutOfRange, fa⟩ : Ads).c_Decoder "read" (sp_Decoder_read K ⟨CEncoder, CSymbolWriter, CDecoder, CSymbolReader, fa, XOutOfRange, fa⟩) pats_Decoder_read := fun base => ok_Decoder_read D_15 T (R__check_context base) (R_Decoder__decide base) (R__adapted base)
  have R_SymbolReader_flag : ∀ base : Heap, MetX l.prog w K mg base 4 (⟨CEncoder, CSymbolWriter, CDecoder, CSymbolReader, fa, XOutOfRange, fa⟩ : Ads).c_SymbolReader "flag" (sp_SymbolReader_flag K ⟨CEncoder, CSymbolWriter, CDecoder, CSymbolReader, fa, XOutOfRange, fa⟩) pats_SymbolReader_flag := fun base => ok_SymbolReader_flag D_16 T (R__check_contexts base) (R_Decoder_read base)
  have R__choice_digits : ∀ base : Heap, CalX l.prog w K mg base 2 "_choice_digits" (sp__choice_digits K ⟨CEncoder, CSymbolWriter, CDecoder, CSymbolReader, fa, XOutOfRange, fa⟩) pats__choice_digits := fun base => ok__choice_digits D_17 T (R__check_contexts base)
  have R_SymbolWriter_choice : ∀ base : Heap, MetX l.prog w K mg base 4 (⟨CEncoder, CSymbolWriter, CDecoder, CSymbolReader, fa, XOutOfRange, fa⟩ : Ads).c_SymbolWriter "choice" (sp_SymbolWriter_choice K ⟨CEncoder, CSymbolWriter, CDecoder, CSymbolReader, fa, XOutOfRange, fa⟩) pats_SymbolWriter_choice := fun base => ok_SymbolWriter_choice D_18 T (R__choice_digits base) (R_Encoder_code base)
  have R_SymbolReader_choice : ∀ base : Heap, MetX l.prog w K mg base 4 (⟨CEncoder, CSymbolWriter, CDecoder, CSymbolReader, fa, XOutOfRange, fa⟩ : Ads).c_SymbolReader "choice" (sp_SymbolReader_choice K ⟨CEncoder, CSymbolWriter, CDecoder, CSymbolReader, fa, XOutOfRange, fa⟩) pats_SymbolReader_choice := fun base => ok_SymbolReader_choice D_19 T (R__choice_digits base) (R_Decoder_read base)
  have R__check_unary : ∀ base : Heap, CalX l.prog w K mg base 2 "_check_unary" (sp__check_unary K ⟨CEncoder, CSymbolWriter, CDecoder, CSymbolReader, fa, XOutOfRange, fa⟩) pats__check_unary := fun base => ok__check_unary D_20 T (R__check_contexts base)
  have R_SymbolWriter_unary : ∀ base : Heap, MetX l.prog w K mg base 4 (⟨CEncoder, CSymbolWriter, CDecoder, CSymbolReader, fa, XOutOfRange, fa⟩ : Ads).c_SymbolWriter "unary" (sp_SymbolWriter_unary K ⟨CEncoder, CSymbolWriter, CDecoder, CSymbolReader, fa, XOutOfRange, fa⟩) pats_SymbolWriter_unary := fun base => ok_SymbolWriter_unary D_21 T (R__check_unary base) (R_Encoder_code base)
  have R_SymbolReader_unary : ∀ base : Heap, MetX l.prog w K mg base 4 (⟨CEncoder, CSymbolWriter, CDecoder, CSymbolReader, fa, XOutOfRange, fa⟩ : Ads).c_SymbolReader "unary" (sp_SymbolReader_unary K ⟨CEncoder, CSymbolWriter, CDecoder, CSymbolReader, fa, XOutOfRange, fa⟩) pats_SymbolReader_unary := fun base => ok_SymbolReader_unary D_22 T (R__check_unary base) (R_Decoder_read base)
  have R__digit_context : ∀ base : Heap, CalX l.prog w K mg base 1 "_digit_context" (sp__digit_context K ⟨CEncoder, CSymbolWriter, CDecoder, CSymbolReader, fa, XOutOfRange, fa⟩) pats__digit_context := fun base => ok__digit_context D_23 T 
  have R_Encoder_code_even : ∀ base : Heap, MetX l.prog w K mg base 3 (⟨CEncoder, CSymbolWriter, CDecoder, CSymbolReader, fa, XOutOfRange, fa⟩ : Ads).c_Encoder "code_even" (sp_Encoder_code_even K ⟨CEncoder, CSymbolWriter, CDecoder, CSymbolReader, fa, XOutOfRange, fa⟩) pats_Encoder_code_even := fun base => ok_Encoder_code_even D_24 T (R__check_decision base) (R_Encoder__narrow base)
  have R_SymbolWriter_number : ∀ base : Heap, MetX l.prog w K mg base 5 (⟨CEncoder, CSymbolWriter, CDecoder, CSymbolReader, fa, XOutOfRange, fa⟩ : Ads).c_SymbolWriter "number" (sp_SymbolWriter_number K ⟨CEncoder, CSymbolWriter, CDecoder, CSymbolReader, fa, XOutOfRange, fa⟩) pats_SymbolWriter_number := fun base => ok_SymbolWriter_number D_25 T (R__check_contexts base) (R_SymbolWriter_unary base) (R_Encoder_code base) (R__digit_context base) (R_Encoder_code_even base)
  have R_Decoder_read_even : ∀ base : Heap, MetX l.prog w K mg base 3 (⟨CEncoder, CSymbolWriter, CDecoder, CSymbolReader, fa, XOutOfRange, fa⟩ : Ads).c_Decoder "read_even" (sp_Decoder_read_even K ⟨CEncoder, CSymbolWriter, CDecoder, CSymbolReader, fa, XOutOfRange, fa⟩) pats_Decoder_read_even := fun base => ok_Decoder_read_even D_26 T (R_Decoder__decide base)
  have R_SymbolReader_number : ∀ base : Heap, MetX l.prog w K mg base 5 (⟨CEncoder, CSymbolWriter, CDecoder, CSymbolReader, fa, XOutOfRange, fa⟩ : Ads).c_SymbolReader "number" (sp_SymbolReader_number K ⟨CEncoder, CSymbolWriter, CDecoder, CSymbolReader, fa, XOutOfRange, fa⟩) pats_SymbolReader_number := fun base => ok_SymbolReader_number D_27 T (R__check_contexts base) (R_SymbolReader_unary base) (R_Decoder_read base) (R__digit_context base) (R_Decoder_read_even base)
  have R_SymbolWriter_signed : ∀ base : Heap, MetX l.prog w K mg base 6 (⟨CEncoder, CSymbolWriter, CDecoder, CSymbolReader, fa, XOutOfRange, fa⟩ : Ads).c_SymbolWriter "signed" (sp_SymbolWriter_signed K ⟨CEncoder, CSymbolWriter, CDecoder, CSymbolReader, fa, XOutOfRange, fa⟩) pats_SymbolWriter_signed := fun base => ok_SymbolWriter_signed D_28 T (R_SymbolWriter_number base) (R_Encoder_code_even base)
  have R_SymbolReader_signed : ∀ base : Heap, MetX l.prog w K mg base 6 (⟨CEncoder, CSymbolWriter, CDecoder, CSymbolReader, fa, XOutOfRange, fa⟩ : Ads).c_SymbolReader "signed" (sp_SymbolReader_signed K ⟨CEncoder, CSymbolWriter, CDecoder, CSymbolReader, fa, XOutOfRange, fa⟩) pats_SymbolReader_signed := fun base => ok_SymbolReader_signed D_29 T (R_SymbolReader_number base) (R_Decoder_read_even base)
  have R_SymbolWriter_even : ∀ base : Heap, MetX l.prog w K mg base 4 (⟨CEncoder, CSymbolWriter, CDecoder, CSymbolReader, fa, XOutOfRange, fa⟩ : Ads).c_SymbolWriter "even" (sp_SymbolWriter_even K ⟨CEncoder, CSymbolWriter, CDecoder, CSymbolReader, fa, XOutOfRange, fa⟩) pats_SymbolWriter_even := fun base => ok_SymbolWriter_even D_30 T (R_Encoder_code_even base)
  have R_SymbolReader_even : ∀ base : Heap, MetX l.prog w K mg base 4 (⟨CEncoder, CSymbolWriter, CDecoder, CSymbolReader, fa, XOutOfRange, fa⟩ : Ads).c_SymbolReader "even" (sp_SymbolReader_even K ⟨CEncoder, CSymbolWriter, CDecoder, CSymbolReader, fa, XOutOfRange, fa⟩) pats_SymbolReader_even := fun base => ok_SymbolReader_even D_31 T (R_Decoder_read_even base)
  have R__law_put : ∀ base : Heap, CalX l.prog w K mg base 7 "_law_put" (sp__law_put K ⟨CEncoder, CSymbolWriter, CDecoder, CSymbolReader, fa, XOutOfRange, fa⟩) pats__law_put := fun base => ok__law_put D_32 T (R_SymbolWriter_flag base) (R_SymbolWriter_choice base) (R_SymbolWriter_unary base) (R_SymbolWriter_number base) (R_SymbolWriter_signed base) (R_SymbolWriter_even base)
  have R_Decoder___init__ : ∀ base : Heap, MakX l.prog w K mg base 2 "Decoder" (⟨CEncoder, CSymbolWriter, CDecoder, CSymbolReader, fa, XOutOfRange, fa⟩ : Ads).c_Decoder (sp_Decoder___init__ K ⟨CEncoder, CSymbolWriter, CDecoder, CSymbolReader, fa, XOutOfRange, fa⟩) pats_Decoder___init__ := fun base => ok_Decoder___init__ D_33 T (R_Decoder__shift base)
  have R__law_get : ∀ base : Heap, CalX l.prog w K mg base 7 "_law_get" (sp__law_get K ⟨CEncoder, CSymbolWriter, CDecoder, CSymbolReader, fa, XOutOfRange, fa⟩) pats__law_get := fun base => ok__law_get D_34 T (R_SymbolReader_flag base) (R_SymbolReader_choice base) (R_SymbolReader_unary base) (R_SymbolReader_number base) (R_SymbolReader_even base) (R_SymbolReader_signed base)
  have R_Encoder_octets : ∀ base : Heap, MetX l.prog w K mg base 1 (⟨CEncoder, CSymbolWriter, CDecoder, CSymbolReader, fa, XOutOfRange, fa⟩ : Ads).c_Encoder "octets" (sp_Encoder_octets K ⟨CEncoder, CSymbolWriter, CDecoder, CSymbolReader, fa, XOutOfRange, fa⟩) pats_Encoder_octets := fun base => ok_Encoder_octets D_35 T 

  refine ⟨PySem.W.fnOf "law" "law" (defArgs s_law) (defBody s_law) (defScope s_law) .none kV36 dc36 pm36 an36 cd36 ct36, fun s v => .of_eq rfl, fun base _ _ => (ok_law (AD := ⟨CEncoder, CSymbolWriter, CDecoder, CSymbolReader, fa, XOutOfRange, fa⟩) F36 T (R__law_symbol base) (R_Encoder___init__ base) (R_SymbolWriter___init__ base) (R__law_put base) (R_SymbolReader___init__ base) (R_Decoder___init__ base) (R_Encoder_octets base) (R__law_get base)).imp ?_⟩
  rintro vs H Q E ⟨a, xs, rfl, hs, hl, q⟩
  exact ⟨a, xs, rfl, hs, by rw [law_true xs hl]; exact cW_mk rfl, q⟩
end Vx
open PySem PySem.W PyProof.Rows
set_option maxRecDepth 100000 in
set_option maxHeartbeats 0 in
theorem PySem.Challenge.cw_thaumatrope_k16_whole_symbols_read_back_holds : PySem.Challenge.rw_thaumatrope_k16_whole_symbols_read_back.Holds := by
  w_on; o_law; k_head; (case hw => w_witness2)
  k_fill
  refine Vx.walkG (l := PySem.Challenge.rw_thaumatrope_k16_whole_symbols_read_back) (n := 63) (k := 8) (x := "script") rfl (by decide) rfl ⟨rfl, by decide, by decide⟩ (fun w h Y => PySem.W.kIn_of Y) ?F
  case F =>
    intro w mg fa h KX G hmg
    refine' Vx.all_mk KX G hmg ?wEncoder ?wSymbolWriter ?wDecoder ?wSymbolReader ?vOutOfRange ?a0 ?b0 ?d0 ?e0 ?l0 ?c0 ?k0 ?a1 ?b1 ?d1 ?e1 ?l1 ?c1 ?k1 ?a2 ?b2 ?d2 ?e2 ?l2 ?c2 ?k2 ?a3 ?l3 ?c3 ?k3 ?a4 ?l4 ?c4 ?k4 ?a5 ?l5 ?c5 ?k5 ?a6 ?l6 ?c6 ?k6 ?a7 ?l7 ?c7 ?k7 ?a8 ?l8 ?c8 ?k8 ?a9 ?b9 ?l9 ?c9 ?k9 ?a10 ?b10 ?l10 ?c10 ?k10 ?a11 ?b11 ?l11 ?c11 ?k11 ?a12 ?b12 ?l12 ?c12 ?k12 ?a13 ?b13 ?l13 ?c13 ?k13 ?a14 ?b14 ?l14 ?c14 ?k14 ?a15 ?b15 ?l15 ?c15 ?k15 ?a16 ?b16 ?l16 ?c16 ?k16 ?a17 ?l17 ?c17 ?k17 ?a18 ?b18 ?l18 ?c18 ?k18 ?a19 ?b19 ?l19 ?c19 ?k19 ?a20 ?l20 ?c20 ?k20 ?a21 ?b21 ?l21 ?c21 ?k21 ?a22 ?b22 ?l22 ?c22 ?k22 ?a23 ?l23 ?c23 ?k23 ?a24 ?b24 ?l24 ?c24 ?k24 ?a25 ?b25 ?l25 ?c25 ?k25 ?a26 ?b26 ?l26 ?c26 ?k26 ?a27 ?b27 ?l27 ?c27 ?k27 ?a28 ?b28 ?l28 ?c28 ?k28 ?a29 ?b29 ?l29 ?c29 ?k29 ?a30 ?b30 ?l30 ?c30 ?k30 ?a31 ?b31 ?l31 ?c31 ?k31 ?a32 ?l32 ?c32 ?k32 ?a33 ?b33 ?d33 ?e33 ?l33 ?c33 ?k33 ?a34 ?l34 ?c34 ?k34 ?a35 ?b35 ?l35 ?c35 ?k35 ?a36 ?l36 ?c36 ?k36 ?z0 ?z1 ?z2 ?z3 ?z4 ?z5 ?z6 ?z7 ?z8 ?z9 ?z10 ?z11 ?z12 ?z13 ?z14 ?z15 ?z16 ?z17 ?z18 ?z19 ?z20 ?z21 ?yEncoder0 ?yEncoder1 ?yEncoder2 ?yEncoder3 ?xEncoder0 ?xEncoder1 ?xEncoder2 ?xEncoder3 ?ySymbolWriter0 ?ySymbolWriter1 ?ySymbolWriter2 ?ySymbolWriter3 ?xSymbolWriter0 ?ySymbolReader0 ?ySymbolReader1 ?ySymbolReader2 ?ySymbolReader3 ?xSymbolReader0 ?yDecoder0 ?yDecoder1 ?yDecoder2 ?yDecoder3 ?xDecoder0 ?xDecoder1 ?xDecoder2 ?xDecoder3 ?xDecoder4 ?exOutOfRange ?ekOutOfRange ?ebOutOfRange ?etOutOfRange
    (case wEncoder => k_is)
    (case wSymbolWriter => k_is)
    (case wDecoder => k_is)
    (case wSymbolReader => k_is)
    (case vOutOfRange => k_is)
    (case a0 => k_is)
    (case b0 => k_is)
    (case d0 => k_is)
    (case e0 => k_is)
    (case l0 => k_is)
    (case c0 => k_is)
    (case k0 => k_is)
    (case a1 => k_is)
    (case b1 => k_is)
    (case d1 => k_is)
    (case e1 => k_is)
    (case l1 => k_is)
    (case c1 => k_is)
    (case k1 => k_is)
    (case a2 => k_is)
    (case b2 => k_is)
    (case d2 => k_is)
    (case e2 => k_is)
    (case l2 => k_is)
    (case c2 => k_is)
    (case k2 => k_is)
    (case a3 => k_is)
    (case l3 => k_is)
    (case c3 => k_is)
    (case k3 => k_is)
    (case a4 => k_is)
    (case l4 => k_is)
    (case c4 => k_is)
    (case k4 => k_is)
    (case a5 => k_is)
    (case l5 => k_is)
    (case c5 => k_is)
    (case k5 => k_is)
    (case a6 => k_is)
    (case l6 => k_is)
    (case c6 => k_is)
    (case k6 => k_is)
    (case a7 => k_is)
    (case l7 => k_is)
    (case c7 => k_is)
    (case k7 => k_is)
    (case a8 => k_is)
    (case l8 => k_is)
    (case c8 => k_is)
    (case k8 => k_is)
    (case a9 => k_is)
    (case b9 => k_is)
    (case l9 => k_is)
    (case c9 => k_is)
    (case k9 => k_is)
    (case a10 => k_is)
    (case b10 => k_is)
    (case l10 => k_is)
    (case c10 => k_is)
    (case k10 => k_is)
    (case a11 => k_is)
    (case b11 => k_is)
    (case l11 => k_is)
    (case c11 => k_is)
    (case k11 => k_is)
    (case a12 => k_is)
    (case b12 => k_is)
    (case l12 => k_is)
    (case c12 => k_is)
    (case k12 => k_is)
    (case a13 => k_is)
    (case b13 => k_is)
    (case l13 => k_is)
    (case c13 => k_is)
    (case k13 => k_is)
    (case a14 => k_is)
    (case b14 => k_is)
    (case l14 => k_is)
    (case c14 => k_is)
    (case k14 => k_is)
    (case a15 => k_is)
    (case b15 => k_is)
    (case l15 => k_is)
    (case c15 => k_is)
    (case k15 => k_is)
    (case a16 => k_is)
    (case b16 => k_is)
    (case l16 => k_is)
    (case c16 => k_is)
    (case k16 => k_is)
    (case a17 => k_is)
    (case l17 => k_is)
    (case c17 => k_is)
    (case k17 => k_is)
    (case a18 => k_is)
    (case b18 => k_is)
    (case l18 => k_is)
    (case c18 => k_is)
    (case k18 => k_is)
    (case a19 => k_is)
    (case b19 => k_is)
    (case l19 => k_is)
    (case c19 => k_is)
    (case k19 => k_is)
    (case a20 => k_is)
    (case l20 => k_is)
    (case c20 => k_is)
    (case k20 => k_is)
    (case a21 => k_is)
    (case b21 => k_is)
    (case l21 => k_is)
    (case c21 => k_is)
    (case k21 => k_is)
    (case a22 => k_is)
    (case b22 => k_is)
    (case l22 => k_is)
    (case c22 => k_is)
    (case k22 => k_is)
    (case a23 => k_is)
    (case l23 => k_is)
    (case c23 => k_is)
    (case k23 => k_is)
    (case a24 => k_is)
    (case b24 => k_is)
    (case l24 => k_is)
    (case c24 => k_is)
    (case k24 => k_is)
    (case a25 => k_is)
    (case b25 => k_is)
    (case l25 => k_is)
    (case c25 => k_is)
    (case k25 => k_is)
    (case a26 => k_is)
    (case b26 => k_is)
    (case l26 => k_is)
    (case c26 => k_is)
    (case k26 => k_is)
    (case a27 => k_is)
    (case b27 => k_is)
    (case l27 => k_is)
    (case c27 => k_is)
    (case k27 => k_is)
    (case a28 => k_is)
    (case b28 => k_is)
    (case l28 => k_is)
    (case c28 => k_is)
    (case k28 => k_is)
    (case a29 => k_is)
    (case b29 => k_is)
    (case l29 => k_is)
    (case c29 => k_is)
    (case k29 => k_is)
    (case a30 => k_is)
    (case b30 => k_is)
    (case l30 => k_is)
    (case c30 => k_is)
    (case k30 => k_is)
    (case a31 => k_is)
    (case b31 => k_is)
    (case l31 => k_is)
    (case c31 => k_is)
    (case k31 => k_is)
    (case a32 => k_is)
    (case l32 => k_is)
    (case c32 => k_is)
    (case k32 => k_is)
    (case a33 => k_is)
    (case b33 => k_is)
    (case d33 => k_is)
    (case e33 => k_is)
    (case l33 => k_is)
    (case c33 => k_is)
    (case k33 => k_is)
    (case a34 => k_is)
    (case l34 => k_is)
    (case c34 => k_is)
    (case k34 => k_is)
    (case a35 => k_is)
    (case b35 => k_is)
    (case l35 => k_is)
    (case c35 => k_is)
    (case k35 => k_is)
    (case a36 => k_is)
    (case l36 => k_is)
    (case c36 => k_is)
    (case k36 => k_is)
    (case z0 => k_is)
    (case z1 => k_is)
    (case z2 => k_is)
    (case z3 => k_is)
    (case z4 => k_is)
    (case z5 => k_is)
    (case z6 => k_is)
    (case z7 => k_is)
    (case z8 => k_is)
    (case z9 => k_is)
    (case z10 => k_is)
    (case z11 => k_is)
    (case z12 => k_is)
    (case z13 => k_is)
    (case z14 => k_is)
    (case z15 => k_is)
    (case z16 => k_is)
    (case z17 => k_is)
    (case z18 => k_is)
    (case z19 => k_is)
    (case z20 => k_is)
    (case z21 => k_is)
    (case yEncoder0 => k_is)
    (case yEncoder1 => k_is)
    (case yEncoder2 => k_is)
    (case yEncoder3 => k_is)
    (case xEncoder0 => k_is)
    (case xEncoder1 => k_is)
    (case xEncoder2 => k_is)
    (case xEncoder3 => k_is)
    (case ySymbolWriter0 => k_is)
    (case ySymbolWriter1 => k_is)
    (case ySymbolWriter2 => k_is)
    (case ySymbolWriter3 => k_is)
    (case xSymbolWriter0 => k_is)
    (case ySymbolReader0 => k_is)
    (case ySymbolReader1 => k_is)
    (case ySymbolReader2 => k_is)
    (case ySymbolReader3 => k_is)
    (case xSymbolReader0 => k_is)
    (case yDecoder0 => k_is)
    (case yDecoder1 => k_is)
    (case yDecoder2 => k_is)
    (case yDecoder3 => k_is)
    (case xDecoder0 => k_is)
    (case xDecoder1 => k_is)
    (case xDecoder2 => k_is)
    (case xDecoder3 => k_is)
    (case xDecoder4 => k_is)
    (case exOutOfRange => k_exc)
    (case ekOutOfRange => k_is)
    (case ebOutOfRange => k_is)
    (case etOutOfRange => k_is)
