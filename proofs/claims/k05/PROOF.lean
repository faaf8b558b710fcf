import PyProof.Rows.All
import Wide.All
import OpenK.AllK
import Wide.FinOn
import HandS.ForMost
import HandS.Codes
import HandS.Steps
import HandS.IsInst
import HandS.Property
import HandS.Wide
import HandS.WideBits
import PySem.Challenge.RW_thaumatrope_k05_bits_written_and_read
set_option Elab.async false
set_option linter.all false
set_option maxRecDepth 100000
set_option maxHeartbeats 8000000
namespace Vx
open PySem PySem.Spec PyProof.Rows L2

/-! ### heaps -/
def SameX (m : Addr) (H H' : Hp) : Prop := ∀ b o, H b = some o → b ≠ m → H' b = some o
theorem gen_new {H H' : Hp} {p : Addr} {o : HO} (n : H p = none) (h : upd H p o = H') : Same H H' ∧ H' p = some o := by
  subst h
  exact ⟨fun b u e => by rw [upd_ne (ne_of_none e n)]; exact e, upd_same⟩
theorem gen_mut {H H' : Hp} {m : Addr} {o : HO} (h : upd H m o = H') : SameX m H H' ∧ H' m = some o := by
  subst h
  exact ⟨fun b u e n => by rw [upd_ne n]; exact e, upd_same⟩
theorem same_mut {H0 H H' : Hp} {m : Addr} (B : Same H0 H) (x : SameX m H H') (f : H0 m = none) : Same H0 H' :=
  fun b o e => x b o (B b o e) (ne_of_none e f)
theorem map_get {xs : List Int} {i : Nat} {x : V} (h : (xs.map V.int)[i]? = some x) : ∃ o, xs[i]? = some o ∧ x = .int o := by
  rw [List.getElem?_map] at h
  cases e : xs[i]? with
  | none => rw [e] at h; cases h
  | some z => rw [e] at h; exact ⟨z, rfl, (Option.some.inj h).symm⟩
theorem get_len {α : Type} {xs : List α} {i : Nat} {x : α} (h : xs[i]? = some x) : i < xs.length := (List.getElem?_eq_some_iff.mp h).1
theorem eq_int {Q : VK} {H : Hp} {a b : Int} (h : Q (.int a) H) (e : a = b) : Q (.int b) H := e ▸ h
theorem eq_bl {Q : VK} {H : Hp} {a b : Bool} (h : Q (.bl a) H) (e : a = b) : Q (.bl b) H := e ▸ h
theorem small {n : Nat} (h : n ≤ 1000000) : n < sizeLine := Nat.lt_of_le_of_lt h (by decide)
theorem smallE {n : Nat} (h : n ≤ 1000000) : n ≤ sizeLine := Nat.le_of_lt (small h)
theorem snoc_int {xs : List Int} {y : Int} {H : Hp} {p : Addr} (h : H p = some (.lst (xs.map V.int ++ [V.int y]))) : H p = some (.lst ((xs ++ [y]).map V.int)) := by
  rw [List.map_append]; exact h
theorem cat_int {xs ys : List Int} {H : Hp} {p : Addr} (h : H p = some (.lst (xs.map V.int ++ ys.map V.int))) : H p = some (.lst ((xs ++ ys).map V.int)) := by
  rw [List.map_append]; exact h
theorem cast_lst {xs ys : List Int} {H : Hp} {p : Addr} (h : H p = some (.lst (xs.map V.int))) (e : xs = ys) : H p = some (.lst (ys.map V.int)) := e ▸ h

/-! ### tests -/
theorem dT {p : Prop} [Decidable p] (h : decide p = true) : p := of_decide_eq_true h
theorem dF {p : Prop} [Decidable p] (h : ¬ decide p = true) : ¬ p := fun x => h (decide_eq_true x)
theorem iteD {p A B : Prop} [Decidable p] (h1 : p → A) (h2 : ¬ p → B) : if decide p = true then A else B := by
  by_cases h : p
  · rw [if_pos (decide_eq_true h)]; exact h1 h
  · rw [if_neg (fun x => h (of_decide_eq_true x))]; exact h2 h
theorem iteN {p A B : Prop} [Decidable p] (h1 : ¬ p → A) (h2 : p → B) : if (!decide p) = true then A else B := by
  by_cases h : p
  · rw [decide_eq_true h]; exact iteF (h2 h)
  · rw [decide_eq_false h]; exact iteT (h1 h)
theorem iteB {b : Bool} {A B : Prop} (h1 : b = true → A) (h2 : b = false → B) : if b = true then A else B := by
  cases b with
  | true => exact iteT (h1 rfl)
  | false => exact iteF (h2 rfl)
theorem iteBN {b : Bool} {A B : Prop} (h1 : b = false → A) (h2 : b = true → B) : if (!b) = true then A else B := by
  cases b with
  | true => exact iteF (h2 rfl)
  | false => exact iteT (h1 rfl)
theorem iteDT {p A B : Prop} [Decidable p] (h : p) (k : A) : if decide p = true then A else B := by
  rw [if_pos (decide_eq_true h)]; exact k
theorem iteDF {p A B : Prop} [Decidable p] (h : ¬ p) (k : B) : if decide p = true then A else B := by
  rw [if_neg (fun x => h (of_decide_eq_true x))]; exact k
theorem iteNT {p A B : Prop} [Decidable p] (h : ¬ p) (k : A) : if (!decide p) = true then A else B := iteN (fun _ => k) (fun x => (h x).elim)
theorem iteNF {p A B : Prop} [Decidable p] (h : p) (k : B) : if (!decide p) = true then A else B := iteN (fun x => (x h).elim) (fun _ => k)

/-! ### equality of lists of ints -/
theorem eqvAll_ints : ∀ xs ys : List Int, PyData.eqvAll (xs.map PyData.int) (ys.map PyData.int) = decide (xs = ys)
  | [], [] => by simp [PyData.eqvAll]
  | [], y :: ys => by simp [PyData.eqvAll]
  | x :: xs, [] => by simp [PyData.eqvAll]
  | x :: xs, y :: ys => by
    have ih := eqvAll_ints xs ys
    simp only [List.map_cons, PyData.eqvAll, PyData.eqv, ih]
    by_cases h : x = y <;> by_cases h2 : xs = ys <;> simp [h, h2]
end Vx

namespace Vx
open PySem PySem.Spec PyProof.Rows L2
section
variable {X : Cx}
def rEqLi (K : PySem.W.Frag) : R2 := fun x y H Q => ∃ (a b : Addr) (xs ys : List Int), x = .ref a ∧ y = .ref b ∧ SqL K H a (xs.map V.int) ∧ SqL K H b (ys.map V.int) ∧ Q (.bl (decide (xs = ys))) H
def rNeLi (K : PySem.W.Frag) : R2 := fun x y H Q => ∃ (a b : Addr) (xs ys : List Int), x = .ref a ∧ y = .ref b ∧ SqL K H a (xs.map V.int) ∧ SqL K H b (ys.map V.int) ∧ Q (.bl (!decide (xs = ys))) H
theorem dpAll_ints {K : PySem.W.Frag} {H : Hp} : ∀ xs : List Int, DpAll K H (xs.map V.int) (xs.map PyData.int)
  | [] => .nil
  | x :: xs => .cons (.int x) (dpAll_ints xs)
theorem dp_ints {K : PySem.W.Frag} {H : Hp} {a : Addr} {xs : List Int} (h : SqL K H a (xs.map V.int)) : Dp K H (.ref a) (.list (xs.map PyData.int)) := .lst h (dpAll_ints xs)
theorem canLay_ints : ∀ xs : List Int, PyData.canLayAll0 (xs.map PyData.int) = true
  | [] => by simp [PyData.canLayAll0]
  | x :: xs => by simp [PyData.canLayAll0, PyData.canLay0, canLay_ints xs]
theorem depth_ints : ∀ xs : List Int, PyData.depthAll (xs.map PyData.int) = 0
  | [] => by simp [PyData.depthAll]
  | x :: xs => by simp [PyData.depthAll, PyData.depth, depth_ints xs]
theorem shaped_ints (xs : List Int) : SeqAt.shaped (.list (xs.map PyData.int)) = true := by
  unfold SeqAt.shaped
  simp [PyData.canLay0, canLay_ints, PyData.depth, depth_ints]
theorem eqv_ints (xs ys : List Int) : PyData.eqv (.list (xs.map PyData.int)) (.list (ys.map PyData.int)) = decide (xs = ys) := by
  simp only [PyData.eqv]
  exact eqvAll_ints xs ys
theorem op_eqLi (hu : X.A.units + 64 < cLine) : OpR X (compareOp .Eq) (rEqLi X.K) := by
  intro pins s σ H x y v u Q I rx ry h
  obtain ⟨a, b, xs, ys, rfl, rfl, h1, h2, q⟩ := h
  exact op_eqD hu pins s σ H _ _ v u Q I rx ry ⟨_, _, dp_ints h1, dp_ints h2, shaped_ints xs, shaped_ints ys, by rw [eqv_ints]; exact q⟩
theorem op_neLi (hu : X.A.units + 64 < cLine) : OpR X (compareOp .NotEq) (rNeLi X.K) := by
  intro pins s σ H x y v u Q I rx ry h
  obtain ⟨a, b, xs, ys, rfl, rfl, h1, h2, q⟩ := h
  exact op_neD hu pins s σ H _ _ v u Q I rx ry ⟨_, _, dp_ints h1, dp_ints h2, shaped_ints xs, shaped_ints ys, by rw [eqv_ints]; exact q⟩

/-! ### items, slices, repetition, comprehensions of ints -/
def itI (xs : List Int) (i : Int) : Int := (atI xs i).getD 0
theorem atI_int {xs : List Int} {i : Int} (h : -(xs.length : Int) ≤ i ∧ i < xs.length) : atI (xs.map V.int) i = some (.int (itI xs i)) := by
  unfold itI atI
  rw [List.length_map]
  have hk : ∃ j, ixN xs.length i = some j ∧ j < xs.length := by
    unfold ixN
    by_cases h0 : 0 ≤ i
    · refine ⟨i.toNat, ?_, by omega⟩
      rw [if_pos h0, if_pos h.2]
    · refine ⟨(i + xs.length).toNat, ?_, by omega⟩
      rw [if_neg h0, if_pos h.1]
  obtain ⟨j, e, hj⟩ := hk
  rw [e]
  show (xs.map V.int)[j]? = some (V.int ((xs[j]?).getD 0))
  rw [List.getElem?_map, List.getElem?_eq_getElem hj] <;> rfl
def cutI (xs : List Int) (lo hi : Option Int) : List Int := (xs.drop (HT.sIx xs.length 0 lo)).take (HT.sIx xs.length xs.length hi - HT.sIx xs.length 0 lo)
theorem cut_int {xs : List Int} {lo hi : Option Int} {H : Hp} {p : Addr} (h : H p = some (.lst (cutV (xs.map V.int) lo hi))) : H p = some (.lst ((cutI xs lo hi).map V.int)) := by
  rw [h]
  unfold cutV cutI
  rw [List.length_map, List.map_take, List.map_drop]
def rep (xs : List Int) (k : Int) : List Int := (List.replicate k.toNat xs).flatten
theorem rep_int {xs : List Int} {k : Int} {H : Hp} {p : Addr} (h : H p = some (.lst (List.replicate k.toNat (xs.map V.int)).flatten)) : H p = some (.lst ((rep xs k).map V.int)) := by
  rw [h]
  unfold rep
  rw [List.map_flatten, List.map_replicate]
theorem divW_lit {i j : Int} (h : 0 < j) (h2 : j.natAbs.log2 < 9000) : CDivW i j := ⟨h, h2⟩
theorem divW_small {i j : Int} (h : 0 < j) (h2 : j < 2 ^ 128) : CDivW i j := wide_div h (show j.natAbs < 2 ^ 128 by omega) (by decide) (by decide)
theorem comp_list {xs : List Int} {i : Nat} {x y : Int} {f : Int → Int} {H : Hp} {D : Addr} (hi : xs[i]? = some x) (h : H D = some (.lst (((xs.take i).map f).map V.int ++ [V.int y]))) (e : f x = y) : H D = some (.lst (((xs.take (i + 1)).map f).map V.int)) := by
  rw [h, ← e, List.take_succ, hi, List.map_append, List.map_append] <;> rfl
theorem comp_done {xs : List Int} {f : Int → Int} {H : Hp} {D : Addr} (h : H D = some (.lst (((xs.take (xs.map V.int).length).map f).map V.int))) : H D = some (.lst ((xs.map f).map V.int)) := by
  rw [List.length_map, List.take_length] at h
  exact h
theorem comp_range {i : Nat} {y : Int} {f : Nat → Int} {H : Hp} {D : Addr} (h : H D = some (.lst (((List.range i).map f).map V.int ++ [V.int y]))) (e : f i = y) : H D = some (.lst (((List.range (i + 1)).map f).map V.int)) := by
  rw [h, ← e, List.range_succ, List.map_append, List.map_append] <;> rfl
theorem iteBT {b : Bool} {A B : Prop} (h : b = true) (k : A) : if b = true then A else B := by rw [if_pos h]; exact k
theorem iteBF {b : Bool} {A B : Prop} (h : b = false) (k : B) : if b = true then A else B := by rw [if_neg (by rw [h]; decide)]; exact k
theorem take_succ_get {α : Type} {xs : List α} {i : Nat} {x : α} (hi : xs[i]? = some x) : xs.take (i + 1) = xs.take i ++ [x] := by rw [List.take_succ, hi] <;> rfl
end

/-! ### defs of the module, as callers see them -/
section
variable {P : Program} {w : World} {K : PySem.W.Frag} {mg : Str → Option Value} {base : Heap}
structure DefIn (K : PySem.W.Frag) (mg : Str → Option Value) (x : Str) (st : Stmt) (ps : List Str) : Prop where
  ex : ∃ (f : Addr) (fd : FuncData), Fun K x x st f fd ∧ mg x = some (.ref f) ∧ Binds K fd ps []
structure Cal (P : Program) (w : World) (K : PySem.W.Frag) (mg : Str → Option Value) (base : Heap) (k : Nat) (x : Str) (sp : Sp) : Prop where
  ex : ∃ (f : Addr) (fd : FuncData) (ps : List Str), FnOk P w K mg base CX0 k f fd ps sp ∧ mg x = some (.ref f) ∧ PySem.W.keepIn K (.ref f) = true ∧ Binds K fd ps []
theorem DefIn.ok {x : Str} {st : Stmt} {N ps : List Str} {k : Nat} {sp : Sp} (D : DefIn K mg x st ps) (S : FnScope N ps (defScope st)) (len : ∀ vs H Q E, sp vs H Q E → vs.length = ps.length)
    (hbody : ∀ (f : Addr) (cdv : Value) (A : Around) (outer : List Env) (s : Shared) (H : Hp) (vs : List V) (Q : VK) (E : XK), Room k (A.deeper (envOfC x (defScope st) s.heap.objs.size f cdv)) → sp vs H Q E →
      ∃ t, PSs (cxOf CX0 P w K mg base N x (defScope st) f cdv A outer s H E).nox (defBody st) t ∧ t { nx := fun _ H' => Q .non H', rt := Q } (start N vs) H) : Cal P w K mg base (k + 1) x sp := by
  obtain ⟨f, fd, F, hm, b⟩ := D.ex
  exact ⟨f, fd, ps, F.ok S len (fun cdv A outer s H vs Q E hr h => hbody f cdv A outer s H vs Q E hr h), hm, F.kp, b⟩
end
section
variable {X : Cx} {k j : Nat} {x : Str} {sp : Sp} {p pos : Pos} {e : Expr} {es : List Expr} {t : TA}
theorem vx_call (c : Cal X.prog X.w X.K X.mg X.base k x sp) (hr : Room j X.A) (hk : k ≤ j) (hg : Gl X x) (ha : PA X (e :: es) t)
    (hdb : (x == ("__debug__" : Str)) = false := by decide) (he : starEach (e :: es) X.env = (false, eval e X.env) :: starEach es X.env := by rfl) (hpl : (backTo pos (starEach es X.env)).any (·.1) = false := by rfl) :
    PE X (.Call (.Name x p) (e :: es) [] pos) (tCall sp [] E0 t) := by
  obtain ⟨f, fd, ps, F, hm, kp, b⟩ := c.ex
  exact pe_call F (hr.mono hk) hg hm kp b .nil pass0 ha hdb he hpl
end
end Vx

namespace Vx
open PySem PySem.Spec PyProof.Rows L2
section
variable {σ : L2.St} {H : Hp} {ta tb : TE} {x y z : V} {t : TT}
theorem vv_and {a b : Bool} (h1 : Val ta σ H (.bl a)) (h2 : Val tb σ H (.bl b)) : Val (tAndV ta tb) σ H (.bl (a && b)) := fun Q q => h1 _ ⟨a, rfl, by
  cases a with
  | true => exact iteT (h2 Q q)
  | false => exact iteF q⟩
theorem vv_or {a b : Bool} (h1 : Val ta σ H (.bl a)) (h2 : Val tb σ H (.bl b)) : Val (tOrV ta tb) σ H (.bl (a || b)) := fun Q q => h1 _ ⟨a, rfl, by
  cases a with
  | true => exact iteT q
  | false => exact iteF (h2 Q q)⟩
theorem vv_not {a : Bool} (h1 : Val ta σ H (.bl a)) : Val (tNotV ta) σ H (.bl (!a)) := fun Q q => h1 _ ⟨a, rfl, q⟩
theorem vv_un {r : V → Hp → VK → Prop} (ha : Val ta σ H x) (hr : ∀ Q : VK, Q z H → r x H Q) : Val (tUn r ta) σ H z := fun Q q => ha _ (hr Q q)
theorem vv_cmp {p : Int → Int → Bool} (ha : Val ta σ H x) (hb : Val tb σ H y) (hr : ∀ Q : VK, Q z H → ∃ i j, x = .int i ∧ y = .int j ∧ Q (.bl (p i j)) H) : Val (tCmp p ta tb) σ H z := fun Q q => ha _ (hb _ (hr Q q))
theorem vv_call1 {r : List V → Hp → VK → Prop} (ha : Val ta σ H x) (hr : ∀ Q : VK, Q z H → r [x] H Q) : Val (tCB r (tCons ta tNil)) σ H z := fun Q q => ha _ (hr Q q)
theorem vt_cmp {b : Bool} (h : Val ta σ H (.bl b)) : Ans (tB ta) σ H b := fun Q q => h _ ⟨b, rfl, q⟩
theorem vt_val {b : Bool} (h : Val ta σ H (.bl b)) : Ans (tB ta) σ H b := fun Q q => h _ ⟨b, rfl, q⟩
theorem vt_int {i : Int} {K : PySem.W.Frag} (h : Val ta σ H (.int i)) : Ans (fun σ H Q => ta σ H fun x H' => ∃ k, TruV K x H' k ∧ Q k H') σ H (i != 0) := fun Q q => h _ ⟨_, rfl, q⟩
theorem vv_if {p : Prop} [Decidable p] {a b : Int} (ht : Ans t σ H (decide p)) (hx : Val ta σ H (.int a)) (hy : Val tb σ H (.int b)) : Val (tIf t ta tb) σ H (.int (if p then a else b)) := fun Q q => ht _ (by
  by_cases h : p
  · rw [if_pos h] at q; exact iteDT h (hx Q q)
  · rw [if_neg h] at q; exact iteDF h (hy Q q))
theorem vv_ifb {c : Bool} {a b : Int} (ht : Ans t σ H c) (hx : Val ta σ H (.int a)) (hy : Val tb σ H (.int b)) : Val (tIf t ta tb) σ H (.int (if c = true then a else b)) := fun Q q => ht _ (by
  cases c with
  | true => exact iteT (hx Q q)
  | false => exact iteF (hy Q q))
end
end Vx

namespace Vx
open PySem PySem.Spec PyProof.Rows L2
def rLenLi (K : PySem.W.Frag) : List V → Hp → VK → Prop := fun xs H Q => ∃ (p : Addr) (ns : List Int), xs = [.ref p] ∧ SqL K H p (ns.map V.int) ∧ Q (.int (ns.length : Int)) H
theorem call_lenLi {X : Cx} : CallR X (.builtin "len") (rLenLi X.K) := by
  intro pins s σ H xs us Q I r h
  obtain ⟨p, ns, rfl, hs, q⟩ := h
  exact call_len_seq pins s σ H _ us Q I r ⟨p, _, rfl, Or.inl hs, by rw [List.length_map]; exact q⟩
end Vx

namespace Vx
open PySem PySem.Spec PyProof.Rows L2
section
variable {X : Cx} {K : PySem.W.Frag}
theorem ix_listK (hK : X.K = K := by rfl) : IxR X (rIxL K) := hK ▸ ix_list
theorem sl_listK (hK : X.K = K := by rfl) : SlR X (rSlL K) := hK ▸ sl_list
theorem call_lenLiK (hK : X.K = K := by rfl) : CallR X (.builtin "len") (rLenLi K) := hK ▸ call_lenLi
theorem op_eqLiK (hu : X.A.units + 64 < cLine) (hK : X.K = K := by rfl) : OpR X (compareOp .Eq) (rEqLi K) := hK ▸ op_eqLi hu
theorem op_neLiK (hu : X.A.units + 64 < cLine) (hK : X.K = K := by rfl) : OpR X (compareOp .NotEq) (rNeLi K) := hK ▸ op_neLi hu
theorem pi_listK {tg l : Expr} {tl : TE} (hl : PE X l tl) (hK : X.K = K := by rfl) : PI X tg l (iList K tl) := hK ▸ pi_list hl
theorem cr_sumK (hc : X.calm = true) (hK : X.K = K := by rfl) : CallR X (.builtin "sum") (rSum K) := hK ▸ cr_sum hc
theorem cr_maxK (hc : X.calm = true) (hK : X.K = K := by rfl) : CallR X (.builtin "max") (rMax K) := hK ▸ cr_max hc
theorem cr_minK (hc : X.calm = true) (hK : X.K = K := by rfl) : CallR X (.builtin "min") (rMin K) := hK ▸ cr_min hc
end
end Vx

namespace Vx
open PySem PySem.Spec PyProof.Rows L2
theorem tyes_go {σ : L2.St} {H : Hp} {f g : Hp → Prop} (h : f H) : tYes σ H (fun b H3 => if b = true then f H3 else g H3) := by
  show if true = true then f H else g H
  exact iteT h
end Vx

/-! # second part: data of any depth, the stable heap G, the owned addresses O -/
namespace Vx
open PySem PySem.Spec PyProof.Rows L2
mutual
inductive Rp (H : Hp) : V → PyData → Prop
  | non : Rp H .non .none
  | bl (b : Bool) : Rp H (.bl b) (.bool b)
  | int (i : Int) : Rp H (.int i) (.int i)
  | str (x : Str) : Rp H (.str x) (.str x)
  | lst {a : Addr} {xs : List V} {ds : List PyData} : H a = some (.lst xs) → RpAll H xs ds → Rp H (.ref a) (.list ds)
  | tup {a : Addr} {xs : List V} {ds : List PyData} : H a = some (.tup xs) → RpAll H xs ds → Rp H (.ref a) (.tuple ds)
inductive RpAll (H : Hp) : List V → List PyData → Prop
  | nil : RpAll H [] []
  | cons {v : V} {vs : List V} {d : PyData} {ds : List PyData} : Rp H v d → RpAll H vs ds → RpAll H (v :: vs) (d :: ds)
end
mutual
theorem Rp.mono {H H' : Hp} (e : Same H H') : ∀ {v : V} {d : PyData}, Rp H v d → Rp H' v d
  | _, _, .non => .non
  | _, _, .bl b => .bl b
  | _, _, .int i => .int i
  | _, _, .str x => .str x
  | _, _, .lst h r => .lst (e _ _ h) (RpAll.mono e r)
  | _, _, .tup h r => .tup (e _ _ h) (RpAll.mono e r)
theorem RpAll.mono {H H' : Hp} (e : Same H H') : ∀ {vs : List V} {ds : List PyData}, RpAll H vs ds → RpAll H' vs ds
  | _, _, .nil => .nil
  | _, _, .cons a b => .cons (Rp.mono e a) (RpAll.mono e b)
end
mutual
theorem Rp.dp {K : PySem.W.Frag} {H : Hp} : ∀ {v : V} {d : PyData}, Rp H v d → Dp K H v d
  | _, _, .non => .non
  | _, _, .bl b => .bl b
  | _, _, .int i => .int i
  | _, _, .str x => .str x
  | _, _, .lst h r => .lst (SqL.of h) (RpAll.dp r)
  | _, _, .tup h r => .tup (SqT.of h) (RpAll.dp r)
theorem RpAll.dp {K : PySem.W.Frag} {H : Hp} : ∀ {vs : List V} {ds : List PyData}, RpAll H vs ds → DpAll K H vs ds
  | _, _, .nil => .nil
  | _, _, .cons a b => .cons (Rp.dp a) (RpAll.dp b)
end
theorem RpAll.append {H : Hp} : ∀ {xs ys : List V} {ds es : List PyData}, RpAll H xs ds → RpAll H ys es → RpAll H (xs ++ ys) (ds ++ es)
  | _, _, _, _, .nil, s => s
  | _, _, _, _, .cons r t, s => .cons r (RpAll.append t s)
theorem RpAll.ints {H : Hp} : ∀ xs : List Int, RpAll H (xs.map V.int) (xs.map PyData.int)
  | [] => .nil
  | x :: xs => .cons (.int x) (RpAll.ints xs)
theorem RpAll.bls {H : Hp} : ∀ xs : List Bool, RpAll H (xs.map V.bl) (xs.map PyData.bool)
  | [] => .nil
  | x :: xs => .cons (.bl x) (RpAll.bls xs)
theorem RpAll.one {H : Hp} {v : V} {d : PyData} (h : Rp H v d) : RpAll H [v] [d] := .cons h .nil
theorem RpAll.len {H : Hp} : ∀ {vs : List V} {ds : List PyData}, RpAll H vs ds → vs.length = ds.length
  | _, _, .nil => rfl
  | _, _, .cons _ t => by rw [List.length_cons, List.length_cons, RpAll.len t]
theorem RpAll.at {H : Hp} : ∀ {vs : List V} {ds : List PyData} {i : Nat} {v : V}, RpAll H vs ds → vs[i]? = some v → ∃ d, ds[i]? = some d ∧ Rp H v d
  | _, _, _, _, .nil, h => by simp at h
  | _, _, 0, _, .cons r _, h => by
    simp at h
    subst h
    exact ⟨_, rfl, r⟩
  | _, _, i + 1, _, .cons _ t, h => by
    obtain ⟨d, h1, h2⟩ := RpAll.at (i := i) t (by simpa using h)
    exact ⟨d, by simpa using h1, h2⟩
theorem RpAll.at' {H : Hp} : ∀ {vs : List V} {ds : List PyData} {i : Nat} {d : PyData}, RpAll H vs ds → ds[i]? = some d → ∃ v, vs[i]? = some v ∧ Rp H v d
  | _, _, _, _, .nil, h => by simp at h
  | _, _, 0, _, .cons r _, h => by
    simp at h
    subst h
    exact ⟨_, rfl, r⟩
  | _, _, i + 1, _, .cons _ t, h => by
    obtain ⟨v, h1, h2⟩ := RpAll.at' (i := i) t (by simpa using h)
    exact ⟨v, by simpa using h1, h2⟩
theorem RpAll.take {H : Hp} : ∀ (n : Nat) {vs : List V} {ds : List PyData}, RpAll H vs ds → RpAll H (vs.take n) (ds.take n)
  | 0, _, _, _ => by simpa using RpAll.nil
  | n + 1, _, _, .nil => by simpa using RpAll.nil
  | n + 1, _, _, .cons r t => .cons r (RpAll.take n t)
theorem RpAll.drop {H : Hp} : ∀ (n : Nat) {vs : List V} {ds : List PyData}, RpAll H vs ds → RpAll H (vs.drop n) (ds.drop n)
  | 0, _, _, r => r
  | n + 1, _, _, .nil => by simpa using RpAll.nil
  | n + 1, _, _, .cons r t => RpAll.drop n t
theorem RpAll.set {H : Hp} {v : V} {d : PyData} (h : Rp H v d) : ∀ (n : Nat) {vs : List V} {ds : List PyData}, RpAll H vs ds → RpAll H (vs.set n v) (ds.set n d)
  | _, _, _, .nil => .nil
  | 0, _, _, .cons _ t => .cons h t
  | n + 1, _, _, .cons r t => .cons r (RpAll.set h n t)
theorem RpAll.rep {H : Hp} {vs : List V} {ds : List PyData} (h : RpAll H vs ds) : ∀ n : Nat, RpAll H (List.replicate n vs).flatten (List.replicate n ds).flatten
  | 0 => by simpa using RpAll.nil
  | n + 1 => by
    rw [List.replicate_succ, List.flatten_cons, List.replicate_succ, List.flatten_cons]
    exact RpAll.append h (RpAll.rep h n)
theorem RpAll.get {α : Type} {f : α → PyData} {H : Hp} {vs : List V} {xs : List α} {i : Nat} {v : V} (r : RpAll H vs (xs.map f)) (h : vs[i]? = some v) : ∃ x, xs[i]? = some x ∧ Rp H v (f x) := by
  obtain ⟨d, h1, h2⟩ := RpAll.at r h
  rw [List.getElem?_map] at h1
  cases e : xs[i]? with
  | none => rw [e] at h1; cases h1
  | some x =>
    rw [e] at h1
    have : f x = d := Option.some.inj h1
    exact ⟨x, rfl, this ▸ h2⟩
/-- the item at an index, data -/
theorem RpAll.ix {α : Type} {f : α → PyData} {H : Hp} {vs : List V} {xs : List α} {k : Int} (r : RpAll H vs (xs.map f)) (h : -(xs.length : Int) ≤ k ∧ k < xs.length) : ∃ v x, atI vs k = some v ∧ atI xs k = some x ∧ Rp H v (f x) := by
  have hl : vs.length = xs.length := by rw [r.len, List.length_map]
  have hk : ∃ j, ixN xs.length k = some j ∧ j < xs.length := by
    unfold ixN
    by_cases h0 : 0 ≤ k
    · refine ⟨k.toNat, ?_, by omega⟩
      rw [if_pos h0, if_pos h.2]
    · refine ⟨(k + xs.length).toNat, ?_, by omega⟩
      rw [if_neg h0, if_pos h.1]
  obtain ⟨j, e, hj⟩ := hk
  have hx := List.getElem?_eq_getElem hj
  obtain ⟨v, h1, h2⟩ := RpAll.at' (i := j) (d := f xs[j]) r (by rw [List.getElem?_map, hx] <;> rfl)
  refine ⟨v, xs[j], ?_, ?_, h2⟩
  · unfold atI
    rw [hl, e]
    exact h1
  · unfold atI
    rw [e]
    exact hx

/-! ### types -/
def encL {α : Type} (f : α → PyData) (xs : List α) : PyData := .list (xs.map f)
def encT2 {α β : Type} (f : α → PyData) (g : β → PyData) (p : α × β) : PyData := .tuple [f p.1, g p.2]
def encT3 {α β γ : Type} (f : α → PyData) (g : β → PyData) (h : γ → PyData) (p : α × β × γ) : PyData := .tuple [f p.1, g p.2.1, h p.2.2]
def encT4 {α β γ δ : Type} (f : α → PyData) (g : β → PyData) (h : γ → PyData) (i : δ → PyData) (p : α × β × γ × δ) : PyData := .tuple [f p.1, g p.2.1, h p.2.2.1, i p.2.2.2]
structure EncOk {α : Type} [DecidableEq α] (n : Nat) (f : α → PyData) : Prop where
  lay : ∀ x, PyData.canLay0 (f x) = true
  dep : ∀ x, PyData.depth (f x) ≤ n
  eqv : ∀ x y, PyData.eqv (f x) (f y) = decide (x = y)
theorem encOk_int : EncOk 0 PyData.int := ⟨fun _ => by simp [PyData.canLay0], fun _ => by simp [PyData.depth], fun x y => by simp [PyData.eqv]; by_cases h : x = y <;> simp [h]⟩
theorem encOk_bool : EncOk 0 PyData.bool := ⟨fun _ => by simp [PyData.canLay0], fun _ => by simp [PyData.depth], fun x y => by cases x <;> cases y <;> simp [PyData.eqv]⟩
section
variable {α β γ δ : Type} [DecidableEq α] [DecidableEq β] [DecidableEq γ] [DecidableEq δ] {n m l o : Nat} {f : α → PyData} {g : β → PyData} {h : γ → PyData} {i : δ → PyData}
theorem lay_map (ok : EncOk n f) : ∀ xs : List α, PyData.canLayAll0 (xs.map f) = true
  | [] => by simp [PyData.canLayAll0]
  | x :: xs => by simp [PyData.canLayAll0, ok.lay x, lay_map ok xs]
theorem dep_map (ok : EncOk n f) : ∀ xs : List α, PyData.depthAll (xs.map f) ≤ n
  | [] => by simp [PyData.depthAll]
  | x :: xs => by
    have h1 := ok.dep x
    have h2 := dep_map ok xs
    simp only [List.map_cons, PyData.depthAll]
    omega
theorem eqv_map (ok : EncOk n f) : ∀ xs ys : List α, PyData.eqvAll (xs.map f) (ys.map f) = decide (xs = ys)
  | [], [] => by simp [PyData.eqvAll]
  | [], y :: ys => by simp [PyData.eqvAll]
  | x :: xs, [] => by simp [PyData.eqvAll]
  | x :: xs, y :: ys => by
    have ih := eqv_map ok xs ys
    simp only [List.map_cons, PyData.eqvAll, ok.eqv, ih]
    by_cases h : x = y <;> by_cases h2 : xs = ys <;> simp [h, h2]
theorem encOk_L (ok : EncOk n f) : EncOk (n + 1) (encL f) := ⟨fun xs => by simp [encL, PyData.canLay0, lay_map ok], fun xs => by
  have := dep_map ok xs
  simp only [encL, PyData.depth]
  omega, fun xs ys => by simp only [encL, PyData.eqv]; exact eqv_map ok xs ys⟩
theorem encOk_T2 (ok : EncOk n f) (ok2 : EncOk m g) : EncOk (max n m + 1) (encT2 f g) := ⟨fun x => by simp [encT2, PyData.canLay0, PyData.canLayAll0, ok.lay, ok2.lay], fun x => by
  have h1 := ok.dep x.1
  have h2 := ok2.dep x.2
  simp only [encT2, PyData.depth, PyData.depthAll]
  omega, fun x y => by
  obtain ⟨a, b⟩ := x
  obtain ⟨c, d⟩ := y
  simp only [encT2, PyData.eqv, PyData.eqvAll, ok.eqv, ok2.eqv, Prod.mk.injEq]
  by_cases h1 : a = c <;> by_cases h2 : b = d <;> simp [h1, h2]⟩
theorem encOk_T3 (ok : EncOk n f) (ok2 : EncOk m g) (ok3 : EncOk l h) : EncOk (max n (max m l) + 1) (encT3 f g h) := ⟨fun x => by simp [encT3, PyData.canLay0, PyData.canLayAll0, ok.lay, ok2.lay, ok3.lay], fun x => by
  have h1 := ok.dep x.1
  have h2 := ok2.dep x.2.1
  have h3 := ok3.dep x.2.2
  simp only [encT3, PyData.depth, PyData.depthAll]
  omega, fun x y => by
  obtain ⟨a, b, e⟩ := x
  obtain ⟨c, d, e'⟩ := y
  simp only [encT3, PyData.eqv, PyData.eqvAll, ok.eqv, ok2.eqv, ok3.eqv, Prod.mk.injEq]
  by_cases h1 : a = c <;> by_cases h2 : b = d <;> by_cases h3 : e = e' <;> simp [h1, h2, h3]⟩
theorem encOk_T4 (ok : EncOk n f) (ok2 : EncOk m g) (ok3 : EncOk l h) (ok4 : EncOk o i) : EncOk (max n (max m (max l o)) + 1) (encT4 f g h i) := ⟨fun x => by simp [encT4, PyData.canLay0, PyData.canLayAll0, ok.lay, ok2.lay, ok3.lay, ok4.lay], fun x => by
  have h1 := ok.dep x.1
  have h2 := ok2.dep x.2.1
  have h3 := ok3.dep x.2.2.1
  have h4 := ok4.dep x.2.2.2
  simp only [encT4, PyData.depth, PyData.depthAll]
  omega, fun x y => by
  obtain ⟨a, b, e, u⟩ := x
  obtain ⟨c, d, e', u'⟩ := y
  simp only [encT4, PyData.eqv, PyData.eqvAll, ok.eqv, ok2.eqv, ok3.eqv, ok4.eqv, Prod.mk.injEq]
  by_cases h1 : a = c <;> by_cases h2 : b = d <;> by_cases h3 : e = e' <;> by_cases h4 : u = u' <;> simp [h1, h2, h3, h4]⟩
end
section
variable {X : Cx} {α : Type} [DecidableEq α] {n : Nat} {f : α → PyData}
def rEqT (f : α → PyData) : R2 := fun x y H Q => ∃ (a b : α), Rp H x (f a) ∧ Rp H y (f b) ∧ Q (.bl (decide (a = b))) H
def rNeT (f : α → PyData) : R2 := fun x y H Q => ∃ (a b : α), Rp H x (f a) ∧ Rp H y (f b) ∧ Q (.bl (!decide (a = b))) H
theorem shaped_of (ok : EncOk n f) (hn : n ≤ 64) (a : α) : SeqAt.shaped (f a) = true := by
  unfold SeqAt.shaped
  have h := ok.dep a
  rw [ok.lay]
  simp
  omega
theorem op_eqT (ok : EncOk n f) (hu : X.A.units + 64 < cLine) (hn : n ≤ 64 := by decide) : OpR X (compareOp .Eq) (rEqT f) := by
  intro pins s σ H x y v u Q I rx ry h
  obtain ⟨a, b, h1, h2, q⟩ := h
  exact op_eqD hu pins s σ H _ _ v u Q I rx ry ⟨_, _, h1.dp, h2.dp, shaped_of ok hn a, shaped_of ok hn b, by rw [ok.eqv]; exact q⟩
theorem op_neT (ok : EncOk n f) (hu : X.A.units + 64 < cLine) (hn : n ≤ 64 := by decide) : OpR X (compareOp .NotEq) (rNeT f) := by
  intro pins s σ H x y v u Q I rx ry h
  obtain ⟨a, b, h1, h2, q⟩ := h
  exact op_neD hu pins s σ H _ _ v u Q I rx ry ⟨_, _, h1.dp, h2.dp, shaped_of ok hn a, shaped_of ok hn b, by rw [ok.eqv]; exact q⟩
end
section
variable {H : Hp} {v : V} {α β γ δ : Type} {f : α → PyData} {g : β → PyData} {h : γ → PyData} {i : δ → PyData}
theorem rp_int {x : Int} (r : Rp H v (.int x)) : v = .int x := by cases r; rfl
theorem rp_bool {x : Bool} (r : Rp H v (.bool x)) : v = .bl x := by cases r; rfl
theorem rp_str {x : Str} (r : Rp H v (.str x)) : v = .str x := by cases r; rfl
theorem rp_list {xs : List α} (r : Rp H v (encL f xs)) : ∃ a vs, v = .ref a ∧ H a = some (.lst vs) ∧ RpAll H vs (xs.map f) := by
  unfold encL at r
  cases r with
  | lst h1 h2 => exact ⟨_, _, rfl, h1, h2⟩
theorem rpAll_ints : ∀ {vs : List V} {xs : List Int}, RpAll H vs (xs.map PyData.int) → vs = xs.map V.int
  | _, [], .nil => rfl
  | _, x :: xs, .cons r t => by rw [rp_int r, rpAll_ints t] <;> rfl
theorem rp_ints {xs : List Int} (r : Rp H v (encL PyData.int xs)) : ∃ a, v = .ref a ∧ H a = some (.lst (xs.map V.int)) := by
  obtain ⟨a, vs, e, h1, h2⟩ := rp_list r
  rw [rpAll_ints h2] at h1
  exact ⟨a, e, h1⟩
theorem rp_tup2 {x : α × β} (r : Rp H v (encT2 f g x)) : ∃ a v1 v2, v = .ref a ∧ H a = some (.tup [v1, v2]) ∧ Rp H v1 (f x.1) ∧ Rp H v2 (g x.2) := by
  unfold encT2 at r
  cases r with
  | tup h1 h2 =>
    cases h2 with
    | cons a b =>
      cases b with
      | cons b c =>
        cases c
        exact ⟨_, _, _, rfl, h1, a, b⟩
theorem rp_tup3 {x : α × β × γ} (r : Rp H v (encT3 f g h x)) : ∃ a v1 v2 v3, v = .ref a ∧ H a = some (.tup [v1, v2, v3]) ∧ Rp H v1 (f x.1) ∧ Rp H v2 (g x.2.1) ∧ Rp H v3 (h x.2.2) := by
  unfold encT3 at r
  cases r with
  | tup h1 h2 =>
    cases h2 with
    | cons a b =>
      cases b with
      | cons b c =>
        cases c with
        | cons c d =>
          cases d
          exact ⟨_, _, _, _, rfl, h1, a, b, c⟩
theorem rp_mk_list {a : Addr} {vs : List V} {xs : List α} (h1 : H a = some (.lst vs)) (h2 : RpAll H vs (xs.map f)) : Rp H (.ref a) (encL f xs) := .lst h1 h2
theorem rp_mk_ints {a : Addr} {xs : List Int} (h1 : H a = some (.lst (xs.map V.int))) : Rp H (.ref a) (encL PyData.int xs) := .lst h1 (RpAll.ints xs)
theorem rp_mk2 {a : Addr} {v1 v2 : V} {x : α} {y : β} (h1 : H a = some (.tup [v1, v2])) (r1 : Rp H v1 (f x)) (r2 : Rp H v2 (g y)) : Rp H (.ref a) (encT2 f g (x, y)) := .tup h1 (.cons r1 (.cons r2 .nil))
theorem rp_mk3 {a : Addr} {v1 v2 v3 : V} {x : α} {y : β} {z : γ} (h1 : H a = some (.tup [v1, v2, v3])) (r1 : Rp H v1 (f x)) (r2 : Rp H v2 (g y)) (r3 : Rp H v3 (h z)) : Rp H (.ref a) (encT3 f g h (x, y, z)) := .tup h1 (.cons r1 (.cons r2 (.cons r3 .nil)))
end

/-! ### the two heaps -/
def SameXs (L : List Addr) (H H' : Hp) : Prop := ∀ b o, H b = some o → b ∉ L → H' b = some o
theorem SameXs.of {H H' : Hp} {m : Addr} (x : SameX m H H') : SameXs [m] H H' := fun b o e n => x b o e (fun z => n (by rw [z]; exact List.mem_cons_self))
theorem ni1 {b m : Addr} (h : b ≠ m) : b ∉ [m] := by simpa using h
theorem ni2 {b m n : Addr} (h : b ≠ m) (h2 : b ≠ n) : b ∉ [m, n] := by simp [h, h2]
theorem ni3 {b m n o : Addr} (h : b ≠ m) (h2 : b ≠ n) (h3 : b ≠ o) : b ∉ [m, n, o] := by simp [h, h2, h3]
theorem ni4 {b m n o p : Addr} (h : b ≠ m) (h2 : b ≠ n) (h3 : b ≠ o) (h4 : b ≠ p) : b ∉ [m, n, o, p] := by simp [h, h2, h3, h4]
def hideL (L : List Addr) (H : Hp) : Hp := fun b => if b ∈ L then none else H b
theorem hideL_same (L : List Addr) (H : Hp) : Same (hideL L H) H := fun b o e => by
  unfold hideL at e
  split at e
  · cases e
  · exact e
theorem hideL_in {L : List Addr} {H : Hp} {b : Addr} (h : b ∈ L) : hideL L H b = none := if_pos h
theorem hideL_out {L : List Addr} {H : Hp} {b : Addr} (h : b ∉ L) : hideL L H b = H b := if_neg h
/-- M: owned from outside; H0, G0: at the entry; G: what stays as it is; O: what may change -/
structure Sep (M : List Addr) (H0 G0 G H : Hp) (O : List Addr) : Prop where
  base : SameXs M H0 H
  pm : ∀ a ∈ M, H a ≠ none
  sG : Same G H
  g0 : Same G0 G
  gn : ∀ b, H0 b ≠ none → G0 b = none → G b = none
  ow : ∀ a ∈ O, G a = none ∧ H a ≠ none ∧ (a ∈ M ∨ H0 a = none)
theorem all_nil {P : Addr → Prop} : ∀ x ∈ ([] : List Addr), P x := fun x h => by cases h
theorem all_cons {P : Addr → Prop} {a : Addr} {l : List Addr} (h : P a) (t : ∀ x ∈ l, P x) : ∀ x ∈ a :: l, P x := fun x hx => by
  cases hx with
  | head => exact h
  | tail _ hx => exact t x hx
theorem some_ne {H : Hp} {a : Addr} {o : HO} (h : H a = some o) : H a ≠ none := by
  rw [h]
  exact fun z => nomatch z
theorem same_ne {H H' : Hp} {a : Addr} (e : Same H H') (h : H a ≠ none) : H' a ≠ none := by
  cases q : H a with
  | none => exact absurd q h
  | some o => exact some_ne (e a o q)
section
variable {M : List Addr} {H0 G0 G H H' : Hp} {O : List Addr} {p m : Addr} {o : HO}
theorem Sep.start (M : List Addr) (H : Hp) (hM : ∀ a ∈ M, H a ≠ none) : Sep M H (hideL M H) (hideL M H) H M :=
  ⟨fun _ _ e _ => e, hM, hideL_same M H, Same.refl _, fun _ _ e => e, fun a ha => ⟨hideL_in ha, hM a ha, .inl ha⟩⟩
theorem Sep.startG {G H : Hp} (e : Same G H) : Sep [] H G G H [] := ⟨fun _ _ e _ => e, all_nil, e, Same.refl _, fun _ _ e => e, fun a ha => by cases ha⟩
theorem Sep.start0 (H : Hp) : Sep [] H H H H [] := Sep.startG (Same.refl H)
theorem Sep.b0 (S : Sep [] H0 G0 G H O) : Same H0 H := fun b o e => S.base b o e List.not_mem_nil
theorem Sep.free (S : Sep M H0 G0 G H O) {q : Addr} (n : H q = none) : H0 q = none := by
  cases e : H0 q with
  | none => rfl
  | some o =>
    by_cases h : q ∈ M
    · exact absurd n (S.pm q h)
    · rw [S.base q o e h] at n
      cases n
theorem Sep.same (S : Sep M H0 G0 G H O) (e : Same H H') : Sep M H0 G0 G H' O :=
  ⟨fun b o h n => e b o (S.base b o h n), fun a ha => same_ne e (S.pm a ha), S.sG.trans e, S.g0, S.gn, fun a ha => ⟨(S.ow a ha).1, same_ne e (S.ow a ha).2.1, (S.ow a ha).2.2⟩⟩
theorem Sep.gfree (S : Sep M H0 G0 G H O) {q : Addr} (n : H q = none) : G q = none := by
  cases e : G q with
  | none => rfl
  | some o => rw [S.sG q o e] at n; cases n
theorem Sep.new (S : Sep M H0 G0 G H O) (n : H p = none) (e : Same H H') (h : H' p = some o) (hm : H0 p = none) : Sep M H0 G0 G H' (p :: O) := by
  have S1 := S.same e
  refine ⟨S1.base, S1.pm, S1.sG, S1.g0, S1.gn, fun a ha => ?_⟩
  cases ha with
  | head => exact ⟨S.gfree n, some_ne h, .inr hm⟩
  | tail _ ha => exact S1.ow a ha
theorem Sep.grow (S : Sep M H0 G0 G H O) (n : H p = none) (e : Same H H') (h : H' p = some o) (hm : H0 p = none) : ∃ G', Same G G' ∧ G' p = some o ∧ Sep M H0 G0 G' H' O := by
  have S1 := S.same e
  have ng := S.gfree n
  refine ⟨upd G p o, fun b u q => by rw [upd_ne (ne_of_none q ng)]; exact q, upd_same, S1.base, S1.pm, fun b u q => ?_, fun b u q => ?_, fun b hb gb => ?_, fun a ha => ?_⟩
  · by_cases z : b = p
    · subst z
      rw [upd_same] at q
      exact q ▸ h
    · rw [upd_ne z] at q
      exact S1.sG b u q
  · have := S.g0 b u q
    rw [upd_ne (ne_of_none this ng)]
    exact this
  · by_cases z : b = p
    · subst z
      exact absurd hm hb
    · rw [upd_ne z]
      exact S.gn b hb gb
  · have hne : a ≠ p := fun z => (S.ow a ha).2.1 (by rw [z]; exact n)
    rw [upd_ne hne]
    exact S1.ow a ha
theorem Sep.mut (S : Sep M H0 G0 G H O) {L : List Addr} (x : SameXs L H H') (hL : ∀ a ∈ L, a ∈ O) (hs : ∀ a ∈ L, H' a ≠ none) : Sep M H0 G0 G H' O := by
  have keep : ∀ a, H a ≠ none → H' a ≠ none := fun a h => by
    by_cases hb : a ∈ L
    · exact hs a hb
    · cases q : H a with
      | none => exact absurd q h
      | some o => exact some_ne (x a o q hb)
  refine ⟨fun b o e n => ?_, fun a ha => keep a (S.pm a ha), fun b o e => ?_, S.g0, S.gn, fun a ha => ⟨(S.ow a ha).1, keep a (S.ow a ha).2.1, (S.ow a ha).2.2⟩⟩
  · refine x b o (S.base b o e n) fun hb => ?_
    rcases (S.ow b (hL b hb)).2.2 with z | z
    · exact n z
    · rw [e] at z; cases z
  · refine x b o (S.sG b o e) fun hb => ?_
    have := (S.ow b (hL b hb)).1
    rw [e] at this
    cases this
theorem Sep.mut1 (S : Sep M H0 G0 G H O) (x : SameX m H H') (hm : m ∈ O) (h : H' m = some o) : Sep M H0 G0 G H' O :=
  S.mut (SameXs.of x) (all_cons hm all_nil) (all_cons (some_ne h) all_nil)
theorem Sep.sub (S : Sep M H0 G0 G H O) {O' : List Addr} (h : ∀ a ∈ O', a ∈ O) : Sep M H0 G0 G H O' := ⟨S.base, S.pm, S.sG, S.g0, S.gn, fun a ha => S.ow a (h a ha)⟩
/-- what was owned and is to stay as it is from now on -/
theorem Sep.freeze (S : Sep M H0 G0 G H O) {O' : List Addr} (hp : p ∈ O) (h : H p = some o) (hm : H0 p = none) (hO : ∀ a ∈ O', a ∈ O ∧ a ≠ p) : ∃ G', Same G G' ∧ G' p = some o ∧ Sep M H0 G0 G' H O' := by
  have ng := (S.ow p hp).1
  refine ⟨upd G p o, fun b u q => by rw [upd_ne (ne_of_none q ng)]; exact q, upd_same, S.base, S.pm, fun b u q => ?_, fun b u q => ?_, fun b hb gb => ?_, fun a ha => ?_⟩
  · by_cases z : b = p
    · subst z
      rw [upd_same] at q
      exact q ▸ h
    · rw [upd_ne z] at q
      exact S.sG b u q
  · have := S.g0 b u q
    rw [upd_ne (ne_of_none this ng)]
    exact this
  · by_cases z : b = p
    · subst z
      exact absurd hm hb
    · rw [upd_ne z]
      exact S.gn b hb gb
  · rw [upd_ne (hO a ha).2]
    exact S.ow a (hO a ha).1
/-- a callee that hands on data in a stable heap of its own -/
theorem Sep.step (S : Sep M H0 G0 G H O) {G' : Hp} (e : Same H H') (eG : Same G G') (sG : Same G' H') (hn : ∀ b, H b ≠ none → G b = none → G' b = none) : Sep M H0 G0 G' H' O := by
  have S1 := S.same e
  refine ⟨S1.base, S1.pm, sG, S.g0.trans eG, fun b hb gb => ?_, fun a ha => ⟨hn a (S.ow a ha).2.1 (S.ow a ha).1, (S1.ow a ha).2⟩⟩
  refine hn b (fun z => ?_) (S.gn b hb gb)
  exact hb (S.free z)
theorem Sep.hid (S : Sep M H0 G0 G H O) {L : List Addr} (h : ∀ a ∈ L, a ∈ O) : Same G (hideL L H) := fun b o e => by
  rw [hideL_out fun z => by
    have := (S.ow b (h b z)).1
    rw [e] at this
    cases this]
  exact S.sG b o e
end
end Vx

namespace Vx
open PySem PySem.Spec PyProof.Rows L2
/-! ### lists of plain things (f : V.int, V.bl, V.str) -/
section
variable {α : Type} {f : α → V} {H : Hp} {p : Addr}
theorem cat_map {xs ys : List α} (h : H p = some (.lst (xs.map f ++ ys.map f))) : H p = some (.lst ((xs ++ ys).map f)) := by
  rw [List.map_append]; exact h
theorem snoc_map {xs : List α} {y : α} (h : H p = some (.lst (xs.map f ++ [f y]))) : H p = some (.lst ((xs ++ [y]).map f)) := by
  rw [List.map_append]; exact h
def repL (xs : List α) (k : Int) : List α := (List.replicate k.toNat xs).flatten
theorem rep_map {xs : List α} {k : Int} (h : H p = some (.lst (List.replicate k.toNat (xs.map f)).flatten)) : H p = some (.lst ((repL xs k).map f)) := by
  rw [h]
  unfold repL
  rw [List.map_flatten, List.map_replicate]
def cutL (xs : List α) (lo hi : Option Int) : List α := (xs.drop (HT.sIx xs.length 0 lo)).take (HT.sIx xs.length xs.length hi - HT.sIx xs.length 0 lo)
theorem cut_map {xs : List α} {lo hi : Option Int} (h : H p = some (.lst (cutV (xs.map f) lo hi))) : H p = some (.lst ((cutL xs lo hi).map f)) := by
  rw [h]
  unfold cutV cutL
  rw [List.length_map, List.map_take, List.map_drop]
theorem cast_map {xs ys : List α} (h : H p = some (.lst (xs.map f))) (e : xs = ys) : H p = some (.lst (ys.map f)) := e ▸ h
theorem drop_map {xs : List α} (h : H p = some (.lst (xs.map f).dropLast)) : H p = some (.lst (xs.dropLast.map f)) := by
  rw [h, List.map_dropLast]
theorem ixN_some {n : Nat} {k : Int} (h : -(n : Int) ≤ k ∧ k < n) : ∃ j, ixN n k = some j ∧ j < n := by
  unfold ixN
  by_cases h0 : 0 ≤ k
  · exact ⟨k.toNat, by rw [if_pos h0, if_pos h.2], by omega⟩
  · exact ⟨(k + n).toNat, by rw [if_neg h0, if_pos h.1], by omega⟩
def itD [Inhabited α] (xs : List α) (k : Int) : α := (atI xs k).getD default
theorem atI_map [Inhabited α] {xs : List α} {k : Int} (h : -(xs.length : Int) ≤ k ∧ k < xs.length) : atI (xs.map f) k = some (f (itD xs k)) := by
  obtain ⟨j, e, hj⟩ := ixN_some h
  unfold itD atI
  rw [List.length_map, e]
  show (xs.map f)[j]? = some (f ((xs[j]?).getD default))
  rw [List.getElem?_map, List.getElem?_eq_getElem hj] <;> rfl
def setL (xs : List α) (k : Int) (y : α) : List α := xs.set ((ixN xs.length k).getD 0) y
theorem ixN_map {xs : List α} {k : Int} (h : -(xs.length : Int) ≤ k ∧ k < xs.length) : ixN (xs.map f).length k = some ((ixN xs.length k).getD 0) := by
  obtain ⟨j, e, hj⟩ := ixN_some h
  rw [List.length_map, e] <;> rfl
theorem set_map {xs : List α} {k : Int} {y : α} (h : H p = some (.lst ((xs.map f).set ((ixN xs.length k).getD 0) (f y)))) : H p = some (.lst ((setL xs k y).map f)) := by
  rw [h]
  unfold setL
  rw [List.map_set]
def lastD [Inhabited α] (xs : List α) : α := xs.getLastD default
theorem pop_map [Inhabited α] {xs : List α} (h : xs ≠ []) : (xs.map f)[(xs.map f).length - 1]? = some (f (lastD xs)) := by
  rw [← List.getLast?_eq_getElem?, List.getLast?_map]
  unfold lastD
  cases e : xs.getLast? with
  | none => exact absurd (List.getLast?_eq_none_iff.mp e) h
  | some y =>
    rw [List.getLastD_eq_getLast?, e] <;> rfl
end
/-! ### lists of data -/
section
variable {α β : Type} {f : α → PyData} {g : β → PyData} {G : Hp} {vs ws : List V} {xs ys : List α}
theorem app_map (a : RpAll G vs (xs.map f)) (b : RpAll G ws (ys.map f)) : RpAll G (vs ++ ws) ((xs ++ ys).map f) := by
  rw [List.map_append]; exact a.append b
theorem one_map {v : V} {y : α} (a : RpAll G vs (xs.map f)) (b : Rp G v (f y)) : RpAll G (vs ++ [v]) ((xs ++ [y]).map f) := by
  rw [List.map_append]; exact a.append (.one b)
theorem rep_all (k : Int) (a : RpAll G vs (xs.map f)) : RpAll G (List.replicate k.toNat vs).flatten ((repL xs k).map f) := by
  unfold repL
  rw [List.map_flatten, List.map_replicate]
  exact a.rep _
theorem cut_all (lo hi : Option Int) (a : RpAll G vs (xs.map f)) : RpAll G (cutV vs lo hi) ((cutL xs lo hi).map f) := by
  unfold cutV cutL
  rw [a.len, List.length_map, List.map_take, List.map_drop]
  exact (a.drop _).take _
theorem rp_cast {v : V} {d e : PyData} (r : Rp G v d) (h : d = e) : Rp G v e := h ▸ r
theorem comp_listD {i : Nat} {x : α} {y : β} {v : V} {h : α → β} (hi : xs[i]? = some x) (a : RpAll G vs (((xs.take i).map h).map g)) (r : Rp G v (g y)) (e : h x = y) : RpAll G (vs ++ [v]) (((xs.take (i + 1)).map h).map g) := by
  rw [take_succ_get hi, List.map_append, List.map_append]
  exact a.append (.one (e ▸ r))
theorem comp_rangeD {i : Nat} {y : β} {v : V} {h : Nat → β} (a : RpAll G vs (((List.range i).map h).map g)) (r : Rp G v (g y)) (e : h i = y) : RpAll G (vs ++ [v]) (((List.range (i + 1)).map h).map g) := by
  rw [List.range_succ, List.map_append, List.map_append]
  exact a.append (.one (e ▸ r))
theorem comp_doneD {n : Nat} {h : List α → List β} (hl : n = xs.length) (a : RpAll G vs ((h (xs.take n)).map g)) : RpAll G vs ((h xs).map g) := by
  rw [hl, List.take_length] at a
  exact a
theorem comp_listFD {i : Nat} {x : α} {y : β} {v : V} {h : α → β} {q : α → Bool} (hi : xs[i]? = some x) (hq : q x = true) (a : RpAll G vs ((((xs.take i).filter q).map h).map g)) (r : Rp G v (g y)) (e : h x = y) : RpAll G (vs ++ [v]) ((((xs.take (i + 1)).filter q).map h).map g) := by
  rw [take_succ_get hi, List.filter_append, List.filter_cons, if_pos hq, List.map_append, List.map_append]
  exact a.append (.one (e ▸ r))
theorem skip_listD {i : Nat} {x : α} {h : α → β} {q : α → Bool} (hi : xs[i]? = some x) (hq : q x = false) (a : RpAll G vs ((((xs.take i).filter q).map h).map g)) : RpAll G vs ((((xs.take (i + 1)).filter q).map h).map g) := by
  rw [take_succ_get hi, List.filter_append, List.filter_cons, if_neg (by rw [hq]; decide), List.filter_nil, List.append_nil]
  exact a
end
section
variable {α β : Type} {f : β → V} {H : Hp} {D : Addr} {xs : List α}
theorem compM_list {i : Nat} {x : α} {y : β} {h : α → β} (hi : xs[i]? = some x) (a : H D = some (.lst (((xs.take i).map h).map f ++ [f y]))) (e : h x = y) : H D = some (.lst (((xs.take (i + 1)).map h).map f)) := by
  rw [a, ← e, take_succ_get hi, List.map_append, List.map_append] <;> rfl
theorem compM_range {i : Nat} {y : β} {h : Nat → β} (a : H D = some (.lst (((List.range i).map h).map f ++ [f y]))) (e : h i = y) : H D = some (.lst (((List.range (i + 1)).map h).map f)) := by
  rw [a, ← e, List.range_succ, List.map_append, List.map_append] <;> rfl
theorem compM_done {n : Nat} {h : List α → List β} (hl : n = xs.length) (a : H D = some (.lst ((h (xs.take n)).map f))) : H D = some (.lst ((h xs).map f)) := by
  rw [hl, List.take_length] at a
  exact a
theorem compM_listF {i : Nat} {x : α} {y : β} {h : α → β} {q : α → Bool} (hi : xs[i]? = some x) (hq : q x = true) (a : H D = some (.lst ((((xs.take i).filter q).map h).map f ++ [f y]))) (e : h x = y) : H D = some (.lst ((((xs.take (i + 1)).filter q).map h).map f)) := by
  rw [a, ← e, take_succ_get hi, List.filter_append, List.filter_cons, if_pos hq, List.map_append, List.map_append] <;> rfl
theorem skipM_list {i : Nat} {x : α} {h : α → β} {q : α → Bool} (hi : xs[i]? = some x) (hq : q x = false) (a : H D = some (.lst ((((xs.take i).filter q).map h).map f))) : H D = some (.lst ((((xs.take (i + 1)).filter q).map h).map f)) := by
  rw [a, take_succ_get hi, List.filter_append, List.filter_cons, if_neg (by rw [hq]; decide), List.filter_nil, List.append_nil]
theorem compM_rangeF {i : Nat} {y : β} {h : Nat → β} {q : Nat → Bool} (hq : q i = true) (a : H D = some (.lst ((((List.range i).filter q).map h).map f ++ [f y]))) (e : h i = y) : H D = some (.lst ((((List.range (i + 1)).filter q).map h).map f)) := by
  rw [a, ← e, List.range_succ, List.filter_append, List.filter_cons, if_pos hq, List.map_append, List.map_append] <;> rfl
theorem skipM_range {i : Nat} {h : Nat → β} {q : Nat → Bool} (hq : q i = false) (a : H D = some (.lst ((((List.range i).filter q).map h).map f))) : H D = some (.lst ((((List.range (i + 1)).filter q).map h).map f)) := by
  rw [a, List.range_succ, List.filter_append, List.filter_cons, if_neg (by rw [hq]; decide), List.filter_nil, List.append_nil]
end
/-! ### more rules -/
section
variable {X : Cx} {K : PySem.W.Frag}
theorem ix_tupK (hK : X.K = K := by rfl) : IxR X (rIxT K) := hK ▸ ix_tup
def rLenLK (K : PySem.W.Frag) : List V → Hp → VK → Prop := fun xs H Q => ∃ (p : Addr) (vs : List V) (n : Nat), xs = [.ref p] ∧ SqL K H p vs ∧ vs.length = n ∧ Q (.int (n : Int)) H
theorem call_lenLK (hK : X.K = K := by rfl) : CallR X (.builtin "len") (rLenLK K) := by
  subst hK
  intro pins s σ H xs us Q I r h
  obtain ⟨p, vs, n, rfl, hs, hn, q⟩ := h
  exact call_len_seq pins s σ H _ us Q I r ⟨p, _, rfl, Or.inl hs, by rw [hn]; exact q⟩
def rListLK (K : PySem.W.Frag) : List V → Hp → VK → Prop := fun xs H Q => ∃ (p : Addr) (vs : List V), xs = [.ref p] ∧ SqL K H p vs ∧ ∀ l, H l = none → Q (.ref l) (upd H l (.lst vs))
theorem call_listLK (hK : X.K = K := by rfl) : CallR X (.type "list") (rListLK K) := by
  subst hK
  intro pins s σ H xs us Q I r h
  obtain ⟨p, vs, rfl, hs, q⟩ := h
  exact call_list_of pins s σ H _ us Q I r ⟨p, _, rfl, Or.inl hs, q⟩
theorem cr_anyK (hc : X.calm = true) (hK : X.K = K := by rfl) : CallR X (.builtin "any") (rAny K) := hK ▸ cr_any hc
theorem cr_allK (hc : X.calm = true) (hK : X.K = K := by rfl) : CallR X (.builtin "all") (rAll K) := hK ▸ cr_all hc
theorem pi_tupK {tg l : Expr} {tl : TE} (hl : PE X l tl) (hK : X.K = K := by rfl) : PI X tg l (iTup K tl) := hK ▸ pi_tup hl
theorem pip {op : Operator} {r : R2} (h : OpR X (inplaceOp op) r) : PIp X op r := fun pins s σ H x y v u Q I rx ry q => h pins s σ H x y v u Q I rx ry q
/-- an item at a place from 0 on, by itself (ahead of o[i] op= e) -/
def rIxP (K : PySem.W.Frag) : R2 := fun x y H Q => ∃ (p : Addr) (xs : List V) (k : Int) (v : V), x = .ref p ∧ y = .int k ∧ SqL K H p xs ∧ 0 ≤ k ∧ k < 2 ^ 62 ∧ atI xs k = some v ∧ Q v H
theorem pget_list (hK : X.K = K := by rfl) : PGet X (rIxP K) := by
  subst hK
  intro pins s σ H o i ov iv Q I ro ri h
  obtain ⟨p, xs, k, v, rfl, rfl, hq, h0, h62, ha, q⟩ := h
  cases ro
  obtain ⟨t, rfl⟩ := ri
  obtain ⟨its, r, pl, hz⟩ := I.list hq
  obtain ⟨j, h1, h2, h3, h4, h5⟩ := atI_get ha
  obtain ⟨w, ew, rw'⟩ := r.get h2
  have hj : k.toNat = j := by
    rw [seqIndex_of h0 h5] at h1
    exact Option.some.inj h1
  exact getItem_listL pl.isList h0 (by omega) (by rw [hj]; simpa using ew) ⟨v, H, I, rw', q⟩
theorem tru_map {α : Type} [DecidableEq α] {f : α → V} {xs : List α} : (!decide (xs = [])) = !(xs.map f).isEmpty := by
  cases xs <;> simp
end
end Vx

namespace Vx
open PySem PySem.Spec PyProof.Rows L2
/-! ### objects -/
section
variable {M : List Addr} {H0 G0 G H H' : Hp} {O : List Addr} {p m : Addr} {o : HO}
theorem gen_obj {x dx : Addr} {o1 o2 : HO} (nx : H x = none) (nd : H dx = none) (ne : dx ≠ x) (h : upd (upd H dx o1) x o2 = H') : Same H H' ∧ H' x = some o2 := by
  subst h
  exact ⟨fun b u e => by rw [upd_ne (ne_of_none e nx), upd_ne (ne_of_none e nd)]; exact e, upd_same⟩
theorem sameX_of {m : Addr} (x : SameXs [m] H H') : SameX m H H' := fun b o e n => x b o e (by simpa using n)
theorem g_ne {a b : Addr} (h : G a = some o) (S : Sep M H0 G0 G H O) (hb : b ∈ O) : a ≠ b := fun z => by
  have := (S.ow b hb).1
  rw [← z, h] at this
  cases this
/-- an object whose making has laid some lists -/
theorem Sep.mutnew (S : Sep M H0 G0 G H O) {L : List Addr} (x : SameXs L H H') (hL : ∀ a ∈ L, a ∈ O) (hs : ∀ a ∈ L, H' a ≠ none) (hn : H p = none) (hp : H' p ≠ none) (h0 : H0 p = none) : Sep M H0 G0 G H' (p :: O) := by
  have S1 := S.mut x hL hs
  refine ⟨S1.base, S1.pm, S1.sG, S1.g0, S1.gn, all_cons ⟨S.gfree hn, hp, .inr h0⟩ S1.ow⟩
theorem Sep.init (S : Sep M H0 G0 G H O) (x : SameX m H H') (hm : m ∈ O) (h : H' m = some o) (L : List Addr) (hL : ∀ a ∈ L, H a = none ∧ H' a ≠ none ∧ H0 a = none) : Sep M H0 G0 G H' (L ++ O) := by
  have S1 := S.mut1 x hm h
  refine ⟨S1.base, S1.pm, S1.sG, S1.g0, S1.gn, fun a ha => ?_⟩
  rcases List.mem_append.mp ha with z | z
  · obtain ⟨h1, h2, h3⟩ := hL a z
    exact ⟨S.gfree h1, h2, .inr h3⟩
  · exact S1.ow a z
end
section
variable {P : Program} {w : World} {K : PySem.W.Frag} {mg : Str → Option Value} {base : Heap}
structure MethIn (K : PySem.W.Frag) (C : Addr) (q m : Str) (st : Stmt) (ps : List Str) : Prop where
  ex : ∃ (f : Addr) (fd : FuncData), Fun K m q st f fd ∧ Meth K C m f ∧ Binds K fd ps []
structure PropIn (K : PySem.W.Frag) (C : Addr) (q m : Str) (st : Stmt) (ps : List Str) : Prop where
  ex : ∃ (r f : Addr) (fd : FuncData), Fun K m q st f fd ∧ PropOf K C m r f ∧ Binds K fd ps []
structure InitIn (K : PySem.W.Frag) (mg : Str → Option Value) (C : Addr) (cn q : Str) (st : Stmt) (ps : List Str) : Prop where
  ex : ∃ (f : Addr) (fd : FuncData), Fun K "__init__" q st f fd ∧ Mk K C f ∧ mg cn = some (.ref C) ∧ Binds K fd ps []
structure MetC (P : Program) (w : World) (K : PySem.W.Frag) (mg : Str → Option Value) (base : Heap) (k : Nat) (C : Addr) (m : Str) (sp : Sp) : Prop where
  ex : ∃ (f : Addr) (fd : FuncData) (ps : List Str), Cls K C ∧ Meth K C m f ∧ FnOk P w K mg base CX0 k f fd ps sp ∧ Binds K fd ps []
structure PropC (P : Program) (w : World) (K : PySem.W.Frag) (mg : Str → Option Value) (base : Heap) (k : Nat) (C : Addr) (m : Str) (sp : Sp) : Prop where
  ex : ∃ (q f : Addr) (fd : FuncData) (ps : List Str), Cls K C ∧ PropOf K C m q f ∧ FnOk P w K mg base CX0 k f fd ps sp ∧ Binds K fd ps []
structure MakC (P : Program) (w : World) (K : PySem.W.Frag) (mg : Str → Option Value) (base : Heap) (k : Nat) (cn : Str) (C : Addr) (sp : Sp) : Prop where
  ex : ∃ (f : Addr) (fd : FuncData) (ps : List Str), Mk K C f ∧ FnOk P w K mg base CX0 k f fd ps sp ∧ mg cn = some (.ref C) ∧ Binds K fd ps []
abbrev Body (P : Program) (w : World) (K : PySem.W.Frag) (mg : Str → Option Value) (base : Heap) (x : Str) (st : Stmt) (N : List Str) (k : Nat) (sp : Sp) : Prop :=
  ∀ (f : Addr) (cdv : Value) (A : Around) (outer : List Env) (s : Shared) (H : Hp) (vs : List V) (Q : VK) (E : XK), Room k (A.deeper (envOfC x (defScope st) s.heap.objs.size f cdv)) → sp vs H Q E →
    ∃ t, PSs (cxOf CX0 P w K mg base N x (defScope st) f cdv A outer s H E).nox (defBody st) t ∧ t { nx := fun _ H' => Q .non H', rt := Q } (start N vs) H
theorem MethIn.ok {C : Addr} {q m : Str} {st : Stmt} {N ps : List Str} {k : Nat} {sp : Sp} (D : MethIn K C q m st ps) (c : Cls K C) (S : FnScope N ps (defScope st)) (len : ∀ vs H Q E, sp vs H Q E → vs.length = ps.length)
    (hbody : Body P w K mg base q st N k sp) : MetC P w K mg base (k + 1) C m sp := by
  obtain ⟨f, fd, F, me, b⟩ := D.ex
  exact ⟨f, fd, ps, c, me, F.ok S len (fun cdv A outer s H vs Q E hr h => hbody f cdv A outer s H vs Q E hr h), b⟩
theorem PropIn.ok {C : Addr} {q m : Str} {st : Stmt} {N ps : List Str} {k : Nat} {sp : Sp} (D : PropIn K C q m st ps) (c : Cls K C) (S : FnScope N ps (defScope st)) (len : ∀ vs H Q E, sp vs H Q E → vs.length = ps.length)
    (hbody : Body P w K mg base q st N k sp) : PropC P w K mg base (k + 1) C m sp := by
  obtain ⟨r, f, fd, F, me, b⟩ := D.ex
  exact ⟨r, f, fd, ps, c, me, F.ok S len (fun cdv A outer s H vs Q E hr h => hbody f cdv A outer s H vs Q E hr h), b⟩
theorem InitIn.ok {C : Addr} {cn q : Str} {st : Stmt} {N ps : List Str} {k : Nat} {sp : Sp} (D : InitIn K mg C cn q st ps) (S : FnScope N ps (defScope st)) (len : ∀ vs H Q E, sp vs H Q E → vs.length = ps.length)
    (hbody : Body P w K mg base q st N k sp) : MakC P w K mg base (k + 1) cn C sp := by
  obtain ⟨f, fd, F, me, hm, b⟩ := D.ex
  exact ⟨f, fd, ps, me, F.ok S len (fun cdv A outer s H vs Q E hr h => hbody f cdv A outer s H vs Q E hr h), hm, b⟩
end
section
variable {X : Cx} {k j : Nat} {C : Addr} {x m : Str} {sp : Sp} {p pos apos : Pos} {e o : Expr} {es : List Expr} {ta : TE} {t : TA}
theorem vx_call0 (c : Cal X.prog X.w X.K X.mg X.base k x sp) (hr : Room j X.A) (hk : k ≤ j) (hg : Gl X x) (hdb : (x == ("__debug__" : Str)) = false := by decide) : PE X (.Call (.Name x p) [] [] pos) (tCall sp [] E0 tNil) := by
  obtain ⟨f, fd, ps, F, hm, kp, b⟩ := c.ex
  exact pe_call0 F (hr.mono hk) hg hm kp b .nil pass0 hdb
theorem vx_make (c : MakC X.prog X.w X.K X.mg X.base k x C sp) (hr : Room j X.A) (hk : k + 1 ≤ j) (hg : Gl X x) (ha : PA X (e :: es) t)
    (hdb : (x == ("__debug__" : Str)) = false := by decide) (he : starEach (e :: es) X.env = (false, eval e X.env) :: starEach es X.env := by rfl) (hpl : (backTo pos (starEach es X.env)).any (·.1) = false := by rfl) :
    PE X (.Call (.Name x p) (e :: es) [] pos) (tMake C sp [] E0 t) := by
  obtain ⟨f, fd, ps, M, F, hm, b⟩ := c.ex
  exact pe_make M F (hr.mono hk) hg hm b .nil pass0 ha hdb he hpl
theorem vx_make0 (c : MakC X.prog X.w X.K X.mg X.base k x C sp) (hr : Room j X.A) (hk : k + 1 ≤ j) (hg : Gl X x) (hdb : (x == ("__debug__" : Str)) = false := by decide) :
    PE X (.Call (.Name x p) [] [] pos) (tMake C sp [] E0 tNil) := by
  obtain ⟨f, fd, ps, M, F, hm, b⟩ := c.ex
  exact pe_make0 M F (hr.mono hk) hg hm b .nil pass0 hdb
theorem vx_meth {pl : Sem Bool} (c : MetC X.prog X.w X.K X.mg X.base k C m sp) (hr : Room j X.A) (hk : k ≤ j) (he : PE X o ta) (ha : PA X (e :: es) t)
    (hst : starEach (e :: es) X.env = (false, eval e X.env) :: starEach es X.env := by rfl) (hpl : (backTo pos (starEach es X.env)).any (·.1) = false := by rfl)
    (ht : eval (.Call (.Attribute o m apos) (e :: es) [] pos) X.env = (do
      let ov ← eval o X.env
      standAt apos.atName
      let (f, first) ← holding [ov] (getMethod ov m pl)
      callWith pos f first (backTo pos (starEach (e :: es) X.env)) (backToKw pos (keywordEach [] X.env))) := by rfl) :
    PE X (.Call (.Attribute o m apos) (e :: es) [] pos) (tMeth C m sp [] E0 ta t) := by
  obtain ⟨f, fd, ps, hc, hm, F, b⟩ := c.ex
  exact pe_meth he hc hm F (hr.mono hk) b .nil pass0 ha hst hpl ht
theorem vx_meth0 {pl : Sem Bool} (c : MetC X.prog X.w X.K X.mg X.base k C m sp) (hr : Room j X.A) (hk : k ≤ j) (he : PE X o ta)
    (ht : eval (.Call (.Attribute o m apos) [] [] pos) X.env = (do
      let ov ← eval o X.env
      standAt apos.atName
      let (f, first) ← holding [ov] (getMethod ov m pl)
      callWith pos f first (backTo pos (starEach [] X.env)) (backToKw pos (keywordEach [] X.env))) := by rfl) :
    PE X (.Call (.Attribute o m apos) [] [] pos) (tMeth C m sp [] E0 ta tNil) := by
  obtain ⟨f, fd, ps, hc, hm, F, b⟩ := c.ex
  exact pe_meth0 he hc hm F (hr.mono hk) b .nil pass0 ht
theorem vx_prop (c : PropC X.prog X.w X.K X.mg X.base k C m sp) (hr : Room j X.A) (hk : k + 1 ≤ j) (he : PE X o ta) (hab : attributeBase o m X.env (eval o X.env) = eval o X.env) : PE X (.Attribute o m pos) (tProp C sp [] E0 ta) := by
  obtain ⟨q, f, fd, ps, hc, hp, F, b⟩ := c.ex
  exact pe_prop he hc hp F (hr.mono hk) b .nil pass0 hab
end
theorem iteBNT {b : Bool} {A B : Prop} (h : b = false) (k : A) : if (!b) = true then A else B := by rw [h]; exact iteT k
theorem iteNN {b : Bool} {A B : Prop} (h : if b = true then A else B) : if (!!b) = true then A else B := by rw [Bool.not_not]; exact h
theorem iteBNF {b : Bool} {A B : Prop} (h : b = true) (k : B) : if (!b) = true then A else B := by rw [h]; exact iteF k
theorem shl_side {i j : Int} (h0 : 0 ≤ j) (h1 : j ≤ 4096) (h2 : -(2 ^ 4096) < i) (h3 : i < 2 ^ 4096) : CShl i j := by
  obtain ⟨k, rfl⟩ := Int.eq_ofNat_of_zero_le h0
  exact shl_ok (n := 4096) (by omega) (by omega)
end Vx

namespace Vx
open PySem PySem.Spec PyProof.Rows L2
section
variable {X : Cx} {K : PySem.W.Frag}
theorem fldK {e : Expr} {f : Str} {pos : Pos} {ta : TE} (he : PE X e ta) (hb : attributeBase e f X.env (eval e X.env) = eval e X.env := by rfl) (hK : X.K = K := by rfl) : PE X (.Attribute e f pos) (tFld K ta f) := hK ▸ pe_fld he hb
theorem pg_tupK {es : List Expr} {k : Nat} {t : TGs} {n : Nat} {pos : Pos} (h : PGs X es t) (hc : X.calm = true := by rfl)
    (hn : (assignEach es X.env).length = n := by rfl) (hst : (assignEach es X.env).findIdx? (·.1) = none := by rfl) (hK : X.K = K := by rfl) : PG X (.Tuple es k pos) (gTup K n t) := hK ▸ pg_tup hc h hn hst
end
end Vx

namespace Vx
open PySem PySem.Spec PyProof.Rows L2
section
variable {α β : Type} {f : α → PyData} {g : β → PyData} {fv : α → V} {gv : β → V} {G : Hp} {vs ws : List V} {xs : List α} {ys : List β}
theorem big1 {n : Nat} (h : n ≤ 1000000) : n ≤ sizeLine := smallE h
theorem cat_len (a : RpAll G vs (xs.map f)) (b : RpAll G ws (ys.map g)) (h : xs.length + ys.length ≤ 1000000) : vs.length + ws.length ≤ sizeLine := by
  rw [a.len, b.len, List.length_map, List.length_map]; exact smallE h
theorem cat_lenM (h : xs.length + ys.length ≤ 1000000) : (xs.map fv).length + (ys.map gv).length ≤ sizeLine := by
  rw [List.length_map, List.length_map]; exact smallE h
theorem rep_len {k : Nat} (a : RpAll G vs (xs.map f)) (h : xs.length * k ≤ 1000000) : vs.length * k ≤ sizeLine := by
  rw [a.len, List.length_map]; exact smallE h
theorem rep_lenM {k : Nat} (h : xs.length * k ≤ 1000000) : (xs.map fv).length * k ≤ sizeLine := by
  rw [List.length_map]; exact smallE h
theorem app_len (a : RpAll G vs (xs.map f)) (h : xs.length ≤ 1000000) : vs.length < sizeLine := by
  rw [a.len, List.length_map]; exact small h
theorem app_lenM (h : xs.length ≤ 1000000) : (xs.map fv).length < sizeLine := by
  rw [List.length_map]; exact small h
theorem cutL_len {α : Type} (xs : List α) (lo hi : Option Int) : (cutL xs lo hi).length ≤ xs.length := by
  unfold cutL
  rw [List.length_take, List.length_drop]
  omega
theorem repL_len {α : Type} (xs : List α) (k : Int) : (repL xs k).length = k.toNat * xs.length := by
  unfold repL
  simp
end
end Vx
namespace Vx
open PySem PySem.Spec PyProof.Rows L2

def cellI (ns : List Int) (k : Int) : Int := if k < (ns.length : Int) then itD ns k else 0
def drawStep (free : Bool) (s : List Int × Int × Int) (l : Int) : List Int × Int × Int :=
  if free = true ∧ 1 < s.2.1 then (s.1 ++ [s.2.1 % l], s.2.1 / l, s.2.2)
  else (s.1 ++ [((s.2.2 * 48271 + 11) % 2147483647 * 69621 + 7) % 2147483647 / 13 % l], s.2.1, ((s.2.2 * 48271 + 11) % 2147483647 * 69621 + 7) % 2147483647)
def draws (cell : Int) (limits : List Int) : List Int :=
  (limits.foldl (drawStep (decide (cell < 0) || decide (1000000000000000000 ≤ cell))) ([], (if cell < 0 then -cell else cell), (if cell < 0 then -cell else cell) % 2147483647)).1
theorem draw_step_len (f : Bool) (s : List Int × Int × Int) (l : Int) : (drawStep f s l).1.length = s.1.length + 1 := by
  unfold drawStep
  split <;> simp
theorem draw_fold_len (f : Bool) : ∀ (ls : List Int) (s : List Int × Int × Int), (ls.foldl (drawStep f) s).1.length = s.1.length + ls.length
  | [], s => by simp
  | l :: ls, s => by
    rw [List.foldl_cons, draw_fold_len f ls, draw_step_len, List.length_cons]
    omega
theorem draws_len (cell : Int) (ls : List Int) : (draws cell ls).length = ls.length := by
  unfold draws
  rw [draw_fold_len]
  simp
/-- each draw is below its limit -/
def Below (xs ls : List Int) : Prop := xs.length = ls.length ∧ ∀ (j : Nat) (x l : Int), xs[j]? = some x → ls[j]? = some l → 0 ≤ x ∧ x < l
theorem draw_step_low (f : Bool) (s : List Int × Int × Int) (l : Int) (h : 0 < l) : ∃ x st, drawStep f s l = (s.1 ++ [x], st) ∧ 0 ≤ x ∧ x < l := by
  unfold drawStep
  split
  · exact ⟨_, _, rfl, Int.emod_nonneg _ (by omega), Int.emod_lt_of_pos _ h⟩
  · exact ⟨_, _, rfl, Int.emod_nonneg _ (by omega), Int.emod_lt_of_pos _ h⟩
theorem draw_fold_low (f : Bool) : ∀ (ls : List Int) (done : List Int) (s : List Int × Int × Int), (∀ l ∈ ls, 0 < l) → Below s.1 done → Below (ls.foldl (drawStep f) s).1 (done ++ ls)
  | [], done, s, _, b => by simpa using b
  | l :: ls, done, s, h, b => by
    obtain ⟨x, st, e, h1, h2⟩ := draw_step_low f s l (h l List.mem_cons_self)
    rw [List.foldl_cons, e]
    have := draw_fold_low f ls (done ++ [l]) (s.1 ++ [x], st) (fun m hm => h m (List.mem_cons_of_mem _ hm)) ⟨by simp [b.1], fun j y m hy hm => by
      by_cases hj : j < s.1.length
      · rw [List.getElem?_append_left hj] at hy
        rw [List.getElem?_append_left (by rw [← b.1]; exact hj)] at hm
        exact b.2 j y m hy hm
      · have hj2 := (List.getElem?_eq_some_iff.mp hy).1
        simp at hj2
        have ej : j = s.1.length := by omega
        subst ej
        simp at hy
        rw [b.1] at hm
        simp at hm
        subst hy hm
        exact ⟨h1, h2⟩⟩
    simpa using this
theorem draws_low {cell : Int} {ls : List Int} (h : ∀ l ∈ ls, 0 < l) : Below (draws cell ls) ls := by
  have := draw_fold_low (decide (cell < 0) || decide (1000000000000000000 ≤ cell)) ls [] ([], (if cell < 0 then -cell else cell), (if cell < 0 then -cell else cell) % 2147483647) h ⟨rfl, fun j x l hx => by simp at hx⟩
  rw [List.nil_append] at this
  exact this
/-- the k-th draw -/
theorem draw_at {cell : Int} {ls : List Int} (h : ∀ l ∈ ls, 0 < l) (k : Nat) {l : Int} (hk : ls[k]? = some l) : 0 ≤ itD (draws cell ls) (k : Int) ∧ itD (draws cell ls) (k : Int) < l := by
  have b := draws_low (cell := cell) h
  have hl : k < (draws cell ls).length := by
    rw [b.1]
    exact (List.getElem?_eq_some_iff.mp hk).1
  have e := List.getElem?_eq_getElem hl
  have : itD (draws cell ls) (k : Int) = (draws cell ls)[k] := by
    unfold itD atI ixN
    rw [if_pos (by omega), if_pos (by omega)]
    simp [e]
  rw [this]
  exact b.2 k _ l e hk
theorem len_rep1 {α : Type} (a : α) (k : Int) : (repL [a] k).length = k.toNat := by
  unfold repL
  simp
theorem mem_rep1 {α : Type} {a x : α} {k : Int} (h : x ∈ repL [a] k) : x = a := by
  unfold repL at h
  simp at h
  exact h.2
theorem lims_rep {n k : Int} (h : 0 < n ∧ n < 2 ^ 128) : ∀ l ∈ repL [n] k, 0 < l ∧ l < 2 ^ 128 := fun l hl => by
  rw [mem_rep1 hl]
  exact h
theorem itD_nat {α : Type} [Inhabited α] {e : List α} {k : Nat} {x : α} (h : e[k]? = some x) : itD e (k : Int) = x := by
  unfold itD atI ixN
  have hk := (List.getElem?_eq_some_iff.mp h).1
  rw [if_pos (by omega), if_pos (by omega)]
  simp [h]
theorem itD_mem {α : Type} [Inhabited α] {e : List α} {k : Int} (h : -(e.length : Int) ≤ k ∧ k < e.length) : itD e k ∈ e := by
  obtain ⟨j, hj, hl⟩ := ixN_some h
  unfold itD atI
  rw [hj]
  show (e[j]?).getD default ∈ e
  rw [List.getElem?_eq_getElem hl]
  exact List.getElem_mem hl
theorem repl_get {α : Type} {a x : α} {k : Int} {j : Nat} (h : (repL [a] k)[j]? = some x) : x = a := mem_rep1 (List.mem_of_getElem? h)

structure EncS where
  probs : List Int
  front : List Int
  low : Int
  span : Int
def adaptE (p d : Int) : Int := if d = 0 then p + (4096 - p) / 32 else p - p / 32
theorem adaptE_in {p d : Int} (h : 31 ≤ p ∧ p ≤ 4065) : 31 ≤ adaptE p d ∧ adaptE p d ≤ 4065 := by
  unfold adaptE
  split <;> omega
def num (xs : List Int) : Int := xs.foldl (fun a x => a * 256 + x) 0
theorem num_snoc (xs : List Int) (x : Int) : num (xs ++ [x]) = num xs * 256 + x := by
  unfold num
  rw [List.foldl_append] <;> rfl
def incR : List Int → List Int
  | [] => []
  | x :: r => if x = 255 then 0 :: incR r else (x + 1) :: r
def incE (xs : List Int) : List Int := (incR xs.reverse).reverse
theorem incR_rep (x : Int) (r : List Int) (hx : x ≠ 255) : ∀ j : Nat, incR (List.replicate j 255 ++ x :: r) = List.replicate j 0 ++ (x + 1) :: r
  | 0 => by simp [incR, hx]
  | j + 1 => by
    rw [List.replicate_succ, List.cons_append, incR, if_pos rfl, incR_rep x r hx j, List.replicate_succ, List.cons_append]
theorem incE_mid {A : List Int} {x : Int} {j : Nat} (hx : x ≠ 255) : incE (A ++ [x] ++ List.replicate j 255) = A ++ [x + 1] ++ List.replicate j 0 := by
  unfold incE
  rw [show (A ++ [x] ++ List.replicate j (255 : Int)).reverse = List.replicate j 255 ++ x :: A.reverse by simp, incR_rep x _ hx]
  simp
theorem mid_in {F A : List Int} {x pl : Int} {j : Nat} (h : F = A ++ [x] ++ List.replicate j 0) (hp : pl = (A.length : Int)) : -(F.length : Int) ≤ pl ∧ pl < F.length := by
  subst h hp
  simp only [List.length_append, List.length_cons, List.length_nil, List.length_replicate]
  omega
theorem get_mid {α : Type} {A R : List α} {x : α} : (A ++ [x] ++ R)[A.length]? = some x := by simp
theorem mid_at {F A : List Int} {x pl : Int} {j : Nat} (h : F = A ++ [x] ++ List.replicate j 0) (hp : pl = (A.length : Int)) : itD F pl = x := by
  subst h hp
  exact itD_nat get_mid
theorem ixN_nat' {n j : Nat} (hj : j < n) : ixN n (j : Int) = some j := by
  unfold ixN
  rw [if_pos (by omega), if_pos (by omega)]
  simp
theorem setL_mid {A R : List Int} {x y : Int} : setL (A ++ [x] ++ R) (A.length : Int) y = A ++ [y] ++ R := by
  unfold setL
  rw [ixN_nat' (by simp)]
  simp
theorem all255 {F : List Int} {j : Nat} (h : ∃ y ∈ F, y ≠ 255) (e : F = List.replicate j 255) : False := by
  obtain ⟨y, hy, hn⟩ := h
  rw [e] at hy
  exact hn (List.eq_of_mem_replicate hy)
theorem carry_start {F : List Int} (h : ∃ y ∈ F, y ≠ 255) : ∃ (A : List Int) (x : Int) (j : Nat), F = A ++ [x] ++ List.replicate j 255 ∧ F = A ++ [x] ++ List.replicate j 0 ∧ ((F.length : Int) - 1) = (A.length : Int) := by
  have hn : F ≠ [] := by
    obtain ⟨y, hy, _⟩ := h
    intro z
    rw [z] at hy
    cases hy
  refine ⟨F.dropLast, F.getLast hn, 0, ?_, ?_, ?_⟩
  · rw [List.dropLast_concat_getLast]
    simp
  · rw [List.dropLast_concat_getLast]
    simp
  · have := List.length_pos_iff.mpr hn
    rw [List.length_dropLast]
    omega
theorem carry_A {F A : List Int} {x : Int} {j : Nat} (h : ∃ y ∈ F, y ≠ 255) (e : F = A ++ [x] ++ List.replicate j 255) (hx : x = 255) : A ≠ [] := by
  intro z
  subst z hx
  refine all255 (j := j + 1) h ?_
  rw [e, List.replicate_succ] <;> rfl
theorem carry_turn {F F' A : List Int} {x pl : Int} {j : Nat} (h : ∃ y ∈ F, y ≠ 255) (e : F = A ++ [x] ++ List.replicate j 255) (e' : F' = A ++ [x] ++ List.replicate j 0) (hp : pl = (A.length : Int)) (hx : x = 255) :
    ∃ (B : List Int) (y : Int) (k : Nat), F = B ++ [y] ++ List.replicate k 255 ∧ setL F' pl 0 = B ++ [y] ++ List.replicate k 0 ∧ pl - 1 = (B.length : Int) := by
  have hA := carry_A h e hx
  refine ⟨A.dropLast, A.getLast hA, j + 1, ?_, ?_, ?_⟩
  · rw [e, hx, List.dropLast_concat_getLast hA, List.replicate_succ]
    simp
  · rw [e', hp, setL_mid, List.dropLast_concat_getLast hA, List.replicate_succ]
    simp
  · have := List.length_pos_iff.mpr hA
    rw [hp, List.length_dropLast]
    omega
theorem carry_less {F A : List Int} {x pl : Int} {j : Nat} (h : ∃ y ∈ F, y ≠ 255) (e : F = A ++ [x] ++ List.replicate j 255) (hp : pl = (A.length : Int)) (hx : x = 255) : (pl - 1).toNat < pl.toNat := by
  have := List.length_pos_iff.mpr (carry_A h e hx)
  omega
theorem carry_end {F F' A : List Int} {x pl : Int} {j : Nat} (e : F = A ++ [x] ++ List.replicate j 255) (e' : F' = A ++ [x] ++ List.replicate j 0) (hp : pl = (A.length : Int)) (hx : x ≠ 255) : setL F' pl (itD F' pl + 1) = incE F := by
  rw [mid_at e' hp, e', hp, setL_mid, e, incE_mid hx]

def encInit : EncS := ⟨repL [2048] 256, [], 0, 4294967296 - 1⟩
def encPre (e : EncS) (p d : Int) : EncS :=
  if d = 0 then ⟨e.probs, e.front, e.low, e.span / 4096 * p⟩
  else if 4294967296 ≤ e.low + e.span / 4096 * p then ⟨e.probs, incE e.front, e.low + e.span / 4096 * p - 4294967296, e.span - e.span / 4096 * p⟩
  else ⟨e.probs, e.front, e.low + e.span / 4096 * p, e.span - e.span / 4096 * p⟩
def encNorm1 (e : EncS) : EncS := ⟨e.probs, e.front ++ [e.low / 16777216], e.low * 256 % 4294967296, e.span * 256⟩
def encNorm (e : EncS) : EncS := if e.span < 16777216 then encNorm1 e else e
def encNarrow (e : EncS) (p d : Int) : EncS := encNorm (encPre e p d)
def encCode (e : EncS) (c d : Int) : EncS := ⟨setL (encNarrow e (itD e.probs c) d).probs c (adaptE (itD e.probs c) d), (encNarrow e (itD e.probs c) d).front, (encNarrow e (itD e.probs c) d).low, (encNarrow e (itD e.probs c) d).span⟩
structure EncMid (e : EncS) : Prop where
  oct : ∀ x ∈ e.front, 0 ≤ x ∧ x ≤ 255
  low : 0 ≤ e.low ∧ e.low < 4294967296
  span0 : 0 < e.span
  span : 65536 ≤ e.span ∧ e.span < 4294967296
  fit : num e.front * 4294967296 + e.low + e.span ≤ 256 ^ e.front.length * 4294967296
structure EncG (e : EncS) : Prop where
  len : e.probs.length = 256
  prob : ∀ p ∈ e.probs, 31 ≤ p ∧ p ≤ 4065
  mid : EncMid e
  big : 16777216 ≤ e.span
theorem EncG.chance {e : EncS} (h : EncG e) {c : Int} (h0 : 0 ≤ c) (h1 : c < 256) : 31 ≤ itD e.probs c ∧ itD e.probs c ≤ 4065 := h.prob _ (itD_mem (by rw [h.len]; omega))
theorem part_in {s p : Int} (hs : 16777216 ≤ s ∧ s < 4294967296) (hp : 31 ≤ p ∧ p ≤ 4065) : 65536 ≤ s / 4096 * p ∧ 65536 ≤ s - s / 4096 * p := by
  have h1 : 4096 ≤ s / 4096 := by omega
  have h2 : s / 4096 * 4096 ≤ s := by omega
  have a : s / 4096 * 31 ≤ s / 4096 * p := Int.mul_le_mul_of_nonneg_left hp.1 (by omega)
  have b : s / 4096 * p ≤ s / 4096 * 4065 := Int.mul_le_mul_of_nonneg_left hp.2 (by omega)
  omega
theorem snocInd {α : Type} {motive : List α → Prop} (nil : motive []) (snoc : ∀ xs x, motive xs → motive (xs ++ [x])) (xs : List α) : motive xs := by
  have : ∀ l : List α, motive l.reverse := by
    intro l
    induction l with
    | nil => exact nil
    | cons x r ih =>
      rw [List.reverse_cons]
      exact snoc _ _ ih
  have h := this xs.reverse
  rwa [List.reverse_reverse] at h
theorem num_nn : ∀ {xs : List Int}, (∀ x ∈ xs, 0 ≤ x ∧ x ≤ 255) → 0 ≤ num xs := by
  intro xs
  induction xs using snocInd with
  | nil => intro _; decide
  | snoc xs x ih =>
    intro h
    rw [num_snoc]
    have h1 := ih fun y hy => h y (List.mem_append_left _ hy)
    have h2 := h x (List.mem_append_right _ List.mem_cons_self)
    omega
theorem inc_len (xs : List Int) : (incE xs).length = xs.length := by
  have : ∀ l : List Int, (incR l).length = l.length := by
    intro l
    induction l with
    | nil => rfl
    | cons x r ih =>
      unfold incR
      split
      · rw [List.length_cons, List.length_cons, ih]
      · rfl
  unfold incE
  rw [List.length_reverse, this, List.length_reverse]
theorem split255 : ∀ {xs : List Int}, (∃ y ∈ xs, y ≠ 255) → ∃ (A : List Int) (x : Int) (j : Nat), xs = A ++ [x] ++ List.replicate j 255 ∧ x ≠ 255 := by
  intro xs
  induction xs using snocInd with
  | nil => rintro ⟨y, hy, _⟩; cases hy
  | snoc xs x ih =>
    intro h
    by_cases hx : x = 255
    · subst hx
      obtain ⟨y, hy, hn⟩ := h
      have : ∃ y ∈ xs, y ≠ 255 := by
        rcases List.mem_append.mp hy with z | z
        · exact ⟨y, z, hn⟩
        · simp at z
          exact absurd z hn
      obtain ⟨A, x, j, e, hx⟩ := ih this
      refine ⟨A, x, j + 1, ?_, hx⟩
      rw [e, List.replicate_succ', List.append_assoc]
    · exact ⟨xs, x, 0, by simp, hx⟩
theorem num_rep (A : List Int) (x : Int) : ∀ j : Nat, num (A ++ [x + 1] ++ List.replicate j 0) = num (A ++ [x] ++ List.replicate j 255) + 1
  | 0 => by simp [num_snoc]; omega
  | j + 1 => by
    rw [List.replicate_succ', List.replicate_succ', ← List.append_assoc, ← List.append_assoc, num_snoc, num_snoc, num_rep A x j]
    omega
theorem inc_num {xs : List Int} (h : ∃ y ∈ xs, y ≠ 255) : num (incE xs) = num xs + 1 := by
  obtain ⟨A, x, j, e, hx⟩ := split255 h
  rw [e, incE_mid hx, num_rep]
theorem inc_oct {xs : List Int} (h : ∃ y ∈ xs, y ≠ 255) (ho : ∀ x ∈ xs, 0 ≤ x ∧ x ≤ 255) : ∀ x ∈ incE xs, 0 ≤ x ∧ x ≤ 255 := by
  obtain ⟨A, x, j, e, hx⟩ := split255 h
  subst e
  rw [incE_mid hx]
  intro y hy
  have hxo := ho x (by simp)
  simp at hy
  rcases hy with z | z | z
  · exact ho y (by simp [z])
  · omega
  · omega
theorem num_all255 : ∀ {xs : List Int}, (∀ y ∈ xs, y = 255) → num xs = 256 ^ xs.length - 1 := by
  intro xs
  induction xs using snocInd with
  | nil => intro _; decide
  | snoc xs x ih =>
    intro h
    rw [num_snoc, ih fun y hy => h y (List.mem_append_left _ hy), h x (List.mem_append_right _ List.mem_cons_self), List.length_append, List.length_cons, List.length_nil, Int.pow_succ]
    omega
theorem carry_pre {e : EncS} (h : EncG e) {p : Int} (hp : 31 ≤ p ∧ p ≤ 4065) (c : 4294967296 ≤ e.low + e.span / 4096 * p) : ∃ y ∈ e.front, y ≠ 255 := by
  by_cases z : ∃ y ∈ e.front, y ≠ 255
  · exact z
  · have a : ∀ y ∈ e.front, y = 255 := fun y hy => by
      by_cases q : y = 255
      · exact q
      · exact absurd ⟨y, hy, q⟩ z
    have n := num_all255 a
    have f := h.mid.fit
    have q := part_in ⟨h.big, h.mid.span.2⟩ hp
    rw [n] at f
    have : (256 ^ e.front.length - 1 : Int) * 4294967296 = 256 ^ e.front.length * 4294967296 - 4294967296 := by rw [Int.sub_mul]; omega
    omega
theorem encPre_ok {e : EncS} (h : EncG e) {p : Int} (hp : 31 ≤ p ∧ p ≤ 4065) (d : Int) : EncMid (encPre e p d) := by
  have q := part_in ⟨h.big, h.mid.span.2⟩ hp
  have f := h.mid.fit
  have l := h.mid.low
  have s := h.mid.span
  unfold encPre
  split
  · exact ⟨h.mid.oct, l, by show 0 < e.span / 4096 * p; omega, by show 65536 ≤ e.span / 4096 * p ∧ e.span / 4096 * p < 4294967296; omega, by show num e.front * 4294967296 + e.low + e.span / 4096 * p ≤ 256 ^ e.front.length * 4294967296; omega⟩
  · split
    · rename_i c
      have cp := carry_pre h hp c
      refine ⟨inc_oct cp h.mid.oct, ?_, ?_, ?_, ?_⟩
      · show 0 ≤ e.low + e.span / 4096 * p - 4294967296 ∧ e.low + e.span / 4096 * p - 4294967296 < 4294967296
        omega
      · show 0 < e.span - e.span / 4096 * p
        omega
      · show 65536 ≤ e.span - e.span / 4096 * p ∧ e.span - e.span / 4096 * p < 4294967296
        omega
      · show num (incE e.front) * 4294967296 + (e.low + e.span / 4096 * p - 4294967296) + (e.span - e.span / 4096 * p) ≤ 256 ^ (incE e.front).length * 4294967296
        rw [inc_num cp, inc_len]
        omega
    · refine ⟨h.mid.oct, ?_, ?_, ?_, ?_⟩
      · show 0 ≤ e.low + e.span / 4096 * p ∧ e.low + e.span / 4096 * p < 4294967296
        omega
      · show 0 < e.span - e.span / 4096 * p
        omega
      · show 65536 ≤ e.span - e.span / 4096 * p ∧ e.span - e.span / 4096 * p < 4294967296
        omega
      · show num e.front * 4294967296 + (e.low + e.span / 4096 * p) + (e.span - e.span / 4096 * p) ≤ 256 ^ e.front.length * 4294967296
        omega
theorem norm_span {e : EncS} (h : EncMid e) : 16777216 ≤ (encNorm1 e).span := by
  have := h.span
  show 16777216 ≤ e.span * 256
  omega
theorem shl32 {i j : Int} (h : 0 ≤ i ∧ i < 4294967296) (hj : 0 ≤ j ∧ j ≤ 64) : CShl i j := by
  obtain ⟨k, rfl⟩ := Int.eq_ofNat_of_zero_le hj.1
  exact shl_ok (n := 64) (by omega) (by omega)
theorem encNorm_eq (e : EncS) : (⟨e.probs, e.front ++ [e.low / 16777216], PySem.Builtin.bitAnd (e.low * 256) (4294967296 - 1), e.span * 256⟩ : EncS) = encNorm1 e := by
  unfold encNorm1
  rw [show (4294967296 - 1 : Int) = 4294967295 by decide, bitAnd_m32] <;> rfl
theorem norm_ok {e : EncS} (h : EncMid e) : EncMid (encNorm e) ∧ 16777216 ≤ (encNorm e).span := by
  unfold encNorm
  split
  · rename_i c
    have l := h.low
    have s := h.span
    have f := h.fit
    refine ⟨⟨?_, ?_, ?_, ?_, ?_⟩, norm_span h⟩
    · intro x hx
      rcases List.mem_append.mp hx with z | z
      · exact h.oct x z
      · simp at z
        omega
    · show 0 ≤ e.low * 256 % 4294967296 ∧ e.low * 256 % 4294967296 < 4294967296
      omega
    · show 0 < e.span * 256
      omega
    · show 65536 ≤ e.span * 256 ∧ e.span * 256 < 4294967296
      omega
    · show num (e.front ++ [e.low / 16777216]) * 4294967296 + e.low * 256 % 4294967296 + e.span * 256 ≤ 256 ^ (e.front ++ [e.low / 16777216]).length * 4294967296
      rw [num_snoc, List.length_append, List.length_cons, List.length_nil, Int.pow_succ]
      have e1 : (num e.front * 256 + e.low / 16777216) * 4294967296 + e.low * 256 % 4294967296 = (num e.front * 4294967296 + e.low) * 256 := by omega
      have e2 : (256 : Int) ^ e.front.length * 256 * 4294967296 = 256 ^ e.front.length * 4294967296 * 256 := by rw [Int.mul_right_comm]
      rw [e1, e2]
      omega
  · exact ⟨h, by omega⟩
theorem probs_pre (e : EncS) (p d : Int) : (encPre e p d).probs = e.probs := by
  unfold encPre
  split
  · rfl
  · split <;> rfl
theorem len_pre (e : EncS) (p d : Int) : (encPre e p d).front.length = e.front.length := by
  unfold encPre
  split
  · rfl
  · split
    · exact inc_len _
    · rfl
theorem len_narrow (e : EncS) (p d : Int) : (encNarrow e p d).front.length ≤ e.front.length + 1 := by
  have := len_pre e p d
  unfold encNarrow encNorm
  split
  · show ((encPre e p d).front ++ [(encPre e p d).low / 16777216]).length ≤ e.front.length + 1
    rw [List.length_append, List.length_cons, List.length_nil]
    omega
  · omega
theorem probs_narrow (e : EncS) (p d : Int) : (encNarrow e p d).probs = e.probs := by
  unfold encNarrow encNorm
  split
  · exact probs_pre e p d
  · exact probs_pre e p d
theorem narrow_ok {e : EncS} (h : EncG e) {p : Int} (hp : 31 ≤ p ∧ p ≤ 4065) (d : Int) : EncG (encNarrow e p d) := by
  obtain ⟨m, b⟩ := norm_ok (encPre_ok h hp d)
  exact ⟨by rw [probs_narrow]; exact h.len, by rw [probs_narrow]; exact h.prob, m, b⟩
theorem even_ok {e : EncS} (h : EncG e) (d : Int) : EncG (encNarrow e 2048 d) := narrow_ok h (by decide) d
theorem setL_len {α : Type} (xs : List α) (k : Int) (y : α) : (setL xs k y).length = xs.length := by
  unfold setL
  rw [List.length_set]
theorem setL_mem {α : Type} {xs : List α} {k : Int} {x y : α} (h : x ∈ setL xs k y) : x ∈ xs ∨ x = y := by
  unfold setL at h
  exact List.mem_or_eq_of_mem_set h
theorem code_ok {e : EncS} (h : EncG e) {c d : Int} (h0 : 0 ≤ c) (h1 : c < 256) : EncG (encCode e c d) := by
  have hc := h.chance h0 h1
  have n := narrow_ok h hc d
  refine ⟨?_, ?_, ⟨n.mid.oct, n.mid.low, n.mid.span0, n.mid.span, n.mid.fit⟩, n.big⟩
  · show (setL _ _ _).length = 256
    rw [setL_len]
    exact n.len
  · intro p hp
    rcases setL_mem hp with z | z
    · exact n.prob p z
    · rw [z]
      exact adaptE_in hc
theorem init_ok : EncG encInit := by
  refine ⟨by decide, fun p hp => ?_, ⟨fun x hx => (by cases hx), by decide, by decide, by decide, by decide⟩, by decide⟩
  rw [mem_rep1 hp]
  decide
/-! the octets -/
def stripZ (xs : List Int) : List Int := (xs.reverse.dropWhile (fun x => decide (x = 0))).reverse
def digits4 (n : Int) : List Int := ([24, 16, 8, 0] : List Int).map (fun k => PySem.Builtin.bitAnd (n / 2 ^ Int.toNat k) 255)
def encOctets (e : EncS) : List Int := stripZ (e.front ++ digits4 e.low)
theorem shifts_nn {k : Int} (h : k ∈ ([24, 16, 8, 0] : List Int)) : 0 ≤ k := by
  simp at h
  omega
theorem last_in {xs : List Int} (h : xs ≠ []) : -(xs.length : Int) ≤ -1 ∧ -1 < (xs.length : Int) := by
  have := List.length_pos_iff.mpr h
  omega
theorem itD_last {xs : List Int} (h : xs ≠ []) : itD xs (-1) = xs.getLast h := by
  unfold itD atI ixN
  have := List.length_pos_iff.mpr h
  rw [if_neg (by omega), if_pos (by omega)]
  have e : (-1 + (xs.length : Int)).toNat = xs.length - 1 := by omega
  show (xs[(-1 + (xs.length : Int)).toNat]?).getD default = _
  rw [e, ← List.getLast?_eq_getElem?, List.getLast?_eq_some_getLast h] <;> rfl
theorem strip_pop {xs : List Int} (h : xs ≠ []) (hz : itD xs (-1) = 0) : stripZ xs.dropLast = stripZ xs := by
  rw [itD_last h] at hz
  unfold stripZ
  have e : xs.reverse = 0 :: xs.dropLast.reverse := by
    conv => lhs; rw [← List.dropLast_concat_getLast h, List.reverse_append, hz]
    rfl
  rw [e, List.dropWhile_cons, if_pos (by decide)]
theorem drop_less {xs : List Int} (h : xs ≠ []) : xs.dropLast.length < xs.length := by
  have := List.length_pos_iff.mpr h
  rw [List.length_dropLast]
  omega
theorem strip_nil : stripZ [] = [] := rfl
theorem strip_last {xs : List Int} (h : xs ≠ []) (hz : ¬ itD xs (-1) = 0) : stripZ xs = xs := by
  rw [itD_last h] at hz
  unfold stripZ
  have e : xs.reverse = xs.getLast h :: xs.dropLast.reverse := by
    conv => lhs; rw [← List.dropLast_concat_getLast h, List.reverse_append]
    rfl
  rw [e, List.dropWhile_cons, if_neg (by simpa using hz), ← e, List.reverse_reverse]
theorem strip_done {xs : List Int} (h : xs = [] ∨ ¬ itD xs (-1) = 0) : stripZ xs = xs := by
  by_cases n : xs = []
  · rw [n] <;> rfl
  · rcases h with z | z
    · exact absurd z n
    · exact strip_last n z

theorem five (cell a b c d e : Int) (h : 0 < a ∧ 0 < b ∧ 0 < c ∧ 0 < d ∧ 0 < e) : (draws cell [a, b, c, d, e]).length = 5 ∧ (0 ≤ itD (draws cell [a, b, c, d, e]) 0 ∧ itD (draws cell [a, b, c, d, e]) 0 < a) ∧
    (0 ≤ itD (draws cell [a, b, c, d, e]) 1 ∧ itD (draws cell [a, b, c, d, e]) 1 < b) ∧ (0 ≤ itD (draws cell [a, b, c, d, e]) 2 ∧ itD (draws cell [a, b, c, d, e]) 2 < c) ∧
    (0 ≤ itD (draws cell [a, b, c, d, e]) 3 ∧ itD (draws cell [a, b, c, d, e]) 3 < d) ∧ (0 ≤ itD (draws cell [a, b, c, d, e]) 4 ∧ itD (draws cell [a, b, c, d, e]) 4 < e) := by
  have hp : ∀ l ∈ [a, b, c, d, e], 0 < l := by
    intro l hl
    simp at hl
    omega
  exact ⟨draws_len _ _, draw_at hp 0 rfl, draw_at hp 1 rfl, draw_at hp 2 rfl, draw_at hp 3 rfl, draw_at hp 4 rfl⟩
theorem item_draws (cell : Int) : (draws cell [4, 8, 256, 2, 40]).length = 5 ∧ (0 ≤ itD (draws cell [4, 8, 256, 2, 40]) 0 ∧ itD (draws cell [4, 8, 256, 2, 40]) 0 < 4) ∧
    (0 ≤ itD (draws cell [4, 8, 256, 2, 40]) 1 ∧ itD (draws cell [4, 8, 256, 2, 40]) 1 < 8) ∧ (0 ≤ itD (draws cell [4, 8, 256, 2, 40]) 2 ∧ itD (draws cell [4, 8, 256, 2, 40]) 2 < 256) ∧
    (0 ≤ itD (draws cell [4, 8, 256, 2, 40]) 3 ∧ itD (draws cell [4, 8, 256, 2, 40]) 3 < 2) ∧ (0 ≤ itD (draws cell [4, 8, 256, 2, 40]) 4 ∧ itD (draws cell [4, 8, 256, 2, 40]) 4 < 40) := five cell 4 8 256 2 40 (by decide)
theorem bits_len (cell : Int) : (draws (cell / 1000) (repL [2] (itD (draws cell [4, 8, 256, 2, 40]) 4))).length ≤ 39 := by
  have := item_draws cell
  rw [draws_len, len_rep1]
  omega
def itemCtx (cell : Int) : Int := itD [0, 255, 1, 128, itD (draws cell [4, 8, 256, 2, 40]) 2, itD (draws cell [4, 8, 256, 2, 40]) 2, itD (draws cell [4, 8, 256, 2, 40]) 2, (-1)] (itD (draws cell [4, 8, 256, 2, 40]) 1)
def itemsStep (items : List (Int × Int)) (cell : Int) : List (Int × Int) :=
  if itD (draws cell [4, 8, 256, 2, 40]) 0 < 2 then items ++ repL [(itemCtx cell, itD (draws cell [4, 8, 256, 2, 40]) 3)] (itD (draws cell [4, 8, 256, 2, 40]) 4)
  else items ++ (List.range (((draws (cell / 1000) (repL [2] (itD (draws cell [4, 8, 256, 2, 40]) 4))).length : Int)).toNat).map fun (j : Nat) => ((itemCtx cell + 1) * (if 0 < (0 + (j : Int)) % 3 then 1 else 0) - 1, itD (draws (cell / 1000) (repL [2] (itD (draws cell [4, 8, 256, 2, 40]) 4))) (0 + (j : Int)))
def itemsL (script : List Int) (most : Int) : List (Int × Int) := cutL (script.foldl itemsStep []) none (some most)
def ItemsOk (items : List (Int × Int)) : Prop := ∀ it ∈ items, (-1 ≤ it.1 ∧ it.1 ≤ 255) ∧ 0 ≤ it.2 ∧ it.2 ≤ 1
theorem ctx_ok (cell : Int) : -1 ≤ itemCtx cell ∧ itemCtx cell ≤ 255 := by
  have D := item_draws cell
  have m : itemCtx cell ∈ [0, 255, 1, 128, itD (draws cell [4, 8, 256, 2, 40]) 2, itD (draws cell [4, 8, 256, 2, 40]) 2, itD (draws cell [4, 8, 256, 2, 40]) 2, (-1)] := itD_mem (by simp only [List.length_cons, List.length_nil]; omega)
  simp only [List.mem_cons, List.not_mem_nil, or_false] at m
  omega
theorem step_ok {items : List (Int × Int)} {cell : Int} (h : ItemsOk items) : ItemsOk (itemsStep items cell) := by
  have D := item_draws cell
  have C := ctx_ok cell
  intro it hit
  unfold itemsStep at hit
  split at hit
  · rcases List.mem_append.mp hit with z | z
    · exact h it z
    · rw [mem_rep1 z]
      exact ⟨C, by omega⟩
  · rcases List.mem_append.mp hit with z | z
    · exact h it z
    · obtain ⟨j, hj, e⟩ := List.mem_map.mp z
      rw [← e]
      have hj2 : j < (draws (cell / 1000) (repL [2] (itD (draws cell [4, 8, 256, 2, 40]) 4))).length := by
        have := List.mem_range.mp hj
        omega
      have hb : 0 ≤ itD (draws (cell / 1000) (repL [2] (itD (draws cell [4, 8, 256, 2, 40]) 4))) (j : Int) ∧ itD (draws (cell / 1000) (repL [2] (itD (draws cell [4, 8, 256, 2, 40]) 4))) (j : Int) < 2 := by
        have hj3 : j < (repL [(2 : Int)] (itD (draws cell [4, 8, 256, 2, 40]) 4)).length := by rw [draws_len] at hj2; exact hj2
        refine draw_at (fun l hl => (lims_rep (by decide) l hl).1) j ?_
        rw [List.getElem?_eq_getElem hj3]
        exact congrArg some (mem_rep1 (List.getElem_mem hj3))
      rw [Int.zero_add]
      refine ⟨?_, by show 0 ≤ itD (draws (cell / 1000) _) (j : Int) ∧ itD (draws (cell / 1000) _) (j : Int) ≤ 1; omega⟩
      show -1 ≤ (itemCtx cell + 1) * (if 0 < (j : Int) % 3 then 1 else 0) - 1 ∧ (itemCtx cell + 1) * (if 0 < (j : Int) % 3 then 1 else 0) - 1 ≤ 255
      split <;> omega
theorem fold_items_ok : ∀ (cells : List Int) (items : List (Int × Int)), ItemsOk items → ItemsOk (cells.foldl itemsStep items)
  | [], _, h => h
  | c :: r, items, h => by
    rw [List.foldl_cons]
    exact fold_items_ok r _ (step_ok h)
theorem mem_cutL {α : Type} {xs : List α} {lo hi : Option Int} {x : α} (h : x ∈ cutL xs lo hi) : x ∈ xs := by
  unfold cutL at h
  exact List.mem_of_mem_drop (List.mem_of_mem_take h)
theorem itemsL_ok (script : List Int) (most : Int) : ItemsOk (itemsL script most) := fun it h => fold_items_ok script [] (fun _ z => by cases z) it (mem_cutL h)
theorem cut_ok {items : List (Int × Int)} (h : ItemsOk items) (lo hi : Option Int) : ItemsOk (cutL items lo hi) := fun it z => h it (mem_cutL z)
theorem cut_most {α : Type} (xs : List α) (n : Nat) : (cutL xs none (some (n : Int))).length ≤ n := by
  unfold cutL
  rw [HT.sIx_nat, HT.sIx_none, List.length_take]
  omega
theorem itemsL_len (script : List Int) : (itemsL script 300).length ≤ 300 := cut_most _ 300

def encItem (e : EncS) (it : Int × Int) : EncS := if 0 ≤ it.1 then encCode e it.1 it.2 else encNarrow e 2048 it.2
def encItems (e : EncS) (items : List (Int × Int)) : EncS := items.foldl encItem e
theorem items_turn {e : EncS} {items : List (Int × Int)} {i : Nat} {it : Int × Int} {e' : EncS} (hi : items[i]? = some it) (h : encItem (encItems e (items.take i)) it = e') : e' = encItems e (items.take (i + 1)) := by
  unfold encItems at h ⊢
  rw [take_succ_get hi, List.foldl_append, ← h] <;> rfl
theorem len_code (e : EncS) (c d : Int) : (encCode e c d).front.length ≤ e.front.length + 1 := len_narrow e _ d
theorem item_ok {e : EncS} {it : Int × Int} (h : EncG e) (hi : (-1 ≤ it.1 ∧ it.1 ≤ 255) ∧ 0 ≤ it.2 ∧ it.2 ≤ 1) : EncG (encItem e it) := by
  unfold encItem
  split
  · exact code_ok h (by omega) (by omega)
  · exact even_ok h _
theorem item_len (e : EncS) (it : Int × Int) : (encItem e it).front.length ≤ e.front.length + 1 := by
  unfold encItem
  split
  · exact len_code _ _ _
  · exact len_narrow _ _ _
theorem items_ok : ∀ {items : List (Int × Int)} {e : EncS}, EncG e → ItemsOk items → EncG (encItems e items)
  | [], _, h, _ => h
  | it :: r, e, h, hi => items_ok (items := r) (item_ok h (hi it List.mem_cons_self)) fun x hx => hi x (List.mem_cons_of_mem _ hx)
theorem items_len : ∀ (items : List (Int × Int)) (e : EncS), (encItems e items).front.length ≤ e.front.length + items.length
  | [], e => Nat.le_refl _
  | it :: r, e => by
    have h1 := item_len e it
    have h2 := items_len r (encItem e it)
    have h3 : encItems e (it :: r) = encItems (encItem e it) r := rfl
    rw [h3, List.length_cons]
    omega
theorem items_app (e : EncS) (xs ys : List (Int × Int)) : encItems e (xs ++ ys) = encItems (encItems e xs) ys := by
  unfold encItems
  rw [List.foldl_append]

structure CodeN (e : EncS) (low span count : Int) : Prop where
  low : low = num e.front * 4294967296 + e.low
  span : span = e.span
  count : count = (e.front.length : Int)
structure CodeR (e : EncS) (chances : List Int) (low span count : Int) : Prop where
  toN : CodeN e low span count
  chances : chances = e.probs ++ [2048]
theorem codeR_init : CodeR encInit (repL [2048] 257) 0 (4294967296 - 1) 0 := ⟨⟨rfl, rfl, rfl⟩, by decide⟩
theorem itD_app {e : List Int} {a c : Int} (h0 : 0 ≤ c) (h1 : c < e.length) : itD (e ++ [a]) c = itD e c := by
  obtain ⟨k, rfl⟩ := Int.eq_ofNat_of_zero_le h0
  have hk : k < e.length := by omega
  rw [itD_nat (List.getElem?_eq_getElem hk), itD_nat (x := e[k]) (by rw [List.getElem?_append_left hk, List.getElem?_eq_getElem hk])]
theorem itD_end {e : List Int} {a : Int} : itD (e ++ [a]) (-1) = a := by
  rw [itD_last (by simp), List.getLast_append] <;> simp
theorem setL_app {e : List Int} {a c y : Int} (h0 : 0 ≤ c) (h1 : c < e.length) : setL (e ++ [a]) c y = setL e c y ++ [a] := by
  obtain ⟨k, rfl⟩ := Int.eq_ofNat_of_zero_le h0
  have hk : k < e.length := by omega
  unfold setL
  rw [ixN_nat' hk, ixN_nat' (by rw [List.length_append]; omega)]
  exact List.set_append_left _ _ hk
theorem codeR_chance {e : EncS} {chances : List Int} {low span count c : Int} (hg : EncG e) (hr : CodeR e chances low span count) (hc : -1 ≤ c ∧ c ≤ 255) :
    (-(chances.length : Int) ≤ c ∧ c < chances.length) ∧ 31 ≤ itD chances c ∧ itD chances c ≤ 4065 := by
  have hl := hg.len
  refine ⟨by rw [hr.chances, List.length_append, hl]; simp; omega, ?_⟩
  rw [hr.chances]
  by_cases h : 0 ≤ c
  · rw [itD_app h (by omega)]
    exact hg.chance h (by omega)
  · rw [show c = -1 from by omega, itD_end]
    decide
theorem codeN_pre {e : EncS} {p d low span count low' span' : Int} (hg : EncG e) (hp : 31 ≤ p ∧ p ≤ 4065) (h : CodeN e low span count) (hl : low' = if d = 0 then low else low + span / 4096 * p)
    (hs : span' = if d = 0 then span / 4096 * p else span - span / 4096 * p) : CodeN (encPre e p d) low' span' count := by
  have h1 := h.low
  have h2 := h.span
  have h3 := h.count
  unfold encPre
  split
  · rw [if_pos ‹_›] at hl hs
    exact ⟨by rw [hl, h1], by rw [hs, h2], h3⟩
  · rw [if_neg ‹_›] at hl hs
    split
    · have hy := carry_pre hg hp ‹_›
      have hn := inc_num hy
      rw [h2] at hl hs
      exact ⟨by show low' = num (incE e.front) * 4294967296 + (e.low + e.span / 4096 * p - 4294967296); rw [hl, hn, h1, Int.add_mul]; omega, hs, by show count = ((incE e.front).length : Int); rw [inc_len]; exact h3⟩
    · rw [h2] at hl hs
      exact ⟨by show low' = num e.front * 4294967296 + (e.low + e.span / 4096 * p); rw [hl, h1]; omega, hs, h3⟩
theorem codeN_norm {e : EncS} {low span count : Int} (h : CodeN e low span count) : CodeN (encNorm1 e) (low * 256) (span * 256) (count + 1) := by
  have h1 := h.low
  have h2 := h.span
  have h3 := h.count
  refine ⟨?_, by rw [h2]; rfl, by show count + 1 = (((e.front ++ [e.low / 16777216]).length : Nat) : Int); rw [List.length_append]; simp; omega⟩
  show low * 256 = num (e.front ++ [e.low / 16777216]) * 4294967296 + e.low * 256 % 4294967296
  rw [num_snoc]
  omega
theorem codeN_turn {em : EncS} {low span count cn0 low' span' count' : Int} {i : Nat} (hm : EncMid em) (h : CodeN (if i = 0 then em else encNorm em) low span count) (h0 : cn0 ≤ count) (h1 : count ≤ cn0 + 1) (h2 : i = 0 → count = cn0)
    (hs : (span < 16777216 ∧ low' = low * 256 ∧ span' = span * 256 ∧ count' = count + 1) ∨ (¬ span < 16777216 ∧ low' = low ∧ span' = span ∧ count' = count)) :
    CodeN (if i + 1 = 0 then em else encNorm em) low' span' count' ∧ cn0 ≤ count' ∧ count' ≤ cn0 + 1 ∧ (i + 1 = 0 → count' = cn0) := by
  rw [if_neg (by omega)]
  have hb := (norm_ok hm).2
  by_cases hi : i = 0
  · rw [if_pos hi] at h
    have hc := h2 hi
    have hsp := h.span
    rcases hs with ⟨a, rfl, rfl, rfl⟩ | ⟨a, rfl, rfl, rfl⟩
    · have e1 : encNorm em = encNorm1 em := if_pos (by omega)
      rw [e1]
      exact ⟨codeN_norm h, by omega, by omega, by omega⟩
    · have e1 : encNorm em = em := if_neg (by omega)
      rw [e1]
      exact ⟨h, by omega, by omega, by omega⟩
  · rw [if_neg hi] at h
    have hsp := h.span
    rcases hs with ⟨a, rfl, rfl, rfl⟩ | ⟨a, rfl, rfl, rfl⟩
    · omega
    · exact ⟨h, by omega, by omega, by omega⟩
def codeChances (chances : List Int) (c d : Int) : List Int := if 0 ≤ c then setL chances c (adaptE (itD chances c) d) else chances
theorem codeR_turn {items : List (Int × Int)} {i : Nat} {item : Int × Int} {chances chances' : List Int} {low span count low' span' count' : Int} {em : EncS} (hi : items[i]? = some item) (hg : EncG (encItems encInit (items.take i)))
    (hr : CodeR (encItems encInit (items.take i)) chances low span count) (hit : (-1 ≤ item.1 ∧ item.1 ≤ 255) ∧ 0 ≤ item.2 ∧ item.2 ≤ 1)
    (hme : em = encPre (encItems encInit (items.take i)) (itD chances item.1) item.2) (hc : codeChances chances item.1 item.2 = chances') (hn : CodeN (encNorm em) low' span' count') :
    CodeR (encItems encInit (items.take (i + 1))) chances' low' span' count' := by
  have hl := hg.len
  rw [← items_turn hi rfl]
  generalize encItems encInit (items.take i) = e at *
  rw [hr.chances] at hc hme
  unfold encItem
  unfold codeChances at hc
  by_cases h : 0 ≤ item.1
  · rw [if_pos h] at hc ⊢
    rw [itD_app h (by omega)] at hc hme
    rw [setL_app h (by omega)] at hc
    rw [hme] at hn
    refine ⟨⟨hn.low, hn.span, hn.count⟩, ?_⟩
    rw [← hc]
    show _ = setL (encNarrow e (itD e.probs item.1) item.2).probs item.1 _ ++ [2048]
    rw [probs_narrow]
  · rw [if_neg h] at hc ⊢
    rw [show item.1 = -1 from by omega, itD_end] at hme
    rw [hme] at hn
    refine ⟨hn, ?_⟩
    rw [← hc, probs_narrow]
def digs (n : Int) (k : Nat) : List Int := (List.range k).map fun j => n / 2 ^ (8 * (k - 1 - j)) % 256
theorem digs_snoc (n x : Int) (k : Nat) (hx : 0 ≤ x ∧ x ≤ 255) : digs (n * 256 + x) (k + 1) = digs n k ++ [x] := by
  unfold digs
  rw [List.range_succ, List.map_append]
  congr 1
  · apply List.map_congr_left
    intro j hj
    have hj := List.mem_range.mp hj
    show (n * 256 + x) / 2 ^ (8 * (k + 1 - 1 - j)) % 256 = n / 2 ^ (8 * (k - 1 - j)) % 256
    rw [show 8 * (k + 1 - 1 - j) = 8 + 8 * (k - 1 - j) from by omega, Int.pow_add, ← Int.ediv_ediv_of_nonneg (by decide)]
    rw [show (n * 256 + x) / 2 ^ 8 = n from by omega]
  · show [(n * 256 + x) / 2 ^ (8 * (k + 1 - 1 - k)) % 256] = [x]
    rw [show 8 * (k + 1 - 1 - k) = 0 from by omega]
    congr 1
    simp
    omega
theorem digs_num : ∀ {xs : List Int}, (∀ x ∈ xs, 0 ≤ x ∧ x ≤ 255) → digs (num xs) xs.length = xs := by
  intro xs
  refine snocInd (motive := fun xs => (∀ x ∈ xs, 0 ≤ x ∧ x ≤ 255) → digs (num xs) xs.length = xs) (fun _ => rfl) (fun ys y ih h => ?_) xs
  rw [num_snoc, List.length_append]
  show digs _ (ys.length + 1) = _
  rw [digs_snoc _ _ _ (h y (by simp)), ih fun x hx => h x (by simp [hx])]
theorem digits4_eq {n : Int} : digits4 n = [n / 16777216 % 256, n / 65536 % 256, n / 256 % 256, n % 256] := by
  unfold digits4
  simp only [List.map_cons, List.map_nil, bitAnd_m8]
  simp
theorem digits4_len (n : Int) : (digits4 n).length = 4 := rfl
theorem code_digits {e : EncS} (h : EncMid e) : digs (num e.front * 4294967296 + e.low) (e.front.length + 4) = e.front ++ digits4 e.low := by
  have ho : ∀ x ∈ e.front ++ digits4 e.low, 0 ≤ x ∧ x ≤ 255 := by
    intro x hx
    rcases List.mem_append.mp hx with z | z
    · exact h.oct x z
    · rw [digits4_eq] at z
      simp only [List.mem_cons, List.not_mem_nil, or_false] at z
      omega
  have hl := h.low
  have hd := digs_num ho
  rw [List.length_append, digits4_len] at hd
  rw [← hd]
  congr 1
  rw [digits4_eq, show e.front ++ [e.low / 16777216 % 256, e.low / 65536 % 256, e.low / 256 % 256, e.low % 256] = e.front ++ [e.low / 16777216 % 256] ++ [e.low / 65536 % 256] ++ [e.low / 256 % 256] ++ [e.low % 256] from by simp]
  rw [num_snoc, num_snoc, num_snoc, num_snoc]
  omega
theorem ne_len {xs : List Int} (h : 0 < (xs.length : Int)) : xs ≠ [] := by
  intro z
  rw [z] at h
  simp at h
theorem nil_len {xs : List Int} (h : ¬ 0 < (xs.length : Int)) : xs = [] := by
  cases xs with
  | nil => rfl
  | cons a r => exact absurd (by rw [List.length_cons]; omega) h
theorem code_oct {e : EncS} {low span count : Int} (hm : EncMid e) (hn : CodeN e low span count) :
    (List.range (count + 4).toNat).map (fun (j : Nat) => PySem.Builtin.bitAnd (low / 2 ^ Int.toNat (8 * (count + 3 - (0 + (j : Int))))) 255) = e.front ++ digits4 e.low := by
  rw [← code_digits hm, hn.low, hn.count]
  unfold digs
  rw [show ((e.front.length : Int) + 4).toNat = e.front.length + 4 from by omega]
  apply List.map_congr_left
  intro j hj
  have hj := List.mem_range.mp hj
  rw [bitAnd_m8, show Int.toNat (8 * ((e.front.length : Int) + 3 - (0 + (j : Int)))) = 8 * (e.front.length + 4 - 1 - j) from by omega]
theorem strip_len (xs : List Int) : (stripZ xs).length ≤ xs.length := by
  unfold stripZ
  rw [List.length_reverse]
  have h := (List.dropWhile_sublist (fun x => decide (x = 0)) (l := xs.reverse)).length_le
  rw [List.length_reverse] at h
  exact h
theorem oct_turn {octets o E : List Int} {i : Nat} {count : Int} (hs : stripZ octets = E) (hl : octets = E ∨ (octets.length : Int) + i ≤ count + 4)
    (h : (octets ≠ [] ∧ itD octets (-1) = 0 ∧ o = octets.dropLast) ∨ ((¬ itD octets (-1) = 0 ∨ octets = []) ∧ o = octets)) : stripZ o = E ∧ (o = E ∨ (o.length : Int) + ((i + 1 : Nat) : Int) ≤ count + 4) := by
  rcases h with ⟨h1, h2, rfl⟩ | ⟨h1, rfl⟩
  · have e1 := strip_pop h1 h2
    have e2 := drop_less h1
    have e3 := strip_len octets.dropLast
    refine ⟨e1.trans hs, .inr ?_⟩
    rcases hl with z | z
    · rw [e1, hs, ← z] at e3
      omega
    · omega
  · have e1 := strip_done (xs := o) (by rcases h1 with z | z; exact .inr z; exact .inl z)
    exact ⟨hs, .inl (e1.symm.trans hs)⟩
theorem oct_end {octets E : List Int} {count : Int} (hs : stripZ octets = E) (hl : octets = E ∨ (octets.length : Int) + ((count + 4).toNat : Int) ≤ count + 4) (hc : 0 ≤ count) : octets = E := by
  rcases hl with z | z
  · exact z
  · have e : octets = [] := nil_len (by omega)
    rw [← hs, e]
    rfl
theorem chances_cut {e : EncS} {chances : List Int} {low span count : Int} (hg : EncG e) (hr : CodeR e chances low span count) : cutL chances none (some 256) = e.probs := by
  rw [hr.chances]
  have hl := hg.len
  unfold cutL
  rw [HT.sIx_none, show (256 : Int) = ((256 : Nat) : Int) from rfl, HT.sIx_nat, List.length_append, hl]
  show List.take 256 (List.drop 0 (e.probs ++ [2048])) = e.probs
  rw [List.drop_zero, List.take_append_of_le_length (by omega), List.take_of_length_le (by omega)]

structure DecS where
  probs : List Int
  octs : List Int
  place : Int
  span : Int
  value : Int
structure DecO (d : DecS) : Prop where
  place : 0 ≤ d.place
  oct : ∀ x ∈ d.octs, 0 ≤ x ∧ x ≤ 255
def decOct (d : DecS) : Int := if d.place < (d.octs.length : Int) then itD d.octs d.place else 0
def decShift (d : DecS) : DecS := ⟨d.probs, d.octs, if d.place < (d.octs.length : Int) then d.place + 1 else d.place, d.span, d.value * 256 + decOct d⟩
def decPre (d : DecS) (p : Int) : DecS :=
  if d.value < d.span / 4096 * p then ⟨d.probs, d.octs, d.place, d.span / 4096 * p, d.value⟩ else ⟨d.probs, d.octs, d.place, d.span - d.span / 4096 * p, d.value - d.span / 4096 * p⟩
def decBit (d : DecS) (p : Int) : Int := if d.value < d.span / 4096 * p then 0 else 1
def decNorm1 (d : DecS) : DecS := ⟨(decShift d).probs, (decShift d).octs, (decShift d).place, (decShift d).span * 256, (decShift d).value⟩
def decNorm (d : DecS) : DecS := if d.span < 16777216 then decNorm1 d else d
def decDecide (d : DecS) (p : Int) : DecS := decNorm (decPre d p)
def decRead (d : DecS) (c : Int) : DecS := ⟨setL (decDecide d (itD d.probs c)).probs c (adaptE (itD d.probs c) (decBit d (itD d.probs c))), (decDecide d (itD d.probs c)).octs, (decDecide d (itD d.probs c)).place, (decDecide d (itD d.probs c)).span, (decDecide d (itD d.probs c)).value⟩
def decBlank (o : List Int) : DecS := ⟨repL [2048] 256, o, 0, 4294967296 - 1, 0⟩
def decShifts : Nat → DecS → DecS
  | 0, d => d
  | n + 1, d => decShift (decShifts n d)
def decInit (o : List Int) : DecS := ⟨(decShifts 4 (decBlank o)).probs, (decShifts 4 (decBlank o)).octs, (decShifts 4 (decBlank o)).place, (decShifts 4 (decBlank o)).span, if 4294967296 - 2 < (decShifts 4 (decBlank o)).value then 4294967296 - 2 else (decShifts 4 (decBlank o)).value⟩
structure DecG (d : DecS) : Prop where
  o : DecO d
  len : d.probs.length = 256
  prob : ∀ p ∈ d.probs, 31 ≤ p ∧ p ≤ 4065
  span : 16777216 ≤ d.span ∧ d.span < 4294967296
  value : 0 ≤ d.value ∧ d.value < d.span
structure DecMid (d : DecS) : Prop where
  o : DecO d
  len : d.probs.length = 256
  prob : ∀ p ∈ d.probs, 31 ≤ p ∧ p ≤ 4065
  span : 65536 ≤ d.span ∧ d.span < 4294967296
  value : 0 ≤ d.value ∧ d.value < d.span
theorem DecG.chance {d : DecS} (h : DecG d) {c : Int} (h0 : 0 ≤ c) (h1 : c < 256) : 31 ≤ itD d.probs c ∧ itD d.probs c ≤ 4065 := h.prob _ (itD_mem (by rw [h.len]; omega))
theorem ite01 {p : Prop} [Decidable p] (h : (if p then (0 : Int) else 1) = 0) : p := by
  by_cases c : p
  · exact c
  · rw [if_neg c] at h
    exact absurd h (by decide)
theorem ite10 {p : Prop} [Decidable p] (h : ¬ (if p then (0 : Int) else 1) = 0) : ¬ p := by
  intro c
  rw [if_pos c] at h
  exact h rfl
theorem low_or {v o : Int} (h : 0 ≤ v) (h0 : 0 ≤ o) (h1 : o ≤ 255) : PySem.Builtin.bitOr (v * 256) o = v * 256 + o := by
  obtain ⟨a, rfl⟩ := Int.eq_ofNat_of_zero_le h
  obtain ⟨b, rfl⟩ := Int.eq_ofNat_of_zero_le h0
  have z : (a * 256) &&& b = 0 := by
    apply Nat.eq_of_testBit_eq
    intro i
    rw [Nat.testBit_and, Nat.zero_testBit, show a * 256 = a * 2 ^ 8 from rfl, Nat.testBit_mul_two_pow]
    by_cases hi : 8 ≤ i
    · have e : b.testBit i = false := Nat.testBit_lt_two_pow (Nat.lt_of_lt_of_le (by omega : b < 2 ^ 8) (Nat.pow_le_pow_right (by decide) hi))
      rw [e, Bool.and_false]
    · simp [hi]
  rw [PyProof.Rows.bitOr_and, PyProof.Rows.bitAnd_pp (by omega) (by omega)]
  rw [show ((a : Int) * 256).toNat = a * 256 from by omega, show ((b : Int)).toNat = b from rfl, z]
  exact Int.sub_zero _
theorem oct_in {d : DecS} (h : DecO d) : 0 ≤ decOct d ∧ decOct d ≤ 255 := by
  unfold decOct
  split
  · exact h.oct _ (itD_mem (by have := h.place; omega))
  · decide
theorem shift_in {d : DecS} (c : d.place < (d.octs.length : Int)) (h : DecO d) (hv : 0 ≤ d.value) : decShift d = ⟨d.probs, d.octs, d.place + 1, d.span, PySem.Builtin.bitOr (d.value * 256) (itD d.octs d.place)⟩ := by
  have ho := oct_in h
  unfold decShift decOct at *
  rw [if_pos c] at *
  rw [low_or hv ho.1 ho.2]
  simp [c]
theorem shift_out {d : DecS} (c : ¬ d.place < (d.octs.length : Int)) (hv : 0 ≤ d.value) : decShift d = ⟨d.probs, d.octs, d.place, d.span, PySem.Builtin.bitOr (d.value * 256) 0⟩ := by
  unfold decShift decOct
  rw [if_neg c, if_neg c]
  rw [low_or hv (by decide) (by decide)]
theorem decPre_ok {d : DecS} (h : DecG d) {p : Int} (hp : 31 ≤ p ∧ p ≤ 4065) : DecMid (decPre d p) := by
  have hi := part_in h.span hp
  have hv := h.value
  have hs := h.span
  unfold decPre
  split
  · exact ⟨⟨h.o.place, h.o.oct⟩, h.len, h.prob, ⟨hi.1, by show d.span / 4096 * p < 4294967296; omega⟩, ⟨hv.1, by show d.value < d.span / 4096 * p; omega⟩⟩
  · exact ⟨⟨h.o.place, h.o.oct⟩, h.len, h.prob, ⟨hi.2, by show d.span - d.span / 4096 * p < 4294967296; omega⟩, ⟨by show 0 ≤ d.value - d.span / 4096 * p; omega, by show d.value - d.span / 4096 * p < d.span - d.span / 4096 * p; omega⟩⟩
theorem shift_o {d : DecS} (h : DecO d) : DecO (decShift d) := by
  refine ⟨?_, h.oct⟩
  have := h.place
  show 0 ≤ (if d.place < (d.octs.length : Int) then d.place + 1 else d.place)
  split <;> omega
theorem decNorm_ok {d : DecS} (h : DecMid d) : DecG (decNorm d) := by
  have hv := h.value
  have hs := h.span
  have ho := oct_in h.o
  unfold decNorm
  split
  · exact ⟨⟨(shift_o h.o).place, (shift_o h.o).oct⟩, h.len, h.prob, ⟨by show 16777216 ≤ d.span * 256; omega, by show d.span * 256 < 4294967296; omega⟩, ⟨by show 0 ≤ d.value * 256 + decOct d; omega, by show d.value * 256 + decOct d < d.span * 256; omega⟩⟩
  · exact ⟨h.o, h.len, h.prob, ⟨by omega, hs.2⟩, hv⟩
theorem decide_ok {d : DecS} (h : DecG d) {p : Int} (hp : 31 ≤ p ∧ p ≤ 4065) : DecG (decDecide d p) := decNorm_ok (decPre_ok h hp)
theorem probs_decide (d : DecS) (p : Int) : (decDecide d p).probs = d.probs := by
  unfold decDecide decNorm decPre
  split <;> split <;> rfl
theorem bit_in (d : DecS) (p : Int) : 0 ≤ decBit d p ∧ decBit d p ≤ 1 := by
  unfold decBit
  split <;> decide
theorem read_ok {d : DecS} (h : DecG d) {c : Int} (h0 : 0 ≤ c) (h1 : c < 256) : DecG (decRead d c) := by
  have hp := h.chance h0 h1
  have hd := decide_ok h hp
  refine ⟨⟨hd.o.place, hd.o.oct⟩, ?_, fun p hm => ?_, hd.span, hd.value⟩
  · show (setL _ c _).length = 256
    rw [setL_len]
    exact hd.len
  · rcases setL_mem hm with z | z
    · exact hd.prob p z
    · rw [z]
      exact adaptE_in hp
theorem blank_ok {o : List Int} (h : ∀ x ∈ o, 0 ≤ x ∧ x ≤ 255) : DecO (decBlank o) := ⟨Int.le_refl 0, h⟩
theorem shifts_ok {d : DecS} (h : DecO d) (hv : d.value = 0) : ∀ n : Nat, DecO (decShifts n d) ∧ 0 ≤ (decShifts n d).value ∧ (decShifts n d).value < 256 ^ n
  | 0 => ⟨h, by show 0 ≤ d.value; omega, by show d.value < 1; omega⟩
  | n + 1 => by
    have ih := shifts_ok h hv n
    have ho := oct_in ih.1
    refine ⟨shift_o ih.1, ?_, ?_⟩
    · show 0 ≤ (decShifts n d).value * 256 + decOct (decShifts n d)
      omega
    · show (decShifts n d).value * 256 + decOct (decShifts n d) < 256 ^ (n + 1)
      rw [Int.pow_succ]
      omega
theorem shifts_probs (d : DecS) : ∀ n : Nat, (decShifts n d).probs = d.probs
  | 0 => rfl
  | n + 1 => shifts_probs d n
theorem shifts_span (d : DecS) : ∀ n : Nat, (decShifts n d).span = d.span
  | 0 => rfl
  | n + 1 => shifts_span d n
theorem shifts_octs (d : DecS) : ∀ n : Nat, (decShifts n d).octs = d.octs
  | 0 => rfl
  | n + 1 => shifts_octs d n
theorem pow_turn {i : Nat} (hi : i < 4) {v : Int} (h : v < 256 ^ i) : v < 4294967296 := by
  have : (256 : Int) ^ i ≤ 256 ^ 3 := by
    have := Nat.pow_le_pow_right (n := 256) (by decide) (show i ≤ 3 by omega)
    exact_mod_cast this
  omega
theorem decInit_ok {o : List Int} (h : ∀ x ∈ o, 0 ≤ x ∧ x ≤ 255) : DecG (decInit o) := by
  have hs := shifts_ok (blank_ok h) rfl 4
  refine ⟨⟨hs.1.place, hs.1.oct⟩, ?_, ?_, ?_, ?_⟩
  · show (decShifts 4 (decBlank o)).probs.length = 256
    rw [shifts_probs]
    exact init_ok.len
  · show ∀ p ∈ (decShifts 4 (decBlank o)).probs, _
    rw [shifts_probs]
    exact init_ok.prob
  · show 16777216 ≤ (decShifts 4 (decBlank o)).span ∧ (decShifts 4 (decBlank o)).span < 4294967296
    rw [shifts_span]
    show (16777216 : Int) ≤ 4294967296 - 1 ∧ (4294967296 - 1 : Int) < 4294967296
    decide
  · show 0 ≤ (if 4294967296 - 2 < (decShifts 4 (decBlank o)).value then 4294967296 - 2 else (decShifts 4 (decBlank o)).value) ∧ (if 4294967296 - 2 < (decShifts 4 (decBlank o)).value then 4294967296 - 2 else (decShifts 4 (decBlank o)).value) < (decShifts 4 (decBlank o)).span
    rw [shifts_span]
    show _ ∧ _ < (4294967296 - 1 : Int)
    have := hs.2
    split <;> omega

structure BwS where
  full : List Int
  rest : Int
  bits : Int
structure BrS where
  octs : List Int
  place : Int
  stop : Int
structure BwG (w : BwS) : Prop where
  bits : 0 ≤ w.bits ∧ w.bits ≤ 7
  rest : 0 ≤ w.rest ∧ w.rest < 2 ^ w.bits.toNat
structure BrG (s : BrS) : Prop where
  oct : ∀ x ∈ s.octs, 0 ≤ x ∧ x ≤ 255
  place : 0 ≤ s.place
  stop : s.stop ≤ 8 * (s.octs.length : Int)
def bwAdd (w : BwS) (v c : Int) : BwS :=
  ⟨w.full ++ digs ((w.rest * 2 ^ c.toNat + v) / 2 ^ ((w.bits + c) % 8).toNat) ((w.bits + c) / 8).toNat, (w.rest * 2 ^ c.toNat + v) % 2 ^ ((w.bits + c) % 8).toNat, (w.bits + c) % 8⟩
def bwUe (w : BwS) (v : Int) : BwS := bwAdd w (v + 1) (2 * ((PySem.Builtin.Int.intBits (v + 1) : Nat) : Int) - 1)
def seCode (v : Int) : Int := if 0 < v then 2 * v - 1 else -2 * v
def seBack (c : Int) : Int := if (PySem.Builtin.bitAnd c 1 != 0) = true then (c + 1) / 2 else -(c / 2)
theorem pow7 {b : Int} (h : 0 ≤ b ∧ b ≤ 7) : (2 : Int) ^ b.toNat ≤ 128 := by
  have : b.toNat ≤ 7 := by omega
  have h2 := Nat.pow_le_pow_right (n := 2) (by decide) this
  exact_mod_cast h2
theorem small_rest {w : BwS} (h : BwG w) : 0 ≤ w.rest ∧ w.rest < 128 := by
  have a := pow7 h.bits
  have b := h.rest
  omega
theorem pow_pos2 (n : Nat) : (0 : Int) < 2 ^ n := by
  have : (0 : Nat) < 2 ^ n := Nat.pow_pos (by decide)
  exact_mod_cast this
theorem or_lowN {v o : Int} {n : Nat} (h : 0 ≤ v) (h0 : 0 ≤ o) (h1 : o < 2 ^ n) : PySem.Builtin.bitOr (v * 2 ^ n) o = v * 2 ^ n + o := by
  obtain ⟨a, rfl⟩ := Int.eq_ofNat_of_zero_le h
  obtain ⟨b, rfl⟩ := Int.eq_ofNat_of_zero_le h0
  have hb : b < 2 ^ n := by exact_mod_cast h1
  have z : (a * 2 ^ n) &&& b = 0 := by
    apply Nat.eq_of_testBit_eq
    intro i
    rw [Nat.testBit_and, Nat.zero_testBit, Nat.testBit_mul_two_pow]
    by_cases hi : n ≤ i
    · have e : b.testBit i = false := Nat.testBit_lt_two_pow (Nat.lt_of_lt_of_le hb (Nat.pow_le_pow_right (by decide) hi))
      rw [e, Bool.and_false]
    · simp [hi]
  have c1 : ((a : Int) * 2 ^ n) = ((a * 2 ^ n : Nat) : Int) := by
    push_cast
    rfl
  rw [c1, PyProof.Rows.bitOr_and, PyProof.Rows.bitAnd_pp (by omega) (by omega)]
  rw [show (((a * 2 ^ n : Nat) : Int)).toNat = a * 2 ^ n from rfl, show ((b : Int)).toNat = b from rfl, z]
  exact Int.sub_zero _
structure AddR (T L : Int) (full0 full : List Int) (rest left : Int) : Prop where
  nn : 0 ≤ left
  ex : ∃ j : Nat, left + 8 * (j : Int) = L ∧ full = full0 ++ digs (T / 2 ^ left.toNat) j
  rest : rest = T % 2 ^ left.toNat
theorem mask_pow (x : Int) (n : Nat) : PySem.Builtin.bitAnd x (1 * 2 ^ n - 1) = x % 2 ^ n := by
  rw [Int.one_mul]
  exact PySem.W.kbt_mask x n
theorem mod_div (T : Int) {p : Int} (hp : 0 < p) : T % (p * 2 ^ 8) / p = T / p % 256 := by
  have h1 := Int.emod_def T (p * 2 ^ 8)
  rw [h1, show p * 2 ^ 8 * (T / (p * 2 ^ 8)) = p * (256 * (T / (p * 2 ^ 8))) from by rw [Int.mul_assoc]; rfl]
  rw [Int.sub_mul_ediv_left _ _ (by omega), Int.emod_def, ← Int.ediv_ediv_of_nonneg (Int.le_of_lt hp)]
  rfl
theorem mod_mod_mul (T p q : Int) : T % (p * q) % p = T % p := Int.emod_emod_of_dvd T (Int.dvd_mul_right p q)
theorem digs_len (n : Int) (k : Nat) : (digs n k).length = k := by
  unfold digs
  rw [List.length_map, List.length_range]
theorem AddR.len {T L : Int} {full0 full : List Int} {rest left : Int} (h : AddR T L full0 full rest left) : 8 * (full.length : Int) ≤ 8 * (full0.length : Int) + L := by
  obtain ⟨j, e1, e2⟩ := h.ex
  have := h.nn
  rw [e2, List.length_append, digs_len]
  omega
theorem AddR.le {T L : Int} {full0 full : List Int} {rest left : Int} (h : AddR T L full0 full rest left) : left ≤ L := by
  obtain ⟨j, e1, e2⟩ := h.ex
  omega
theorem total_in {w : BwS} {v c : Int} (h : BwG w) (hc : 0 ≤ c) (hv : 0 ≤ v ∧ v < 2 ^ c.toNat) : 0 ≤ w.rest * 2 ^ c.toNat + v ∧ w.rest * 2 ^ c.toNat + v < 2 ^ (w.bits + c).toNat := by
  have hb := h.bits
  have hr := h.rest
  have p := pow_pos2 c.toNat
  have a : 0 ≤ w.rest * 2 ^ c.toNat := Int.mul_nonneg hr.1 (Int.le_of_lt p)
  have b : (w.rest + 1) * 2 ^ c.toNat ≤ 2 ^ w.bits.toNat * 2 ^ c.toNat := Int.mul_le_mul_of_nonneg_right (by omega) (Int.le_of_lt p)
  rw [← Int.pow_add, show w.bits.toNat + c.toNat = (w.bits + c).toNat from by omega, Int.add_mul, Int.one_mul] at b
  exact ⟨by omega, by omega⟩
theorem add_start {w : BwS} {v c : Int} (h : BwG w) (hc : 0 ≤ c) (hv : 0 ≤ v ∧ v < 2 ^ c.toNat) : AddR (w.rest * 2 ^ c.toNat + v) (w.bits + c) w.full w.full (PySem.Builtin.bitOr (w.rest * 2 ^ c.toNat) v) (w.bits + c) := by
  have t := total_in h hc hv
  have hb := h.bits
  refine ⟨by omega, ⟨0, by omega, by rw [show digs _ 0 = [] from rfl, List.append_nil]⟩, ?_⟩
  rw [or_lowN h.rest.1 hv.1 hv.2, Int.emod_eq_of_lt t.1 t.2]
theorem add_turn {T L : Int} {full0 full : List Int} {rest left : Int} (h : AddR T L full0 full rest left) (h8 : 8 ≤ left) :
    AddR T L full0 (full ++ [rest / 2 ^ (left - 8).toNat]) (PySem.Builtin.bitAnd rest (1 * 2 ^ (left - 8).toNat - 1)) (left - 8) := by
  obtain ⟨j, e1, e2⟩ := h.ex
  have e3 := h.rest
  obtain ⟨k, hk⟩ := Int.eq_ofNat_of_zero_le (show 0 ≤ left - 8 by omega)
  have hl : left.toNat = k + 8 := by omega
  have hk2 : (left - 8).toNat = k := by omega
  rw [hl] at e2 e3
  rw [hk2]
  have hp := pow_pos2 k
  have hd : rest / 2 ^ k = T / 2 ^ k % 256 := by
    rw [e3, Int.pow_add]
    exact mod_div T hp
  have hm : rest % 2 ^ k = T % 2 ^ k := by
    rw [e3, Int.pow_add]
    exact mod_mod_mul _ _ _
  refine ⟨by omega, ⟨j + 1, by omega, ?_⟩, ?_⟩
  · rw [hk2, e2, hd, List.append_assoc]
    congr 1
    have hq : T / 2 ^ k = T / 2 ^ (k + 8) * 256 + T / 2 ^ k % 256 := by
      rw [Int.pow_add, ← Int.ediv_ediv_of_nonneg (Int.le_of_lt hp)]
      show _ = T / 2 ^ k / 256 * 256 + _
      omega
    rw [hq, digs_snoc _ _ _ (by omega)]
    congr 1
    congr 1
    omega
  · rw [mask_pow, hm, hk2]
theorem add_end {w : BwS} {v c : Int} {full : List Int} {rest left : Int} (h : AddR (w.rest * 2 ^ c.toNat + v) (w.bits + c) w.full full rest left) (h8 : left < 8) : (⟨full, rest, left⟩ : BwS) = bwAdd w v c := by
  obtain ⟨j, e1, e2⟩ := h.ex
  have e3 := h.rest
  have hl := h.nn
  have a : (w.bits + c) % 8 = left := by omega
  have b : ((w.bits + c) / 8).toNat = j := by omega
  unfold bwAdd
  rw [a, b, e2, e3]
theorem ib_spec {n : Int} (h : 0 < n) : ∃ k : Nat, PySem.Builtin.Int.intBits n = k + 1 ∧ (2 : Int) ^ k ≤ n ∧ n < 2 ^ (k + 1) := by
  obtain ⟨m, rfl⟩ := Int.eq_ofNat_of_zero_le (Int.le_of_lt h)
  have hm : m ≠ 0 := by omega
  refine ⟨m.log2, ?_, ?_, ?_⟩
  · unfold PySem.Builtin.Int.intBits
    rw [if_neg (by simp; omega)]
    rfl
  · exact_mod_cast Nat.log2_self_le hm
  · exact_mod_cast Nat.lt_log2_self
theorem pow_lt_of {k n : Nat} (h : (2 : Int) ^ k < 2 ^ n) : k < n := by
  have h2 : 2 ^ k < 2 ^ n := by exact_mod_cast h
  exact (Nat.pow_lt_pow_iff_right (by decide)).mp h2
theorem pow_mono {k n : Nat} (h : k ≤ n) : (2 : Int) ^ k ≤ 2 ^ n := by
  have := Nat.pow_le_pow_right (n := 2) (by decide) h
  exact_mod_cast this
theorem ue_in {v : Int} (h0 : 0 ≤ v) (h1 : v ≤ 4294967296) : (0 ≤ 2 * ((PySem.Builtin.Int.intBits (v + 1) : Nat) : Int) - 1 ∧ 2 * ((PySem.Builtin.Int.intBits (v + 1) : Nat) : Int) - 1 ≤ 130) ∧
    (0 ≤ v + 1 ∧ v + 1 < 2 ^ (2 * ((PySem.Builtin.Int.intBits (v + 1) : Nat) : Int) - 1).toNat) := by
  obtain ⟨k, e, lo, hi⟩ := ib_spec (n := v + 1) (by omega)
  have hk : k < 33 := pow_lt_of (Int.lt_of_le_of_lt lo (by show v + 1 < 8589934592; omega))
  rw [e]
  refine ⟨by omega, by omega, ?_⟩
  exact Int.lt_of_lt_of_le hi (pow_mono (by omega))
def lastBit (o : Int) : Int :=
  if o % 2 = 1 then 1 else if o % 4 = 2 then 2 else if o % 8 = 4 then 3 else if o % 16 = 8 then 4 else if o % 32 = 16 then 5 else if o % 64 = 32 then 6 else if o % 128 = 64 then 7 else 8
theorem eight {b : Int} (h1 : 1 ≤ b) (h8 : b ≤ 8) : b = 1 ∨ b = 2 ∨ b = 3 ∨ b = 4 ∨ b = 5 ∨ b = 6 ∨ b = 7 ∨ b = 8 := by omega
theorem bit_mod (x : Int) : PySem.Builtin.bitAnd x 1 = x % 2 := PySem.W.kbt_mask x 1
theorem lb_turn {o b : Int} (h : 0 < o ∧ o ≤ 255) (h1 : 1 ≤ b) (h8 : b ≤ 8) (hz : o % 2 ^ (b - 1).toNat = 0) (hc : PySem.Builtin.bitAnd (o / 2 ^ (b - 1).toNat) 1 = 0) : 1 ≤ b + 1 ∧ b + 1 ≤ 8 ∧ o % 2 ^ (b + 1 - 1).toNat = 0 := by
  rw [bit_mod] at hc
  rcases eight h1 h8 with rfl | rfl | rfl | rfl | rfl | rfl | rfl | rfl <;> simp at hz hc ⊢ <;> omega
theorem lb_end {o b : Int} (h : 0 < o ∧ o ≤ 255) (h1 : 1 ≤ b) (h8 : b ≤ 8) (hz : o % 2 ^ (b - 1).toNat = 0) (hc : ¬ PySem.Builtin.bitAnd (o / 2 ^ (b - 1).toNat) 1 = 0) : lastBit o = b := by
  rw [bit_mod] at hc
  unfold lastBit
  rcases eight h1 h8 with rfl | rfl | rfl | rfl | rfl | rfl | rfl | rfl <;> simp at hz hc <;> (repeat' split) <;> omega
theorem last_oct {xs : List Int} (h : xs ≠ []) (hz : ¬ itD xs (-1) = 0) (ho : ∀ x ∈ xs, 0 ≤ x ∧ x ≤ 255) : 0 < itD xs (-1) ∧ itD xs (-1) ≤ 255 := by
  have := ho _ (itD_mem (last_in h))
  omega
def brInit (o : List Int) : BrS := ⟨o, 0, 8 * (o.length : Int) - lastBit (itD o (-1))⟩
def brMove (s : BrS) (c : Int) : BrS := ⟨s.octs, s.place + c, s.stop⟩
def lookB (o : List Int) (p c : Int) : Int := num o / 2 ^ (8 * (o.length : Int) - p - c).toNat % 2 ^ c.toNat
def sliceB (o : List Int) (p c : Int) : List Int := cutL o (some (p / 8)) (some ((p + c + 7) / 8))
structure Zeros (s : BrS) (z : Nat) : Prop where
  most : (z : Int) ≤ 32
  fit : s.place + (z : Int) + 1 ≤ s.stop
  zero : ∀ k : Nat, k < z → lookB s.octs (s.place + (k : Int)) 1 = 0
  one : lookB s.octs (s.place + (z : Int)) 1 = 1
theorem zeros_ne {s : BrS} {z : Nat} {q : Int} (h : Zeros s z) (h0 : 0 ≤ q) (h1 : q ≤ (z : Int)) (hc : lookB s.octs (s.place + q) 1 = 0) : q < (z : Int) := by
  rcases (by omega : q < (z : Int) ∨ q = (z : Int)) with a | a
  · exact a
  · rw [a, h.one] at hc
    exact absurd hc (by decide)
theorem zeros_eq {s : BrS} {z : Nat} {q : Int} (h : Zeros s z) (h0 : 0 ≤ q) (h1 : q ≤ (z : Int)) (hc : ¬ lookB s.octs (s.place + q) 1 = 0) : q = (z : Int) := by
  obtain ⟨k, rfl⟩ := Int.eq_ofNat_of_zero_le h0
  rcases (by omega : k < z ∨ (k : Int) = (z : Int)) with a | a
  · exact absurd (h.zero k a) hc
  · exact a
theorem and7 (x : Int) : PySem.Builtin.bitAnd x 7 = x % 8 := PySem.W.kbt_mask x 3
theorem and7_nn (x : Int) : 0 ≤ PySem.Builtin.bitAnd x 7 := by
  rw [and7]
  omega
theorem num_app (xs ys : List Int) : num (xs ++ ys) = num xs * 256 ^ ys.length + num ys := by
  refine snocInd (motive := fun ys => num (xs ++ ys) = num xs * 256 ^ ys.length + num ys) ?_ (fun zs z ih => ?_) ys
  · rw [List.append_nil]
    show num xs = num xs * 1 + 0
    omega
  · rw [← List.append_assoc, num_snoc, num_snoc, ih, List.length_append]
    show _ = num xs * 256 ^ (zs.length + 1) + _
    rw [Int.pow_succ, ← Int.mul_assoc]
    omega
theorem pow256 (n : Nat) : (256 : Int) ^ n = 2 ^ (8 * n) := by
  rw [Int.pow_mul]
  rfl
theorem num_lt {xs : List Int} (h : ∀ x ∈ xs, 0 ≤ x ∧ x ≤ 255) : 0 ≤ num xs ∧ num xs < 256 ^ xs.length := by
  refine snocInd (motive := fun xs => (∀ x ∈ xs, 0 ≤ x ∧ x ≤ 255) → 0 ≤ num xs ∧ num xs < 256 ^ xs.length) (fun _ => ⟨by decide, by decide⟩) (fun ys y ih h => ?_) xs h
  have i := ih fun x hx => h x (by simp [hx])
  have hy := h y (by simp)
  rw [num_snoc, List.length_append]
  show _ ∧ _ < (256 : Int) ^ (ys.length + 1)
  rw [Int.pow_succ]
  omega
theorem slice_mem {o : List Int} {p c : Int} {x : Int} (h : x ∈ sliceB o p c) : x ∈ o := by
  unfold sliceB at h
  exact mem_cutL h
theorem slice_oct {o : List Int} {p c : Int} {i : Nat} {x : Int} (h : ∀ x ∈ o, 0 ≤ x ∧ x ≤ 255) (hi : (sliceB o p c)[i]? = some x) : 0 ≤ x ∧ x ≤ 255 := h x (slice_mem (List.mem_of_getElem? hi))
theorem num_take {xs : List Int} {i : Nat} {x : Int} (hi : xs[i]? = some x) : num (xs.take i) * 256 + x = num (xs.take (i + 1)) := by
  rw [take_succ_get hi, num_snoc]
theorem slice_split {o : List Int} {p c : Int} (hp : 0 ≤ p) (hc : 0 ≤ c) (h : p + c ≤ 8 * (o.length : Int)) :
    ∃ A C : List Int, o = A ++ sliceB o p c ++ C ∧ (A.length : Int) = p / 8 ∧ (C.length : Int) = o.length - (p + c + 7) / 8 ∧ ((sliceB o p c).length : Int) = (p + c + 7) / 8 - p / 8 := by
  obtain ⟨a, ha⟩ := Int.eq_ofNat_of_zero_le (show 0 ≤ p / 8 by omega)
  obtain ⟨b, hb⟩ := Int.eq_ofNat_of_zero_le (show 0 ≤ (p + c + 7) / 8 by omega)
  have hab : a ≤ b := by omega
  have hbl : b ≤ o.length := by omega
  unfold sliceB cutL
  rw [ha, hb, HT.sIx_nat, HT.sIx_nat, Nat.min_eq_left hbl, Nat.min_eq_left (by omega)]
  refine ⟨o.take a, o.drop b, ?_, ?_, ?_, ?_⟩
  · have e : List.drop b o = List.drop (b - a) (List.drop a o) := by
      rw [List.drop_drop]
      congr 1
      omega
    rw [e, List.append_assoc, List.take_append_drop, List.take_append_drop]
  · rw [List.length_take]
    omega
  · rw [List.length_drop]
    omega
  · rw [List.length_take, List.length_drop]
    omega
theorem slice_small {s : BrS} {p c : Int} (h : BrG s) (hp : 0 ≤ p) (hc : 0 ≤ c ∧ c ≤ 65) (hs : p + c ≤ s.stop) (i : Nat) : 0 ≤ num ((sliceB s.octs p c).take i) ∧ num ((sliceB s.octs p c).take i) < 2 ^ 4096 := by
  have hst := h.stop
  obtain ⟨A, C, e, hA, hC, hS⟩ := slice_split (o := s.octs) hp hc.1 (by omega)
  have hl : ((sliceB s.octs p c).take i).length ≤ 500 := by
    rw [List.length_take]
    omega
  have n := num_lt (xs := (sliceB s.octs p c).take i) fun x hx => h.oct x (slice_mem (List.mem_of_mem_take hx))
  refine ⟨n.1, Int.lt_of_lt_of_le n.2 ?_⟩
  rw [pow256]
  exact pow_mono (by omega)
theorem look_eq {s : BrS} {p c : Int} (h : BrG s) (hp : 0 ≤ p) (hc : 0 ≤ c ∧ c ≤ 65) (hs : p + c ≤ s.stop) :
    lookB s.octs p c = PySem.Builtin.bitAnd (num (sliceB s.octs p c) / 2 ^ (PySem.Builtin.bitAnd (-(p + c)) 7).toNat) (1 * 2 ^ c.toNat - 1) := by
  obtain ⟨cn, rfl⟩ := Int.eq_ofNat_of_zero_le hc.1
  have hst := h.stop
  obtain ⟨A, C, e, hA, hC, hS⟩ := slice_split (o := s.octs) hp hc.1 (by omega)
  have hCo : ∀ x ∈ C, 0 ≤ x ∧ x ≤ 255 := fun x hx => h.oct x (by rw [e]; exact List.mem_append_right _ hx)
  have nC := num_lt hCo
  rw [mask_pow, and7]
  unfold lookB
  obtain ⟨pad, hpad⟩ := Int.eq_ofNat_of_zero_le (show 0 ≤ -(p + (cn : Int)) % 8 by omega)
  have hlen : (8 * (s.octs.length : Int) - p - (cn : Int)).toNat = 8 * C.length + pad := by omega
  rw [hlen, hpad]
  have e1 : num s.octs / 2 ^ (8 * C.length + pad) = num (A ++ sliceB s.octs p (cn : Int)) / 2 ^ pad := by
    have e2 : num s.octs = num (A ++ sliceB s.octs p (cn : Int)) * 256 ^ C.length + num C := by
      rw [← num_app, ← e]
    rw [Int.pow_add, ← Int.ediv_ediv_of_nonneg (Int.le_of_lt (pow_pos2 _)), e2, pow256]
    rw [pow256] at nC
    congr 1
    rw [Int.add_comm, Int.add_mul_ediv_right _ _ (by have := pow_pos2 (8 * C.length); omega), Int.ediv_eq_zero_of_lt nC.1 nC.2]
    omega
  rw [e1, num_app, pow256]
  obtain ⟨d, hd⟩ : ∃ d : Nat, 8 * (sliceB s.octs p (cn : Int)).length = d + cn + pad := ⟨8 * (sliceB s.octs p (cn : Int)).length - cn - pad, by omega⟩
  rw [hd, Int.pow_add, Int.pow_add, ← Int.mul_assoc, ← Int.mul_assoc, Int.add_comm, Int.add_mul_ediv_right _ _ (by have := pow_pos2 pad; omega)]
  exact Int.add_mul_emod_self_right _ _ _

def nb (bs : List Int) : Int := bs.foldl (fun a x => a * 2 + x) 0
theorem nb_snoc (xs : List Int) (x : Int) : nb (xs ++ [x]) = nb xs * 2 + x := by
  unfold nb
  rw [List.foldl_append] <;> rfl
theorem nb_app (xs ys : List Int) : nb (xs ++ ys) = nb xs * 2 ^ ys.length + nb ys := by
  refine snocInd (motive := fun ys => nb (xs ++ ys) = nb xs * 2 ^ ys.length + nb ys) ?_ (fun zs z ih => ?_) ys
  · rw [List.append_nil]
    show nb xs = nb xs * 1 + 0
    omega
  · rw [← List.append_assoc, nb_snoc, nb_snoc, ih, List.length_append]
    show _ = nb xs * 2 ^ (zs.length + 1) + _
    rw [Int.pow_succ, ← Int.mul_assoc]
    omega
def B01 (bs : List Int) : Prop := ∀ b ∈ bs, 0 ≤ b ∧ b ≤ 1
theorem nb_lt {bs : List Int} (h : B01 bs) : 0 ≤ nb bs ∧ nb bs < 2 ^ bs.length := by
  refine snocInd (motive := fun bs => B01 bs → 0 ≤ nb bs ∧ nb bs < 2 ^ bs.length) (fun _ => ⟨by decide, by decide⟩) (fun ys y ih h => ?_) bs h
  have i := ih fun x hx => h x (by simp [hx])
  have hy := h y (by simp)
  rw [nb_snoc, List.length_append]
  show _ ∧ _ < (2 : Int) ^ (ys.length + 1)
  rw [Int.pow_succ]
  omega
theorem b01_app {xs ys : List Int} (h : B01 xs) (g : B01 ys) : B01 (xs ++ ys) := fun b hb => by
  rcases List.mem_append.mp hb with z | z
  · exact h b z
  · exact g b z
def bitsL (v c : Int) : List Int := (List.range c.toNat).map fun (j : Nat) => PySem.Builtin.bitAnd (v / 2 ^ Int.toNat (c - 1 - (0 + (j : Int)))) 1
theorem bitsL_len (v c : Int) : (bitsL v c).length = c.toNat := by
  unfold bitsL
  rw [List.length_map, List.length_range]
theorem bitsL_01 (v c : Int) : B01 (bitsL v c) := by
  intro b hb
  unfold bitsL at hb
  obtain ⟨j, _, e⟩ := List.mem_map.mp hb
  rw [← e]
  show 0 ≤ PySem.Builtin.bitAnd _ 1 ∧ PySem.Builtin.bitAnd _ 1 ≤ 1
  rw [bit_mod]
  omega
theorem bitsL_succ (v : Int) (n : Nat) : bitsL v ((n + 1 : Nat) : Int) = bitsL (v / 2) (n : Int) ++ [v % 2] := by
  unfold bitsL
  rw [show (((n + 1 : Nat) : Int)).toNat = n + 1 from rfl, show ((n : Int)).toNat = n from rfl, List.range_succ, List.map_append]
  congr 1
  · apply List.map_congr_left
    intro j hj
    have hj := List.mem_range.mp hj
    rw [bit_mod, bit_mod, show Int.toNat (((n + 1 : Nat) : Int) - 1 - (0 + (j : Int))) = 1 + Int.toNat ((n : Int) - 1 - (0 + (j : Int))) from by omega, Int.pow_add, ← Int.ediv_ediv_of_nonneg (by decide)]
    rfl
  · show [PySem.Builtin.bitAnd (v / 2 ^ Int.toNat (((n + 1 : Nat) : Int) - 1 - (0 + (n : Int)))) 1] = [v % 2]
    rw [bit_mod, show Int.toNat (((n + 1 : Nat) : Int) - 1 - (0 + (n : Int))) = 0 from by omega]
    show [v / 1 % 2] = _
    rw [Int.ediv_one]
theorem nb_bitsL : ∀ (n : Nat) {v : Int}, 0 ≤ v ∧ v < 2 ^ n → nb (bitsL v (n : Int)) = v
  | 0, v, h => by
    have : v = 0 := by
      have := h.2
      rw [Int.pow_zero] at this
      omega
    rw [this]
    rfl
  | n + 1, v, h => by
    rw [bitsL_succ, nb_snoc, nb_bitsL n (v := v / 2) (by have := h.2; rw [Int.pow_succ] at this; omega)]
    omega
def ueL (v : Int) : List Int := repL [0] (((PySem.Builtin.Int.intBits (v + 1) : Nat) : Int) - 1) ++ bitsL (v + 1) ((PySem.Builtin.Int.intBits (v + 1) : Nat) : Int)
def padL (bs : List Int) : List Int := (bs ++ [1]) ++ repL [0] ((8 - ((bs ++ [1]).length : Int) % 8) % 8)
def packL (bs : List Int) : List Int := (List.range (((padL bs).length : Int) / 8).toNat).map fun (i : Nat) => List.sum ((List.range 8).map fun (j : Nat) => itD (padL bs) (8 * (0 + (i : Int)) + (0 + (j : Int))) * 2 ^ Int.toNat (7 - (0 + (j : Int))))
theorem rep_zeros (k : Int) : repL [(0 : Int)] k = List.replicate k.toNat 0 := by
  unfold repL
  induction k.toNat with
  | zero => rfl
  | succ n ih =>
    rw [List.replicate_succ, List.flatten_cons, ih]
    rfl
theorem nb_zeros : ∀ n : Nat, nb (List.replicate n 0) = 0
  | 0 => rfl
  | n + 1 => nb_zeros n
theorem zeros_01 (n : Nat) : B01 (List.replicate n 0) := fun b hb => by
  rw [List.eq_of_mem_replicate hb]
  decide
theorem padL_len (bs : List Int) : ∃ m : Nat, ((padL bs).length : Int) = 8 * (m : Int) ∧ (m : Int) = bs.length / 8 + 1 := by
  refine ⟨bs.length / 8 + 1, ?_, by omega⟩
  unfold padL
  rw [List.length_append, len_rep1, List.length_append]
  simp only [List.length_cons, List.length_nil]
  omega
theorem padL_mem {bs : List Int} (h : B01 bs) : B01 (padL bs) := by
  unfold padL
  refine b01_app (b01_app h (fun b hb => ?_)) ?_
  · rw [List.mem_singleton.mp hb]
    decide
  · rw [rep_zeros]
    exact zeros_01 _
theorem ue_form {v : Int} (h : 0 ≤ v) : ∃ k : Nat, PySem.Builtin.Int.intBits (v + 1) = k + 1 ∧ (2 : Int) ^ k ≤ v + 1 ∧ v + 1 < 2 ^ (k + 1) ∧ ueL v = List.replicate k 0 ++ bitsL (v + 1) ((k + 1 : Nat) : Int) ∧ (ueL v).length = 2 * k + 1 ∧ nb (ueL v) = v + 1 ∧ B01 (ueL v) := by
  obtain ⟨k, e, lo, hi⟩ := ib_spec (n := v + 1) (by omega)
  have e2 : ueL v = List.replicate k 0 ++ bitsL (v + 1) ((k + 1 : Nat) : Int) := by
    unfold ueL
    rw [e, rep_zeros, show (((k + 1 : Nat) : Int) - 1).toNat = k from by omega]
  refine ⟨k, e, lo, hi, e2, ?_, ?_, ?_⟩
  · rw [e2, List.length_append, List.length_replicate, bitsL_len]
    omega
  · rw [e2, nb_app, nb_zeros, Int.zero_mul, Int.zero_add]
    exact nb_bitsL (k + 1) ⟨by omega, hi⟩
  · rw [e2]
    exact b01_app (zeros_01 _) (bitsL_01 _ _)
structure WR (w : BwS) (bs : List Int) : Prop where
  g : BwG w
  oct : ∀ x ∈ w.full, 0 ≤ x ∧ x ≤ 255
  b : B01 bs
  len : (bs.length : Int) = 8 * (w.full.length : Int) + w.bits
  val : nb bs = num w.full * 2 ^ w.bits.toNat + w.rest
theorem num_digs : ∀ (k : Nat) {M : Int}, 0 ≤ M ∧ M < 256 ^ k → num (digs M k) = M
  | 0, M, h => by
    have : M = 0 := by
      have := h.2
      rw [Int.pow_zero] at this
      omega
    rw [this]
    rfl
  | k + 1, M, h => by
    have e : M = M / 256 * 256 + M % 256 := by omega
    have h2 := h.2
    rw [Int.pow_succ] at h2
    have d := digs_snoc (M / 256) (M % 256) k (by omega)
    rw [← e] at d
    rw [d, num_snoc, num_digs k (M := M / 256) (by omega)]
    omega
theorem digs_oct {M : Int} {k : Nat} : ∀ x ∈ digs M k, 0 ≤ x ∧ x ≤ 255 := by
  intro x hx
  unfold digs at hx
  obtain ⟨j, _, e⟩ := List.mem_map.mp hx
  rw [← e]
  show 0 ≤ _ % 256 ∧ _ % 256 ≤ 255
  omega
theorem wr_add {w : BwS} {bs X : List Int} {v c : Int} (h : WR w bs) (hc : 0 ≤ c) (hx : B01 X) (hl : (X.length : Int) = c) (hv : nb X = v) : WR (bwAdd w v c) (bs ++ X) := by
  have hv2 := nb_lt hx
  have hcn : c.toNat = X.length := by omega
  rw [hv, ← hcn] at hv2
  have t := total_in h.g hc hv2
  have hb := h.g.bits
  have hval := h.val
  obtain ⟨r, hr⟩ := Int.eq_ofNat_of_zero_le (show 0 ≤ (w.bits + c) % 8 by omega)
  obtain ⟨k, hk⟩ := Int.eq_ofNat_of_zero_le (show 0 ≤ (w.bits + c) / 8 by omega)
  have hsum : (w.bits + c).toNat = 8 * k + r := by omega
  have hr2 : ((w.bits + c) % 8).toNat = r := by omega
  have hk2 : ((w.bits + c) / 8).toNat = k := by omega
  have pr := pow_pos2 r
  rw [hsum, Int.pow_add, ← pow256] at t
  have hM : 0 ≤ (w.rest * 2 ^ c.toNat + v) / 2 ^ r ∧ (w.rest * 2 ^ c.toNat + v) / 2 ^ r < 256 ^ k :=
    ⟨Int.ediv_nonneg t.1 (Int.le_of_lt pr), Int.ediv_lt_of_lt_mul pr t.2⟩
  unfold bwAdd
  rw [hr2, hk2]
  refine ⟨⟨by show 0 ≤ (w.bits + c) % 8 ∧ (w.bits + c) % 8 ≤ 7; omega, ?_⟩, ?_, b01_app h.b hx, ?_, ?_⟩
  · show 0 ≤ (w.rest * 2 ^ c.toNat + v) % 2 ^ r ∧ (w.rest * 2 ^ c.toNat + v) % 2 ^ r < 2 ^ ((w.bits + c) % 8).toNat
    rw [hr2]
    exact ⟨Int.emod_nonneg _ (by omega), Int.emod_lt_of_pos _ pr⟩
  · intro x hx
    rcases List.mem_append.mp hx with z | z
    · exact h.oct x z
    · exact digs_oct x z
  · have hlen := h.len
    show ((bs ++ X).length : Int) = 8 * ((w.full ++ digs _ k).length : Int) + (w.bits + c) % 8
    rw [List.length_append, List.length_append, digs_len]
    omega
  · show nb (bs ++ X) = num (w.full ++ digs _ k) * 2 ^ ((w.bits + c) % 8).toNat + (w.rest * 2 ^ c.toNat + v) % 2 ^ r
    rw [hr2, nb_app, num_app, digs_len, num_digs k hM, hv, hval, ← hcn]
    have q := Int.mul_ediv_add_emod (w.rest * 2 ^ c.toNat + v) (2 ^ r)
    rw [Int.add_mul, Int.add_mul, Int.mul_assoc, Int.mul_assoc, ← Int.pow_add, show w.bits.toNat + c.toNat = 8 * k + r from by omega, Int.pow_add, ← pow256]
    rw [Int.mul_comm (2 ^ r)] at q
    omega
theorem wr_nil : WR ⟨[], 0, 0⟩ [] := ⟨⟨by decide, by decide⟩, fun x h => (List.not_mem_nil h).elim, fun x h => (List.not_mem_nil h).elim, rfl, rfl⟩
def ItOk (it : Int × Int × Int) : Prop := (it.1 = 0 ∧ (0 ≤ it.2.2 ∧ it.2.2 ≤ 64) ∧ 0 ≤ it.2.1 ∧ it.2.1 < 2 ^ it.2.2.toNat) ∨ (it.1 = 1 ∧ 0 ≤ it.2.1 ∧ it.2.1 ≤ 4294967296) ∨ (it.1 = 2 ∧ -2147483648 ≤ it.2.1 ∧ it.2.1 ≤ 2147483648)
def itBits (it : Int × Int × Int) : List Int := if it.1 = 0 then bitsL it.2.1 it.2.2 else if it.1 = 1 then ueL it.2.1 else ueL (seCode it.2.1)
def itAdd (w : BwS) (it : Int × Int × Int) : BwS := if it.1 = 0 then bwAdd w it.2.1 it.2.2 else if it.1 = 1 then bwUe w it.2.1 else bwUe w (seCode it.2.1)
theorem se_in {v : Int} (h : -2147483648 ≤ v ∧ v ≤ 2147483648) : 0 ≤ seCode v ∧ seCode v ≤ 4294967296 := by
  unfold seCode
  split <;> omega
theorem wr_ue {w : BwS} {bs : List Int} {v : Int} (h : WR w bs) (hv : 0 ≤ v) : WR (bwUe w v) (bs ++ ueL v) := by
  obtain ⟨k, e, lo, hi, e2, hl, hn, hb⟩ := ue_form hv
  unfold bwUe
  rw [e]
  exact wr_add h (by omega) hb (by rw [hl]; omega) hn
theorem wr_put {w : BwS} {bs : List Int} {it : Int × Int × Int} (h : WR w bs) (hi : ItOk it) : WR (itAdd w it) (bs ++ itBits it) := by
  unfold itAdd itBits
  rcases hi with ⟨a, b, c⟩ | ⟨a, b⟩ | ⟨a, b⟩
  · rw [if_pos a, if_pos a]
    obtain ⟨n, hn⟩ := Int.eq_ofNat_of_zero_le b.1
    rw [hn] at c ⊢
    exact wr_add h (by omega) (bitsL_01 _ _) (by rw [bitsL_len]; omega) (nb_bitsL n c)
  · rw [if_neg (by omega), if_pos a, if_neg (by omega), if_pos a]
    exact wr_ue h b.1
  · rw [if_neg (by omega), if_neg (by omega), if_neg (by omega), if_neg (by omega)]
    exact wr_ue h (se_in b).1
theorem it_01 {it : Int × Int × Int} (hi : ItOk it) : B01 (itBits it) := by
  unfold itBits
  rcases hi with ⟨a, b, c⟩ | ⟨a, b⟩ | ⟨a, b⟩
  · rw [if_pos a]
    exact bitsL_01 _ _
  · rw [if_neg (by omega), if_pos a]
    obtain ⟨k, e, lo, hi, e2, hl, hn, hb⟩ := ue_form b.1
    exact hb
  · rw [if_neg (by omega), if_neg (by omega)]
    obtain ⟨k, e, lo, hi, e2, hl, hn, hb⟩ := ue_form (se_in b).1
    exact hb
theorem ue_len {v : Int} (h : 0 ≤ v) (h1 : v ≤ 4294967296) : (ueL v).length ≤ 130 := by
  obtain ⟨k, e, lo, hi, e2, hl, hn, hb⟩ := ue_form h
  have u := (ue_in h h1).1
  rw [e] at u
  omega
theorem it_len {it : Int × Int × Int} (hi : ItOk it) : (itBits it).length ≤ 130 := by
  unfold itBits
  rcases hi with ⟨a, b, c⟩ | ⟨a, b⟩ | ⟨a, b⟩
  · rw [if_pos a, bitsL_len]
    omega
  · rw [if_neg (by omega), if_pos a]
    exact ue_len b.1 b.2
  · rw [if_neg (by omega), if_neg (by omega)]
    exact ue_len (se_in b).1 (se_in b).2
theorem eight0 {b : Int} (h : 0 ≤ b ∧ b ≤ 7) : b = 0 ∨ b = 1 ∨ b = 2 ∨ b = 3 ∨ b = 4 ∨ b = 5 ∨ b = 6 ∨ b = 7 := by omega
theorem wr_mem {w : BwS} {bs : List Int} (h : WR w bs) : ∀ x ∈ w.full ++ [(2 * w.rest + 1) * 2 ^ (7 - w.bits).toNat], 0 ≤ x ∧ x ≤ 255 := by
  intro x hx
  rcases List.mem_append.mp hx with z | z
  · exact h.oct x z
  · rw [List.mem_singleton.mp z]
    have hb := h.g.bits
    have hr := h.g.rest
    rcases eight0 hb with e | e | e | e | e | e | e | e <;>
      (rw [e] at hr ⊢; simp at hr ⊢; omega)
theorem wr_last {w : BwS} {bs : List Int} (h : WR w bs) : 0 < (2 * w.rest + 1) * 2 ^ (7 - w.bits).toNat ∧ lastBit ((2 * w.rest + 1) * 2 ^ (7 - w.bits).toNat) = 8 - w.bits := by
  have hb := h.g.bits
  have hr := h.g.rest
  refine ⟨?_, ?_⟩
  · rcases eight0 hb with e | e | e | e | e | e | e | e <;> (rw [e] at hr ⊢; simp at hr ⊢; try omega)
  · unfold lastBit
    rcases eight0 hb with e | e | e | e | e | e | e | e <;> (rw [e] at hr ⊢; simp at hr ⊢ <;> (repeat' split) <;> omega)
theorem wr_num {w : BwS} {bs : List Int} (h : WR w bs) : num (w.full ++ [(2 * w.rest + 1) * 2 ^ (7 - w.bits).toNat]) = (nb bs * 2 + 1) * 2 ^ (7 - w.bits).toNat := by
  have hb := h.g.bits
  rw [num_snoc, h.val]
  rcases eight0 hb with e | e | e | e | e | e | e | e <;>
    (rw [e]; simp; omega)
theorem pad_nb {w : BwS} {bs : List Int} (h : WR w bs) : nb (padL bs) = (nb bs * 2 + 1) * 2 ^ (7 - w.bits).toNat := by
  have hb := h.g.bits
  have hl := h.len
  unfold padL
  rw [nb_app, rep_zeros, nb_zeros, nb_snoc, List.length_replicate, List.length_append]
  simp only [List.length_cons, List.length_nil]
  rw [show ((8 - ((bs.length + (0 + 1) : Nat) : Int) % 8) % 8).toNat = (7 - w.bits).toNat from by omega]
  omega
theorem take8 {B : List Int} {m : Nat} (h : 8 * (m + 1) ≤ B.length) : ∃ a b c d e f g i : Int, B.take (8 * (m + 1)) = B.take (8 * m) ++ [a] ++ [b] ++ [c] ++ [d] ++ [e] ++ [f] ++ [g] ++ [i] ∧
    itD B (8 * (0 + (m : Int)) + 0) = a ∧ itD B (8 * (0 + (m : Int)) + 1) = b ∧ itD B (8 * (0 + (m : Int)) + 2) = c ∧ itD B (8 * (0 + (m : Int)) + 3) = d ∧
    itD B (8 * (0 + (m : Int)) + 4) = e ∧ itD B (8 * (0 + (m : Int)) + 5) = f ∧ itD B (8 * (0 + (m : Int)) + 6) = g ∧ itD B (8 * (0 + (m : Int)) + 7) = i := by
  have ix : ∀ k : Nat, (hk : 8 * m + k < B.length) → B[8 * m + k]? = some (B[8 * m + k]'hk) := fun k hk => List.getElem?_eq_getElem hk
  have it : ∀ k : Nat, (hk : 8 * m + k < B.length) → itD B (8 * (0 + (m : Int)) + (k : Int)) = B[8 * m + k]'hk := fun k hk => by
    rw [show 8 * (0 + (m : Int)) + (k : Int) = ((8 * m + k : Nat) : Int) from by omega]
    exact itD_nat (ix k hk)
  refine ⟨_, _, _, _, _, _, _, _, ?_, it 0 (by omega), it 1 (by omega), it 2 (by omega), it 3 (by omega), it 4 (by omega), it 5 (by omega), it 6 (by omega), it 7 (by omega)⟩
  rw [show 8 * (m + 1) = 8 * m + 7 + 1 from by omega, take_succ_get (ix 7 (by omega)), take_succ_get (ix 6 (by omega)), take_succ_get (ix 5 (by omega)), take_succ_get (ix 4 (by omega)), take_succ_get (ix 3 (by omega)), take_succ_get (ix 2 (by omega)), take_succ_get (ix 1 (by omega)), take_succ_get (ix 0 (by omega))]
  rfl
def octB (B : List Int) (m : Nat) : Int := List.sum ((List.range 8).map fun (j : Nat) => itD B (8 * (0 + (m : Int)) + (0 + (j : Int))) * 2 ^ Int.toNat (7 - (0 + (j : Int))))
theorem octB_eq (B : List Int) (m : Nat) : octB B m = itD B (8 * (0 + (m : Int)) + 0) * 128 + itD B (8 * (0 + (m : Int)) + 1) * 64 + itD B (8 * (0 + (m : Int)) + 2) * 32 + itD B (8 * (0 + (m : Int)) + 3) * 16 +
    itD B (8 * (0 + (m : Int)) + 4) * 8 + itD B (8 * (0 + (m : Int)) + 5) * 4 + itD B (8 * (0 + (m : Int)) + 6) * 2 + itD B (8 * (0 + (m : Int)) + 7) := by
  unfold octB
  rw [show List.range 8 = [0, 1, 2, 3, 4, 5, 6, 7] from rfl]
  simp only [List.map_cons, List.map_nil, List.sum_cons, List.sum_nil]
  show itD B (8 * (0 + (m : Int)) + 0) * 128 + (itD B (8 * (0 + (m : Int)) + 1) * 64 + (itD B (8 * (0 + (m : Int)) + 2) * 32 + (itD B (8 * (0 + (m : Int)) + 3) * 16 + (itD B (8 * (0 + (m : Int)) + 4) * 8 + (itD B (8 * (0 + (m : Int)) + 5) * 4 + (itD B (8 * (0 + (m : Int)) + 6) * 2 + (itD B (8 * (0 + (m : Int)) + 7) * 1 + 0))))))) = _
  omega
theorem oct_turn8 {B : List Int} (hB : B01 B) {m : Nat} (h : 8 * (m + 1) ≤ B.length) : nb (B.take (8 * (m + 1))) = nb (B.take (8 * m)) * 256 + octB B m ∧ 0 ≤ octB B m ∧ octB B m ≤ 255 := by
  obtain ⟨a, b, c, d, e, f, g, i, ht, ea, eb, ec, ed, ee, ef, eg, ei⟩ := take8 h
  have hb : ∀ x ∈ [a, b, c, d, e, f, g, i], 0 ≤ x ∧ x ≤ 1 := fun x hx => by
    apply hB x
    apply List.mem_of_mem_take (i := 8 * (m + 1))
    rw [ht]
    simp only [List.mem_cons, List.not_mem_nil, or_false] at hx
    simp only [List.mem_append, List.mem_singleton]
    rcases hx with z | z | z | z | z | z | z | z <;> simp [z]
  simp only [List.mem_cons, List.not_mem_nil, or_false, forall_eq_or_imp, forall_eq] at hb
  rw [octB_eq, ea, eb, ec, ed, ee, ef, eg, ei, ht]
  simp only [nb_snoc]
  omega
theorem num_pack {B : List Int} (hB : B01 B) : ∀ m : Nat, 8 * m ≤ B.length → num ((List.range m).map (octB B)) = nb (B.take (8 * m)) ∧ ∀ x ∈ (List.range m).map (octB B), 0 ≤ x ∧ x ≤ 255
  | 0, _ => ⟨rfl, fun x hx => (List.not_mem_nil hx).elim⟩
  | m + 1, h => by
    have ih := num_pack hB m (by omega)
    have t := oct_turn8 hB h
    rw [List.range_succ, List.map_append]
    refine ⟨?_, fun x hx => ?_⟩
    · show num (_ ++ [octB B m]) = _
      rw [num_snoc, ih.1, t.1]
    · rcases List.mem_append.mp hx with z | z
      · exact ih.2 x z
      · rw [show x = octB B m from by simpa using z]
        exact t.2
theorem wr_octets {w : BwS} {bs : List Int} (h : WR w bs) : w.full ++ [(2 * w.rest + 1) * 2 ^ (7 - w.bits).toNat] = packL bs := by
  obtain ⟨m, h1, h2⟩ := padL_len bs
  have hm : (((padL bs).length : Int) / 8).toNat = m := by omega
  have hB := padL_mem h.b
  have p := num_pack hB m (by omega)
  have hpk : packL bs = (List.range m).map (octB (padL bs)) := by
    unfold packL
    rw [hm]
    rfl
  have hl : (packL bs).length = m := by rw [hpk, List.length_map, List.length_range]
  have hl2 : (w.full ++ [(2 * w.rest + 1) * 2 ^ (7 - w.bits).toNat]).length = m := by
    have := h.len
    have := h.g.bits
    rw [List.length_append]
    simp only [List.length_cons, List.length_nil]
    omega
  have a := digs_num (wr_mem h)
  have b := digs_num p.2
  rw [← hpk] at b
  rw [hl] at b
  rw [hl2] at a
  rw [← a, ← b, hpk, p.1, List.take_of_length_le (by omega), pad_nb h, wr_num h]
structure RR (s : BrS) (bs : List Int) : Prop where
  g : BrG s
  b : B01 bs
  len : s.place + (bs.length : Int) = s.stop
  val : num s.octs / 2 ^ (8 * (s.octs.length : Int) - s.stop).toNat % 2 ^ bs.length = nb bs
theorem rr_look {s : BrS} {Z X Y : List Int} (h : RR s (Z ++ X ++ Y)) : lookB s.octs (s.place + (Z.length : Int)) (X.length : Int) = nb X := by
  have hl := h.len
  have hs := h.g.stop
  have hv := h.val
  have hX := nb_lt (bs := X) fun b hb => h.b b (by simp [hb])
  have hY := nb_lt (bs := Y) fun b hb => h.b b (by simp [hb])
  rw [List.length_append, List.length_append] at hl hv
  unfold lookB
  rw [show (8 * (s.octs.length : Int) - (s.place + (Z.length : Int)) - (X.length : Int)).toNat = (8 * (s.octs.length : Int) - s.stop).toNat + Y.length from by omega, Int.pow_add, ← Int.ediv_ediv_of_nonneg (Int.le_of_lt (pow_pos2 _))]
  generalize num s.octs / 2 ^ (8 * (s.octs.length : Int) - s.stop).toNat = q at *
  show q / 2 ^ Y.length % 2 ^ X.length = nb X
  have pY := pow_pos2 Y.length
  have pX := pow_pos2 X.length
  have e : q = 2 ^ (Z.length + X.length + Y.length) * (q / 2 ^ (Z.length + X.length + Y.length)) + nb (Z ++ X ++ Y) := by
    rw [← hv]
    exact (Int.mul_ediv_add_emod _ _).symm
  generalize q / 2 ^ (Z.length + X.length + Y.length) = t at e
  rw [e, nb_app, nb_app, Int.pow_add, Int.pow_add]
  rw [show 2 ^ Z.length * 2 ^ X.length * 2 ^ Y.length * t + ((nb Z * 2 ^ X.length + nb X) * 2 ^ Y.length + nb Y) = nb Y + (nb X + (2 ^ Z.length * t + nb Z) * 2 ^ X.length) * 2 ^ Y.length from by
    simp only [Int.add_mul]
    rw [show 2 ^ Z.length * 2 ^ X.length * 2 ^ Y.length * t = 2 ^ Z.length * t * 2 ^ X.length * 2 ^ Y.length from by ac_rfl]
    omega]
  rw [Int.add_mul_ediv_right _ _ (by omega), Int.ediv_eq_zero_of_lt hY.1 hY.2, Int.zero_add, Int.add_mul_emod_self_right, Int.emod_eq_of_lt hX.1 hX.2]
theorem rr_move {s : BrS} {X Y : List Int} (h : RR s (X ++ Y)) : RR (brMove s (X.length : Int)) Y := by
  have hl := h.len
  have hv := h.val
  rw [List.length_append] at hl hv
  have hY := nb_lt (bs := Y) fun b hb => h.b b (by simp [hb])
  have g := h.g
  refine ⟨⟨g.oct, by show 0 ≤ s.place + (X.length : Int); have := g.place; omega, g.stop⟩, fun b hb => h.b b (by simp [hb]), by show s.place + (X.length : Int) + (Y.length : Int) = s.stop; omega, ?_⟩
  show num s.octs / 2 ^ (8 * (s.octs.length : Int) - s.stop).toNat % 2 ^ Y.length = nb Y
  generalize num s.octs / 2 ^ (8 * (s.octs.length : Int) - s.stop).toNat = q at *
  have hq := mod_mod_mul q (2 ^ Y.length) (2 ^ X.length)
  rw [Int.mul_comm, ← Int.pow_add, hv, nb_app, Int.add_comm, Int.add_mul_emod_self_right, Int.emod_eq_of_lt hY.1 hY.2] at hq
  exact hq.symm
theorem rr_init {w : BwS} {bs : List Int} (h : WR w bs) : RR (brInit (w.full ++ [(2 * w.rest + 1) * 2 ^ (7 - w.bits).toNat])) bs := by
  have hb := h.g.bits
  have hl := h.len
  have lb := wr_last h
  have hn := nb_lt h.b
  have hlen : ((w.full ++ [(2 * w.rest + 1) * 2 ^ (7 - w.bits).toNat]).length : Int) = w.full.length + 1 := by
    rw [List.length_append]
    rfl
  have hst : (brInit (w.full ++ [(2 * w.rest + 1) * 2 ^ (7 - w.bits).toNat])).stop = bs.length := by
    show 8 * ((w.full ++ [(2 * w.rest + 1) * 2 ^ (7 - w.bits).toNat]).length : Int) - lastBit (itD (w.full ++ [(2 * w.rest + 1) * 2 ^ (7 - w.bits).toNat]) (-1)) = _
    rw [itD_end, lb.2, hlen]
    omega
  refine ⟨⟨wr_mem h, Int.le_refl 0, by rw [hst]; show _ ≤ 8 * ((w.full ++ [(2 * w.rest + 1) * 2 ^ (7 - w.bits).toNat]).length : Int); omega⟩, h.b, by rw [hst]; show (0 : Int) + _ = _; omega, ?_⟩
  rw [hst]
  show num (w.full ++ [(2 * w.rest + 1) * 2 ^ (7 - w.bits).toNat]) / 2 ^ (8 * ((w.full ++ [(2 * w.rest + 1) * 2 ^ (7 - w.bits).toNat]).length : Int) - (bs.length : Int)).toNat % 2 ^ bs.length = nb bs
  rw [wr_num h, hlen, show (8 * ((w.full.length : Int) + 1) - (bs.length : Int)).toNat = (7 - w.bits).toNat + 1 from by omega, Int.pow_add, ← Int.ediv_ediv_of_nonneg (Int.le_of_lt (pow_pos2 _)), Int.mul_ediv_cancel _ (by have := pow_pos2 (7 - w.bits).toNat; omega)]
  rw [show (nb bs * 2 + 1) / 2 ^ 1 = nb bs from by omega, Int.emod_eq_of_lt hn.1 hn.2]
theorem rr_zeros {s : BrS} {v : Int} {Y : List Int} (hv : 0 ≤ v) (hv1 : v ≤ 4294967296) (h : RR s (ueL v ++ Y)) :
    ∃ z : Nat, Zeros s z ∧ s.place + (2 * (z : Int) + 1) ≤ s.stop ∧ lookB s.octs s.place (2 * (z : Int) + 1) - 1 = v ∧ 2 * (z : Int) + 1 = ((ueL v).length : Int) := by
  obtain ⟨k, e, lo, hi, e2, hl, hn, hb⟩ := ue_form hv
  have hk : k < 33 := pow_lt_of (Int.lt_of_le_of_lt lo (by show v + 1 < 8589934592; omega))
  have hlen := h.len
  rw [List.length_append, hl] at hlen
  refine ⟨k, ⟨by omega, by omega, fun j hj => ?_, ?_⟩, by omega, ?_, by omega⟩
  · have h2 : RR s (List.replicate j 0 ++ [0] ++ (List.replicate (k - j - 1) 0 ++ bitsL (v + 1) ((k + 1 : Nat) : Int) ++ Y)) := by
      have e3 : List.replicate k (0 : Int) = List.replicate j 0 ++ ([0] ++ List.replicate (k - j - 1) 0) := by
        rw [show [(0 : Int)] = List.replicate 1 0 from rfl, List.replicate_append_replicate, List.replicate_append_replicate]
        congr 1
        omega
      rw [e2, e3] at h
      simpa using h
    have r := rr_look h2
    rw [List.length_replicate] at r
    exact r
  · have e4 : ∃ T : List Int, bitsL (v + 1) ((k + 1 : Nat) : Int) = [1] ++ T := by
      refine ⟨(bitsL (v + 1) ((k + 1 : Nat) : Int)).drop 1, ?_⟩
      unfold bitsL
      rw [show (((k + 1 : Nat) : Int)).toNat = k + 1 from rfl, List.range_succ_eq_map, List.map_cons, List.drop_one, List.tail_cons, List.singleton_append]
      congr 1
      rw [bit_mod, show Int.toNat (((k + 1 : Nat) : Int) - 1 - (0 + ((0 : Nat) : Int))) = k from by omega]
      have p := pow_pos2 k
      rw [Int.pow_succ] at hi
      have q1 : (v + 1) / 2 ^ k = 1 := by
        apply Int.le_antisymm
        · have : (v + 1) / 2 ^ k < 2 := Int.ediv_lt_of_lt_mul p (by omega)
          omega
        · exact Int.le_ediv_of_mul_le p (by omega)
      rw [q1]
      rfl
    obtain ⟨T, e5⟩ := e4
    have h2 : RR s (List.replicate k 0 ++ [1] ++ (T ++ Y)) := by
      rw [e2, e5] at h
      simpa using h
    have r := rr_look h2
    rw [List.length_replicate] at r
    exact r
  · have h2 : RR s ([] ++ ueL v ++ Y) := by
      rw [List.nil_append]
      exact h
    have r := rr_look h2
    rw [hl, hn] at r
    rw [show s.place + (([] : List Int).length : Int) = s.place from Int.add_zero _] at r
    rw [show (2 * (k : Int) + 1) = ((2 * k + 1 : Nat) : Int) from by omega, r]
    omega
theorem se_back (v : Int) : seBack (seCode v) = v := by
  unfold seBack seCode
  rw [bit_mod]
  by_cases h : 0 < v
  · rw [if_pos h, if_pos (by rw [show (2 * v - 1) % 2 = 1 from by omega]; rfl)]
    omega
  · rw [if_neg h, if_neg (by rw [show -2 * v % 2 = 0 from by omega]; decide)]
    omega
structure GetOk (s : BrS) (it : Int × Int × Int) : Prop where
  g : BrG s
  get0 : it.1 = 0 → (0 ≤ it.2.2 ∧ it.2.2 ≤ 64) ∧ s.place + it.2.2 ≤ s.stop ∧ lookB s.octs s.place it.2.2 = it.2.1 ∧ it.2.2 = ((itBits it).length : Int)
  get1 : it.1 = 1 → ∃ z : Nat, Zeros s z ∧ s.place + (2 * (z : Int) + 1) ≤ s.stop ∧ lookB s.octs s.place (2 * (z : Int) + 1) - 1 = it.2.1 ∧ 2 * (z : Int) + 1 = ((itBits it).length : Int)
  get2 : ¬ it.1 = 0 → ¬ it.1 = 1 → ∃ z : Nat, Zeros s z ∧ s.place + (2 * (z : Int) + 1) ≤ s.stop ∧ seBack (lookB s.octs s.place (2 * (z : Int) + 1) - 1) = it.2.1 ∧ 2 * (z : Int) + 1 = ((itBits it).length : Int)
theorem rr_get {s : BrS} {it : Int × Int × Int} {Y : List Int} (hi : ItOk it) (h : RR s (itBits it ++ Y)) : GetOk s it := by
  refine ⟨h.g, fun a => ?_, fun a => ?_, fun a b => ?_⟩
  · have e : itBits it = bitsL it.2.1 it.2.2 := if_pos a
    rw [e] at h ⊢
    rcases hi with ⟨_, b, c⟩ | ⟨z, _⟩ | ⟨z, _⟩
    · obtain ⟨n, hn⟩ := Int.eq_ofNat_of_zero_le b.1
      have hl := h.len
      rw [List.length_append, bitsL_len] at hl
      rw [bitsL_len]
      refine ⟨b, by omega, ?_, by omega⟩
      have h2 : RR s ([] ++ bitsL it.2.1 it.2.2 ++ Y) := by
        rw [List.nil_append]
        exact h
      have r := rr_look h2
      rw [bitsL_len, show ((it.2.2.toNat : Nat) : Int) = it.2.2 from by omega, show s.place + (([] : List Int).length : Int) = s.place from Int.add_zero _] at r
      rw [r]
      rw [hn] at c ⊢
      exact nb_bitsL n c
    · omega
    · omega
  · have e : itBits it = ueL it.2.1 := by
      unfold itBits
      rw [if_neg (by omega), if_pos a]
    rw [e] at h ⊢
    rcases hi with ⟨z, _⟩ | ⟨_, b⟩ | ⟨z, _⟩
    · omega
    · exact rr_zeros b.1 b.2 h
    · omega
  · have e : itBits it = ueL (seCode it.2.1) := by
      unfold itBits
      rw [if_neg a, if_neg b]
    rw [e] at h ⊢
    rcases hi with ⟨z, _⟩ | ⟨z, _⟩ | ⟨_, c⟩
    · omega
    · omega
    · obtain ⟨z, z1, z2, z3, z4⟩ := rr_zeros (se_in c).1 (se_in c).2 h
      exact ⟨z, z1, z2, by rw [z3]; exact se_back _, z4⟩
def countB (cell : Int) : Int := itD [0, 1, 64, itD (draws cell [3, 6, 65, 18446744073709551616, (4294967296 + 1)]) 2, itD (draws cell [3, 6, 65, 18446744073709551616, (4294967296 + 1)]) 2, itD (draws cell [3, 6, 65, 18446744073709551616, (4294967296 + 1)]) 2] (itD (draws cell [3, 6, 65, 18446744073709551616, (4294967296 + 1)]) 1)
def itemB (cell : Int) : Int × Int × Int :=
  if itD (draws cell [3, 6, 65, 18446744073709551616, (4294967296 + 1)]) 0 = 0 then (0, itD (draws cell [3, 6, 65, 18446744073709551616, (4294967296 + 1)]) 3 % (1 * 2 ^ (countB cell).toNat), countB cell)
  else if itD (draws cell [3, 6, 65, 18446744073709551616, (4294967296 + 1)]) 0 = 1 then (1, itD [0, 1, 4294967296, 4294967296 - 1, itD (draws cell [3, 6, 65, 18446744073709551616, (4294967296 + 1)]) 4, itD (draws cell [3, 6, 65, 18446744073709551616, (4294967296 + 1)]) 4 % 200] (itD (draws cell [3, 6, 65, 18446744073709551616, (4294967296 + 1)]) 1), 0)
  else (2, itD [0, -1, 2147483648, -2147483648, itD (draws cell [3, 6, 65, 18446744073709551616, (4294967296 + 1)]) 4 - 2147483648, (itD (draws cell [3, 6, 65, 18446744073709551616, (4294967296 + 1)]) 4 - 2147483648) % 200 - 100] (itD (draws cell [3, 6, 65, 18446744073709551616, (4294967296 + 1)]) 1), 0)
theorem drawsB (cell : Int) : (draws cell [3, 6, 65, 18446744073709551616, (4294967296 + 1)]).length = 5 ∧ (0 ≤ itD (draws cell [3, 6, 65, 18446744073709551616, (4294967296 + 1)]) 0 ∧ itD (draws cell [3, 6, 65, 18446744073709551616, (4294967296 + 1)]) 0 < 3) ∧
    (0 ≤ itD (draws cell [3, 6, 65, 18446744073709551616, (4294967296 + 1)]) 1 ∧ itD (draws cell [3, 6, 65, 18446744073709551616, (4294967296 + 1)]) 1 < 6) ∧ (0 ≤ itD (draws cell [3, 6, 65, 18446744073709551616, (4294967296 + 1)]) 2 ∧ itD (draws cell [3, 6, 65, 18446744073709551616, (4294967296 + 1)]) 2 < 65) ∧
    (0 ≤ itD (draws cell [3, 6, 65, 18446744073709551616, (4294967296 + 1)]) 3 ∧ itD (draws cell [3, 6, 65, 18446744073709551616, (4294967296 + 1)]) 3 < 18446744073709551616) ∧ (0 ≤ itD (draws cell [3, 6, 65, 18446744073709551616, (4294967296 + 1)]) 4 ∧ itD (draws cell [3, 6, 65, 18446744073709551616, (4294967296 + 1)]) 4 < 4294967296 + 1) := five cell 3 6 65 18446744073709551616 (4294967296 + 1) (by decide)
theorem countB_in (cell : Int) : 0 ≤ countB cell ∧ countB cell ≤ 64 := by
  obtain ⟨d_len, d0, d1, d2, d3, d4⟩ := drawsB cell
  unfold countB
  have m : itD [0, 1, 64, itD (draws cell [3, 6, 65, 18446744073709551616, (4294967296 + 1)]) 2, itD (draws cell [3, 6, 65, 18446744073709551616, (4294967296 + 1)]) 2, itD (draws cell [3, 6, 65, 18446744073709551616, (4294967296 + 1)]) 2] (itD (draws cell [3, 6, 65, 18446744073709551616, (4294967296 + 1)]) 1) ∈ [0, 1, 64, itD (draws cell [3, 6, 65, 18446744073709551616, (4294967296 + 1)]) 2, itD (draws cell [3, 6, 65, 18446744073709551616, (4294967296 + 1)]) 2, itD (draws cell [3, 6, 65, 18446744073709551616, (4294967296 + 1)]) 2] := itD_mem (by simp only [List.length_cons, List.length_nil]; omega)
  simp only [List.mem_cons, List.not_mem_nil, or_false] at m
  omega
theorem itemB_ok (cell : Int) : ItOk (itemB cell) := by
  obtain ⟨d_len, d0, d1, d2, d3, d4⟩ := drawsB cell
  unfold itemB
  split
  · refine .inl ⟨rfl, countB_in cell, ?_⟩
    have p := pow_pos2 (countB cell).toNat
    show 0 ≤ itD _ 3 % (1 * 2 ^ (countB cell).toNat) ∧ itD _ 3 % (1 * 2 ^ (countB cell).toNat) < 2 ^ (countB cell).toNat
    rw [Int.one_mul]
    exact ⟨Int.emod_nonneg _ (by omega), Int.emod_lt_of_pos _ p⟩
  · split
    · refine .inr (.inl ⟨rfl, ?_⟩)
      generalize hx : (itD [0, 1, 4294967296, 4294967296 - 1, itD (draws cell [3, 6, 65, 18446744073709551616, (4294967296 + 1)]) 4, itD (draws cell [3, 6, 65, 18446744073709551616, (4294967296 + 1)]) 4 % 200] (itD (draws cell [3, 6, 65, 18446744073709551616, (4294967296 + 1)]) 1)) = x
      have m := itD_mem (e := [0, 1, 4294967296, 4294967296 - 1, itD (draws cell [3, 6, 65, 18446744073709551616, (4294967296 + 1)]) 4, itD (draws cell [3, 6, 65, 18446744073709551616, (4294967296 + 1)]) 4 % 200]) (k := itD (draws cell [3, 6, 65, 18446744073709551616, (4294967296 + 1)]) 1) (by simp only [List.length_cons, List.length_nil]; omega)
      rw [hx] at m
      simp only [List.mem_cons, List.not_mem_nil, or_false] at m
      show 0 ≤ x ∧ x ≤ 4294967296
      omega
    · refine .inr (.inr ⟨rfl, ?_⟩)
      generalize hx : (itD [0, -1, 2147483648, -2147483648, itD (draws cell [3, 6, 65, 18446744073709551616, (4294967296 + 1)]) 4 - 2147483648, (itD (draws cell [3, 6, 65, 18446744073709551616, (4294967296 + 1)]) 4 - 2147483648) % 200 - 100] (itD (draws cell [3, 6, 65, 18446744073709551616, (4294967296 + 1)]) 1)) = x
      have m := itD_mem (e := [0, -1, 2147483648, -2147483648, itD (draws cell [3, 6, 65, 18446744073709551616, (4294967296 + 1)]) 4 - 2147483648, (itD (draws cell [3, 6, 65, 18446744073709551616, (4294967296 + 1)]) 4 - 2147483648) % 200 - 100]) (k := itD (draws cell [3, 6, 65, 18446744073709551616, (4294967296 + 1)]) 1) (by simp only [List.length_cons, List.length_nil]; omega)
      rw [hx] at m
      simp only [List.mem_cons, List.not_mem_nil, or_false] at m
      show -2147483648 ≤ x ∧ x ≤ 2147483648
      omega
def bitsOf (items : List (Int × Int × Int)) : List Int := (items.map itBits).flatten
theorem bits_snoc (items : List (Int × Int × Int)) (it : Int × Int × Int) : bitsOf (items ++ [it]) = bitsOf items ++ itBits it := by
  unfold bitsOf
  rw [List.map_append, List.flatten_append]
  simp
def itemsB (script : List Int) : List (Int × Int × Int) := List.map itemB script
theorem itemsB_ok {script : List Int} {it : Int × Int × Int} (h : it ∈ List.map itemB script) : ItOk it := by
  obtain ⟨c, _, e⟩ := List.mem_map.mp h
  rw [← e]
  exact itemB_ok c
theorem itemsB_len (script : List Int) : (List.map itemB script).length = script.length := List.length_map _
theorem at_nat {xs : List (Int × Int × Int)} {i : Nat} {x : Int × Int × Int} (h : atI xs (0 + (i : Int)) = some x) (hi : i < xs.length) : xs[i]? = some x := by
  have e : itD xs (0 + (i : Int)) = x := by
    unfold itD
    rw [h]
    rfl
  have g := List.getElem?_eq_getElem hi
  have e2 := itD_nat g
  rw [Int.zero_add] at e
  rw [g, ← e, e2]
theorem it_len0 {it : Int × Int × Int} (h : ItOk it) (a : it.1 = 0) : ((itBits it).length : Int) = it.2.2 := by
  rcases h with ⟨_, b, c⟩ | ⟨z, _⟩ | ⟨z, _⟩
  · unfold itBits
    rw [if_pos a, bitsL_len]
    omega
  · omega
  · omega
theorem it_len1 {it : Int × Int × Int} (a : it.1 = 1) : ((itBits it).length : Int) = ((ueL it.2.1).length : Int) := by
  unfold itBits
  rw [if_neg (by omega), if_pos a]
theorem it_len2 {it : Int × Int × Int} (a : it.1 = 2) : ((itBits it).length : Int) = ((ueL (seCode it.2.1)).length : Int) := by
  unfold itBits
  rw [if_neg (by omega), if_neg (by omega)]
theorem bits_turn {items : List (Int × Int × Int)} {i : Nat} {it : Int × Int × Int} (hi : items[i]? = some it) : bitsOf (items.take i) ++ itBits it = bitsOf (items.take (i + 1)) := by
  rw [take_succ_get hi, bits_snoc]
theorem bits_drop {items : List (Int × Int × Int)} {i : Nat} {it : Int × Int × Int} (hi : items[i]? = some it) : bitsOf (items.drop i) = itBits it ++ bitsOf (items.drop (i + 1)) := by
  have hl : i < items.length := get_len hi
  have e : items[i]'hl = it := by
    have := List.getElem?_eq_getElem hl
    rw [hi] at this
    exact (Option.some.inj this).symm
  rw [List.drop_eq_getElem_cons hl, e]
  rfl
theorem wr_full {w : BwS} {bs : List Int} (h : WR w bs) (hl : bs.length ≤ 9000) : w.full.length ≤ 9000 := by
  have a := h.len
  have b := h.g.bits
  omega
theorem wr_ne {w : BwS} {bs : List Int} (h : WR w bs) : ¬ itD (w.full ++ [(2 * w.rest + 1) * 2 ^ (7 - w.bits).toNat]) (-1) = 0 := by
  rw [itD_end]
  have := (wr_last h).1
  omega

end Vx
namespace Vx
open PySem PySem.Spec PyProof.Rows L2
def topS (i : Nat) : Stmt := PySem.Challenge.pw_thaumatrope_k05_bits_written_and_read.main.body.getD i (.Pass ⟨0, 0, 0, 0⟩)
abbrev s_BitWriter___init__ : Stmt := inClass (topS 8) 0
abbrev s_BitWriter_length : Stmt := inClass (topS 8) 1
abbrev s_BitWriter__add : Stmt := inClass (topS 8) 6
abbrev s_BitWriter_put : Stmt := inClass (topS 8) 2
abbrev s_BitWriter_put_ue : Stmt := inClass (topS 8) 3
abbrev s_BitWriter_put_se : Stmt := inClass (topS 8) 4
abbrev s_BitWriter_octets : Stmt := inClass (topS 8) 5
abbrev s__last_bit : Stmt := topS 10
abbrev s_BitReader___init__ : Stmt := inClass (topS 9) 0
abbrev s_BitReader_left : Stmt := inClass (topS 9) 1
abbrev s_BitReader__look : Stmt := inClass (topS 9) 7
abbrev s_BitReader__take : Stmt := inClass (topS 9) 6
abbrev s_BitReader_get : Stmt := inClass (topS 9) 2
abbrev s_BitReader__zeros : Stmt := inClass (topS 9) 5
abbrev s_BitReader_get_ue : Stmt := inClass (topS 9) 3
abbrev s_BitReader_get_se : Stmt := inClass (topS 9) 4
abbrev s__law_draws : Stmt := topS 13
abbrev s__law_bits : Stmt := topS 14
abbrev s__law_ue : Stmt := topS 15
abbrev s__law_se : Stmt := topS 16
abbrev s__law_packed : Stmt := topS 17
abbrev s__law_item : Stmt := topS 18
abbrev s__law_put : Stmt := topS 19
abbrev s__law_get : Stmt := topS 20
abbrev s_law : Stmt := topS 21
structure Ads where
  c_BitWriter : Addr
  c_BitReader : Addr
structure Txt (K : PySem.W.Frag) (mg : Str → Option Value) (AD : Ads) : Prop where
  b_len : mg "len" = none
  g_MOST_BITS : ∃ u, mg "MOST_BITS" = some u ∧ RelV (V.int 64) u
  b_list : mg "list" = none
  g_MOST_ZEROS : ∃ u, mg "MOST_ZEROS" = some u ∧ RelV (V.int 32) u
  b_abs : mg "abs" = none
  b_int : mg "int" = none
  b_range : mg "range" = none
  b_sum : mg "sum" = none
  b_isinstance : mg "isinstance" = none
  b_bool : mg "bool" = none
  cl_BitWriter : Cls K AD.c_BitWriter
  n_BitWriter__full : NoAttr K AD.c_BitWriter "_full"
  n_BitWriter__rest : NoAttr K AD.c_BitWriter "_rest"
  n_BitWriter__rest_bits : NoAttr K AD.c_BitWriter "_rest_bits"
  cl_BitReader : Cls K AD.c_BitReader
  n_BitReader__octets : NoAttr K AD.c_BitReader "_octets"
  n_BitReader__place : NoAttr K AD.c_BitReader "_place"
  n_BitReader__end : NoAttr K AD.c_BitReader "_end"
def sp_BitWriter___init__ (K : PySem.W.Frag) (AD : Ads) : Sp := fun vs H Q _ => ∃ (p_self dx_self : Addr), vs = [.ref p_self] ∧ H p_self = some (.ins AD.c_BitWriter dx_self []) ∧ ∀ (H' : Hp) (l_full : Addr) (s : BwS), s = (⟨[], 0, 0⟩ : BwS) → SameX p_self H H' → H l_full = none → H' p_self = some (.ins AD.c_BitWriter dx_self [("_full", V.ref l_full), ("_rest", V.int s.rest), ("_rest_bits", V.int s.bits)]) → H' l_full = some (.lst (s.full.map V.int)) → Q .non H'
def sp_BitWriter_length (K : PySem.W.Frag) (AD : Ads) : Sp := fun vs H Q _ => ∃ (p_self dx_self l_self_full : Addr) (self_ : BwS), vs = [.ref p_self] ∧ H p_self = some (.ins AD.c_BitWriter dx_self [("_full", V.ref l_self_full), ("_rest", V.int self_.rest), ("_rest_bits", V.int self_.bits)]) ∧ H l_self_full = some (.lst (self_.full.map V.int)) ∧ Q (.int (8 * (self_.full.length : Int) + self_.bits)) H
def sp_BitWriter__add (K : PySem.W.Frag) (AD : Ads) : Sp := fun vs H Q _ => ∃ (p_self dx_self l_self_full : Addr) (self_ : BwS) (value : Int) (count : Int), vs = [.ref p_self, .int value, .int count] ∧ H p_self = some (.ins AD.c_BitWriter dx_self [("_full", V.ref l_self_full), ("_rest", V.int self_.rest), ("_rest_bits", V.int self_.bits)]) ∧ H l_self_full = some (.lst (self_.full.map V.int)) ∧ (BwG self_) ∧ (0 ≤ count ∧ count ≤ 130) ∧ (0 ≤ value ∧ value < 2 ^ count.toNat) ∧ (self_.full.length ≤ 50000) ∧ ∀ (H' : Hp) (s : BwS), s = bwAdd self_ value count → SameXs [p_self, l_self_full] H H' → H' p_self = some (.ins AD.c_BitWriter dx_self [("_full", V.ref l_self_full), ("_rest", V.int s.rest), ("_rest_bits", V.int s.bits)]) → H' l_self_full = some (.lst (s.full.map V.int)) → Q (.non) H'
def sp_BitWriter_put (K : PySem.W.Frag) (AD : Ads) : Sp := fun vs H Q _ => ∃ (p_self dx_self l_self_full : Addr) (self_ : BwS) (value : Int) (count : Int), vs = [.ref p_self, .int value, .int count] ∧ H p_self = some (.ins AD.c_BitWriter dx_self [("_full", V.ref l_self_full), ("_rest", V.int self_.rest), ("_rest_bits", V.int self_.bits)]) ∧ H l_self_full = some (.lst (self_.full.map V.int)) ∧ (BwG self_) ∧ (0 ≤ count ∧ count ≤ 64) ∧ (0 ≤ value ∧ value < 2 ^ count.toNat) ∧ (self_.full.length ≤ 50000) ∧ ∀ (H' : Hp) (s : BwS), s = bwAdd self_ value count → SameXs [p_self, l_self_full] H H' → H' p_self = some (.ins AD.c_BitWriter dx_self [("_full", V.ref l_self_full), ("_rest", V.int s.rest), ("_rest_bits", V.int s.bits)]) → H' l_self_full = some (.lst (s.full.map V.int)) → Q (.non) H'
def sp_BitWriter_put_ue (K : PySem.W.Frag) (AD : Ads) : Sp := fun vs H Q _ => ∃ (p_self dx_self l_self_full : Addr) (self_ : BwS) (value : Int), vs = [.ref p_self, .int value] ∧ H p_self = some (.ins AD.c_BitWriter dx_self [("_full", V.ref l_self_full), ("_rest", V.int self_.rest), ("_rest_bits", V.int self_.bits)]) ∧ H l_self_full = some (.lst (self_.full.map V.int)) ∧ (BwG self_) ∧ (0 ≤ value ∧ value ≤ 4294967296) ∧ (self_.full.length ≤ 50000) ∧ ∀ (H' : Hp) (s : BwS), s = bwUe self_ value → SameXs [p_self, l_self_full] H H' → H' p_self = some (.ins AD.c_BitWriter dx_self [("_full", V.ref l_self_full), ("_rest", V.int s.rest), ("_rest_bits", V.int s.bits)]) → H' l_self_full = some (.lst (s.full.map V.int)) → Q (.non) H'
def sp_BitWriter_put_se (K : PySem.W.Frag) (AD : Ads) : Sp := fun vs H Q _ => ∃ (p_self dx_self l_self_full : Addr) (self_ : BwS) (value : Int), vs = [.ref p_self, .int value] ∧ H p_self = some (.ins AD.c_BitWriter dx_self [("_full", V.ref l_self_full), ("_rest", V.int self_.rest), ("_rest_bits", V.int self_.bits)]) ∧ H l_self_full = some (.lst (self_.full.map V.int)) ∧ (BwG self_) ∧ (-2147483648 ≤ value ∧ value ≤ 2147483648) ∧ (self_.full.length ≤ 50000) ∧ ∀ (H' : Hp) (s : BwS), s = bwUe self_ (seCode value) → SameXs [p_self, l_self_full] H H' → H' p_self = some (.ins AD.c_BitWriter dx_self [("_full", V.ref l_self_full), ("_rest", V.int s.rest), ("_rest_bits", V.int s.bits)]) → H' l_self_full = some (.lst (s.full.map V.int)) → Q (.non) H'
def sp_BitWriter_octets (K : PySem.W.Frag) (AD : Ads) : Sp := fun vs H Q _ => ∃ (p_self dx_self l_self_full : Addr) (self_ : BwS), vs = [.ref p_self] ∧ H p_self = some (.ins AD.c_BitWriter dx_self [("_full", V.ref l_self_full), ("_rest", V.int self_.rest), ("_rest_bits", V.int self_.bits)]) ∧ H l_self_full = some (.lst (self_.full.map V.int)) ∧ (BwG self_) ∧ (self_.full.length ≤ 100000) ∧ ∀ p H', H p = none → Same H H' → H' p = some (.lst ((self_.full ++ [(2 * self_.rest + 1) * 2 ^ (7 - self_.bits).toNat] : (List Int)).map V.int)) → Q (.ref p) H'
def sp__last_bit (K : PySem.W.Frag) (AD : Ads) : Sp := fun vs H Q _ => ∃ (octet : Int), vs = [.int octet] ∧ (0 < octet ∧ octet ≤ 255) ∧ ∀ H', Same H H' → Q (.int (lastBit octet)) H'
def sp_BitReader___init__ (K : PySem.W.Frag) (AD : Ads) : Sp := fun vs H Q _ => ∃ (p_self dx_self : Addr) (a_octets : Addr) (octets : List Int), vs = [.ref p_self, .ref a_octets] ∧ H p_self = some (.ins AD.c_BitReader dx_self []) ∧ H a_octets = some (.lst (octets.map V.int)) ∧ (octets ≠ []) ∧ (¬ itD octets (-1) = 0) ∧ (∀ x ∈ octets, 0 ≤ x ∧ x ≤ 255) ∧ (octets.length ≤ 100000) ∧ ∀ (H' : Hp) (l_octs : Addr) (s : BrS), s = brInit octets → SameX p_self H H' → H l_octs = none → H' p_self = some (.ins AD.c_BitReader dx_self [("_octets", V.ref l_octs), ("_place", V.int s.place), ("_end", V.int s.stop)]) → H' l_octs = some (.lst (s.octs.map V.int)) → Q .non H'
def sp_BitReader_left (K : PySem.W.Frag) (AD : Ads) : Sp := fun vs H Q _ => ∃ (p_self dx_self l_self_octs : Addr) (self_ : BrS), vs = [.ref p_self] ∧ H p_self = some (.ins AD.c_BitReader dx_self [("_octets", V.ref l_self_octs), ("_place", V.int self_.place), ("_end", V.int self_.stop)]) ∧ H l_self_octs = some (.lst (self_.octs.map V.int)) ∧ Q (.int (self_.stop - self_.place)) H
def sp_BitReader__look (K : PySem.W.Frag) (AD : Ads) : Sp := fun vs H Q _ => ∃ (p_self dx_self l_self_octs : Addr) (self_ : BrS) (place : Int) (count : Int), vs = [.ref p_self, .int place, .int count] ∧ H p_self = some (.ins AD.c_BitReader dx_self [("_octets", V.ref l_self_octs), ("_place", V.int self_.place), ("_end", V.int self_.stop)]) ∧ H l_self_octs = some (.lst (self_.octs.map V.int)) ∧ (BrG self_) ∧ (0 ≤ place) ∧ (0 ≤ count ∧ count ≤ 65) ∧ (place + count ≤ self_.stop) ∧ ∀ H', Same H H' → Q (.int (lookB self_.octs place count)) H'
def sp_BitReader__take (K : PySem.W.Frag) (AD : Ads) : Sp := fun vs H Q _ => ∃ (p_self dx_self l_self_octs : Addr) (self_ : BrS) (count : Int), vs = [.ref p_self, .int count] ∧ H p_self = some (.ins AD.c_BitReader dx_self [("_octets", V.ref l_self_octs), ("_place", V.int self_.place), ("_end", V.int self_.stop)]) ∧ H l_self_octs = some (.lst (self_.octs.map V.int)) ∧ (BrG self_) ∧ (0 ≤ count ∧ count ≤ 65) ∧ (self_.place + count ≤ self_.stop) ∧ ∀ (H' : Hp) (s : BrS), s = brMove self_ count → SameXs [p_self, l_self_octs] H H' → H' p_self = some (.ins AD.c_BitReader dx_self [("_octets", V.ref l_self_octs), ("_place", V.int s.place), ("_end", V.int s.stop)]) → H' l_self_octs = some (.lst (s.octs.map V.int)) → Q (.int (lookB self_.octs self_.place count)) H'
def sp_BitReader_get (K : PySem.W.Frag) (AD : Ads) : Sp := fun vs H Q _ => ∃ (p_self dx_self l_self_octs : Addr) (self_ : BrS) (count : Int), vs = [.ref p_self, .int count] ∧ H p_self = some (.ins AD.c_BitReader dx_self [("_octets", V.ref l_self_octs), ("_place", V.int self_.place), ("_end", V.int self_.stop)]) ∧ H l_self_octs = some (.lst (self_.octs.map V.int)) ∧ (BrG self_) ∧ (0 ≤ count ∧ count ≤ 64) ∧ (self_.place + count ≤ self_.stop) ∧ ∀ (H' : Hp) (s : BrS), s = brMove self_ count → SameXs [p_self, l_self_octs] H H' → H' p_self = some (.ins AD.c_BitReader dx_self [("_octets", V.ref l_self_octs), ("_place", V.int s.place), ("_end", V.int s.stop)]) → H' l_self_octs = some (.lst (s.octs.map V.int)) → Q (.int (lookB self_.octs self_.place count)) H'
def sp_BitReader__zeros (K : PySem.W.Frag) (AD : Ads) : Sp := fun vs H Q _ => ∃ (p_self dx_self l_self_octs : Addr) (self_ : BrS) (z : Nat), vs = [.ref p_self] ∧ H p_self = some (.ins AD.c_BitReader dx_self [("_octets", V.ref l_self_octs), ("_place", V.int self_.place), ("_end", V.int self_.stop)]) ∧ H l_self_octs = some (.lst (self_.octs.map V.int)) ∧ (BrG self_) ∧ (Zeros self_ z) ∧ ∀ H', Same H H' → Q (.int ((z : Int))) H'
def sp_BitReader_get_ue (K : PySem.W.Frag) (AD : Ads) : Sp := fun vs H Q _ => ∃ (p_self dx_self l_self_octs : Addr) (self_ : BrS) (z : Nat), vs = [.ref p_self] ∧ H p_self = some (.ins AD.c_BitReader dx_self [("_octets", V.ref l_self_octs), ("_place", V.int self_.place), ("_end", V.int self_.stop)]) ∧ H l_self_octs = some (.lst (self_.octs.map V.int)) ∧ (BrG self_) ∧ (Zeros self_ z) ∧ (self_.place + (2 * (z : Int) + 1) ≤ self_.stop) ∧ ∀ (H' : Hp) (s : BrS), s = brMove self_ (2 * (z : Int) + 1) → SameXs [p_self, l_self_octs] H H' → H' p_self = some (.ins AD.c_BitReader dx_self [("_octets", V.ref l_self_octs), ("_place", V.int s.place), ("_end", V.int s.stop)]) → H' l_self_octs = some (.lst (s.octs.map V.int)) → Q (.int (lookB self_.octs self_.place (2 * (z : Int) + 1) - 1)) H'
def sp_BitReader_get_se (K : PySem.W.Frag) (AD : Ads) : Sp := fun vs H Q _ => ∃ (p_self dx_self l_self_octs : Addr) (self_ : BrS) (z : Nat), vs = [.ref p_self] ∧ H p_self = some (.ins AD.c_BitReader dx_self [("_octets", V.ref l_self_octs), ("_place", V.int self_.place), ("_end", V.int self_.stop)]) ∧ H l_self_octs = some (.lst (self_.octs.map V.int)) ∧ (BrG self_) ∧ (Zeros self_ z) ∧ (self_.place + (2 * (z : Int) + 1) ≤ self_.stop) ∧ ∀ (H' : Hp) (s : BrS), s = brMove self_ (2 * (z : Int) + 1) → SameXs [p_self, l_self_octs] H H' → H' p_self = some (.ins AD.c_BitReader dx_self [("_octets", V.ref l_self_octs), ("_place", V.int s.place), ("_end", V.int s.stop)]) → H' l_self_octs = some (.lst (s.octs.map V.int)) → Q (.int (seBack (lookB self_.octs self_.place (2 * (z : Int) + 1) - 1))) H'
def sp__law_draws (K : PySem.W.Frag) (AD : Ads) : Sp := fun vs H Q _ => ∃ (cell : Int) (a_limits : Addr) (limits : List Int), vs = [.int cell, .ref a_limits] ∧ H a_limits = some (.lst (limits.map V.int)) ∧ (∀ l ∈ limits, 0 < l ∧ l < 2 ^ 128) ∧ (limits.length ≤ 100000) ∧ ∀ p H', H p = none → Same H H' → H' p = some (.lst ((draws cell limits : (List Int)).map V.int)) → Q (.ref p) H'
def sp__law_bits (K : PySem.W.Frag) (AD : Ads) : Sp := fun vs H Q _ => ∃ (value : Int) (count : Int), vs = [.int value, .int count] ∧ (0 ≤ count ∧ count ≤ 200) ∧ ∀ p H', H p = none → Same H H' → H' p = some (.lst ((bitsL value count : (List Int)).map V.int)) → Q (.ref p) H'
def sp__law_ue (K : PySem.W.Frag) (AD : Ads) : Sp := fun vs H Q _ => ∃ (value : Int), vs = [.int value] ∧ (0 ≤ value ∧ value ≤ 4294967296) ∧ ∀ p H', H p = none → Same H H' → H' p = some (.lst ((ueL value : (List Int)).map V.int)) → Q (.ref p) H'
def sp__law_se (K : PySem.W.Frag) (AD : Ads) : Sp := fun vs H Q _ => ∃ (value : Int), vs = [.int value] ∧ (-2147483648 ≤ value ∧ value ≤ 2147483648) ∧ ∀ p H', H p = none → Same H H' → H' p = some (.lst ((ueL (seCode value) : (List Int)).map V.int)) → Q (.ref p) H'
def sp__law_packed (K : PySem.W.Frag) (AD : Ads) : Sp := fun vs H Q _ => ∃ (a_bits : Addr) (bs : List Int), vs = [.ref a_bits] ∧ H a_bits = some (.lst (bs.map V.int)) ∧ (∀ b ∈ bs, 0 ≤ b ∧ b ≤ 1) ∧ (bs.length ≤ 100000) ∧ ∀ p H', H p = none → Same H H' → H' p = some (.lst ((packL bs : (List Int)).map V.int)) → Q (.ref p) H'
def sp__law_item (K : PySem.W.Frag) (AD : Ads) : Sp := fun vs H Q _ => ∃ (G : Hp) (cell : Int), vs = [.int cell] ∧ Same G H ∧ ∀ v H' G', Same H H' → Same G G' → Same G' H' → (∀ b, H b ≠ none → G b = none → G' b = none) → Rp G' v ((encT3 PyData.int PyData.int PyData.int) (itemB cell)) → Q v H'
def sp__law_put (K : PySem.W.Frag) (AD : Ads) : Sp := fun vs H Q _ => ∃ (p_writer dx_writer l_writer_full : Addr) (w : BwS) (v_item : V) (it : (Int × Int × Int)), vs = [.ref p_writer, v_item] ∧ H p_writer = some (.ins AD.c_BitWriter dx_writer [("_full", V.ref l_writer_full), ("_rest", V.int w.rest), ("_rest_bits", V.int w.bits)]) ∧ H l_writer_full = some (.lst (w.full.map V.int)) ∧ Rp (hideL [p_writer, l_writer_full] H) v_item ((encT3 PyData.int PyData.int PyData.int) it) ∧ (BwG w) ∧ (ItOk it) ∧ (w.full.length ≤ 40000) ∧ ∀ (H' : Hp) (s : BwS), s = itAdd w it → SameXs [p_writer, l_writer_full] H H' → H' p_writer = some (.ins AD.c_BitWriter dx_writer [("_full", V.ref l_writer_full), ("_rest", V.int s.rest), ("_rest_bits", V.int s.bits)]) → H' l_writer_full = some (.lst (s.full.map V.int)) → ∀ p, H p = none → H' p = some (.lst ((itBits it : (List Int)).map V.int)) → Q (.ref p) H'
def sp__law_get (K : PySem.W.Frag) (AD : Ads) : Sp := fun vs H Q _ => ∃ (p_reader dx_reader l_reader_octs : Addr) (rd : BrS) (v_item : V) (it : (Int × Int × Int)), vs = [.ref p_reader, v_item] ∧ H p_reader = some (.ins AD.c_BitReader dx_reader [("_octets", V.ref l_reader_octs), ("_place", V.int rd.place), ("_end", V.int rd.stop)]) ∧ H l_reader_octs = some (.lst (rd.octs.map V.int)) ∧ Rp (hideL [p_reader, l_reader_octs] H) v_item ((encT3 PyData.int PyData.int PyData.int) it) ∧ (GetOk rd it) ∧ (ItOk it) ∧ ∀ (H' : Hp) (s : BrS), s = brMove rd ((itBits it).length : Int) → SameXs [p_reader, l_reader_octs] H H' → H' p_reader = some (.ins AD.c_BitReader dx_reader [("_octets", V.ref l_reader_octs), ("_place", V.int s.place), ("_end", V.int s.stop)]) → H' l_reader_octs = some (.lst (s.octs.map V.int)) → Q (.int (it.2.1)) H'
def sp_law (K : PySem.W.Frag) (AD : Ads) : Sp := fun vs H Q _ => ∃ (a_script : Addr) (script : List Int), vs = [.ref a_script] ∧ SqL K H a_script (script.map V.int) ∧ script.length ≤ 63 ∧ ∀ H', Q (.bl true) H'
section
variable {P : Program} {w : World} {K : PySem.W.Frag} {mg : Str → Option Value} {base : Heap} {AD : Ads}
abbrev N_BitWriter___init__ : List Str := ["self"]
theorem sc_BitWriter___init__ : FnScope N_BitWriter___init__ ["self"] (defScope s_BitWriter___init__) := ⟨rfl, rfl, rfl, by decide +kernel, rfl, by decide +kernel, by decide +kernel⟩
theorem ok_BitWriter___init__ (D : InitIn K mg AD.c_BitWriter "BitWriter" "BitWriter.__init__" s_BitWriter___init__ ["self"]) (T : Txt K mg AD)  : MakC P w K mg base 1 "BitWriter" AD.c_BitWriter (sp_BitWriter___init__ K AD) := by
  refine D.ok sc_BitWriter___init__ (fun vs H Q E h => ?_) (fun f cdv A_ outer s H vs Q E hr h => ?_)
  · obtain ⟨p_self, dx_self, rfl, _⟩ := h
    rfl
  · obtain ⟨p_self, dx_self, rfl, h_self, k⟩ := h
    refine ⟨_, (pss_cons (ps_fld (pv 0) (pe_lst pa_nil) rfl)
      (pss_cons (ps_fld (pv 0) pe_int rfl)
      (pss_one (ps_fld (pv 0) pe_int rfl)))), ?_⟩
    have hM : ∀ a ∈ [p_self], H a ≠ none := (all_cons (some_ne h_self) all_nil)
    have S0 := Sep.start [p_self] H hM
    refine ⟨(by show 0 ≤ sizeLine; decide), fun p1 n2 => ?_⟩
    generalize g3 : upd H p1 _ = H4
    obtain ⟨e5, h6⟩ := gen_new n2 g3
    have h7 : H4 p1 = some (.lst (([] : (List Int)).map V.int)) := h6
    have fr8 := S0.free n2
    have S9 := S0.new n2 e5 h7 fr8
    have h10 := (e5 _ _ h_self)
    refine ⟨_, rfl, _, _, _, _, rfl, h10, T.cl_BitWriter, T.n_BitWriter__full, (by show 0 < 1000; decide), ?_⟩
    generalize g11 : upd H4 p_self _ = H12
    obtain ⟨x13, h14⟩ := gen_mut g11
    have h15 : H12 p_self = some (.ins AD.c_BitWriter dx_self [("_full", V.ref p1)]) := h14
    have S16 := S9.mut1 x13 (.tail _ (.head _)) h15
    refine ⟨_, rfl, _, _, _, _, rfl, h15, T.cl_BitWriter, T.n_BitWriter__rest, (by show 1 < 1000; decide), ?_⟩
    generalize g17 : upd H12 p_self _ = H18
    obtain ⟨x19, h20⟩ := gen_mut g17
    have h21 : H18 p_self = some (.ins AD.c_BitWriter dx_self [("_full", V.ref p1), ("_rest", V.int (0))]) := h20
    have S22 := S16.mut1 x19 (.tail _ (.head _)) h21
    refine ⟨_, rfl, _, _, _, _, rfl, h21, T.cl_BitWriter, T.n_BitWriter__rest_bits, (by show 2 < 1000; decide), ?_⟩
    generalize g23 : upd H18 p_self _ = H24
    obtain ⟨x25, h26⟩ := gen_mut g23
    have h27 : H24 p_self = some (.ins AD.c_BitWriter dx_self [("_full", V.ref p1), ("_rest", V.int (0)), ("_rest_bits", V.int (0))]) := h26
    have S28 := S22.mut1 x25 (.tail _ (.head _)) h27
    have h29 := (x25 _ _ (x19 _ _ (x13 _ _ h7 (ne_of_none h_self n2).symm) (ne_of_none h_self n2).symm) (ne_of_none h_self n2).symm)
    have E30 : ((⟨[], 0, 0⟩) : BwS) = (⟨[], 0, 0⟩ : BwS) := by rfl
    exact k _ _ _ E30 (sameX_of S28.base) fr8 h27 h29

abbrev N_BitWriter_length : List Str := ["self"]
theorem sc_BitWriter_length : FnScope N_BitWriter_length ["self"] (defScope s_BitWriter_length) := ⟨rfl, rfl, rfl, by decide +kernel, rfl, by decide +kernel, by decide +kernel⟩
theorem ok_BitWriter_length (D : PropIn K AD.c_BitWriter "BitWriter.length" "length" s_BitWriter_length ["self"]) (T : Txt K mg AD)  : PropC P w K mg base 1 AD.c_BitWriter "length" (sp_BitWriter_length K AD) := by
  refine D.ok T.cl_BitWriter sc_BitWriter_length (fun vs H Q E h => ?_) (fun f cdv A_ outer s H vs Q E hr h => ?_)
  · obtain ⟨p_self, dx_self, l_self_full, self_, rfl, _⟩ := h
    rfl
  · obtain ⟨p_self, dx_self, l_self_full, self_, rfl, h_self, h_self_full, k⟩ := h
    refine ⟨_, (pss_one (ps_ret (pe_op op_add (pe_op op_mul pe_int (pe_callB (call_lenLiK (K := K)) (by rfl) T.b_len (by decide +kernel) (pa_cons (fldK (K := K) (pv 0)) pa_nil))) (fldK (K := K) (pv 0))))), ?_⟩
    have S0 := Sep.start0 H
    refine ⟨_, rfl, _, _, _, _, _, rfl, (S0.sG _ _ h_self), T.cl_BitWriter, T.n_BitWriter__full, rfl, _, _, rfl, (SqL.of (S0.sG _ _ h_self_full)), _, _, rfl, rfl, (by first | exact .inr ⟨by omega, by omega⟩ | exact .inl ⟨by omega, by omega⟩), _, rfl, _, _, _, _, _, rfl, (S0.sG _ _ h_self), T.cl_BitWriter, T.n_BitWriter__rest_bits, rfl, _, _, rfl, rfl, ?_⟩
    exact eq_int k (by rfl)

abbrev N_BitWriter__add : List Str := ["self", "value", "count", "rest", "left"]
theorem sc_BitWriter__add : FnScope N_BitWriter__add ["self", "value", "count"] (defScope s_BitWriter__add) := ⟨rfl, rfl, rfl, by decide +kernel, rfl, by decide +kernel, by decide +kernel⟩
theorem ok_BitWriter__add (D : MethIn K AD.c_BitWriter "BitWriter._add" "_add" s_BitWriter__add ["self", "value", "count"]) (T : Txt K mg AD)  : MetC P w K mg base 1 AD.c_BitWriter "_add" (sp_BitWriter__add K AD) := by
  refine D.ok T.cl_BitWriter sc_BitWriter__add (fun vs H Q E h => ?_) (fun f cdv A_ outer s H vs Q E hr h => ?_)
  · obtain ⟨p_self, dx_self, l_self_full, self_, value, count, rfl, _⟩ := h
    rfl
  · obtain ⟨p_self, dx_self, l_self_full, self_, value, count, rfl, h_self, h_self_full, pre0, pre1, pre2, pre3, k⟩ := h
    refine ⟨_, (pss_cons (ps_set (i := 3) sc_BitWriter__add.nd rfl (Or.inl rfl) (pe_op op_or (pe_op op_shlW (fldK (K := K) (pv 0)) (pv 2)) (pv 1)))
      (pss_cons (ps_set (i := 4) sc_BitWriter__add.nd rfl (Or.inl rfl) (pe_op op_add (fldK (K := K) (pv 0)) (pv 2)))
      (pss_cons (ps_while PassesOwn.never (pt_cmp (pc_ge (pv 4) pe_int)) (pss_cons (ps_aug (i := 4) sc_BitWriter__add.nd rfl (Or.inl rfl) pe_int (pip iop_sub))
      (pss_cons (ps_expr (pe_bm PySem.F.plainAttrs_list PySem.F.slot_list_append PySem.F.type_list_append mt_append (fldK (K := K) (pv 0)) (pa_cons (pe_op op_shr (pv 3) (pv 4)) pa_nil)))
      (pss_one (ps_aug (i := 3) sc_BitWriter__add.nd rfl (Or.inl rfl) (pe_op op_sub (pe_op op_shlW pe_int (pv 4)) pe_int) (pip iop_and))))))
      (pss_cons (ps_fld (pv 0) (pv 3) rfl)
      (pss_one (ps_fld (pv 0) (pv 4) rfl)))))), ?_⟩
    have hM : ∀ a ∈ [p_self, l_self_full], H a ≠ none := (all_cons (some_ne h_self) (all_cons (some_ne h_self_full) all_nil))
    have S0 := Sep.start [p_self, l_self_full] H hM
    have hb0 := pre0.bits
    have hr0 := pre0.rest
    have hlow := small_rest pre0
    refine ⟨_, rfl, _, _, _, _, _, rfl, h_self, T.cl_BitWriter, T.n_BitWriter__rest, rfl, _, rfl, _, _, rfl, rfl, (by exact shl_side (by omega) (by omega) (by omega) (by omega)), _, rfl, _, _, rfl, rfl, _, rfl, _, _, _, _, _, rfl, h_self, T.cl_BitWriter, T.n_BitWriter__rest_bits, rfl, _, rfl, _, _, rfl, rfl, ⟨fun m σ H' => ∃ (self : BwS) (rest : Int) (left : Int), σ = [some (V.ref p_self), some (V.int (value)), some (V.int (count)), some (V.int rest), some (V.int left)] ∧ Sep [p_self, l_self_full] H (hideL [p_self, l_self_full] H) (hideL [p_self, l_self_full] H) H' [p_self, l_self_full] ∧ H' p_self = some (.ins AD.c_BitWriter dx_self [("_full", V.ref l_self_full), ("_rest", V.int (self.rest)), ("_rest_bits", V.int (self.bits))]) ∧ H' l_self_full = some (.lst ((self.full).map V.int)) ∧ ((m = left.toNat) ∧ (self.rest = self_.rest ∧ self.bits = self_.bits ∧ AddR (self_.rest * 2 ^ count.toNat + value) (self_.bits + count) self_.full self.full rest left)), ?_, ?_⟩⟩
    · refine ⟨_, self_, _, _, rfl, S0, h_self, h_self_full, rfl, ?_⟩
      exact ⟨rfl, rfl, add_start pre0 pre1.1 pre2⟩
    · intro m σ H31 hw
      obtain ⟨self, rest, left, rfl, S32, h33, h34, hu⟩ := hw
      obtain ⟨hm, hu⟩ := hu
      obtain ⟨hu1, hu2, hu⟩ := hu
      have hl := AddR.nn hu
      have hll := AddR.le hu
      refine ⟨_, rfl, _, _, rfl, rfl, _, rfl, ?_⟩
      refine iteD (fun c35 => ?_) (fun c35 => ?_)
      · have c35 : 8 ≤ left := c35
        refine ⟨(fun σ H' => ∃ m', (∃ (self : BwS) (rest : Int) (left : Int), σ = [some (V.ref p_self), some (V.int (value)), some (V.int (count)), some (V.int rest), some (V.int left)] ∧ Sep [p_self, l_self_full] H (hideL [p_self, l_self_full] H) (hideL [p_self, l_self_full] H) H' [p_self, l_self_full] ∧ H' p_self = some (.ins AD.c_BitWriter dx_self [("_full", V.ref l_self_full), ("_rest", V.int (self.rest)), ("_rest_bits", V.int (self.bits))]) ∧ H' l_self_full = some (.lst ((self.full).map V.int)) ∧ ((m' = left.toNat) ∧ (self.rest = self_.rest ∧ self.bits = self_.bits ∧ AddR (self_.rest * 2 ^ count.toNat + value) (self_.bits + count) self_.full self.full rest left))) ∧ m' < m), (fun _ _ ⟨m', a, b⟩ => ⟨m', b, a⟩), ?_⟩
        refine ⟨_, rfl, _, _, rfl, rfl, _, rfl, _, _, _, _, _, rfl, h33, T.cl_BitWriter, T.n_BitWriter__full, rfl, (.inl ⟨rfl, _, SqL.of h34⟩), _, rfl, _, rfl, _, _, rfl, rfl, (by omega), _, _, _, rfl, rfl, h34, (app_lenM (by have := AddR.len hu; omega)), ?_⟩
        generalize g36 : upd H31 l_self_full _ = H37
        obtain ⟨x38, h39⟩ := gen_mut g36
        have h40 : H37 l_self_full = some (.lst (((self.full) ++ [(rest / 2 ^ ((left - 8) : Int).toNat)] : (List Int)).map V.int)) := snoc_map h39
        have S41 := S32.mut1 x38 (.tail _ (.head _)) h40
        refine ⟨_, rfl, _, rfl, _, _, rfl, rfl, (by exact shl_side (by omega) (by omega) (by decide) (by decide)), _, _, rfl, rfl, _, _, rfl, rfl, ?_⟩
        have h42 := (x38 _ _ h33 (ne_of h33 h34 (fun z => nomatch z)))
        refine ⟨_, ⟨⟨(self.full) ++ [(rest / 2 ^ ((left - 8) : Int).toNat)], self.rest, self.bits⟩, _, _, rfl, S41, h42, h40, rfl, ?_⟩, ?_⟩
        · exact ⟨hu1, hu2, add_turn hu ‹_›⟩
        · omega
      · have c35 : ¬ (8 ≤ left) := c35
        refine ⟨_, rfl, _, rfl, _, _, _, _, rfl, h33, T.cl_BitWriter, T.n_BitWriter__rest, (by show 3 < 1000; decide), ?_⟩
        generalize g43 : upd H31 p_self _ = H44
        obtain ⟨x45, h46⟩ := gen_mut g43
        have h47 : H44 p_self = some (.ins AD.c_BitWriter dx_self [("_full", V.ref l_self_full), ("_rest", V.int (rest)), ("_rest_bits", V.int (self.bits))]) := h46
        have S48 := S32.mut1 x45 (.head _) h47
        refine ⟨_, rfl, _, rfl, _, _, _, _, rfl, h47, T.cl_BitWriter, T.n_BitWriter__rest_bits, (by show 3 < 1000; decide), ?_⟩
        generalize g49 : upd H44 p_self _ = H50
        obtain ⟨x51, h52⟩ := gen_mut g49
        have h53 : H50 p_self = some (.ins AD.c_BitWriter dx_self [("_full", V.ref l_self_full), ("_rest", V.int (rest)), ("_rest_bits", V.int (left))]) := h52
        have S54 := S48.mut1 x51 (.head _) h53
        have h55 := (x51 _ _ (x45 _ _ h34 (ne_of h34 h33 (fun z => nomatch z))) (ne_of h34 h33 (fun z => nomatch z)))
        have E56 : ((⟨self.full, rest, left⟩) : BwS) = bwAdd self_ value count := by exact add_end hu (by omega)
        exact (k _ _ E56 S54.base h53 h55)

abbrev N_BitWriter_put : List Str := ["self", "value", "count"]
theorem sc_BitWriter_put : FnScope N_BitWriter_put ["self", "value", "count"] (defScope s_BitWriter_put) := ⟨rfl, rfl, rfl, by decide +kernel, rfl, by decide +kernel, by decide +kernel⟩
theorem ok_BitWriter_put (D : MethIn K AD.c_BitWriter "BitWriter.put" "put" s_BitWriter_put ["self", "value", "count"]) (T : Txt K mg AD) (c_BitWriter__add : MetC P w K mg base 1 AD.c_BitWriter "_add" (sp_BitWriter__add K AD)) : MetC P w K mg base 2 AD.c_BitWriter "put" (sp_BitWriter_put K AD) := by
  refine D.ok T.cl_BitWriter sc_BitWriter_put (fun vs H Q E h => ?_) (fun f cdv A_ outer s H vs Q E hr h => ?_)
  · obtain ⟨p_self, dx_self, l_self_full, self_, value, count, rfl, _⟩ := h
    rfl
  · obtain ⟨p_self, dx_self, l_self_full, self_, value, count, rfl, h_self, h_self_full, pre0, pre1, pre2, pre3, k⟩ := h
    refine ⟨_, (pss_cons (ps_if (pt_not (pt_chain op_le op_le pe_int (pv 2) (C8.pe_gc rfl T.g_MOST_BITS))) (pss_one ps_never) pss_nil)
      (pss_cons (ps_if (pt_not (pt_chain op_le op_lt pe_int (pv 1) (pe_op op_shlW pe_int (pv 2)))) (pss_one ps_never) pss_nil)
      (pss_one (ps_expr (vx_meth c_BitWriter__add hr (by decide) (pv 0) (pa_cons (pv 1) (pa_cons (pv 2) pa_nil))))))), ?_⟩
    have hM : ∀ a ∈ [p_self, l_self_full], H a ≠ none := (all_cons (some_ne h_self) (all_cons (some_ne h_self_full) all_nil))
    have S0 := Sep.start [p_self, l_self_full] H hM
    refine ⟨_, rfl, _, _, rfl, rfl, _, rfl, ?_⟩
    refine iteDT (show 0 ≤ count from by omega) ?_
    refine ⟨_, _, rfl, rfl, _, rfl, ?_⟩
    refine iteNF (show count ≤ 64 from by omega) ?_
    refine ⟨_, rfl, _, _, rfl, rfl, _, rfl, ?_⟩
    refine iteDT (show 0 ≤ value from by first | exact pre2.1 | (have := pre2.2; omega)) ?_
    refine ⟨_, rfl, _, _, rfl, rfl, (by exact shl_side (by omega) (by omega) (by decide) (by decide)), _, _, rfl, rfl, _, rfl, ?_⟩
    refine iteNF (show value < (1 * 2 ^ (count : Int).toNat) from by first | exact pre2.1 | (have := pre2.2; omega)) ?_
    refine ⟨_, rfl, _, _, _, rfl, h_self, rfl, _, rfl, _, rfl, _, _, _, (self_ : BwS), _, _, rfl, h_self, h_self_full, (by first | assumption | omega), (by first | assumption | omega), (by first | assumption | omega), (by first | assumption | omega), fun H57 s58 q59 x60 h61 h63  => ?_⟩
    have S62 := S0.mut x60 (all_cons (.head _) (all_cons (.tail _ (.head _)) all_nil)) (all_cons (some_ne h61) (all_cons (some_ne h63) all_nil))
    have E64 : ((⟨s58.full, s58.rest, s58.bits⟩) : BwS) = bwAdd self_ value count := by exact q59
    exact (k _ _ E64 S62.base h61 h63)

abbrev N_BitWriter_put_ue : List Str := ["self", "value", "digits"]
theorem sc_BitWriter_put_ue : FnScope N_BitWriter_put_ue ["self", "value"] (defScope s_BitWriter_put_ue) := ⟨rfl, rfl, rfl, by decide +kernel, rfl, by decide +kernel, by decide +kernel⟩
theorem ok_BitWriter_put_ue (D : MethIn K AD.c_BitWriter "BitWriter.put_ue" "put_ue" s_BitWriter_put_ue ["self", "value"]) (T : Txt K mg AD) (c_BitWriter__add : MetC P w K mg base 1 AD.c_BitWriter "_add" (sp_BitWriter__add K AD)) : MetC P w K mg base 2 AD.c_BitWriter "put_ue" (sp_BitWriter_put_ue K AD) := by
  refine D.ok T.cl_BitWriter sc_BitWriter_put_ue (fun vs H Q E h => ?_) (fun f cdv A_ outer s H vs Q E hr h => ?_)
  · obtain ⟨p_self, dx_self, l_self_full, self_, value, rfl, _⟩ := h
    rfl
  · obtain ⟨p_self, dx_self, l_self_full, self_, value, rfl, h_self, h_self_full, pre0, pre1, pre2, k⟩ := h
    refine ⟨_, (pss_cons (ps_if (pt_not (pt_chain op_le op_le pe_int (pv 1) (pe_op op_pow pe_int pe_int))) (pss_one ps_never) pss_nil)
      (pss_cons (ps_set (i := 2) sc_BitWriter_put_ue.nd rfl (Or.inl rfl) (pe_bits (pe_op op_add (pv 1) pe_int)))
      (pss_one (ps_expr (vx_meth c_BitWriter__add hr (by decide) (pv 0) (pa_cons (pe_op op_add (pv 1) pe_int) (pa_cons (pe_op op_sub (pe_op op_mul pe_int (pv 2)) pe_int) pa_nil))))))), ?_⟩
    have hM : ∀ a ∈ [p_self, l_self_full], H a ≠ none := (all_cons (some_ne h_self) (all_cons (some_ne h_self_full) all_nil))
    have S0 := Sep.start [p_self, l_self_full] H hM
    have hub := ue_in pre1.1 pre1.2
    refine ⟨_, rfl, _, _, rfl, rfl, _, rfl, ?_⟩
    refine iteDT (show 0 ≤ value from by omega) ?_
    refine ⟨_, _, rfl, rfl, (by exact ⟨by decide, by decide, by decide⟩), _, _, rfl, rfl, _, rfl, ?_⟩
    refine iteNF (show value ≤ 4294967296 from by omega) ?_
    refine ⟨_, rfl, _, _, rfl, rfl, _, rfl, _, rfl, _, _, _, rfl, h_self, rfl, _, rfl, _, _, rfl, rfl, _, rfl, _, _, rfl, rfl, (by first | exact .inr ⟨by omega, by omega⟩ | exact .inl ⟨by omega, by omega⟩), _, _, rfl, rfl, _, _, _, (self_ : BwS), _, _, rfl, h_self, h_self_full, (by first | assumption | exact hub.1 | exact hub.2), (by first | assumption | exact hub.1 | exact hub.2), (by first | assumption | exact hub.1 | exact hub.2), (by first | assumption | exact hub.1 | exact hub.2), fun H65 s66 q67 x68 h69 h71  => ?_⟩
    have S70 := S0.mut x68 (all_cons (.head _) (all_cons (.tail _ (.head _)) all_nil)) (all_cons (some_ne h69) (all_cons (some_ne h71) all_nil))
    have E72 : ((⟨s66.full, s66.rest, s66.bits⟩) : BwS) = bwUe self_ value := by exact q67
    exact (k _ _ E72 S70.base h69 h71)

abbrev N_BitWriter_put_se : List Str := ["self", "value"]
theorem sc_BitWriter_put_se : FnScope N_BitWriter_put_se ["self", "value"] (defScope s_BitWriter_put_se) := ⟨rfl, rfl, rfl, by decide +kernel, rfl, by decide +kernel, by decide +kernel⟩
theorem ok_BitWriter_put_se (D : MethIn K AD.c_BitWriter "BitWriter.put_se" "put_se" s_BitWriter_put_se ["self", "value"]) (T : Txt K mg AD) (c_BitWriter_put_ue : MetC P w K mg base 2 AD.c_BitWriter "put_ue" (sp_BitWriter_put_ue K AD)) : MetC P w K mg base 3 AD.c_BitWriter "put_se" (sp_BitWriter_put_se K AD) := by
  refine D.ok T.cl_BitWriter sc_BitWriter_put_se (fun vs H Q E h => ?_) (fun f cdv A_ outer s H vs Q E hr h => ?_)
  · obtain ⟨p_self, dx_self, l_self_full, self_, value, rfl, _⟩ := h
    rfl
  · obtain ⟨p_self, dx_self, l_self_full, self_, value, rfl, h_self, h_self_full, pre0, pre1, pre2, k⟩ := h
    refine ⟨_, (pss_one (ps_expr (vx_meth c_BitWriter_put_ue hr (by decide) (pv 0) (pa_cons (pe_ifExp (pt_cmp (pc_gt (pv 1) pe_int)) (pe_op op_sub (pe_op op_mul pe_int (pv 1)) pe_int) (pe_op op_mul (pe_un un_neg pe_int) (pv 1))) pa_nil)))), ?_⟩
    have hM : ∀ a ∈ [p_self, l_self_full], H a ≠ none := (all_cons (some_ne h_self) (all_cons (some_ne h_self_full) all_nil))
    have S0 := Sep.start [p_self, l_self_full] H hM
    refine ⟨_, rfl, _, _, _, rfl, h_self, rfl, ?_⟩
    refine vv_if (vt_cmp (vv_cmp (val_var rfl) val_c (fun Q q => ⟨_, _, rfl, rfl, q⟩))) (val_op (val_op val_c (val_var rfl) (fun Q q => ⟨_, _, rfl, rfl, (by first | exact .inr ⟨by omega, by omega⟩ | exact .inl ⟨by omega, by omega⟩), q⟩)) val_c (fun Q q => ⟨_, _, rfl, rfl, q⟩)) (val_op (vv_un val_c (fun Q q => ⟨_, rfl, q⟩)) (val_var rfl) (fun Q q => ⟨_, _, rfl, rfl, (by first | exact .inr ⟨by omega, by omega⟩ | exact .inl ⟨by omega, by omega⟩), q⟩)) _ ?_
    refine ⟨_, _, _, (self_ : BwS), _, rfl, h_self, h_self_full, (by first | assumption | (split <;> omega)), (by first | assumption | (split <;> omega)), (by first | assumption | (split <;> omega)), fun H73 s74 q75 x76 h77 h79  => ?_⟩
    have S78 := S0.mut x76 (all_cons (.head _) (all_cons (.tail _ (.head _)) all_nil)) (all_cons (some_ne h77) (all_cons (some_ne h79) all_nil))
    have E80 : ((⟨s74.full, s74.rest, s74.bits⟩) : BwS) = bwUe self_ (seCode value) := by exact q75
    exact (k _ _ E80 S78.base h77 h79)

abbrev N_BitWriter_octets : List Str := ["self", "free"]
theorem sc_BitWriter_octets : FnScope N_BitWriter_octets ["self"] (defScope s_BitWriter_octets) := ⟨rfl, rfl, rfl, by decide +kernel, rfl, by decide +kernel, by decide +kernel⟩
theorem ok_BitWriter_octets (D : MethIn K AD.c_BitWriter "BitWriter.octets" "octets" s_BitWriter_octets ["self"]) (T : Txt K mg AD)  : MetC P w K mg base 1 AD.c_BitWriter "octets" (sp_BitWriter_octets K AD) := by
  refine D.ok T.cl_BitWriter sc_BitWriter_octets (fun vs H Q E h => ?_) (fun f cdv A_ outer s H vs Q E hr h => ?_)
  · obtain ⟨p_self, dx_self, l_self_full, self_, rfl, _⟩ := h
    rfl
  · obtain ⟨p_self, dx_self, l_self_full, self_, rfl, h_self, h_self_full, pre0, pre1, k⟩ := h
    refine ⟨_, (pss_cons (ps_set (i := 1) sc_BitWriter_octets.nd rfl (Or.inl rfl) (pe_op op_sub pe_int (fldK (K := K) (pv 0))))
      (pss_one (ps_ret (pe_op op_cat (fldK (K := K) (pv 0)) (pe_lst (pa_cons (pe_op op_shlW (pe_op op_add (pe_op op_mul pe_int (fldK (K := K) (pv 0))) pe_int) (pv 1)) pa_nil)))))), ?_⟩
    have S0 := Sep.start0 H
    have hb0 := pre0.bits
    have hlow := small_rest pre0
    refine ⟨_, rfl, _, _, _, _, _, rfl, (S0.sG _ _ h_self), T.cl_BitWriter, T.n_BitWriter__rest_bits, rfl, _, _, rfl, rfl, _, rfl, _, _, _, _, _, rfl, (S0.sG _ _ h_self), T.cl_BitWriter, T.n_BitWriter__full, rfl, _, rfl, _, _, _, _, _, rfl, (S0.sG _ _ h_self), T.cl_BitWriter, T.n_BitWriter__rest, rfl, _, _, rfl, rfl, (by first | exact .inr ⟨by omega, by omega⟩ | exact .inl ⟨by omega, by omega⟩), _, _, rfl, rfl, _, rfl, _, _, rfl, rfl, (by exact shl_side (by omega) (by omega) (by omega) (by omega)), (by show 1 ≤ sizeLine; decide), fun p81 n82 => ?_⟩
    generalize g83 : upd H p81 _ = H84
    obtain ⟨e85, h86⟩ := gen_new n82 g83
    have h87 : H84 p81 = some (.lst (([(((2 * self_.rest) + 1) * 2 ^ ((7 - self_.bits) : Int).toNat)] : (List Int)).map V.int)) := h86
    have fr88 := S0.free n82
    have S89 := S0.new n82 e85 h87 fr88
    refine ⟨_, _, _, _, rfl, rfl, (S89.sG _ _ h_self_full), h87, (cat_lenM (by first | omega | (simp only [List.length_map, List.length_append, List.length_take, List.length_range, List.length_cons, List.length_nil, repL_len]; omega))), fun p90 n91 => ?_⟩
    generalize g92 : upd H84 p90 _ = H93
    obtain ⟨e94, h95⟩ := gen_new n91 g92
    have h96 : H93 p90 = some (.lst (((self_.full) ++ ([(((2 * self_.rest) + 1) * 2 ^ ((7 - self_.bits) : Int).toNat)]) : (List Int)).map V.int)) := cat_map h95
    have fr97 := S89.free n91
    have S98 := S89.new n91 e94 h96 fr97
    exact k _ _ fr97 S98.b0 (cast_map h96 (by rfl))

abbrev N__last_bit : List Str := ["octet", "bits"]
theorem sc__last_bit : FnScope N__last_bit ["octet"] (defScope s__last_bit) := ⟨rfl, rfl, rfl, by decide +kernel, rfl, by decide +kernel, by decide +kernel⟩
theorem ok__last_bit (D : DefIn K mg "_last_bit" s__last_bit ["octet"]) (T : Txt K mg AD)  : Cal P w K mg base 1 "_last_bit" (sp__last_bit K AD) := by
  refine D.ok sc__last_bit (fun vs H Q E h => ?_) (fun f cdv A_ outer s H vs Q E hr h => ?_)
  · obtain ⟨octet, rfl, _⟩ := h
    rfl
  · obtain ⟨octet, rfl, pre0, k⟩ := h
    refine ⟨_, (pss_cons (ps_set (i := 1) sc__last_bit.nd rfl (Or.inl rfl) pe_int)
      (pss_cons (ps_while PassesOwn.never (pt_cmp (pc_eqI (pe_op op_and (pe_op op_shr (pv 0) (pe_op op_sub (pv 1) pe_int)) pe_int) pe_int)) (pss_one (ps_aug (i := 1) sc__last_bit.nd rfl (Or.inl rfl) pe_int (pip iop_add))))
      (pss_one (ps_ret (pv 1))))), ?_⟩
    have S0 := Sep.start0 H
    refine ⟨fun m σ H' => ∃ (bits : Int), σ = [some (V.int (octet)), some (V.int bits)] ∧ Sep [] H H H H' [] ∧ ((m = (9 - bits).toNat) ∧ (1 ≤ bits ∧ bits ≤ 8 ∧ octet % 2 ^ (bits - 1).toNat = 0)), ?_, ?_⟩
    · refine ⟨_, _, rfl, S0, rfl, ?_⟩
      exact ⟨by decide, by decide, Int.emod_one _⟩
    · intro m σ H99 hw
      obtain ⟨bits, rfl, S100, hu⟩ := hw
      obtain ⟨hm, hu⟩ := hu
      obtain ⟨hb1, hb8, hz⟩ := hu
      refine ⟨_, rfl, _, rfl, _, _, rfl, rfl, _, _, rfl, rfl, (by omega), _, _, rfl, rfl, _, _, rfl, rfl, _, rfl, ?_⟩
      refine iteD (fun c101 => ?_) (fun c101 => ?_)
      · have c101 : ((PySem.Builtin.bitAnd ((octet / 2 ^ ((bits - 1) : Int).toNat)) (1)) : Int) = 0 := c101
        refine ⟨(fun σ H' => ∃ m', (∃ (bits : Int), σ = [some (V.int (octet)), some (V.int bits)] ∧ Sep [] H H H H' [] ∧ ((m' = (9 - bits).toNat) ∧ (1 ≤ bits ∧ bits ≤ 8 ∧ octet % 2 ^ (bits - 1).toNat = 0))) ∧ m' < m), (fun _ _ ⟨m', a, b⟩ => ⟨m', b, a⟩), ?_⟩
        refine ⟨_, rfl, _, _, rfl, rfl, ?_⟩
        refine ⟨_, ⟨_, rfl, S100, rfl, ?_⟩, ?_⟩
        · exact lb_turn pre0 hb1 hb8 hz ‹_›
        · omega
      · have c101 : ¬ (((PySem.Builtin.bitAnd ((octet / 2 ^ ((bits - 1) : Int).toNat)) (1)) : Int) = 0) := c101
        refine ⟨_, rfl, ?_⟩
        exact eq_int (k _ S100.b0) (by exact lb_end pre0 hb1 hb8 hz ‹_›)

abbrev N_BitReader___init__ : List Str := ["self", "octets"]
theorem sc_BitReader___init__ : FnScope N_BitReader___init__ ["self", "octets"] (defScope s_BitReader___init__) := ⟨rfl, rfl, rfl, by decide +kernel, rfl, by decide +kernel, by decide +kernel⟩
theorem ok_BitReader___init__ (D : InitIn K mg AD.c_BitReader "BitReader" "BitReader.__init__" s_BitReader___init__ ["self", "octets"]) (T : Txt K mg AD) (c__last_bit : Cal P w K mg base 1 "_last_bit" (sp__last_bit K AD)) : MakC P w K mg base 2 "BitReader" AD.c_BitReader (sp_BitReader___init__ K AD) := by
  refine D.ok sc_BitReader___init__ (fun vs H Q E h => ?_) (fun f cdv A_ outer s H vs Q E hr h => ?_)
  · obtain ⟨p_self, dx_self, a_octets, octets, rfl, _⟩ := h
    rfl
  · obtain ⟨p_self, dx_self, a_octets, octets, rfl, h_self, q_octets, pre0, pre1, pre2, pre3, k⟩ := h
    refine ⟨_, (pss_cons (ps_if (PW.pt (pw_or (pt_not (pt_truth (pv 1) (fun _ => rfl))) (pw_or1 (pt_cmp (pc_eqI (pe_ix (ix_listK (K := K)) (pv 1) (pe_un un_neg pe_int) (fun _ _ => rfl)) pe_int))))) (pss_one ps_never) pss_nil)
      (pss_cons (ps_fld (pv 0) (pe_callTy (call_listLK (K := K)) (by rfl) T.b_list (by decide +kernel) (pa_cons (pv 1) pa_nil)) rfl)
      (pss_cons (ps_fld (pv 0) pe_int rfl)
      (pss_one (ps_fld (pv 0) (pe_op op_sub (pe_op op_mul pe_int (pe_callB (call_lenLiK (K := K)) (by rfl) T.b_len (by decide +kernel) (pa_cons (pv 1) pa_nil))) (vx_call c__last_bit hr (by decide) rfl (pa_cons (pe_ix (ix_listK (K := K)) (pv 1) (pe_un un_neg pe_int) (fun _ _ => rfl)) pa_nil))) rfl))))), ?_⟩
    have hM : ∀ a ∈ [p_self], H a ≠ none := (all_cons (some_ne h_self) all_nil)
    have S0 := Sep.start [p_self] H hM
    have h102 : (hideL [p_self] H) a_octets = _ := (hideL_out (ni1 (ne_of q_octets h_self (fun z => nomatch z)))).trans q_octets
    refine ⟨_, rfl, (!decide ((octets : (List Int)) = [])), (.inl ⟨_, (SqL.of (S0.sG _ _ h102)), tru_map⟩), ?_⟩
    refine iteNN ?_
    refine iteDF (show ¬ ((octets : (List Int)) = []) from by exact pre0) ?_
    refine ⟨_, rfl, _, rfl, _, _, _, _, rfl, rfl, (SqL.of (S0.sG _ _ h102)), (atI_map (by exact last_in pre0)), _, _, rfl, rfl, _, rfl, ?_⟩
    refine iteDF (show ¬ (((itD (octets) ((-1))) : Int) = 0) from by exact pre1) ?_
    refine ⟨_, rfl, _, _, rfl, (SqL.of (S0.sG _ _ h102)), fun p103 n104 => ?_⟩
    generalize g105 : upd H p103 _ = H106
    obtain ⟨e107, h108⟩ := gen_new n104 g105
    have h109 : H106 p103 = some (.lst ((octets : (List Int)).map V.int)) := h108
    have fr110 := S0.free n104
    have S111 := S0.new n104 e107 h109 fr110
    have h112 := (e107 _ _ h_self)
    refine ⟨_, rfl, _, _, _, _, rfl, h112, T.cl_BitReader, T.n_BitReader__octets, (by show 0 < 1000; decide), ?_⟩
    generalize g113 : upd H106 p_self _ = H114
    obtain ⟨x115, h116⟩ := gen_mut g113
    have h117 : H114 p_self = some (.ins AD.c_BitReader dx_self [("_octets", V.ref p103)]) := h116
    have S118 := S111.mut1 x115 (.tail _ (.head _)) h117
    refine ⟨_, rfl, _, _, _, _, rfl, h117, T.cl_BitReader, T.n_BitReader__place, (by show 1 < 1000; decide), ?_⟩
    generalize g119 : upd H114 p_self _ = H120
    obtain ⟨x121, h122⟩ := gen_mut g119
    have h123 : H120 p_self = some (.ins AD.c_BitReader dx_self [("_octets", V.ref p103), ("_place", V.int (0))]) := h122
    have S124 := S118.mut1 x121 (.tail _ (.head _)) h123
    refine ⟨_, rfl, _, _, rfl, (SqL.of (S124.sG _ _ h102)), _, _, rfl, rfl, (by first | exact .inr ⟨by omega, by omega⟩ | exact .inl ⟨by omega, by omega⟩), _, rfl, _, rfl, _, _, _, _, rfl, rfl, (SqL.of (S124.sG _ _ h102)), (atI_map (by exact last_in pre0)), _, rfl, (by exact last_oct pre0 pre1 pre2), fun H125 e126 => ?_⟩
    have S127 := S124.same e126
    have h128 := (e126 _ _ h123)
    refine ⟨_, _, rfl, rfl, _, rfl, _, _, _, _, rfl, h128, T.cl_BitReader, T.n_BitReader__end, (by show 2 < 1000; decide), ?_⟩
    generalize g129 : upd H125 p_self _ = H130
    obtain ⟨x131, h132⟩ := gen_mut g129
    have h133 : H130 p_self = some (.ins AD.c_BitReader dx_self [("_octets", V.ref p103), ("_place", V.int (0)), ("_end", V.int (((8 * (((octets) : (List Int)).length : Int)) - lastBit ((itD (octets) ((-1)))))))]) := h132
    have S134 := S127.mut1 x131 (.tail _ (.head _)) h133
    have h135 := (x131 _ _ (e126 _ _ (x121 _ _ (x115 _ _ h109 (ne_of_none h_self n104).symm) (ne_of_none h_self n104).symm)) (ne_of_none h_self n104).symm)
    have E136 : ((⟨octets, 0, ((8 * (((octets) : (List Int)).length : Int)) - lastBit ((itD (octets) ((-1)))))⟩) : BrS) = brInit octets := by rfl
    exact k _ _ _ E136 (sameX_of S134.base) fr110 h133 h135

abbrev N_BitReader_left : List Str := ["self"]
theorem sc_BitReader_left : FnScope N_BitReader_left ["self"] (defScope s_BitReader_left) := ⟨rfl, rfl, rfl, by decide +kernel, rfl, by decide +kernel, by decide +kernel⟩
theorem ok_BitReader_left (D : PropIn K AD.c_BitReader "BitReader.left" "left" s_BitReader_left ["self"]) (T : Txt K mg AD)  : PropC P w K mg base 1 AD.c_BitReader "left" (sp_BitReader_left K AD) := by
  refine D.ok T.cl_BitReader sc_BitReader_left (fun vs H Q E h => ?_) (fun f cdv A_ outer s H vs Q E hr h => ?_)
  · obtain ⟨p_self, dx_self, l_self_octs, self_, rfl, _⟩ := h
    rfl
  · obtain ⟨p_self, dx_self, l_self_octs, self_, rfl, h_self, h_self_octs, k⟩ := h
    refine ⟨_, (pss_one (ps_ret (pe_op op_sub (fldK (K := K) (pv 0)) (fldK (K := K) (pv 0))))), ?_⟩
    have S0 := Sep.start0 H
    refine ⟨_, rfl, _, _, _, _, _, rfl, (S0.sG _ _ h_self), T.cl_BitReader, T.n_BitReader__end, rfl, _, rfl, _, _, _, _, _, rfl, (S0.sG _ _ h_self), T.cl_BitReader, T.n_BitReader__place, rfl, _, _, rfl, rfl, ?_⟩
    exact eq_int k (by rfl)

abbrev N_BitReader__look : List Str := ["self", "place", "count", "end", "value", "octet"]
theorem sc_BitReader__look : FnScope N_BitReader__look ["self", "place", "count"] (defScope s_BitReader__look) := ⟨rfl, rfl, rfl, by decide +kernel, rfl, by decide +kernel, by decide +kernel⟩
theorem ok_BitReader__look (D : MethIn K AD.c_BitReader "BitReader._look" "_look" s_BitReader__look ["self", "place", "count"]) (T : Txt K mg AD)  : MetC P w K mg base 1 AD.c_BitReader "_look" (sp_BitReader__look K AD) := by
  refine D.ok T.cl_BitReader sc_BitReader__look (fun vs H Q E h => ?_) (fun f cdv A_ outer s H vs Q E hr h => ?_)
  · obtain ⟨p_self, dx_self, l_self_octs, self_, place, count, rfl, _⟩ := h
    rfl
  · obtain ⟨p_self, dx_self, l_self_octs, self_, place, count, rfl, h_self, h_self_octs, pre0, pre1, pre2, pre3, k⟩ := h
    refine ⟨_, (pss_cons (ps_set (i := 3) sc_BitReader__look.nd rfl (Or.inl rfl) (pe_op op_add (pv 1) (pv 2)))
      (pss_cons (ps_if (pt_cmp (pc_gt (pv 3) (fldK (K := K) (pv 0)))) (pss_one ps_never) pss_nil)
      (pss_cons (ps_set (i := 4) sc_BitReader__look.nd rfl (Or.inl rfl) pe_int)
      (pss_cons (ps_for PassesOwn.never rfl (pi_listK (K := K) (pe_slice (sl_listK (K := K)) (fldK (K := K) (pv 0)) (po_some (pe_op op_fdivW (pv 1) pe_int)) (po_some (pe_op op_fdivW (pe_op op_add (pv 3) pe_int) pe_int)))) (pg_name (i := 5) sc_BitReader__look.nd rfl (Or.inl rfl)) (pss_one (ps_set (i := 4) sc_BitReader__look.nd rfl (Or.inl rfl) (pe_op op_or (pe_op op_shlW (pv 4) pe_int) (pv 5)))))
      (pss_one (ps_ret (pe_op op_and (pe_op op_shr (pv 4) (pe_op op_and (pe_un un_neg (pv 3)) pe_int)) (pe_op op_sub (pe_op op_shlW pe_int (pv 2)) pe_int)))))))), ?_⟩
    have S0 := Sep.start0 H
    have hst := pre0.stop
    refine ⟨_, rfl, _, rfl, _, _, rfl, rfl, _, rfl, _, rfl, _, _, _, _, _, rfl, (S0.sG _ _ h_self), T.cl_BitReader, T.n_BitReader__end, rfl, _, _, rfl, rfl, _, rfl, ?_⟩
    refine iteDF (show ¬ (self_.stop < (place + count)) from by omega) ?_
    refine ⟨_, rfl, _, _, _, _, _, rfl, (S0.sG _ _ h_self), T.cl_BitReader, T.n_BitReader__octets, rfl, _, rfl, _, _, rfl, rfl, (by first | exact divW_lit (by decide) (by decide) | exact divW_small (by omega) (by omega)), _, rfl, _, rfl, _, _, rfl, rfl, _, _, rfl, rfl, (by first | exact divW_lit (by decide) (by decide) | exact divW_small (by omega) (by omega)), _, rfl, _, _, rfl, (SqL.of (S0.sG _ _ h_self_octs)), fun p137 n138 => ?_⟩
    generalize g139 : upd H p137 _ = H140
    obtain ⟨e141, h142⟩ := gen_new n138 g139
    have h143 : H140 p137 = some (.lst ((cutL (self_.octs) (some ((place / 8))) (some ((((place + count) + 7) / 8))) : (List Int)).map V.int)) := cut_map h142
    have fr144 := S0.free n138
    have S145 := S0.new n138 e141 h143 fr144
    refine ⟨_, rfl, ⟨_, (SqL.of h143)⟩, for_list (K := K) (a := p137) (xs := (cutL (self_.octs) (some ((place / 8))) (some ((((place + count) + 7) / 8)))).map V.int) (fun i σ H' => ∃ (value : Int) (u_octet : Option V), σ = [some (V.ref p_self), some (V.int (place)), some (V.int (count)), some (V.int ((place + count))), some (V.int value), u_octet] ∧ Sep [] H H H H' [p137] ∧ H' p137 = some (.lst ((cutL (self_.octs) (some ((place / 8))) (some ((((place + count) + 7) / 8)))).map V.int)) ∧ (value = num ((sliceB self_.octs place count).take i))) ?_ ?_ ?_ ?_⟩
    · refine ⟨_, _, rfl, S145, h143, ?_⟩
      rfl
    · intro i σ H146 _ hw
      obtain ⟨value, u_octet, rfl, S147, h148, hu⟩ := hw
      exact (SqL.of h148)
    · intro i x σ H149 hj hw
      obtain ⟨value, u_octet, rfl, S150, h151, hu⟩ := hw
      obtain ⟨octet, hi, rfl⟩ := map_get hj
      have hsm := slice_small pre0 pre1 pre2 pre3 i
      rw [← hu] at hsm
      have hi1 := get_len hi
      refine ⟨_, rfl, _, _, rfl, rfl, (by exact shl_side (by decide) (by decide) (by omega) (by omega)), _, rfl, _, _, rfl, rfl, ?_⟩
      refine ⟨_, _, rfl, S150, h151, ?_⟩
      show PySem.Builtin.bitOr (value * 256) octet = _
      rw [low_or hsm.1 (slice_oct pre0.oct hi).1 (slice_oct pre0.oct hi).2, hu]; exact num_take hi
    · intro σ H152 hw
      rw [show ((cutL (self_.octs) (some ((place / 8))) (some ((((place + count) + 7) / 8)))).map V.int).length = (cutL (self_.octs) (some ((place / 8))) (some ((((place + count) + 7) / 8)))).length from (by rw [List.length_map])] at hw
      obtain ⟨value, u_octet, rfl, S153, h154, hu⟩ := hw
      replace hu : value = num ((sliceB self_.octs place count).take (sliceB self_.octs place count).length) := hu
      rw [List.take_length] at hu
      refine ⟨_, rfl, _, rfl, _, rfl, _, _, rfl, rfl, _, _, rfl, rfl, (by exact and7_nn _), _, rfl, _, _, rfl, rfl, (by exact shl_side (by omega) (by omega) (by decide) (by decide)), _, _, rfl, rfl, _, _, rfl, rfl, ?_⟩
      exact eq_int (k _ S153.b0) (by rw [hu]; exact look_eq pre0 pre1 pre2 pre3)

abbrev N_BitReader__take : List Str := ["self", "count", "value"]
theorem sc_BitReader__take : FnScope N_BitReader__take ["self", "count"] (defScope s_BitReader__take) := ⟨rfl, rfl, rfl, by decide +kernel, rfl, by decide +kernel, by decide +kernel⟩
theorem ok_BitReader__take (D : MethIn K AD.c_BitReader "BitReader._take" "_take" s_BitReader__take ["self", "count"]) (T : Txt K mg AD) (c_BitReader__look : MetC P w K mg base 1 AD.c_BitReader "_look" (sp_BitReader__look K AD)) : MetC P w K mg base 2 AD.c_BitReader "_take" (sp_BitReader__take K AD) := by
  refine D.ok T.cl_BitReader sc_BitReader__take (fun vs H Q E h => ?_) (fun f cdv A_ outer s H vs Q E hr h => ?_)
  · obtain ⟨p_self, dx_self, l_self_octs, self_, count, rfl, _⟩ := h
    rfl
  · obtain ⟨p_self, dx_self, l_self_octs, self_, count, rfl, h_self, h_self_octs, pre0, pre1, pre2, k⟩ := h
    refine ⟨_, (pss_cons (ps_set (i := 2) sc_BitReader__take.nd rfl (Or.inl rfl) (vx_meth c_BitReader__look hr (by decide) (pv 0) (pa_cons (fldK (K := K) (pv 0)) (pa_cons (pv 1) pa_nil))))
      (pss_cons (ps_fldaug (pv 0) (pv 1) (pip iop_add))
      (pss_one (ps_ret (pv 2))))), ?_⟩
    have hM : ∀ a ∈ [p_self, l_self_octs], H a ≠ none := (all_cons (some_ne h_self) (all_cons (some_ne h_self_octs) all_nil))
    have S0 := Sep.start [p_self, l_self_octs] H hM
    have hpl := pre0.place
    refine ⟨_, rfl, _, _, _, rfl, h_self, rfl, _, rfl, _, _, _, _, _, rfl, h_self, T.cl_BitReader, T.n_BitReader__place, rfl, _, rfl, _, _, _, (self_ : BrS), _, _, rfl, h_self, h_self_octs, (by first | assumption | omega | decide), (by first | assumption | omega | decide), (by first | assumption | omega | decide), (by first | assumption | omega | decide), fun H155 e156 => ?_⟩
    have S157 := S0.same e156
    have h158 := (e156 _ _ h_self)
    refine ⟨_, rfl, _, _, _, _, _, rfl, h158, T.cl_BitReader, T.n_BitReader__place, rfl, _, rfl, _, _, rfl, rfl, _, _, h158, (by show 3 < 1000; decide), ?_⟩
    generalize g159 : upd H155 p_self _ = H160
    obtain ⟨x161, h162⟩ := gen_mut g159
    have h163 : H160 p_self = some (.ins AD.c_BitReader dx_self [("_octets", V.ref l_self_octs), ("_place", V.int ((self_.place + count))), ("_end", V.int (self_.stop))]) := h162
    have S164 := S157.mut1 x161 (.head _) h163
    refine ⟨_, rfl, ?_⟩
    have h165 := (x161 _ _ (e156 _ _ h_self_octs) (ne_of h_self_octs h_self (fun z => nomatch z)))
    have E166 : ((⟨self_.octs, (self_.place + count), self_.stop⟩) : BrS) = brMove self_ count := by rfl
    exact eq_int (k _ _ E166 S164.base h163 h165) (by rfl)

abbrev N_BitReader_get : List Str := ["self", "count"]
theorem sc_BitReader_get : FnScope N_BitReader_get ["self", "count"] (defScope s_BitReader_get) := ⟨rfl, rfl, rfl, by decide +kernel, rfl, by decide +kernel, by decide +kernel⟩
theorem ok_BitReader_get (D : MethIn K AD.c_BitReader "BitReader.get" "get" s_BitReader_get ["self", "count"]) (T : Txt K mg AD) (c_BitReader__take : MetC P w K mg base 2 AD.c_BitReader "_take" (sp_BitReader__take K AD)) : MetC P w K mg base 3 AD.c_BitReader "get" (sp_BitReader_get K AD) := by
  refine D.ok T.cl_BitReader sc_BitReader_get (fun vs H Q E h => ?_) (fun f cdv A_ outer s H vs Q E hr h => ?_)
  · obtain ⟨p_self, dx_self, l_self_octs, self_, count, rfl, _⟩ := h
    rfl
  · obtain ⟨p_self, dx_self, l_self_octs, self_, count, rfl, h_self, h_self_octs, pre0, pre1, pre2, k⟩ := h
    refine ⟨_, (pss_cons (ps_if (pt_not (pt_chain op_le op_le pe_int (pv 1) (C8.pe_gc rfl T.g_MOST_BITS))) (pss_one ps_never) pss_nil)
      (pss_one (ps_ret (vx_meth c_BitReader__take hr (by decide) (pv 0) (pa_cons (pv 1) pa_nil))))), ?_⟩
    have hM : ∀ a ∈ [p_self, l_self_octs], H a ≠ none := (all_cons (some_ne h_self) (all_cons (some_ne h_self_octs) all_nil))
    have S0 := Sep.start [p_self, l_self_octs] H hM
    refine ⟨_, rfl, _, _, rfl, rfl, _, rfl, ?_⟩
    refine iteDT (show 0 ≤ count from by omega) ?_
    refine ⟨_, _, rfl, rfl, _, rfl, ?_⟩
    refine iteNF (show count ≤ 64 from by omega) ?_
    refine ⟨_, rfl, _, _, _, rfl, h_self, rfl, _, rfl, _, _, _, (self_ : BrS), _, rfl, h_self, h_self_octs, (by first | assumption | omega | decide), (by first | assumption | omega | decide), (by first | assumption | omega | decide), fun H167 s168 q169 x170 h171 h173  => ?_⟩
    have S172 := S0.mut x170 (all_cons (.head _) (all_cons (.tail _ (.head _)) all_nil)) (all_cons (some_ne h171) (all_cons (some_ne h173) all_nil))
    have E174 : ((⟨s168.octs, s168.place, s168.stop⟩) : BrS) = brMove self_ count := by exact q169
    exact eq_int (k _ _ E174 S172.base h171 h173) (by rfl)

abbrev N_BitReader__zeros : List Str := ["self", "zeros"]
theorem sc_BitReader__zeros : FnScope N_BitReader__zeros ["self"] (defScope s_BitReader__zeros) := ⟨rfl, rfl, rfl, by decide +kernel, rfl, by decide +kernel, by decide +kernel⟩
theorem ok_BitReader__zeros (D : MethIn K AD.c_BitReader "BitReader._zeros" "_zeros" s_BitReader__zeros ["self"]) (T : Txt K mg AD) (c_BitReader__look : MetC P w K mg base 1 AD.c_BitReader "_look" (sp_BitReader__look K AD)) : MetC P w K mg base 2 AD.c_BitReader "_zeros" (sp_BitReader__zeros K AD) := by
  refine D.ok T.cl_BitReader sc_BitReader__zeros (fun vs H Q E h => ?_) (fun f cdv A_ outer s H vs Q E hr h => ?_)
  · obtain ⟨p_self, dx_self, l_self_octs, self_, z, rfl, _⟩ := h
    rfl
  · obtain ⟨p_self, dx_self, l_self_octs, self_, z, rfl, h_self, h_self_octs, pre0, pre1, k⟩ := h
    refine ⟨_, (pss_cons (ps_set (i := 1) sc_BitReader__zeros.nd rfl (Or.inl rfl) pe_int)
      (pss_cons (ps_while PassesOwn.never (pt_cmp (pc_eqI (vx_meth c_BitReader__look hr (by decide) (pv 0) (pa_cons (pe_op op_add (fldK (K := K) (pv 0)) (pv 1)) (pa_cons pe_int pa_nil))) pe_int)) (pss_cons (ps_aug (i := 1) sc_BitReader__zeros.nd rfl (Or.inl rfl) pe_int (pip iop_add))
      (pss_one (ps_if (pt_cmp (pc_gt (pv 1) (C8.pe_gc rfl T.g_MOST_ZEROS))) (pss_one ps_never) pss_nil))))
      (pss_one (ps_ret (pv 1))))), ?_⟩
    have S0 := Sep.start0 H
    have hpl := pre0.place
    have hz1 := pre1.most
    have hz2 := pre1.fit
    refine ⟨fun m σ H' => ∃ (zeros : Int), σ = [some (V.ref p_self), some (V.int zeros)] ∧ Sep [] H H H H' [] ∧ ((m = ((z : Int) - zeros).toNat) ∧ (0 ≤ zeros ∧ zeros ≤ (z : Int))), ?_, ?_⟩
    · refine ⟨_, _, rfl, S0, rfl, ?_⟩
      exact ⟨by decide, by omega⟩
    · intro m σ H175 hw
      obtain ⟨zeros, rfl, S176, hu⟩ := hw
      obtain ⟨hm, hu⟩ := hu
      obtain ⟨hq0, hq1⟩ := hu
      refine ⟨_, rfl, _, _, _, rfl, (S176.sG _ _ h_self), rfl, _, rfl, _, _, _, _, _, rfl, (S176.sG _ _ h_self), T.cl_BitReader, T.n_BitReader__place, rfl, _, rfl, _, _, rfl, rfl, _, _, _, (self_ : BrS), _, _, rfl, (S176.sG _ _ h_self), (S176.sG _ _ h_self_octs), (by first | assumption | omega | decide), (by first | assumption | omega | decide), (by first | assumption | omega | decide), (by first | assumption | omega | decide), fun H177 e178 => ?_⟩
      have S179 := S176.same e178
      refine ⟨_, _, rfl, rfl, _, rfl, ?_⟩
      refine iteD (fun c180 => ?_) (fun c180 => ?_)
      · have c180 : (lookB (self_).octs ((self_.place + zeros)) (1) : Int) = 0 := c180
        have hne := zeros_ne pre1 hq0 hq1 ‹_›
        refine ⟨(fun σ H' => ∃ m', (∃ (zeros : Int), σ = [some (V.ref p_self), some (V.int zeros)] ∧ Sep [] H H H H' [] ∧ ((m' = ((z : Int) - zeros).toNat) ∧ (0 ≤ zeros ∧ zeros ≤ (z : Int)))) ∧ m' < m), (fun _ _ ⟨m', a, b⟩ => ⟨m', b, a⟩), ?_⟩
        refine ⟨_, rfl, _, _, rfl, rfl, _, rfl, _, _, rfl, rfl, _, rfl, ?_⟩
        refine iteDF (show ¬ (32 < (zeros + 1)) from by omega) ?_
        refine ⟨_, ⟨_, rfl, S179, rfl, ?_⟩, ?_⟩
        · exact ⟨by omega, by omega⟩
        · omega
      · have c180 : ¬ ((lookB (self_).octs ((self_.place + zeros)) (1) : Int) = 0) := c180
        refine ⟨_, rfl, ?_⟩
        exact eq_int (k _ S179.b0) (by exact (zeros_eq pre1 hq0 hq1 ‹_›).symm)

abbrev N_BitReader_get_ue : List Str := ["self", "zeros"]
theorem sc_BitReader_get_ue : FnScope N_BitReader_get_ue ["self"] (defScope s_BitReader_get_ue) := ⟨rfl, rfl, rfl, by decide +kernel, rfl, by decide +kernel, by decide +kernel⟩
theorem ok_BitReader_get_ue (D : MethIn K AD.c_BitReader "BitReader.get_ue" "get_ue" s_BitReader_get_ue ["self"]) (T : Txt K mg AD) (c_BitReader__zeros : MetC P w K mg base 2 AD.c_BitReader "_zeros" (sp_BitReader__zeros K AD)) (c_BitReader__take : MetC P w K mg base 2 AD.c_BitReader "_take" (sp_BitReader__take K AD)) : MetC P w K mg base 3 AD.c_BitReader "get_ue" (sp_BitReader_get_ue K AD) := by
  refine D.ok T.cl_BitReader sc_BitReader_get_ue (fun vs H Q E h => ?_) (fun f cdv A_ outer s H vs Q E hr h => ?_)
  · obtain ⟨p_self, dx_self, l_self_octs, self_, z, rfl, _⟩ := h
    rfl
  · obtain ⟨p_self, dx_self, l_self_octs, self_, z, rfl, h_self, h_self_octs, pre0, pre1, pre2, k⟩ := h
    refine ⟨_, (pss_cons (ps_set (i := 1) sc_BitReader_get_ue.nd rfl (Or.inl rfl) (vx_meth0 c_BitReader__zeros hr (by decide) (pv 0)))
      (pss_one (ps_ret (pe_op op_sub (vx_meth c_BitReader__take hr (by decide) (pv 0) (pa_cons (pe_op op_add (pe_op op_mul pe_int (pv 1)) pe_int) pa_nil)) pe_int)))), ?_⟩
    have hM : ∀ a ∈ [p_self, l_self_octs], H a ≠ none := (all_cons (some_ne h_self) (all_cons (some_ne h_self_octs) all_nil))
    have S0 := Sep.start [p_self, l_self_octs] H hM
    have hz1 := pre1.most
    refine ⟨_, rfl, _, _, _, rfl, h_self, rfl, _, _, _, (self_ : BrS), _, rfl, h_self, h_self_octs, (by first | exact pre0 | exact pre1), (by first | exact pre0 | exact pre1), fun H181 e182 => ?_⟩
    have S183 := S0.same e182
    have h184 := (e182 _ _ h_self)
    have h185 := (e182 _ _ h_self_octs)
    refine ⟨_, rfl, _, _, _, rfl, h184, rfl, _, rfl, _, _, rfl, rfl, (by first | exact .inr ⟨by omega, by omega⟩ | exact .inl ⟨by omega, by omega⟩), _, _, rfl, rfl, _, _, _, (self_ : BrS), _, rfl, h184, h185, (by first | exact pre0 | omega), (by first | exact pre0 | omega), (by first | exact pre0 | omega), fun H186 s187 q188 x189 h190 h192  => ?_⟩
    have S191 := S183.mut x189 (all_cons (.head _) (all_cons (.tail _ (.head _)) all_nil)) (all_cons (some_ne h190) (all_cons (some_ne h192) all_nil))
    refine ⟨_, _, rfl, rfl, ?_⟩
    have E193 : ((⟨s187.octs, s187.place, s187.stop⟩) : BrS) = brMove self_ (2 * (z : Int) + 1) := by exact q188
    exact eq_int (k _ _ E193 S191.base h190 h192) (by rfl)

abbrev N_BitReader_get_se : List Str := ["self", "code"]
theorem sc_BitReader_get_se : FnScope N_BitReader_get_se ["self"] (defScope s_BitReader_get_se) := ⟨rfl, rfl, rfl, by decide +kernel, rfl, by decide +kernel, by decide +kernel⟩
theorem ok_BitReader_get_se (D : MethIn K AD.c_BitReader "BitReader.get_se" "get_se" s_BitReader_get_se ["self"]) (T : Txt K mg AD) (c_BitReader_get_ue : MetC P w K mg base 3 AD.c_BitReader "get_ue" (sp_BitReader_get_ue K AD)) : MetC P w K mg base 4 AD.c_BitReader "get_se" (sp_BitReader_get_se K AD) := by
  refine D.ok T.cl_BitReader sc_BitReader_get_se (fun vs H Q E h => ?_) (fun f cdv A_ outer s H vs Q E hr h => ?_)
  · obtain ⟨p_self, dx_self, l_self_octs, self_, z, rfl, _⟩ := h
    rfl
  · obtain ⟨p_self, dx_self, l_self_octs, self_, z, rfl, h_self, h_self_octs, pre0, pre1, pre2, k⟩ := h
    refine ⟨_, (pss_cons (ps_set (i := 1) sc_BitReader_get_se.nd rfl (Or.inl rfl) (vx_meth0 c_BitReader_get_ue hr (by decide) (pv 0)))
      (pss_one (ps_ret (pe_ifExp (pt_truth (pe_op op_and (pv 1) pe_int) (fun _ => rfl)) (pe_op op_fdivW (pe_op op_add (pv 1) pe_int) pe_int) (pe_un un_neg (pe_op op_fdivW (pv 1) pe_int)))))), ?_⟩
    have hM : ∀ a ∈ [p_self, l_self_octs], H a ≠ none := (all_cons (some_ne h_self) (all_cons (some_ne h_self_octs) all_nil))
    have S0 := Sep.start [p_self, l_self_octs] H hM
    refine ⟨_, rfl, _, _, _, rfl, h_self, rfl, _, _, _, (self_ : BrS), _, rfl, h_self, h_self_octs, (by first | exact pre0 | exact pre1 | exact pre2), (by first | exact pre0 | exact pre1 | exact pre2), (by first | exact pre0 | exact pre1 | exact pre2), fun H194 s195 q196 x197 h198 h200  => ?_⟩
    have S199 := S0.mut x197 (all_cons (.head _) (all_cons (.tail _ (.head _)) all_nil)) (all_cons (some_ne h198) (all_cons (some_ne h200) all_nil))
    refine vv_ifb (vt_int (val_op (val_var rfl) val_c (fun Q q => ⟨_, _, rfl, rfl, q⟩))) (val_op (val_op (val_var rfl) val_c (fun Q q => ⟨_, _, rfl, rfl, q⟩)) val_c (fun Q q => ⟨_, _, rfl, rfl, (by first | exact divW_lit (by decide) (by decide) | exact divW_small (by omega) (by omega)), q⟩)) (vv_un (val_op (val_var rfl) val_c (fun Q q => ⟨_, _, rfl, rfl, (by first | exact divW_lit (by decide) (by decide) | exact divW_small (by omega) (by omega)), q⟩)) (fun Q q => ⟨_, rfl, q⟩)) _ ?_
    have E201 : ((⟨s195.octs, s195.place, s195.stop⟩) : BrS) = brMove self_ (2 * (z : Int) + 1) := by exact q196
    exact eq_int (k _ _ E201 S199.base h198 h200) (by rfl)

abbrev N__law_draws : List Str := ["cell", "limits", "found", "rest", "state", "free", "limit"]
theorem sc__law_draws : FnScope N__law_draws ["cell", "limits"] (defScope s__law_draws) := ⟨rfl, rfl, rfl, by decide +kernel, rfl, by decide +kernel, by decide +kernel⟩
theorem ok__law_draws (D : DefIn K mg "_law_draws" s__law_draws ["cell", "limits"]) (T : Txt K mg AD)  : Cal P w K mg base 1 "_law_draws" (sp__law_draws K AD) := by
  refine D.ok sc__law_draws (fun vs H Q E h => ?_) (fun f cdv A_ outer s H vs Q E hr h => ?_)
  · obtain ⟨cell, a_limits, limits, rfl, _⟩ := h
    rfl
  · obtain ⟨cell, a_limits, limits, rfl, q_limits, pre0, pre1, k⟩ := h
    refine ⟨_, (pss_cons (ps_set (i := 2) sc__law_draws.nd rfl (Or.inl rfl) (pe_lst pa_nil))
      (pss_cons (ps_set (i := 3) sc__law_draws.nd rfl (Or.inl rfl) (pe_callB call_abs (by rfl) T.b_abs (by decide +kernel) (pa_cons (pe_callTy call_int1 (by rfl) T.b_int (by decide +kernel) (pa_cons (pv 0) pa_nil)) pa_nil)))
      (pss_cons (ps_set (i := 4) sc__law_draws.nd rfl (Or.inl rfl) (pe_op op_mod (pe_callTy call_int1 (by rfl) T.b_int (by decide +kernel) (pa_cons (pv 3) pa_nil)) pe_int))
      (pss_cons (ps_set (i := 5) sc__law_draws.nd rfl (Or.inl rfl) (pe_or (pe_cmp (pc_lt (pv 0) pe_int)) (pe_one (pe_cmp (pc_ge (pv 0) (pe_op op_pow pe_int pe_int))))))
      (pss_cons (ps_for PassesOwn.never rfl (pi_listK (K := K) (pv 1)) (pg_name (i := 6) sc__law_draws.nd rfl (Or.inl rfl)) (pss_one (ps_if (PW.pt (pw_and (pt_val (pv 5)) (pw_and1 (pt_cmp (pc_gt (pv 3) pe_int))))) (pss_cons (ps_expr (pe_bm PySem.F.plainAttrs_list PySem.F.slot_list_append PySem.F.type_list_append mt_append (pv 2) (pa_cons (pe_op op_mod (pe_callTy call_int1 (by rfl) T.b_int (by decide +kernel) (pa_cons (pv 3) pa_nil)) (pv 6)) pa_nil)))
      (pss_one (ps_set (i := 3) sc__law_draws.nd rfl (Or.inl rfl) (pe_op op_fdivW (pv 3) (pv 6))))) (pss_cons (ps_set (i := 4) sc__law_draws.nd rfl (Or.inl rfl) (pe_op op_mod (pe_callTy call_int1 (by rfl) T.b_int (by decide +kernel) (pa_cons (pe_op op_add (pe_op op_mul (pv 4) pe_int) pe_int) pa_nil)) pe_int))
      (pss_cons (ps_set (i := 4) sc__law_draws.nd rfl (Or.inl rfl) (pe_op op_mod (pe_callTy call_int1 (by rfl) T.b_int (by decide +kernel) (pa_cons (pe_op op_add (pe_op op_mul (pv 4) pe_int) pe_int) pa_nil)) pe_int))
      (pss_one (ps_expr (pe_bm PySem.F.plainAttrs_list PySem.F.slot_list_append PySem.F.type_list_append mt_append (pv 2) (pa_cons (pe_op op_mod (pe_callTy call_int1 (by rfl) T.b_int (by decide +kernel) (pa_cons (pe_op op_fdivW (pv 4) pe_int) pa_nil)) (pv 6)) pa_nil)))))))))
      (pss_one (ps_ret (pv 2)))))))), ?_⟩
    have S0 := Sep.start0 H
    refine ⟨(by show 0 ≤ sizeLine; decide), fun p202 n203 => ?_⟩
    generalize g204 : upd H p202 _ = H205
    obtain ⟨e206, h207⟩ := gen_new n203 g204
    have h208 : H205 p202 = some (.lst (([] : (List Int)).map V.int)) := h207
    have fr209 := S0.free n203
    have S210 := S0.new n203 e206 h208 fr209
    refine ⟨_, rfl, .inl ⟨_, rfl, ?_⟩⟩
    refine ⟨_, rfl, _, rfl, .inl ⟨_, rfl, ?_⟩⟩
    refine ⟨_, _, rfl, rfl, (by first | omega | decide), ?_⟩
    refine (vv_or (vv_cmp (val_var rfl) val_c (fun Q q => ⟨_, _, rfl, rfl, q⟩)) (vv_cmp (val_var rfl) (val_op val_c val_c (fun Q q => ⟨_, _, rfl, rfl, (by exact ⟨by decide, by decide, by decide⟩), q⟩)) (fun Q q => ⟨_, _, rfl, rfl, q⟩))) _ ?_
    refine ⟨_, rfl, _, rfl, ⟨_, (SqL.of (S210.sG _ _ q_limits))⟩, for_list (K := K) (a := a_limits) (xs := (limits).map V.int) (fun i σ H' => ∃ (found : (List Int)) (rest : Int) (state : Int) (u_limit : Option V), σ = [some (V.int (cell)), some (V.ref a_limits), some (V.ref p202), some (V.int rest), some (V.int state), some (V.bl ((decide (cell < 0) || decide (1000000000000000000 ≤ cell)))), u_limit] ∧ Sep [] H H H H' [p202] ∧ H' p202 = some (.lst ((found).map V.int)) ∧ (found.length = i ∧ (found, rest, state) = (limits.take i).foldl (drawStep (decide (cell < 0) || decide (1000000000000000000 ≤ cell))) ([], (if cell < 0 then -cell else cell), (if cell < 0 then -cell else cell) % 2147483647))) ?_ ?_ ?_ ?_⟩
    · refine ⟨([]), _, _, _, rfl, S210, h208, ?_⟩
      exact ⟨rfl, rfl⟩
    · intro i σ H211 _ hw
      obtain ⟨found, rest, state, u_limit, rfl, S212, h213, hu⟩ := hw
      exact (SqL.of (S212.sG _ _ q_limits))
    · intro i x σ H214 hj hw
      obtain ⟨found, rest, state, u_limit, rfl, S215, h216, hu⟩ := hw
      obtain ⟨limit, hi, rfl⟩ := map_get hj
      obtain ⟨hl, hf⟩ := hu
      have hi1 := get_len hi
      have hlim := pre0 _ (List.mem_of_getElem? hi)
      refine ⟨_, rfl, _, rfl, ?_⟩
      refine iteB (fun c217 => ?_) (fun c217 => ?_)
      · refine ⟨_, rfl, _, _, rfl, rfl, _, rfl, ?_⟩
        refine iteD (fun c218 => ?_) (fun c218 => ?_)
        · have c218 : 1 < rest := c218
          refine ⟨_, rfl, (.inl ⟨rfl, _, SqL.of h216⟩), _, rfl, .inl ⟨_, rfl, ?_⟩⟩
          refine ⟨_, rfl, _, _, rfl, rfl, (by first | omega | decide), _, _, _, rfl, rfl, h216, (app_lenM (by first | omega | (simp only [List.length_map, List.length_append, List.length_take, List.length_range, List.length_cons, List.length_nil, repL_len]; omega))), ?_⟩
          generalize g219 : upd H214 p202 _ = H220
          obtain ⟨x221, h222⟩ := gen_mut g219
          have h223 : H220 p202 = some (.lst (((found) ++ [(rest % limit)] : (List Int)).map V.int)) := snoc_map h222
          have S224 := S215.mut1 x221 (.head _) h223
          refine ⟨_, rfl, _, rfl, _, _, rfl, rfl, (by exact divW_small (by omega) (by omega)), ?_⟩
          refine ⟨((found) ++ [(rest % limit)]), _, _, _, rfl, S224, h223, ?_⟩
          refine ⟨by rw [List.length_append, hl] <;> rfl, ?_⟩
          rw [take_succ_get hi, List.foldl_append, ← hf]
          clear hf
          simp only [List.foldl_cons, List.foldl_nil]
          unfold drawStep
          split <;> simp_all <;> omega
        · have c218 : ¬ (1 < rest) := c218
          refine ⟨_, rfl, _, _, rfl, rfl, (by first | exact .inr ⟨by omega, by omega⟩ | exact .inl ⟨by omega, by omega⟩), _, _, rfl, rfl, .inl ⟨_, rfl, ?_⟩⟩
          refine ⟨_, _, rfl, rfl, (by first | omega | decide), _, rfl, _, _, rfl, rfl, (by first | exact .inr ⟨by omega, by omega⟩ | exact .inl ⟨by omega, by omega⟩), _, _, rfl, rfl, .inl ⟨_, rfl, ?_⟩⟩
          refine ⟨_, _, rfl, rfl, (by first | omega | decide), _, rfl, (.inl ⟨rfl, _, SqL.of h216⟩), _, rfl, _, _, rfl, rfl, (by first | exact divW_lit (by decide) (by decide) | exact divW_small (by omega) (by omega)), .inl ⟨_, rfl, ?_⟩⟩
          refine ⟨_, rfl, _, _, rfl, rfl, (by first | omega | decide), _, _, _, rfl, rfl, h216, (app_lenM (by first | omega | (simp only [List.length_map, List.length_append, List.length_take, List.length_range, List.length_cons, List.length_nil, repL_len]; omega))), ?_⟩
          generalize g225 : upd H214 p202 _ = H226
          obtain ⟨x227, h228⟩ := gen_mut g225
          have h229 : H226 p202 = some (.lst (((found) ++ [((((((((state * 48271) + 11) % 2147483647) * 69621) + 7) % 2147483647) / 13) % limit)] : (List Int)).map V.int)) := snoc_map h228
          have S230 := S215.mut1 x227 (.head _) h229
          refine ⟨((found) ++ [((((((((state * 48271) + 11) % 2147483647) * 69621) + 7) % 2147483647) / 13) % limit)]), _, _, _, rfl, S230, h229, ?_⟩
          refine ⟨by rw [List.length_append, hl] <;> rfl, ?_⟩
          rw [take_succ_get hi, List.foldl_append, ← hf]
          clear hf
          simp only [List.foldl_cons, List.foldl_nil]
          unfold drawStep
          split <;> simp_all <;> omega
      · refine iteF ?_
        refine ⟨_, rfl, _, _, rfl, rfl, (by first | exact .inr ⟨by omega, by omega⟩ | exact .inl ⟨by omega, by omega⟩), _, _, rfl, rfl, .inl ⟨_, rfl, ?_⟩⟩
        refine ⟨_, _, rfl, rfl, (by first | omega | decide), _, rfl, _, _, rfl, rfl, (by first | exact .inr ⟨by omega, by omega⟩ | exact .inl ⟨by omega, by omega⟩), _, _, rfl, rfl, .inl ⟨_, rfl, ?_⟩⟩
        refine ⟨_, _, rfl, rfl, (by first | omega | decide), _, rfl, (.inl ⟨rfl, _, SqL.of h216⟩), _, rfl, _, _, rfl, rfl, (by first | exact divW_lit (by decide) (by decide) | exact divW_small (by omega) (by omega)), .inl ⟨_, rfl, ?_⟩⟩
        refine ⟨_, rfl, _, _, rfl, rfl, (by first | omega | decide), _, _, _, rfl, rfl, h216, (app_lenM (by first | omega | (simp only [List.length_map, List.length_append, List.length_take, List.length_range, List.length_cons, List.length_nil, repL_len]; omega))), ?_⟩
        generalize g231 : upd H214 p202 _ = H232
        obtain ⟨x233, h234⟩ := gen_mut g231
        have h235 : H232 p202 = some (.lst (((found) ++ [((((((((state * 48271) + 11) % 2147483647) * 69621) + 7) % 2147483647) / 13) % limit)] : (List Int)).map V.int)) := snoc_map h234
        have S236 := S215.mut1 x233 (.head _) h235
        refine ⟨((found) ++ [((((((((state * 48271) + 11) % 2147483647) * 69621) + 7) % 2147483647) / 13) % limit)]), _, _, _, rfl, S236, h235, ?_⟩
        refine ⟨by rw [List.length_append, hl] <;> rfl, ?_⟩
        rw [take_succ_get hi, List.foldl_append, ← hf]
        clear hf
        simp only [List.foldl_cons, List.foldl_nil]
        unfold drawStep
        split <;> simp_all <;> omega
    · intro σ H237 hw
      rw [show ((limits).map V.int).length = (limits).length from (by rw [List.length_map])] at hw
      obtain ⟨found, rest, state, u_limit, rfl, S238, h239, hu⟩ := hw
      obtain ⟨hl, hf⟩ := hu
      refine ⟨_, rfl, ?_⟩
      exact k _ _ fr209 S238.b0 (cast_map h239 (by unfold draws; rw [List.take_length] at hf; rw [← hf]))

abbrev N__law_bits : List Str := ["value", "count", "k"]
theorem sc__law_bits : FnScope N__law_bits ["value", "count"] (defScope s__law_bits) := ⟨rfl, rfl, rfl, by decide +kernel, rfl, by decide +kernel, by decide +kernel⟩
theorem ok__law_bits (D : DefIn K mg "_law_bits" s__law_bits ["value", "count"]) (T : Txt K mg AD)  : Cal P w K mg base 1 "_law_bits" (sp__law_bits K AD) := by
  refine D.ok sc__law_bits (fun vs H Q E h => ?_) (fun f cdv A_ outer s H vs Q E hr h => ?_)
  · obtain ⟨value, count, rfl, _⟩ := h
    rfl
  · obtain ⟨value, count, rfl, pre0, k⟩ := h
    refine ⟨_, (pss_one (ps_ret (pe_lc (own := [("k", 2)]) (g := gName 2) (by rfl) sc__law_bits.nd (pi_range1 rfl T.b_range (pa_cons (pv 1) pa_nil)) (blkOk_by (own := [("k", 2)]) (N := N__law_bits) (sc := defScope s__law_bits) (by decide +kernel)) (fun _ _ _ _ _ => (pg_name (i := 2) sc__law_bits.nd rfl (Or.inl rfl))) (fun _ _ _ _ _ => pts_nil) (fun _ _ _ _ _ => (pe_op op_and (pe_op op_shr (pv 0) (pe_op op_sub (pe_op op_sub (pv 1) pe_int) (pv 2))) pe_int))))), ?_⟩
    have S0 := Sep.start0 H
    refine ⟨_, rfl, _, rfl, (by omega), (by omega), fun D240 n241 => lc_range (lo := 0) (n := (count : Int).toNat) (fun i H' => Sep [] H H H H' [D240] ∧ H' D240 = some (.lst (((List.map (fun (j : Nat) => (fun k => PySem.Builtin.bitAnd (value / 2 ^ Int.toNat (count - 1 - k)) 1) (0 + (j : Int))) (List.range i)) : (List Int)).map V.int))) ?_ ?_ ?_⟩
    · generalize g242 : upd H D240 _ = H243
      obtain ⟨e244, h245⟩ := gen_new n241 g242
      have fr246 := S0.free n241
      have S247 := S0.new n241 e244 h245 fr246
      exact ⟨S247, h245⟩
    · intro i H248 hi hw
      obtain ⟨S249, h250⟩ := hw
      refine ⟨rfl, ?_⟩
      refine tyes_go ?_
      refine ⟨_, rfl, _, rfl, _, _, rfl, rfl, _, rfl, _, _, rfl, rfl, _, _, rfl, rfl, (by omega), _, _, rfl, rfl, _, h250, (app_lenM (by first | omega | (simp only [List.length_map, List.length_append, List.length_take, List.length_range, List.length_cons, List.length_nil, repL_len]; omega))), ?_⟩
      generalize g251 : upd H248 D240 _ = H252
      obtain ⟨x253, h254⟩ := gen_mut g251
      have S255 := S249.mut1 x253 (.head _) h254
      exact ⟨S255, (compM_range h254 (by rfl))⟩
    intro H256 hw
    obtain ⟨S257, h258⟩ := hw
    have fr260 := S0.free n241
    have h259 : H256 D240 = some (.lst (((List.map (fun (j : Nat) => (fun k => PySem.Builtin.bitAnd (value / 2 ^ Int.toNat (count - 1 - k)) 1) (0 + (j : Int))) (List.range (count : Int).toNat)) : (List Int)).map V.int)) := h258
    exact k _ _ fr260 S257.b0 (cast_map h259 (by rfl))

abbrev N__law_ue : List Str := ["value", "size"]
theorem sc__law_ue : FnScope N__law_ue ["value"] (defScope s__law_ue) := ⟨rfl, rfl, rfl, by decide +kernel, rfl, by decide +kernel, by decide +kernel⟩
theorem ok__law_ue (D : DefIn K mg "_law_ue" s__law_ue ["value"]) (T : Txt K mg AD) (c__law_bits : Cal P w K mg base 1 "_law_bits" (sp__law_bits K AD)) : Cal P w K mg base 2 "_law_ue" (sp__law_ue K AD) := by
  refine D.ok sc__law_ue (fun vs H Q E h => ?_) (fun f cdv A_ outer s H vs Q E hr h => ?_)
  · obtain ⟨value, rfl, _⟩ := h
    rfl
  · obtain ⟨value, rfl, pre0, k⟩ := h
    refine ⟨_, (pss_cons (ps_set (i := 1) sc__law_ue.nd rfl (Or.inl rfl) (pe_bits (pe_op op_add (pv 0) pe_int)))
      (pss_one (ps_ret (pe_op op_cat (pe_op op_rep (pe_lst (pa_cons pe_int pa_nil)) (pe_op op_sub (pv 1) pe_int)) (vx_call c__law_bits hr (by decide) rfl (pa_cons (pe_op op_add (pv 0) pe_int) (pa_cons (pv 1) pa_nil))))))), ?_⟩
    have S0 := Sep.start0 H
    have hub := ue_in pre0.1 pre0.2
    refine ⟨_, rfl, _, _, rfl, rfl, _, rfl, (by show 1 ≤ sizeLine; decide), fun p261 n262 => ?_⟩
    generalize g263 : upd H p261 _ = H264
    obtain ⟨e265, h266⟩ := gen_new n262 g263
    have h267 : H264 p261 = some (.lst (([0] : (List Int)).map V.int)) := h266
    have fr268 := S0.free n262
    have S269 := S0.new n262 e265 h267 fr268
    refine ⟨_, rfl, _, _, rfl, rfl, _, _, _, rfl, rfl, h267, (by first | omega | decide), (by first | omega | decide), (rep_lenM (by simp only [List.length_cons, List.length_nil]; omega)), fun p270 n271 => ?_⟩
    generalize g272 : upd H264 p270 _ = H273
    obtain ⟨e274, h275⟩ := gen_new n271 g272
    have h276 : H273 p270 = some (.lst ((repL ([0]) ((((PySem.Builtin.Int.intBits ((value + 1)) : Nat) : Int) - 1)) : (List Int)).map V.int)) := rep_map h275
    have fr277 := S269.free n271
    have S278 := S269.new n271 e274 h276 fr277
    refine ⟨_, rfl, _, _, rfl, rfl, _, rfl, _, _, rfl, (by omega), fun p281 H279 n282 e280 h283 => ?_⟩
    have h284 : H279 p281 = some (.lst ((bitsL ((value + 1)) (((PySem.Builtin.Int.intBits ((value + 1)) : Nat) : Int)) : (List Int)).map V.int)) := h283
    have fr285 := S278.free n282
    have S286 := S278.new n282 e280 h284 fr285
    have h287 := (e280 _ _ h276)
    refine ⟨_, _, _, _, rfl, rfl, h287, h284, (cat_lenM (by rw [repL_len, bitsL_len]; simp only [List.length_cons, List.length_nil]; omega)), fun p288 n289 => ?_⟩
    generalize g290 : upd H279 p288 _ = H291
    obtain ⟨e292, h293⟩ := gen_new n289 g290
    have h294 : H291 p288 = some (.lst (((repL ([0]) ((((PySem.Builtin.Int.intBits ((value + 1)) : Nat) : Int) - 1))) ++ (bitsL ((value + 1)) (((PySem.Builtin.Int.intBits ((value + 1)) : Nat) : Int))) : (List Int)).map V.int)) := cat_map h293
    have fr295 := S286.free n289
    have S296 := S286.new n289 e292 h294 fr295
    exact k _ _ fr295 S296.b0 (cast_map h294 (by rfl))

abbrev N__law_se : List Str := ["value"]
theorem sc__law_se : FnScope N__law_se ["value"] (defScope s__law_se) := ⟨rfl, rfl, rfl, by decide +kernel, rfl, by decide +kernel, by decide +kernel⟩
theorem ok__law_se (D : DefIn K mg "_law_se" s__law_se ["value"]) (T : Txt K mg AD) (c__law_ue : Cal P w K mg base 2 "_law_ue" (sp__law_ue K AD)) : Cal P w K mg base 3 "_law_se" (sp__law_se K AD) := by
  refine D.ok sc__law_se (fun vs H Q E h => ?_) (fun f cdv A_ outer s H vs Q E hr h => ?_)
  · obtain ⟨value, rfl, _⟩ := h
    rfl
  · obtain ⟨value, rfl, pre0, k⟩ := h
    refine ⟨_, (pss_cons (ps_if (pt_cmp (pc_gt (pv 0) pe_int)) (pss_one (ps_ret (vx_call c__law_ue hr (by decide) rfl (pa_cons (pe_op op_sub (pe_op op_mul pe_int (pv 0)) pe_int) pa_nil)))) pss_nil)
      (pss_one (ps_ret (vx_call c__law_ue hr (by decide) rfl (pa_cons (pe_op op_mul (pe_un un_neg pe_int) (pv 0)) pa_nil))))), ?_⟩
    have S0 := Sep.start0 H
    refine ⟨_, rfl, _, _, rfl, rfl, _, rfl, ?_⟩
    refine iteD (fun c297 => ?_) (fun c297 => ?_)
    · have c297 : 0 < value := c297
      refine ⟨_, rfl, _, _, rfl, rfl, (by first | exact .inr ⟨by omega, by omega⟩ | exact .inl ⟨by omega, by omega⟩), _, _, rfl, rfl, _, rfl, (by first | assumption | omega | decide), fun p300 H298 n301 e299 h302 => ?_⟩
      have h303 : H298 p300 = some (.lst ((ueL (((2 * value) - 1)) : (List Int)).map V.int)) := h302
      have fr304 := S0.free n301
      have S305 := S0.new n301 e299 h303 fr304
      exact k _ _ fr304 S305.b0 (cast_map h303 (by unfold seCode; first | (rw [if_pos ‹_›]; done) | (rw [if_neg ‹_›]; done)))
    · have c297 : ¬ (0 < value) := c297
      refine ⟨_, rfl, _, rfl, _, _, rfl, rfl, (by first | exact .inr ⟨by omega, by omega⟩ | exact .inl ⟨by omega, by omega⟩), _, rfl, (by first | assumption | omega | decide), fun p308 H306 n309 e307 h310 => ?_⟩
      have h311 : H306 p308 = some (.lst ((ueL (((-2) * value)) : (List Int)).map V.int)) := h310
      have fr312 := S0.free n309
      have S313 := S0.new n309 e307 h311 fr312
      exact k _ _ fr312 S313.b0 (cast_map h311 (by unfold seCode; first | (rw [if_pos ‹_›]; done) | (rw [if_neg ‹_›]; done)))

abbrev N__law_packed : List Str := ["bits", "k", "j"]
theorem sc__law_packed : FnScope N__law_packed ["bits"] (defScope s__law_packed) := ⟨rfl, rfl, rfl, by decide +kernel, rfl, by decide +kernel, by decide +kernel⟩
theorem ok__law_packed (D : DefIn K mg "_law_packed" s__law_packed ["bits"]) (T : Txt K mg AD)  : Cal P w K mg base 1 "_law_packed" (sp__law_packed K AD) := by
  refine D.ok sc__law_packed (fun vs H Q E h => ?_) (fun f cdv A_ outer s H vs Q E hr h => ?_)
  · obtain ⟨a_bits, bs, rfl, _⟩ := h
    rfl
  · obtain ⟨a_bits, bs, rfl, q_bits, pre0, pre1, k⟩ := h
    refine ⟨_, (pss_cons (ps_set (i := 0) sc__law_packed.nd rfl (Or.inr rfl) (pe_op op_cat (pv 0) (pe_lst (pa_cons pe_int pa_nil))))
      (pss_cons (ps_set (i := 0) sc__law_packed.nd rfl (Or.inr rfl) (pe_op op_cat (pv 0) (pe_op op_rep (pe_lst (pa_cons pe_int pa_nil)) (pe_op op_mod (pe_op op_sub pe_int (pe_op op_mod (pe_callB (call_lenLiK (K := K)) (by rfl) T.b_len (by decide +kernel) (pa_cons (pv 0) pa_nil)) pe_int)) pe_int))))
      (pss_one (ps_ret (pe_lc (own := [("k", 1)]) (g := gName 1) (by rfl) sc__law_packed.nd (pi_range1 rfl T.b_range (pa_cons (pe_op op_fdivW (pe_callB (call_lenLiK (K := K)) (by rfl) T.b_len (by decide +kernel) (pa_cons (pv 0) pa_nil)) pe_int) pa_nil)) (blkOk_by (own := [("k", 1)]) (N := N__law_packed) (sc := defScope s__law_packed) (by decide +kernel)) (fun _ _ _ _ _ => (pg_name (i := 1) sc__law_packed.nd rfl (Or.inr rfl))) (fun _ _ _ _ _ => pts_nil) (fun _ _ _ _ _ => (pe_callB (cr_sumK (K := K) rfl) (by rfl) T.b_sum (by decide +kernel) (pa_cons (pe_lc (own := [("j", 2)]) (g := gName 2) (by rfl) sc__law_packed.nd (pi_range1 rfl T.b_range (pa_cons pe_int pa_nil)) (blkOk_by (own := [("j", 2)]) (N := N__law_packed) (sc := { kind := .function, names := [(".0", .local), ("k", .cell), ("sum", .globalImplicit), ("range", .globalImplicit), ("bits", .cell)], isGenerator := false, isCoroutine := false }) (by decide +kernel)) (fun _ _ _ _ _ => (pg_name (i := 2) sc__law_packed.nd rfl (Or.inl rfl))) (fun _ _ _ _ _ => pts_nil) (fun _ _ _ _ _ => (pe_op op_shlW (pe_ix (ix_listK (K := K)) (pv 0) (pe_op op_add (pe_op op_mul pe_int (pv 1)) (pv 2)) (fun _ _ => rfl)) (pe_op op_sub pe_int (pv 2))))) pa_nil)))))))), ?_⟩
    have S0 := Sep.start0 H
    obtain ⟨pm, hpm1, hpm2⟩ := padL_len bs
    have hpb := padL_mem pre0
    have hpb2 : ∀ k : Int, 0 ≤ k → k < ((padL bs).length : Int) → 0 ≤ itD (padL bs) k ∧ itD (padL bs) k ≤ 1 := fun k h0 h1 => hpb _ (itD_mem (by omega))
    unfold padL at hpm1 hpb2
    refine ⟨_, rfl, (by show 1 ≤ sizeLine; decide), fun p314 n315 => ?_⟩
    generalize g316 : upd H p314 _ = H317
    obtain ⟨e318, h319⟩ := gen_new n315 g316
    have h320 : H317 p314 = some (.lst (([1] : (List Int)).map V.int)) := h319
    have fr321 := S0.free n315
    have S322 := S0.new n315 e318 h320 fr321
    refine ⟨_, _, _, _, rfl, rfl, (S322.sG _ _ q_bits), h320, (cat_lenM (by first | omega | (simp only [List.length_map, List.length_append, List.length_take, List.length_range, List.length_cons, List.length_nil, repL_len]; omega))), fun p323 n324 => ?_⟩
    generalize g325 : upd H317 p323 _ = H326
    obtain ⟨e327, h328⟩ := gen_new n324 g325
    have h329 : H326 p323 = some (.lst (((bs) ++ ([1]) : (List Int)).map V.int)) := cat_map h328
    have fr330 := S322.free n324
    have S331 := S322.new n324 e327 h329 fr330
    refine ⟨_, rfl, (by show 1 ≤ sizeLine; decide), fun p332 n333 => ?_⟩
    generalize g334 : upd H326 p332 _ = H335
    obtain ⟨e336, h337⟩ := gen_new n333 g334
    have h338 : H335 p332 = some (.lst (([0] : (List Int)).map V.int)) := h337
    have fr339 := S331.free n333
    have S340 := S331.new n333 e336 h338 fr339
    have h341 := (e336 _ _ h329)
    refine ⟨_, rfl, _, _, rfl, (SqL.of h341), _, _, rfl, rfl, (by first | omega | decide), _, _, rfl, rfl, _, _, rfl, rfl, (by first | omega | decide), _, _, _, rfl, rfl, h338, (by first | omega | decide), (by first | omega | decide), (rep_lenM (by first | omega | (simp only [List.length_map, List.length_append, List.length_take, List.length_range, List.length_cons, List.length_nil, repL_len]; omega))), fun p342 n343 => ?_⟩
    generalize g344 : upd H335 p342 _ = H345
    obtain ⟨e346, h347⟩ := gen_new n343 g344
    have h348 : H345 p342 = some (.lst ((repL ([0]) (((8 - (((((bs) ++ ([1])) : (List Int)).length : Int) % 8)) % 8)) : (List Int)).map V.int)) := rep_map h347
    have fr349 := S340.free n343
    have S350 := S340.new n343 e346 h348 fr349
    have h351 := (e346 _ _ h341)
    refine ⟨_, _, _, _, rfl, rfl, h351, h348, (cat_lenM (by first | omega | (simp only [List.length_map, List.length_append, List.length_take, List.length_range, List.length_cons, List.length_nil, repL_len]; omega))), fun p352 n353 => ?_⟩
    generalize g354 : upd H345 p352 _ = H355
    obtain ⟨e356, h357⟩ := gen_new n353 g354
    have h358 : H355 p352 = some (.lst ((((bs) ++ ([1])) ++ (repL ([0]) (((8 - (((((bs) ++ ([1])) : (List Int)).length : Int) % 8)) % 8))) : (List Int)).map V.int)) := cat_map h357
    have fr359 := S350.free n353
    have S360 := S350.new n353 e356 h358 fr359
    refine ⟨_, rfl, _, _, rfl, (SqL.of h358), _, _, rfl, rfl, (by first | exact divW_lit (by decide) (by decide) | exact divW_small (by omega) (by omega)), _, rfl, (by omega), (by omega), fun D361 n362 => lc_range (lo := 0) (n := (((((((bs) ++ ([1])) ++ (repL ([0]) (((8 - (((((bs) ++ ([1])) : (List Int)).length : Int) % 8)) % 8)))) : (List Int)).length : Int) / 8) : Int).toNat) (fun i H' => Sep [] H H H H' [D361, p352] ∧ H' p352 = some (.lst ((((bs) ++ ([1])) ++ (repL ([0]) (((8 - (((((bs) ++ ([1])) : (List Int)).length : Int) % 8)) % 8)))).map V.int)) ∧ H' D361 = some (.lst (((List.map (fun (j : Nat) => (fun k => List.sum ((List.range 8).map fun (j : Nat) => itD (padL bs) (8 * k + (0 + (j : Int))) * 2 ^ Int.toNat (7 - (0 + (j : Int))))) (0 + (j : Int))) (List.range i)) : (List Int)).map V.int))) ?_ ?_ ?_⟩
    · generalize g363 : upd H355 D361 _ = H364
      obtain ⟨e365, h366⟩ := gen_new n362 g363
      have fr367 := S360.free n362
      have S368 := S360.new n362 e365 h366 fr367
      have h369 := (e365 _ _ h358)
      exact ⟨(S368.sub (all_cons (.head _) (all_cons (.tail _ (.head _)) all_nil))), h369, h366⟩
    · intro i H370 hi hw
      obtain ⟨S371, h372, h373⟩ := hw
      refine ⟨rfl, ?_⟩
      refine tyes_go ?_
      refine ⟨_, rfl, (by omega), (by omega), fun D374 n375 => lc_range (lo := 0) (n := (8 : Int).toNat) (fun i2 H' => Sep [] H H H H' [D374, p352, D361] ∧ H' p352 = some (.lst ((((bs) ++ ([1])) ++ (repL ([0]) (((8 - (((((bs) ++ ([1])) : (List Int)).length : Int) % 8)) % 8)))).map V.int)) ∧ H' D361 = some (.lst (((List.map (fun (j : Nat) => (fun k => List.sum ((List.range 8).map fun (j : Nat) => itD (padL bs) (8 * k + (0 + (j : Int))) * 2 ^ Int.toNat (7 - (0 + (j : Int))))) (0 + (j : Int))) (List.range i))).map V.int)) ∧ H' D374 = some (.lst (((List.map (fun (j : Nat) => (fun j => itD (padL bs) (8 * (0 + (i : Int)) + j) * 2 ^ Int.toNat (7 - j)) (0 + (j : Int))) (List.range i2)) : (List Int)).map V.int))) ?_ ?_ ?_⟩
      · generalize g376 : upd H370 D374 _ = H377
        obtain ⟨e378, h379⟩ := gen_new n375 g376
        have fr380 := S371.free n375
        have S381 := S371.new n375 e378 h379 fr380
        have h382 := (e378 _ _ h372)
        have h383 := (e378 _ _ h373)
        exact ⟨(S381.sub (all_cons (.head _) (all_cons (.tail _ (.tail _ (.head _))) (all_cons (.tail _ (.head _)) all_nil)))), h382, h383, h379⟩
      · intro i2 H384 hi hw
        obtain ⟨S385, h386, h387, h388⟩ := hw
        refine ⟨rfl, ?_⟩
        refine tyes_go ?_
        refine ⟨_, rfl, _, rfl, _, _, rfl, rfl, (by first | exact .inr ⟨by omega, by omega⟩ | exact .inl ⟨by omega, by omega⟩), _, rfl, _, _, rfl, rfl, _, _, _, _, rfl, rfl, (SqL.of h386), (atI_map (by first | omega | (simp only [List.length_cons, List.length_nil]; omega))), _, rfl, _, _, rfl, rfl, _, _, rfl, rfl, (by have hb8 := hpb2 (8 * (0 + (i : Int)) + (0 + (i2 : Int))) (by omega) (by omega); exact shl_side (by omega) (by omega) (by omega) (by omega)), _, h388, (app_lenM (by first | omega | (simp only [List.length_map, List.length_append, List.length_take, List.length_range, List.length_cons, List.length_nil, repL_len]; omega))), ?_⟩
        generalize g389 : upd H384 D374 _ = H390
        obtain ⟨x391, h392⟩ := gen_mut g389
        have S393 := S385.mut1 x391 (.head _) h392
        have h394 := (x391 _ _ h386 (ne_of_none h372 n375))
        have h395 := (x391 _ _ h387 (ne_of_none h373 n375))
        exact ⟨S393, h394, h395, (compM_range h392 (by rfl))⟩
      intro H396 hw
      obtain ⟨S397, h398, h399, h400⟩ := hw
      have fr402 := S371.free n375
      have h401 : H396 D374 = some (.lst (((List.map (fun (j : Nat) => (fun j => itD (padL bs) (8 * (0 + (i : Int)) + j) * 2 ^ Int.toNat (7 - j)) (0 + (j : Int))) (List.range (8 : Int).toNat)) : (List Int)).map V.int)) := h400
      refine ⟨_, _, rfl, (SqL.of h401), _, h399, (app_lenM (by rw [List.length_map, List.length_range]; omega)), ?_⟩
      generalize g403 : upd H396 D361 _ = H404
      obtain ⟨x405, h406⟩ := gen_mut g403
      have S407 := S397.mut1 x405 (.tail _ (.tail _ (.head _))) h406
      have h408 := (x405 _ _ h398 (ne_of_none h358 n362))
      exact ⟨(S407.sub (all_cons (.tail _ (.tail _ (.head _))) (all_cons (.tail _ (.head _)) all_nil))), h408, (compM_range h406 (by rfl))⟩
    intro H409 hw
    obtain ⟨S410, h411, h412⟩ := hw
    have fr414 := S360.free n362
    have h413 : H409 D361 = some (.lst (((List.map (fun (j : Nat) => (fun k => List.sum ((List.range 8).map fun (j : Nat) => itD (padL bs) (8 * k + (0 + (j : Int))) * 2 ^ Int.toNat (7 - (0 + (j : Int))))) (0 + (j : Int))) (List.range (((((((bs) ++ ([1])) ++ (repL ([0]) (((8 - (((((bs) ++ ([1])) : (List Int)).length : Int) % 8)) % 8)))) : (List Int)).length : Int) / 8) : Int).toNat)) : (List Int)).map V.int)) := h412
    exact k _ _ fr414 S410.b0 (cast_map h413 (by rfl))

abbrev N__law_item : List Str := ["cell", "draws", "kind", "count", "value"]
theorem sc__law_item : FnScope N__law_item ["cell"] (defScope s__law_item) := ⟨rfl, rfl, rfl, by decide +kernel, rfl, by decide +kernel, by decide +kernel⟩
theorem ok__law_item (D : DefIn K mg "_law_item" s__law_item ["cell"]) (T : Txt K mg AD) (c__law_draws : Cal P w K mg base 1 "_law_draws" (sp__law_draws K AD)) : Cal P w K mg base 2 "_law_item" (sp__law_item K AD) := by
  refine D.ok sc__law_item (fun vs H Q E h => ?_) (fun f cdv A_ outer s H vs Q E hr h => ?_)
  · obtain ⟨G, cell, rfl, _⟩ := h
    rfl
  · obtain ⟨G, cell, rfl, sG, k⟩ := h
    refine ⟨_, (pss_cons (ps_set (i := 1) sc__law_item.nd rfl (Or.inl rfl) (vx_call c__law_draws hr (by decide) rfl (pa_cons (pv 0) (pa_cons (pe_lst (pa_cons pe_int (pa_cons pe_int (pa_cons pe_int (pa_cons (pe_op op_pow pe_int pe_int) (pa_cons (pe_op op_add (pe_op op_pow pe_int pe_int) pe_int) pa_nil)))))) pa_nil))))
      (pss_cons (ps_set (i := 2) sc__law_item.nd rfl (Or.inl rfl) (pe_ix (ix_listK (K := K)) (pv 1) pe_int (fun _ _ => rfl)))
      (pss_cons (ps_if (pt_cmp (pc_eqI (pv 2) pe_int)) (pss_cons (ps_set (i := 3) sc__law_item.nd rfl (Or.inl rfl) (pe_ix (ix_listK (K := K)) (pe_lst (pa_cons pe_int (pa_cons pe_int (pa_cons pe_int (pa_cons (pe_ix (ix_listK (K := K)) (pv 1) pe_int (fun _ _ => rfl)) (pa_cons (pe_ix (ix_listK (K := K)) (pv 1) pe_int (fun _ _ => rfl)) (pa_cons (pe_ix (ix_listK (K := K)) (pv 1) pe_int (fun _ _ => rfl)) pa_nil))))))) (pe_ix (ix_listK (K := K)) (pv 1) pe_int (fun _ _ => rfl)) (fun _ _ => rfl)))
      (pss_one (ps_ret (pe_tup (pa_cons pe_int (pa_cons (pe_op op_mod (pe_callTy call_int1 (by rfl) T.b_int (by decide +kernel) (pa_cons (pe_ix (ix_listK (K := K)) (pv 1) pe_int (fun _ _ => rfl)) pa_nil)) (pe_op op_shlW pe_int (pv 3))) (pa_cons (pv 3) pa_nil))))))) pss_nil)
      (pss_cons (ps_if (pt_cmp (pc_eqI (pv 2) pe_int)) (pss_one (ps_ret (pe_tup (pa_cons pe_int (pa_cons (pe_ix (ix_listK (K := K)) (pe_lst (pa_cons pe_int (pa_cons pe_int (pa_cons (pe_op op_pow pe_int pe_int) (pa_cons (pe_op op_sub (pe_op op_pow pe_int pe_int) pe_int) (pa_cons (pe_ix (ix_listK (K := K)) (pv 1) pe_int (fun _ _ => rfl)) (pa_cons (pe_op op_mod (pe_callTy call_int1 (by rfl) T.b_int (by decide +kernel) (pa_cons (pe_ix (ix_listK (K := K)) (pv 1) pe_int (fun _ _ => rfl)) pa_nil)) pe_int) pa_nil))))))) (pe_ix (ix_listK (K := K)) (pv 1) pe_int (fun _ _ => rfl)) (fun _ _ => rfl)) (pa_cons pe_int pa_nil)))))) pss_nil)
      (pss_cons (ps_set (i := 4) sc__law_item.nd rfl (Or.inl rfl) (pe_op op_sub (pe_ix (ix_listK (K := K)) (pv 1) pe_int (fun _ _ => rfl)) (pe_op op_pow pe_int pe_int)))
      (pss_one (ps_ret (pe_tup (pa_cons pe_int (pa_cons (pe_ix (ix_listK (K := K)) (pe_lst (pa_cons pe_int (pa_cons (pe_un un_neg pe_int) (pa_cons (pe_op op_pow pe_int pe_int) (pa_cons (pe_un un_neg (pe_op op_pow pe_int pe_int)) (pa_cons (pv 4) (pa_cons (pe_op op_sub (pe_op op_mod (pe_callTy call_int1 (by rfl) T.b_int (by decide +kernel) (pa_cons (pv 4) pa_nil)) pe_int) pe_int) pa_nil))))))) (pe_ix (ix_listK (K := K)) (pv 1) pe_int (fun _ _ => rfl)) (fun _ _ => rfl)) (pa_cons pe_int pa_nil))))))))))), ?_⟩
    have S0 := Sep.startG sG
    refine ⟨_, rfl, _, _, rfl, rfl, (by exact ⟨by decide, by decide, by decide⟩), _, _, rfl, rfl, (by exact ⟨by decide, by decide, by decide⟩), _, _, rfl, rfl, (by show 5 ≤ sizeLine; decide), fun p415 n416 => ?_⟩
    generalize g417 : upd H p415 _ = H418
    obtain ⟨e419, h420⟩ := gen_new n416 g417
    have h421 : H418 p415 = some (.lst (([3, 6, 65, 18446744073709551616, (4294967296 + 1)] : (List Int)).map V.int)) := h420
    have fr422 := S0.free n416
    have S423 := S0.new n416 e419 h421 fr422
    refine ⟨_, _, _, rfl, h421, (by first | assumption | omega | decide), (by first | assumption | omega | decide), fun p426 H424 n427 e425 h428 => ?_⟩
    have h429 : H424 p426 = some (.lst ((draws (cell) ([3, 6, 65, 18446744073709551616, (4294967296 + 1)]) : (List Int)).map V.int)) := h428
    have fr430 := S423.free n427
    have S431 := S423.new n427 e425 h429 fr430
    obtain ⟨d_len, d0, d1, d2, d3, d4⟩ := drawsB cell
    refine ⟨_, rfl, _, _, _, _, rfl, rfl, (SqL.of h429), (atI_map (by omega)), _, rfl, _, _, rfl, rfl, _, rfl, ?_⟩
    refine iteD (fun c432 => ?_) (fun c432 => ?_)
    · have c432 : ((itD (draws (cell) ([3, 6, 65, 18446744073709551616, (4294967296 + 1)])) (0)) : Int) = 0 := c432
      refine ⟨_, rfl, _, _, _, _, rfl, rfl, (SqL.of h429), (atI_map (by omega)), _, rfl, _, _, _, _, rfl, rfl, (SqL.of h429), (atI_map (by omega)), _, rfl, _, _, _, _, rfl, rfl, (SqL.of h429), (atI_map (by omega)), (by show 6 ≤ sizeLine; decide), fun p433 n434 => ?_⟩
      generalize g435 : upd H424 p433 _ = H436
      obtain ⟨e437, h438⟩ := gen_new n434 g435
      have h439 : H436 p433 = some (.lst (([0, 1, 64, (itD (draws (cell) ([3, 6, 65, 18446744073709551616, (4294967296 + 1)])) (2)), (itD (draws (cell) ([3, 6, 65, 18446744073709551616, (4294967296 + 1)])) (2)), (itD (draws (cell) ([3, 6, 65, 18446744073709551616, (4294967296 + 1)])) (2))] : (List Int)).map V.int)) := h438
      have fr440 := S431.free n434
      have S441 := S431.new n434 e437 h439 fr440
      have h442 := (e437 _ _ h429)
      refine ⟨_, rfl, _, _, _, _, rfl, rfl, (SqL.of h442), (atI_map (by omega)), _, _, _, _, rfl, rfl, (SqL.of h439), (atI_map (by simp only [List.length_cons, List.length_nil]; omega)), ?_⟩
      have hct := countB_in cell
      have hcp := pow_pos2 (countB cell).toNat
      unfold countB at hct hcp
      refine ⟨_, rfl, _, _, _, _, rfl, rfl, (SqL.of h442), (atI_map (by omega)), .inl ⟨_, rfl, ?_⟩⟩
      refine ⟨_, rfl, _, _, rfl, rfl, (by exact shl_side (by omega) (by omega) (by decide) (by decide)), _, _, rfl, rfl, (by rw [Int.one_mul]; exact hcp), _, rfl, (by show 3 ≤ sizeLine; decide), fun p443 n444 => ?_⟩
      generalize g445 : upd H436 p443 _ = H446
      obtain ⟨e447, h448⟩ := gen_new n444 g445
      have h449 : H446 p443 = some (.tup [V.int (0), V.int (((itD (draws (cell) ([3, 6, 65, 18446744073709551616, (4294967296 + 1)])) (3)) % (1 * 2 ^ ((itD ([0, 1, 64, (itD (draws (cell) ([3, 6, 65, 18446744073709551616, (4294967296 + 1)])) (2)), (itD (draws (cell) ([3, 6, 65, 18446744073709551616, (4294967296 + 1)])) (2)), (itD (draws (cell) ([3, 6, 65, 18446744073709551616, (4294967296 + 1)])) (2))]) ((itD (draws (cell) ([3, 6, 65, 18446744073709551616, (4294967296 + 1)])) (1)))) : Int).toNat))), V.int ((itD ([0, 1, 64, (itD (draws (cell) ([3, 6, 65, 18446744073709551616, (4294967296 + 1)])) (2)), (itD (draws (cell) ([3, 6, 65, 18446744073709551616, (4294967296 + 1)])) (2)), (itD (draws (cell) ([3, 6, 65, 18446744073709551616, (4294967296 + 1)])) (2))]) ((itD (draws (cell) ([3, 6, 65, 18446744073709551616, (4294967296 + 1)])) (1)))))]) := h448
      have fr450 := S441.free n444
      obtain ⟨G452, eG453, hg454, S451⟩ := S441.grow n444 e447 h449 fr450
      exact k _ _ _ S451.b0 S451.g0 S451.sG S451.gn (rp_cast (rp_mk3 hg454 (.int _) (.int _) (.int _)) (by unfold itemB countB; first | (rw [if_pos ‹_›]; done) | (rw [if_neg ‹_›, if_pos ‹_›]; done) | (rw [if_neg ‹_›, if_neg ‹_›]; done)))
    · have c432 : ¬ (((itD (draws (cell) ([3, 6, 65, 18446744073709551616, (4294967296 + 1)])) (0)) : Int) = 0) := c432
      refine ⟨_, rfl, _, _, rfl, rfl, _, rfl, ?_⟩
      refine iteD (fun c455 => ?_) (fun c455 => ?_)
      · have c455 : ((itD (draws (cell) ([3, 6, 65, 18446744073709551616, (4294967296 + 1)])) (0)) : Int) = 1 := c455
        refine ⟨_, _, rfl, rfl, (by exact ⟨by decide, by decide, by decide⟩), _, _, rfl, rfl, (by exact ⟨by decide, by decide, by decide⟩), _, _, rfl, rfl, _, rfl, _, _, _, _, rfl, rfl, (SqL.of h429), (atI_map (by omega)), _, rfl, _, _, _, _, rfl, rfl, (SqL.of h429), (atI_map (by omega)), .inl ⟨_, rfl, ?_⟩⟩
        refine ⟨_, _, rfl, rfl, (by first | omega | decide), (by show 6 ≤ sizeLine; decide), fun p456 n457 => ?_⟩
        generalize g458 : upd H424 p456 _ = H459
        obtain ⟨e460, h461⟩ := gen_new n457 g458
        have h462 : H459 p456 = some (.lst (([0, 1, 4294967296, (4294967296 - 1), (itD (draws (cell) ([3, 6, 65, 18446744073709551616, (4294967296 + 1)])) (4)), ((itD (draws (cell) ([3, 6, 65, 18446744073709551616, (4294967296 + 1)])) (4)) % 200)] : (List Int)).map V.int)) := h461
        have fr463 := S431.free n457
        have S464 := S431.new n457 e460 h462 fr463
        have h465 := (e460 _ _ h429)
        refine ⟨_, rfl, _, _, _, _, rfl, rfl, (SqL.of h465), (atI_map (by omega)), _, _, _, _, rfl, rfl, (SqL.of h462), (atI_map (by simp only [List.length_cons, List.length_nil]; omega)), (by show 3 ≤ sizeLine; decide), fun p466 n467 => ?_⟩
        generalize g468 : upd H459 p466 _ = H469
        obtain ⟨e470, h471⟩ := gen_new n467 g468
        have h472 : H469 p466 = some (.tup [V.int (1), V.int ((itD ([0, 1, 4294967296, (4294967296 - 1), (itD (draws (cell) ([3, 6, 65, 18446744073709551616, (4294967296 + 1)])) (4)), ((itD (draws (cell) ([3, 6, 65, 18446744073709551616, (4294967296 + 1)])) (4)) % 200)]) ((itD (draws (cell) ([3, 6, 65, 18446744073709551616, (4294967296 + 1)])) (1))))), V.int (0)]) := h471
        have fr473 := S464.free n467
        obtain ⟨G475, eG476, hg477, S474⟩ := S464.grow n467 e470 h472 fr473
        exact k _ _ _ S474.b0 S474.g0 S474.sG S474.gn (rp_cast (rp_mk3 hg477 (.int _) (.int _) (.int _)) (by unfold itemB countB; first | (rw [if_pos ‹_›]; done) | (rw [if_neg ‹_›, if_pos ‹_›]; done) | (rw [if_neg ‹_›, if_neg ‹_›]; done)))
      · have c455 : ¬ (((itD (draws (cell) ([3, 6, 65, 18446744073709551616, (4294967296 + 1)])) (0)) : Int) = 1) := c455
        refine ⟨_, rfl, _, _, _, _, rfl, rfl, (SqL.of h429), (atI_map (by omega)), _, _, rfl, rfl, (by exact ⟨by decide, by decide, by decide⟩), _, _, rfl, rfl, _, rfl, _, _, rfl, rfl, (by exact ⟨by decide, by decide, by decide⟩), _, _, rfl, rfl, (by exact ⟨by decide, by decide, by decide⟩), _, rfl, _, rfl, _, rfl, .inl ⟨_, rfl, ?_⟩⟩
        refine ⟨_, _, rfl, rfl, (by first | omega | decide), _, _, rfl, rfl, (by show 6 ≤ sizeLine; decide), fun p478 n479 => ?_⟩
        generalize g480 : upd H424 p478 _ = H481
        obtain ⟨e482, h483⟩ := gen_new n479 g480
        have h484 : H481 p478 = some (.lst (([0, (-1), 2147483648, (-2147483648), ((itD (draws (cell) ([3, 6, 65, 18446744073709551616, (4294967296 + 1)])) (4)) - 2147483648), ((((itD (draws (cell) ([3, 6, 65, 18446744073709551616, (4294967296 + 1)])) (4)) - 2147483648) % 200) - 100)] : (List Int)).map V.int)) := h483
        have fr485 := S431.free n479
        have S486 := S431.new n479 e482 h484 fr485
        have h487 := (e482 _ _ h429)
        refine ⟨_, rfl, _, _, _, _, rfl, rfl, (SqL.of h487), (atI_map (by omega)), _, _, _, _, rfl, rfl, (SqL.of h484), (atI_map (by simp only [List.length_cons, List.length_nil]; omega)), (by show 3 ≤ sizeLine; decide), fun p488 n489 => ?_⟩
        generalize g490 : upd H481 p488 _ = H491
        obtain ⟨e492, h493⟩ := gen_new n489 g490
        have h494 : H491 p488 = some (.tup [V.int (2), V.int ((itD ([0, (-1), 2147483648, (-2147483648), ((itD (draws (cell) ([3, 6, 65, 18446744073709551616, (4294967296 + 1)])) (4)) - 2147483648), ((((itD (draws (cell) ([3, 6, 65, 18446744073709551616, (4294967296 + 1)])) (4)) - 2147483648) % 200) - 100)]) ((itD (draws (cell) ([3, 6, 65, 18446744073709551616, (4294967296 + 1)])) (1))))), V.int (0)]) := h493
        have fr495 := S486.free n489
        obtain ⟨G497, eG498, hg499, S496⟩ := S486.grow n489 e492 h494 fr495
        exact k _ _ _ S496.b0 S496.g0 S496.sG S496.gn (rp_cast (rp_mk3 hg499 (.int _) (.int _) (.int _)) (by unfold itemB countB; first | (rw [if_pos ‹_›]; done) | (rw [if_neg ‹_›, if_pos ‹_›]; done) | (rw [if_neg ‹_›, if_neg ‹_›]; done)))

abbrev N__law_put : List Str := ["writer", "item"]
theorem sc__law_put : FnScope N__law_put ["writer", "item"] (defScope s__law_put) := ⟨rfl, rfl, rfl, by decide +kernel, rfl, by decide +kernel, by decide +kernel⟩
theorem ok__law_put (D : DefIn K mg "_law_put" s__law_put ["writer", "item"]) (T : Txt K mg AD) (c_BitWriter_put : MetC P w K mg base 2 AD.c_BitWriter "put" (sp_BitWriter_put K AD)) (c__law_bits : Cal P w K mg base 1 "_law_bits" (sp__law_bits K AD)) (c_BitWriter_put_ue : MetC P w K mg base 2 AD.c_BitWriter "put_ue" (sp_BitWriter_put_ue K AD)) (c__law_ue : Cal P w K mg base 2 "_law_ue" (sp__law_ue K AD)) (c_BitWriter_put_se : MetC P w K mg base 3 AD.c_BitWriter "put_se" (sp_BitWriter_put_se K AD)) (c__law_se : Cal P w K mg base 3 "_law_se" (sp__law_se K AD)) : Cal P w K mg base 4 "_law_put" (sp__law_put K AD) := by
  refine D.ok sc__law_put (fun vs H Q E h => ?_) (fun f cdv A_ outer s H vs Q E hr h => ?_)
  · obtain ⟨p_writer, dx_writer, l_writer_full, w, v_item, it, rfl, _⟩ := h
    rfl
  · obtain ⟨p_writer, dx_writer, l_writer_full, w, v_item, it, rfl, h_writer, h_writer_full, r_item, pre0, pre1, pre2, k⟩ := h
    refine ⟨_, (pss_cons (ps_if (pt_cmp (pc_eqI (pe_ix (ix_tupK (K := K)) (pv 1) pe_int (fun _ _ => rfl)) pe_int)) (pss_cons (ps_expr (vx_meth c_BitWriter_put hr (by decide) (pv 0) (pa_cons (pe_ix (ix_tupK (K := K)) (pv 1) pe_int (fun _ _ => rfl)) (pa_cons (pe_ix (ix_tupK (K := K)) (pv 1) pe_int (fun _ _ => rfl)) pa_nil))))
      (pss_one (ps_ret (vx_call c__law_bits hr (by decide) rfl (pa_cons (pe_ix (ix_tupK (K := K)) (pv 1) pe_int (fun _ _ => rfl)) (pa_cons (pe_ix (ix_tupK (K := K)) (pv 1) pe_int (fun _ _ => rfl)) pa_nil)))))) pss_nil)
      (pss_cons (ps_if (pt_cmp (pc_eqI (pe_ix (ix_tupK (K := K)) (pv 1) pe_int (fun _ _ => rfl)) pe_int)) (pss_cons (ps_expr (vx_meth c_BitWriter_put_ue hr (by decide) (pv 0) (pa_cons (pe_ix (ix_tupK (K := K)) (pv 1) pe_int (fun _ _ => rfl)) pa_nil)))
      (pss_one (ps_ret (vx_call c__law_ue hr (by decide) rfl (pa_cons (pe_ix (ix_tupK (K := K)) (pv 1) pe_int (fun _ _ => rfl)) pa_nil))))) pss_nil)
      (pss_cons (ps_expr (vx_meth c_BitWriter_put_se hr (by decide) (pv 0) (pa_cons (pe_ix (ix_tupK (K := K)) (pv 1) pe_int (fun _ _ => rfl)) pa_nil)))
      (pss_one (ps_ret (vx_call c__law_se hr (by decide) rfl (pa_cons (pe_ix (ix_tupK (K := K)) (pv 1) pe_int (fun _ _ => rfl)) pa_nil))))))), ?_⟩
    have hM : ∀ a ∈ [p_writer, l_writer_full], H a ≠ none := (all_cons (some_ne h_writer) (all_cons (some_ne h_writer_full) all_nil))
    have S0 := Sep.start [p_writer, l_writer_full] H hM
    obtain ⟨a500, v502, v503, v504, rfl, h501, r505, r506, r507⟩ := rp_tup3 r_item
    obtain rfl := rp_int r505
    obtain rfl := rp_int r506
    obtain rfl := rp_int r507
    have hio := pre1
    unfold ItOk at hio
    refine ⟨_, rfl, _, _, _, _, rfl, rfl, (SqT.of (S0.sG _ _ h501)), rfl, _, _, rfl, rfl, _, rfl, ?_⟩
    refine iteD (fun c508 => ?_) (fun c508 => ?_)
    · have c508 : (it.1 : Int) = 0 := c508
      refine ⟨_, rfl, _, _, _, rfl, h_writer, rfl, _, rfl, _, _, _, _, rfl, rfl, (SqT.of (S0.sG _ _ h501)), rfl, _, rfl, _, _, _, _, rfl, rfl, (SqT.of (S0.sG _ _ h501)), rfl, _, _, _, (w : BwS), _, _, rfl, h_writer, h_writer_full, (by first | assumption | omega | decide), (by first | assumption | omega | decide), (by first | assumption | omega | decide), (by first | assumption | omega | decide), fun H509 s510 q511 x512 h513 h515  => ?_⟩
      have S514 := S0.mut x512 (all_cons (.head _) (all_cons (.tail _ (.head _)) all_nil)) (all_cons (some_ne h513) (all_cons (some_ne h515) all_nil))
      refine ⟨_, rfl, _, _, _, _, rfl, rfl, (SqT.of (S514.sG _ _ h501)), rfl, _, rfl, _, _, _, _, rfl, rfl, (SqT.of (S514.sG _ _ h501)), rfl, _, _, rfl, (by first | assumption | omega | decide), fun p518 H516 n519 e517 h520 => ?_⟩
      have h521 : H516 p518 = some (.lst ((bitsL (it.2.1) (it.2.2) : (List Int)).map V.int)) := h520
      have fr522 := S514.free n519
      have S523 := S514.new n519 e517 h521 fr522
      have h524 := (e517 _ _ h513)
      have h525 := (e517 _ _ h515)
      have E526 : ((⟨s510.full, s510.rest, s510.bits⟩) : BwS) = itAdd w it := by unfold itAdd; first | (rw [if_pos ‹_›]; exact q511) | (rw [if_neg ‹_›, if_pos ‹_›]; exact q511) | (rw [if_neg ‹_›, if_neg ‹_›]; exact q511)
      exact (k _ _ E526 S523.base h524 h525) _ fr522 (cast_map h521 (by unfold itBits; first | (rw [if_pos ‹_›]; done) | (rw [if_neg ‹_›, if_pos ‹_›]; done) | (rw [if_neg ‹_›, if_neg ‹_›]; done)))
    · have c508 : ¬ ((it.1 : Int) = 0) := c508
      refine ⟨_, rfl, _, _, _, _, rfl, rfl, (SqT.of (S0.sG _ _ h501)), rfl, _, _, rfl, rfl, _, rfl, ?_⟩
      refine iteD (fun c527 => ?_) (fun c527 => ?_)
      · have c527 : (it.1 : Int) = 1 := c527
        refine ⟨_, rfl, _, _, _, rfl, h_writer, rfl, _, rfl, _, _, _, _, rfl, rfl, (SqT.of (S0.sG _ _ h501)), rfl, _, _, _, (w : BwS), _, rfl, h_writer, h_writer_full, (by first | assumption | omega | decide), (by first | assumption | omega | decide), (by first | assumption | omega | decide), fun H528 s529 q530 x531 h532 h534  => ?_⟩
        have S533 := S0.mut x531 (all_cons (.head _) (all_cons (.tail _ (.head _)) all_nil)) (all_cons (some_ne h532) (all_cons (some_ne h534) all_nil))
        refine ⟨_, rfl, _, _, _, _, rfl, rfl, (SqT.of (S533.sG _ _ h501)), rfl, _, rfl, (by first | assumption | omega | decide), fun p537 H535 n538 e536 h539 => ?_⟩
        have h540 : H535 p537 = some (.lst ((ueL (it.2.1) : (List Int)).map V.int)) := h539
        have fr541 := S533.free n538
        have S542 := S533.new n538 e536 h540 fr541
        have h543 := (e536 _ _ h532)
        have h544 := (e536 _ _ h534)
        have E545 : ((⟨s529.full, s529.rest, s529.bits⟩) : BwS) = itAdd w it := by unfold itAdd; first | (rw [if_pos ‹_›]; exact q530) | (rw [if_neg ‹_›, if_pos ‹_›]; exact q530) | (rw [if_neg ‹_›, if_neg ‹_›]; exact q530)
        exact (k _ _ E545 S542.base h543 h544) _ fr541 (cast_map h540 (by unfold itBits; first | (rw [if_pos ‹_›]; done) | (rw [if_neg ‹_›, if_pos ‹_›]; done) | (rw [if_neg ‹_›, if_neg ‹_›]; done)))
      · have c527 : ¬ ((it.1 : Int) = 1) := c527
        refine ⟨_, rfl, _, _, _, rfl, h_writer, rfl, _, rfl, _, _, _, _, rfl, rfl, (SqT.of (S0.sG _ _ h501)), rfl, _, _, _, (w : BwS), _, rfl, h_writer, h_writer_full, (by first | assumption | omega | decide), (by first | assumption | omega | decide), (by first | assumption | omega | decide), fun H546 s547 q548 x549 h550 h552  => ?_⟩
        have S551 := S0.mut x549 (all_cons (.head _) (all_cons (.tail _ (.head _)) all_nil)) (all_cons (some_ne h550) (all_cons (some_ne h552) all_nil))
        refine ⟨_, rfl, _, _, _, _, rfl, rfl, (SqT.of (S551.sG _ _ h501)), rfl, _, rfl, (by first | assumption | omega | decide), fun p555 H553 n556 e554 h557 => ?_⟩
        have h558 : H553 p555 = some (.lst ((ueL (seCode (it.2.1)) : (List Int)).map V.int)) := h557
        have fr559 := S551.free n556
        have S560 := S551.new n556 e554 h558 fr559
        have h561 := (e554 _ _ h550)
        have h562 := (e554 _ _ h552)
        have E563 : ((⟨s547.full, s547.rest, s547.bits⟩) : BwS) = itAdd w it := by unfold itAdd; first | (rw [if_pos ‹_›]; exact q548) | (rw [if_neg ‹_›, if_pos ‹_›]; exact q548) | (rw [if_neg ‹_›, if_neg ‹_›]; exact q548)
        exact (k _ _ E563 S560.base h561 h562) _ fr559 (cast_map h558 (by unfold itBits; first | (rw [if_pos ‹_›]; done) | (rw [if_neg ‹_›, if_pos ‹_›]; done) | (rw [if_neg ‹_›, if_neg ‹_›]; done)))

abbrev N__law_get : List Str := ["reader", "item"]
theorem sc__law_get : FnScope N__law_get ["reader", "item"] (defScope s__law_get) := ⟨rfl, rfl, rfl, by decide +kernel, rfl, by decide +kernel, by decide +kernel⟩
theorem ok__law_get (D : DefIn K mg "_law_get" s__law_get ["reader", "item"]) (T : Txt K mg AD) (c_BitReader_get : MetC P w K mg base 3 AD.c_BitReader "get" (sp_BitReader_get K AD)) (c_BitReader_get_ue : MetC P w K mg base 3 AD.c_BitReader "get_ue" (sp_BitReader_get_ue K AD)) (c_BitReader_get_se : MetC P w K mg base 4 AD.c_BitReader "get_se" (sp_BitReader_get_se K AD)) : Cal P w K mg base 5 "_law_get" (sp__law_get K AD) := by
  refine D.ok sc__law_get (fun vs H Q E h => ?_) (fun f cdv A_ outer s H vs Q E hr h => ?_)
  · obtain ⟨p_reader, dx_reader, l_reader_octs, rd, v_item, it, rfl, _⟩ := h
    rfl
  · obtain ⟨p_reader, dx_reader, l_reader_octs, rd, v_item, it, rfl, h_reader, h_reader_octs, r_item, pre0, pre1, k⟩ := h
    refine ⟨_, (pss_cons (ps_if (pt_cmp (pc_eqI (pe_ix (ix_tupK (K := K)) (pv 1) pe_int (fun _ _ => rfl)) pe_int)) (pss_one (ps_ret (vx_meth c_BitReader_get hr (by decide) (pv 0) (pa_cons (pe_ix (ix_tupK (K := K)) (pv 1) pe_int (fun _ _ => rfl)) pa_nil)))) pss_nil)
      (pss_cons (ps_if (pt_cmp (pc_eqI (pe_ix (ix_tupK (K := K)) (pv 1) pe_int (fun _ _ => rfl)) pe_int)) (pss_one (ps_ret (vx_meth0 c_BitReader_get_ue hr (by decide) (pv 0)))) pss_nil)
      (pss_one (ps_ret (vx_meth0 c_BitReader_get_se hr (by decide) (pv 0)))))), ?_⟩
    have hM : ∀ a ∈ [p_reader, l_reader_octs], H a ≠ none := (all_cons (some_ne h_reader) (all_cons (some_ne h_reader_octs) all_nil))
    have S0 := Sep.start [p_reader, l_reader_octs] H hM
    obtain ⟨a564, v566, v567, v568, rfl, h565, r569, r570, r571⟩ := rp_tup3 r_item
    obtain rfl := rp_int r569
    obtain rfl := rp_int r570
    obtain rfl := rp_int r571
    have hg := pre0.g
    refine ⟨_, rfl, _, _, _, _, rfl, rfl, (SqT.of (S0.sG _ _ h565)), rfl, _, _, rfl, rfl, _, rfl, ?_⟩
    refine iteD (fun c572 => ?_) (fun c572 => ?_)
    · have c572 : (it.1 : Int) = 0 := c572
      have g0 := pre0.get0 ‹_›
      refine ⟨_, rfl, _, _, _, rfl, h_reader, rfl, _, rfl, _, _, _, _, rfl, rfl, (SqT.of (S0.sG _ _ h565)), rfl, _, _, _, (rd : BrS), _, rfl, h_reader, h_reader_octs, (by first | exact hg | exact g0.1 | exact g0.2.1), (by first | exact hg | exact g0.1 | exact g0.2.1), (by first | exact hg | exact g0.1 | exact g0.2.1), fun H573 s574 q575 x576 h577 h579  => ?_⟩
      have S578 := S0.mut x576 (all_cons (.head _) (all_cons (.tail _ (.head _)) all_nil)) (all_cons (some_ne h577) (all_cons (some_ne h579) all_nil))
      have E580 : ((⟨s574.octs, s574.place, s574.stop⟩) : BrS) = brMove rd ((itBits it).length : Int) := by rw [q575]; first | rw [g0.2.2.2] | rw [g4]
      exact eq_int (k _ _ E580 S578.base h577 h579) (by first | exact g0.2.2.1.symm | exact g3.symm)
    · have c572 : ¬ ((it.1 : Int) = 0) := c572
      refine ⟨_, rfl, _, _, _, _, rfl, rfl, (SqT.of (S0.sG _ _ h565)), rfl, _, _, rfl, rfl, _, rfl, ?_⟩
      refine iteD (fun c581 => ?_) (fun c581 => ?_)
      · have c581 : (it.1 : Int) = 1 := c581
        obtain ⟨z, g1, g2, g3, g4⟩ := pre0.get1 ‹_›
        refine ⟨_, rfl, _, _, _, rfl, h_reader, rfl, _, _, _, (rd : BrS), _, rfl, h_reader, h_reader_octs, (by first | exact hg | exact g1 | exact g2), (by first | exact hg | exact g1 | exact g2), (by first | exact hg | exact g1 | exact g2), fun H582 s583 q584 x585 h586 h588  => ?_⟩
        have S587 := S0.mut x585 (all_cons (.head _) (all_cons (.tail _ (.head _)) all_nil)) (all_cons (some_ne h586) (all_cons (some_ne h588) all_nil))
        have E589 : ((⟨s583.octs, s583.place, s583.stop⟩) : BrS) = brMove rd ((itBits it).length : Int) := by rw [q584]; first | rw [g0.2.2.2] | rw [g4]
        exact eq_int (k _ _ E589 S587.base h586 h588) (by first | exact g0.2.2.1.symm | exact g3.symm)
      · have c581 : ¬ ((it.1 : Int) = 1) := c581
        obtain ⟨z, g1, g2, g3, g4⟩ := pre0.get2 ‹_› ‹_›
        refine ⟨_, rfl, _, _, _, rfl, h_reader, rfl, _, _, _, (rd : BrS), _, rfl, h_reader, h_reader_octs, (by first | exact hg | exact g1 | exact g2), (by first | exact hg | exact g1 | exact g2), (by first | exact hg | exact g1 | exact g2), fun H590 s591 q592 x593 h594 h596  => ?_⟩
        have S595 := S0.mut x593 (all_cons (.head _) (all_cons (.tail _ (.head _)) all_nil)) (all_cons (some_ne h594) (all_cons (some_ne h596) all_nil))
        have E597 : ((⟨s591.octs, s591.place, s591.stop⟩) : BrS) = brMove rd ((itBits it).length : Int) := by rw [q592]; first | rw [g0.2.2.2] | rw [g4]
        exact eq_int (k _ _ E597 S595.base h594 h596) (by first | exact g0.2.2.1.symm | exact g3.symm)

abbrev N_law : List Str := ["script", "items", "writer", "bits", "half", "k", "octets", "kept", "reader", "left", "item", "value", "size", "cell"]
theorem sc_law : FnScope N_law ["script"] (defScope s_law) := ⟨rfl, rfl, rfl, by decide +kernel, rfl, by decide +kernel, by decide +kernel⟩
theorem ok_law {f : Addr} {fd : FuncData} (F : Fun K "law" "law" s_law f fd) (T : Txt K mg AD) (c__law_item : Cal P w K mg base 2 "_law_item" (sp__law_item K AD)) (c_BitWriter___init__ : MakC P w K mg base 1 "BitWriter" AD.c_BitWriter (sp_BitWriter___init__ K AD)) (c_BitWriter_octets : MetC P w K mg base 1 AD.c_BitWriter "octets" (sp_BitWriter_octets K AD)) (c__law_packed : Cal P w K mg base 1 "_law_packed" (sp__law_packed K AD)) (c__law_put : Cal P w K mg base 4 "_law_put" (sp__law_put K AD)) (c_BitWriter_length : PropC P w K mg base 1 AD.c_BitWriter "length" (sp_BitWriter_length K AD)) (c_BitReader___init__ : MakC P w K mg base 2 "BitReader" AD.c_BitReader (sp_BitReader___init__ K AD)) (c_BitReader_left : PropC P w K mg base 1 AD.c_BitReader "left" (sp_BitReader_left K AD)) (c__law_get : Cal P w K mg base 5 "_law_get" (sp__law_get K AD)) (c__law_ue : Cal P w K mg base 2 "_law_ue" (sp__law_ue K AD)) (c__law_se : Cal P w K mg base 3 "_law_se" (sp__law_se K AD)) : FnOk P w K mg base CX0 6 f fd ["script"] (sp_law K AD) := by
  refine F.ok sc_law (fun vs H Q E h => ?_) (fun cdv A_ outer s H vs Q E hr h => ?_)
  · obtain ⟨a_script, script, rfl, _⟩ := h
    rfl
  · obtain ⟨a_script, script, rfl, q_script, hlen, k⟩ := h
    refine ⟨_, (pss_cons (ps_setLc (i := 1) (y := "items") rfl sc_law.nd rfl rfl (sw_true rfl rfl rfl (by decide +kernel)) (own := [("cell", 13)]) (g := gName 13) (pi_listK (K := K) (pv 0)) (blkOk_by (own := [("cell", 13)]) (N := N_law) (sc := defScope s_law) (by decide +kernel)) (fun _ _ _ _ _ => (pg_name (i := 13) sc_law.nd rfl (Or.inl rfl))) (fun _ _ _ _ _ => pts_nil) (fun _ _ _ _ _ => (vx_call c__law_item hr (by decide) rfl (pa_cons (pv 13) pa_nil))))
      (pss_cons (ps_set (i := 2) sc_law.nd rfl (Or.inl rfl) (vx_make0 c_BitWriter___init__ hr (by decide) rfl))
      (pss_cons (ps_set (i := 3) sc_law.nd rfl (Or.inl rfl) (pe_lst pa_nil))
      (pss_cons (ps_set (i := 4) sc_law.nd rfl (Or.inl rfl) (pe_op op_fdivW (pe_callB (call_lenLK (K := K)) (by rfl) T.b_len (by decide +kernel) (pa_cons (pv 1) pa_nil)) pe_int))
      (pss_cons (ps_for PassesOwn.never rfl (pi_range1 rfl T.b_range (pa_cons (pe_callB (call_lenLK (K := K)) (by rfl) T.b_len (by decide +kernel) (pa_cons (pv 1) pa_nil)) pa_nil)) (pg_name (i := 5) sc_law.nd rfl (Or.inl rfl)) (pss_cons (ps_if (PW.pt (pw_and (pt_cmp (pc_eqI (pv 5) (pv 4))) (pw_and1 (pt_cmpR (op_neT (encOk_L encOk_int) hr.units) (vx_meth0 c_BitWriter_octets hr (by decide) (pv 2)) (vx_call c__law_packed hr (by decide) rfl (pa_cons (pv 3) pa_nil)) (nomark _))))) (pss_one (ps_ret pe_bl)) pss_nil)
      (pss_cons (ps_set (i := 3) sc_law.nd rfl (Or.inl rfl) (pe_op op_cat (pv 3) (vx_call c__law_put hr (by decide) rfl (pa_cons (pv 2) (pa_cons (pe_ix (ix_listK (K := K)) (pv 1) (pv 5) (fun _ _ => rfl)) pa_nil)))))
      (pss_one (ps_if (pt_cmp (pc_neI (vx_prop c_BitWriter_length hr (by decide) (pv 2) rfl) (pe_callB (call_lenLiK (K := K)) (by rfl) T.b_len (by decide +kernel) (pa_cons (pv 3) pa_nil)))) (pss_one (ps_ret pe_bl)) pss_nil)))))
      (pss_cons (ps_set (i := 6) sc_law.nd rfl (Or.inl rfl) (vx_meth0 c_BitWriter_octets hr (by decide) (pv 2)))
      (pss_cons (ps_if (PW.pt (pw_or (pt_not (pt_val (pe_callB call_isi (by rfl) T.b_isinstance (by decide +kernel) (pa_cons (pv 6) (pa_cons (pe_bltn (v := V.ty "list") (u := Value.type "list") (by rfl) T.b_list (by decide +kernel) rfl) pa_nil))))) (pw_or (pt_cmpR (op_neT (encOk_L encOk_int) hr.units) (pv 6) (vx_call c__law_packed hr (by decide) rfl (pa_cons (pv 3) pa_nil)) (nomark _)) (pw_or1 (pt_cmpR (op_neT (encOk_L encOk_int) hr.units) (vx_meth0 c_BitWriter_octets hr (by decide) (pv 2)) (pv 6) (nomark _)))))) (pss_one (ps_ret pe_bl)) pss_nil)
      (pss_cons (ps_set (i := 7) sc_law.nd rfl (Or.inl rfl) (pe_callTy (call_listLK (K := K)) (by rfl) T.b_list (by decide +kernel) (pa_cons (pv 6) pa_nil)))
      (pss_cons (ps_set (i := 8) sc_law.nd rfl (Or.inl rfl) (vx_make c_BitReader___init__ hr (by decide) rfl (pa_cons (pv 6) pa_nil)))
      (pss_cons (ps_if (PW.pt (pw_or (pt_cmpR (op_neT (encOk_L encOk_int) hr.units) (pv 6) (pv 7) (nomark _)) (pw_or1 (pt_cmp (pc_neI (vx_prop c_BitReader_left hr (by decide) (vx_make c_BitReader___init__ hr (by decide) rfl (pa_cons (pv 6) pa_nil)) rfl) (pe_callB (call_lenLiK (K := K)) (by rfl) T.b_len (by decide +kernel) (pa_cons (pv 3) pa_nil))))))) (pss_one (ps_ret pe_bl)) pss_nil)
      (pss_cons (ps_set (i := 9) sc_law.nd rfl (Or.inl rfl) (pe_callB (call_lenLiK (K := K)) (by rfl) T.b_len (by decide +kernel) (pa_cons (pv 3) pa_nil)))
      (pss_cons (ps_for PassesOwn.never rfl (pi_listK (K := K) (pv 1)) (pg_name (i := 10) sc_law.nd rfl (Or.inl rfl)) (pss_cons (ps_if (pt_cmp (pc_neI (vx_prop c_BitReader_left hr (by decide) (pv 8) rfl) (pv 9))) (pss_one (ps_ret pe_bl)) pss_nil)
      (pss_cons (ps_set (i := 11) sc_law.nd rfl (Or.inl rfl) (vx_call c__law_get hr (by decide) rfl (pa_cons (pv 8) (pa_cons (pv 10) pa_nil))))
      (pss_cons (ps_if (PW.pt (pw_or (pt_not (pt_val (pe_callB call_isi (by rfl) T.b_isinstance (by decide +kernel) (pa_cons (pv 11) (pa_cons (pe_bltn (v := V.ty "int") (u := Value.type "int") (by rfl) T.b_int (by decide +kernel) rfl) pa_nil))))) (pw_or (pt_val (pe_callB call_isi (by rfl) T.b_isinstance (by decide +kernel) (pa_cons (pv 11) (pa_cons (pe_bltn (v := V.ty "bool") (u := Value.type "bool") (by rfl) T.b_bool (by decide +kernel) rfl) pa_nil)))) (pw_or1 (pt_cmp (pc_neI (pv 11) (pe_ix (ix_tupK (K := K)) (pv 10) pe_int (fun _ _ => rfl)))))))) (pss_one (ps_ret pe_bl)) pss_nil)
      (pss_cons (ps_set (i := 12) sc_law.nd rfl (Or.inl rfl) (pe_ix (ix_tupK (K := K)) (pv 10) pe_int (fun _ _ => rfl)))
      (pss_cons (ps_if (pt_cmp (pc_eqI (pe_ix (ix_tupK (K := K)) (pv 10) pe_int (fun _ _ => rfl)) pe_int)) (pss_one (ps_set (i := 12) sc_law.nd rfl (Or.inl rfl) (pe_callB (call_lenLiK (K := K)) (by rfl) T.b_len (by decide +kernel) (pa_cons (vx_call c__law_ue hr (by decide) rfl (pa_cons (pe_ix (ix_tupK (K := K)) (pv 10) pe_int (fun _ _ => rfl)) pa_nil)) pa_nil)))) pss_nil)
      (pss_cons (ps_if (pt_cmp (pc_eqI (pe_ix (ix_tupK (K := K)) (pv 10) pe_int (fun _ _ => rfl)) pe_int)) (pss_one (ps_set (i := 12) sc_law.nd rfl (Or.inl rfl) (pe_callB (call_lenLiK (K := K)) (by rfl) T.b_len (by decide +kernel) (pa_cons (vx_call c__law_se hr (by decide) rfl (pa_cons (pe_ix (ix_tupK (K := K)) (pv 10) pe_int (fun _ _ => rfl)) pa_nil)) pa_nil)))) pss_nil)
      (pss_one (ps_set (i := 9) sc_law.nd rfl (Or.inl rfl) (pe_op op_sub (pv 9) (pv 12)))))))))))
      (pss_cons (ps_expr (pe_bm PySem.F.plainAttrs_list PySem.F.slot_list_append PySem.F.type_list_append mt_append (pv 6) (pa_cons pe_int pa_nil)))
      (pss_one (ps_ret (pe_and (pe_cmp (pc_eqI (vx_prop c_BitReader_left hr (by decide) (pv 8) rfl) pe_int)) (pe_one (pe_cmpR (op_eqT (encOk_L encOk_int) hr.units) (vx_meth0 c_BitWriter_octets hr (by decide) (pv 2)) (pv 7) (nomark _))))))))))))))))))), ?_⟩
    have S0 := Sep.start0 H
    refine ⟨_, rfl, _, rfl, ⟨_, (S0.b0.seq q_script)⟩, fun D598 n599 => lc_list (K := K) (a := a_script) (xs := (script).map V.int) (fun i H' => ∃ (G' : Hp) (vs : List V), Same H G' ∧ Sep [] H H G' H' [D598] ∧ H' D598 = some (.lst vs) ∧ RpAll G' vs (((List.map itemB (List.take i (script))) : (List (Int × Int × Int))).map (encT3 PyData.int PyData.int PyData.int))) ?_ ?_ ?_ ?_⟩
    · generalize g600 : upd H D598 _ = H601
      obtain ⟨e602, h603⟩ := gen_new n599 g600
      have fr604 := S0.free n599
      have S605 := S0.new n599 e602 h603 fr604
      exact ⟨_, [], Same.refl _, S605, h603, RpAll.nil⟩
    · intro i H606 _ hw
      obtain ⟨G609, vs611, eG610, S607, h608, d612⟩ := hw
      exact (S607.b0.seq q_script)
    · intro i x H613 hj hw
      obtain ⟨G616, vs618, eG617, S614, h615, d619⟩ := hw
      obtain ⟨cell, hi, rfl⟩ := map_get hj
      refine ⟨rfl, ?_⟩
      refine tyes_go ?_
      refine ⟨_, rfl, G616, _, rfl, S614.sG, fun v622 H620 G623 e621 eG624 sG625 hn626 r627 => ?_⟩
      have S628 := S614.step e621 eG624 sG625 hn626
      obtain ⟨a629, v631, v632, v633, rfl, h630, r634, r635, r636⟩ := rp_tup3 r627
      obtain rfl := rp_int r634
      obtain rfl := rp_int r635
      obtain rfl := rp_int r636
      have h637 := (e621 _ _ h615)
      refine ⟨_, h637, (app_len (RpAll.mono eG624 d619) (by first | omega | (simp only [List.length_map, List.length_append, List.length_take, List.length_range, List.length_cons, List.length_nil, repL_len]; omega))), ?_⟩
      generalize g638 : upd H620 D598 _ = H639
      obtain ⟨x640, h641⟩ := gen_mut g638
      have S642 := S628.mut1 x640 (.head _) h641
      exact ⟨_, _, (Same.trans eG617 eG624), S642, h641, (comp_listD hi (RpAll.mono eG624 d619) (rp_mk3 h630 (.int _) (.int _) (.int _)) (by rfl))⟩
    intro H643 hw
    obtain ⟨G646, vs648, eG647, S644, h645, d649⟩ := hw
    have fr651 := S0.free n599
    have d652 : RpAll G646 vs648 (((List.map itemB ((script))) : (List (Int × Int × Int))).map (encT3 PyData.int PyData.int PyData.int)) := comp_doneD (h := fun l => (List.map itemB (l))) (by rw [List.length_map]) d649
    refine fun x653 dx654 n655 n656 n657 => ?_
    generalize g658 : upd (upd H643 dx654 _) x653 _ = H659
    obtain ⟨e660, h661⟩ := gen_obj n655 n656 n657 g658
    have fr662 := S644.free n655
    have S663 := S644.new n655 e660 h661 fr662
    refine ⟨_, _, rfl, h661, fun H665 l664 s666 q667 x668 n672 h669 h671 => ⟨rfl, ?_⟩⟩
    have fr673 := S663.free n672
    have S670 : Sep _ _ _ _ H665 [l664, x653, D598] := Sep.init S663 x668 (.head _) h669 [l664] (all_cons ⟨n672, some_ne h671, fr673⟩ all_nil)
    have E0 := q667
    have W0 : WR (s666) [] := by
      rw [E0]
      exact wr_nil
    refine ⟨(by show 0 ≤ sizeLine; decide), fun p674 n675 => ?_⟩
    generalize g676 : upd H665 p674 _ = H677
    obtain ⟨e678, h679⟩ := gen_new n675 g676
    have h680 : H677 p674 = some (.lst (([] : (List Int)).map V.int)) := h679
    have fr681 := S670.free n675
    have S682 := S670.new n675 e678 h680 fr681
    have h683 := (e678 _ _ ((SameXs.of x668) _ _ (e660 _ _ h645) (ni1 (ne_of_none h645 n655))))
    refine ⟨_, rfl, _, _, _, rfl, (SqL.of h683), (by rw [d652.len, List.length_map]), _, _, rfl, rfl, (by first | exact divW_lit (by decide) (by decide) | exact divW_small (by omega) (by omega)), ?_⟩
    have hil := itemsB_len script
    refine ⟨_, rfl, _, _, _, rfl, (SqL.of h683), (by rw [d652.len, List.length_map]), _, rfl, (by omega), (by omega), for_range (lo := 0) (n := (((((List.map itemB ((script)))) : (List (Int × Int × Int))).length : Int) : Int).toNat) (fun i σ H' => ∃ (writer : BwS) (p_bits : Addr) (bits : (List Int)) (u_k : Option V) (G' : Hp), σ = [some (V.ref a_script), some (V.ref D598), some (V.ref x653), some (V.ref p_bits), some (V.int ((((((List.map itemB ((script)))) : (List (Int × Int × Int))).length : Int) / 2))), u_k, none, none, none, none, none, none, none, none] ∧ Same G646 G' ∧ Sep [] H H G' H' [D598, x653, l664, p_bits] ∧ H' D598 = some (.lst (vs648)) ∧ H' x653 = some (.ins AD.c_BitWriter dx654 [("_full", V.ref l664), ("_rest", V.int (writer.rest)), ("_rest_bits", V.int (writer.bits))]) ∧ H' l664 = some (.lst ((writer.full).map V.int)) ∧ H' p_bits = some (.lst ((bits).map V.int)) ∧ H p_bits = none ∧ p_bits ≠ D598 ∧ p_bits ≠ x653 ∧ p_bits ≠ l664 ∧ (WR writer bits ∧ bits = bitsOf ((List.map itemB script).take i) ∧ bits.length ≤ 130 * i)) ?_ ?_ ?_⟩
    · have h684 := (e678 _ _ h669)
      have h685 := (e678 _ _ h671)
      refine ⟨s666, _, ([]), _, _, rfl, (Same.refl _), (S682.sub (all_cons (.tail _ (.tail _ (.tail _ (.head _)))) (all_cons (.tail _ (.tail _ (.head _))) (all_cons (.tail _ (.head _)) (all_cons (.head _) all_nil))))), h683, h684, h685, h680, fr681, (ne_of_none ((SameXs.of x668) _ _ (e660 _ _ h645) (ni1 (ne_of_none h645 n655))) n675).symm, (ne_of_none h669 n675).symm, (ne_of_none h671 n675).symm, ?_⟩
      exact ⟨W0, rfl, by simp⟩
    · intro i σ H686 hi hw
      obtain ⟨writer, p_bits, bits, u_k, G696, rfl, eG697, S687, h688, h689, h690, h691, fr692, ne693, ne694, ne695, hu⟩ := hw
      obtain ⟨hwr, hbs, hbl⟩ := hu
      refine ⟨_, rfl, _, rfl, _, _, rfl, rfl, _, rfl, ?_⟩
      refine iteD (fun c698 => ?_) (fun c698 => ?_)
      · have c698 : ((0 + (i : Int)) : Int) = (((((List.map itemB ((script)))) : (List (Int × Int × Int))).length : Int) / 2) := c698
        refine ⟨_, rfl, _, _, _, rfl, h689, rfl, _, _, _, (writer : BwS), rfl, h689, h690, (by first | exact hwr.g | (have := wr_full hwr (by omega); omega)), (by first | exact hwr.g | (have := wr_full hwr (by omega); omega)), fun p701 H699 n702 e700 h703 => ?_⟩
        have h704 : H699 p701 = some (.lst (((writer).full ++ [(2 * (writer).rest + 1) * 2 ^ (7 - (writer).bits).toNat] : (List Int)).map V.int)) := h703
        have fr705 := S687.free n702
        have S706 := S687.new n702 e700 h704 fr705
        have h707 := (e700 _ _ h691)
        refine ⟨_, rfl, _, _, rfl, h707, (by first | exact hwr.b | omega), (by first | exact hwr.b | omega), fun p710 H708 n711 e709 h712 => ?_⟩
        have h713 : H708 p710 = some (.lst ((packL (bits) : (List Int)).map V.int)) := h712
        have fr714 := S706.free n711
        have S715 := S706.new n711 e709 h713 fr714
        have h716 := (e709 _ _ h704)
        refine ⟨_, _, (rp_mk_ints h716), (rp_mk_ints h713), _, rfl, ?_⟩
        refine iteNF (show ((writer).full ++ [(2 * (writer).rest + 1) * 2 ^ (7 - (writer).bits).toNat] : (List Int)) = packL (bits) from by exact wr_octets hwr) ?_
        obtain ⟨v717, x718, a719, b720, r721⟩ := RpAll.ix (k := (0 + (i : Int))) (RpAll.mono eG697 d652) (by first | omega | (simp only [List.length_cons, List.length_nil]; omega))
        have h722 := (e709 _ _ (e700 _ _ h688))
        obtain ⟨a723, v725, v726, v727, rfl, h724, r728, r729, r730⟩ := rp_tup3 r721
        obtain rfl := rp_int r728
        obtain rfl := rp_int r729
        obtain rfl := rp_int r730
        have h731 := (e709 _ _ (e700 _ _ h689))
        have h732 := (e709 _ _ (e700 _ _ h690))
        refine ⟨_, rfl, _, rfl, _, rfl, _, rfl, _, _, _, _, rfl, rfl, (SqL.of h722), a719, _, _, _, (writer : BwS), _, _, rfl, h731, h732, (Rp.mono (S715.hid (all_cons (.tail _ (.tail _ (.tail _ (.head _)))) (all_cons (.tail _ (.tail _ (.tail _ (.tail _ (.head _))))) all_nil))) (rp_mk3 h724 (.int _) (.int _) (.int _))), (by first | exact hwr.g | exact itemsB_ok (List.mem_of_getElem? (at_nat b720 (by omega))) | (have := wr_full hwr (by omega); omega)), (by first | exact hwr.g | exact itemsB_ok (List.mem_of_getElem? (at_nat b720 (by omega))) | (have := wr_full hwr (by omega); omega)), (by first | exact hwr.g | exact itemsB_ok (List.mem_of_getElem? (at_nat b720 (by omega))) | (have := wr_full hwr (by omega); omega)), fun H733 s734 q735 x736 h737 h739 p740 n741 h742 => ?_⟩
        have fr743 := S715.free n741
        have S738 := S715.mutnew x736 (all_cons (.tail _ (.tail _ (.tail _ (.head _)))) (all_cons (.tail _ (.tail _ (.tail _ (.tail _ (.head _))))) all_nil)) (all_cons (some_ne h737) (all_cons (some_ne h739) all_nil)) n741 (some_ne h742) fr743
        have h744 := (x736 _ _ (e709 _ _ h707) (ni2 ne694 ne695))
        refine ⟨_, _, _, _, rfl, rfl, h744, h742, (cat_lenM (by have hl2 := it_len (itemsB_ok (List.mem_of_getElem? (at_nat b720 (by omega)))); show bits.length + (itBits x718).length ≤ 1000000; omega)), fun p745 n746 => ?_⟩
        generalize g747 : upd H733 p745 _ = H748
        obtain ⟨e749, h750⟩ := gen_new n746 g747
        have h751 : H748 p745 = some (.lst (((bits) ++ (itBits (x718)) : (List Int)).map V.int)) := cat_map h750
        have fr752 := S738.free n746
        have S753 := S738.new n746 e749 h751 fr752
        have hx := at_nat b720 (by omega)
        have hit := itemsB_ok (List.mem_of_getElem? hx)
        have hw2 := wr_put hwr hit
        have hq : (s734) = itAdd writer x718 := q735
        rw [← hq] at hw2
        have hl2 := it_len hit
        have h754 := (e749 _ _ h737)
        have h755 := (e749 _ _ h739)
        refine ⟨_, rfl, _, _, _, rfl, h754, _, _, _, (s734 : BwS), rfl, h754, h755, _, rfl, _, _, rfl, (SqL.of h751), _, _, rfl, rfl, _, rfl, ?_⟩
        refine iteNF (show (8 * ((s734).full.length : Int) + (s734).bits : Int) = ((((bits) ++ (itBits (x718))) : (List Int)).length : Int) from by exact hw2.len.symm) ?_
        have h756 := (e749 _ _ (x736 _ _ h722 (ni2 (ne_of_none h645 n655) (ne_of_none (e660 _ _ h645) n672))))
        refine ⟨s734, _, ((bits) ++ (itBits (x718))), _, _, rfl, eG697, (S753.sub (all_cons (.tail _ (.tail _ (.tail _ (.tail _ (.head _))))) (all_cons (.tail _ (.tail _ (.tail _ (.tail _ (.tail _ (.head _)))))) (all_cons (.tail _ (.tail _ (.tail _ (.tail _ (.tail _ (.tail _ (.head _))))))) (all_cons (.head _) all_nil))))), h756, h754, h755, h751, fr752, (ne_of_none (x736 _ _ h722 (ni2 (ne_of_none h645 n655) (ne_of_none (e660 _ _ h645) n672))) n746).symm, (ne_of_none h737 n746).symm, (ne_of_none h739 n746).symm, ?_⟩
        refine ⟨hw2, (congrArg (· ++ itBits x718) hbs).trans (bits_turn hx), ?_⟩
        rw [List.length_append]
        show bits.length + (itBits x718).length ≤ _
        omega
      · have c698 : ¬ (((0 + (i : Int)) : Int) = (((((List.map itemB ((script)))) : (List (Int × Int × Int))).length : Int) / 2)) := c698
        refine iteF ?_
        obtain ⟨v757, x758, a759, b760, r761⟩ := RpAll.ix (k := (0 + (i : Int))) (RpAll.mono eG697 d652) (by first | omega | (simp only [List.length_cons, List.length_nil]; omega))
        obtain ⟨a762, v764, v765, v766, rfl, h763, r767, r768, r769⟩ := rp_tup3 r761
        obtain rfl := rp_int r767
        obtain rfl := rp_int r768
        obtain rfl := rp_int r769
        refine ⟨_, rfl, _, rfl, _, rfl, _, rfl, _, _, _, _, rfl, rfl, (SqL.of h688), a759, _, _, _, (writer : BwS), _, _, rfl, h689, h690, (Rp.mono (S687.hid (all_cons (.tail _ (.head _)) (all_cons (.tail _ (.tail _ (.head _))) all_nil))) (rp_mk3 h763 (.int _) (.int _) (.int _))), (by first | exact hwr.g | exact itemsB_ok (List.mem_of_getElem? (at_nat b760 (by omega))) | (have := wr_full hwr (by omega); omega)), (by first | exact hwr.g | exact itemsB_ok (List.mem_of_getElem? (at_nat b760 (by omega))) | (have := wr_full hwr (by omega); omega)), (by first | exact hwr.g | exact itemsB_ok (List.mem_of_getElem? (at_nat b760 (by omega))) | (have := wr_full hwr (by omega); omega)), fun H770 s771 q772 x773 h774 h776 p777 n778 h779 => ?_⟩
        have fr780 := S687.free n778
        have S775 := S687.mutnew x773 (all_cons (.tail _ (.head _)) (all_cons (.tail _ (.tail _ (.head _))) all_nil)) (all_cons (some_ne h774) (all_cons (some_ne h776) all_nil)) n778 (some_ne h779) fr780
        have h781 := (x773 _ _ h691 (ni2 ne694 ne695))
        refine ⟨_, _, _, _, rfl, rfl, h781, h779, (cat_lenM (by have hl2 := it_len (itemsB_ok (List.mem_of_getElem? (at_nat b760 (by omega)))); show bits.length + (itBits x758).length ≤ 1000000; omega)), fun p782 n783 => ?_⟩
        generalize g784 : upd H770 p782 _ = H785
        obtain ⟨e786, h787⟩ := gen_new n783 g784
        have h788 : H785 p782 = some (.lst (((bits) ++ (itBits (x758)) : (List Int)).map V.int)) := cat_map h787
        have fr789 := S775.free n783
        have S790 := S775.new n783 e786 h788 fr789
        have hx := at_nat b760 (by omega)
        have hit := itemsB_ok (List.mem_of_getElem? hx)
        have hw2 := wr_put hwr hit
        have hq : (s771) = itAdd writer x758 := q772
        rw [← hq] at hw2
        have hl2 := it_len hit
        have h791 := (e786 _ _ h774)
        have h792 := (e786 _ _ h776)
        refine ⟨_, rfl, _, _, _, rfl, h791, _, _, _, (s771 : BwS), rfl, h791, h792, _, rfl, _, _, rfl, (SqL.of h788), _, _, rfl, rfl, _, rfl, ?_⟩
        refine iteNF (show (8 * ((s771).full.length : Int) + (s771).bits : Int) = ((((bits) ++ (itBits (x758))) : (List Int)).length : Int) from by exact hw2.len.symm) ?_
        have h793 := (e786 _ _ (x773 _ _ h688 (ni2 (ne_of_none h645 n655) (ne_of_none (e660 _ _ h645) n672))))
        refine ⟨s771, _, ((bits) ++ (itBits (x758))), _, _, rfl, eG697, (S790.sub (all_cons (.tail _ (.tail _ (.head _))) (all_cons (.tail _ (.tail _ (.tail _ (.head _)))) (all_cons (.tail _ (.tail _ (.tail _ (.tail _ (.head _))))) (all_cons (.head _) all_nil))))), h793, h791, h792, h788, fr789, (ne_of_none (x773 _ _ h688 (ni2 (ne_of_none h645 n655) (ne_of_none (e660 _ _ h645) n672))) n783).symm, (ne_of_none h774 n783).symm, (ne_of_none h776 n783).symm, ?_⟩
        refine ⟨hw2, (congrArg (· ++ itBits x758) hbs).trans (bits_turn hx), ?_⟩
        rw [List.length_append]
        show bits.length + (itBits x758).length ≤ _
        omega
    · intro σ H794 hw
      obtain ⟨writer, p_bits, bits, u_k, G804, rfl, eG805, S795, h796, h797, h798, h799, fr800, ne801, ne802, ne803, hu⟩ := hw
      obtain ⟨hwr, hbs, hbl⟩ := hu
      have hall : bits = bitsOf (List.map itemB script) := by
        rw [hbs, List.take_of_length_le (by omega)]
      refine ⟨_, rfl, _, _, _, rfl, h797, rfl, _, _, _, (writer : BwS), rfl, h797, h798, (by first | exact hwr.g | (have := wr_full hwr (by omega); omega)), (by first | exact hwr.g | (have := wr_full hwr (by omega); omega)), fun p808 H806 n809 e807 h810 => ?_⟩
      have h811 : H806 p808 = some (.lst (((writer).full ++ [(2 * (writer).rest + 1) * 2 ^ (7 - (writer).bits).toNat] : (List Int)).map V.int)) := h810
      have fr812 := S795.free n809
      have S813 := S795.new n809 e807 h811 fr812
      refine ⟨_, rfl, _, _, _, _, _, rfl, (.ty _), (.base (.lst h811)), rfl, _, rfl, ?_⟩
      refine iteF ?_
      have h814 := (e807 _ _ h799)
      refine ⟨_, rfl, _, rfl, _, _, rfl, h814, (by first | exact hwr.b | omega), (by first | exact hwr.b | omega), fun p817 H815 n818 e816 h819 => ?_⟩
      have h820 : H815 p817 = some (.lst ((packL (bits) : (List Int)).map V.int)) := h819
      have fr821 := S813.free n818
      have S822 := S813.new n818 e816 h820 fr821
      have h823 := (e816 _ _ h811)
      refine ⟨_, _, (rp_mk_ints h823), (rp_mk_ints h820), _, rfl, ?_⟩
      refine iteNF (show ((writer).full ++ [(2 * (writer).rest + 1) * 2 ^ (7 - (writer).bits).toNat] : (List Int)) = packL (bits) from by exact wr_octets hwr) ?_
      have h824 := (e816 _ _ (e807 _ _ h797))
      have h825 := (e816 _ _ (e807 _ _ h798))
      refine ⟨_, rfl, _, _, _, rfl, h824, rfl, _, _, _, (writer : BwS), rfl, h824, h825, (by first | exact hwr.g | (have := wr_full hwr (by omega); omega)), (by first | exact hwr.g | (have := wr_full hwr (by omega); omega)), fun p828 H826 n829 e827 h830 => ?_⟩
      have h831 : H826 p828 = some (.lst (((writer).full ++ [(2 * (writer).rest + 1) * 2 ^ (7 - (writer).bits).toNat] : (List Int)).map V.int)) := h830
      have fr832 := S822.free n829
      have S833 := S822.new n829 e827 h831 fr832
      have h834 := (e827 _ _ h823)
      refine ⟨_, rfl, _, _, (rp_mk_ints h831), (rp_mk_ints h834), _, rfl, ?_⟩
      refine iteNF (show ((writer).full ++ [(2 * (writer).rest + 1) * 2 ^ (7 - (writer).bits).toNat] : (List Int)) = (writer).full ++ [(2 * (writer).rest + 1) * 2 ^ (7 - (writer).bits).toNat] from by rfl) ?_
      refine ⟨_, rfl, _, _, rfl, (SqL.of h834), fun p835 n836 => ?_⟩
      generalize g837 : upd H826 p835 _ = H838
      obtain ⟨e839, h840⟩ := gen_new n836 g837
      have h841 : H838 p835 = some (.lst (((writer).full ++ [(2 * (writer).rest + 1) * 2 ^ (7 - (writer).bits).toNat] : (List Int)).map V.int)) := h840
      have fr842 := S833.free n836
      have S843 := S833.new n836 e839 h841 fr842
      have hmem := wr_mem hwr
      have hlast := wr_ne hwr
      refine ⟨_, rfl, fun x844 dx845 n846 n847 n848 => ?_⟩
      generalize g849 : upd (upd H838 dx845 _) x844 _ = H850
      obtain ⟨e851, h852⟩ := gen_obj n846 n847 n848 g849
      have fr853 := S843.free n846
      have S854 := S843.new n846 e851 h852 fr853
      have h855 := (e851 _ _ (e839 _ _ h834))
      refine ⟨_, _, _, _, rfl, h852, h855, (by first | exact hlast | exact hmem | (rw [List.length_append]; have := wr_full hwr (by omega); simp only [List.length_cons, List.length_nil]; omega) | simp), (by first | exact hlast | exact hmem | (rw [List.length_append]; have := wr_full hwr (by omega); simp only [List.length_cons, List.length_nil]; omega) | simp), (by first | exact hlast | exact hmem | (rw [List.length_append]; have := wr_full hwr (by omega); simp only [List.length_cons, List.length_nil]; omega) | simp), (by first | exact hlast | exact hmem | (rw [List.length_append]; have := wr_full hwr (by omega); simp only [List.length_cons, List.length_nil]; omega) | simp), fun H857 l856 s858 q859 x860 n864 h861 h863 => ⟨rfl, ?_⟩⟩
      have fr865 := S854.free n864
      have S862 : Sep _ _ _ _ H857 [l856, x844, p835, p828, p817, p808, D598, x653, l664, p_bits] := Sep.init S854 x860 (.head _) h861 [l856] (all_cons ⟨n864, some_ne h863, fr865⟩ all_nil)
      have R0 := rr_init hwr
      rw [← q859] at R0
      have h866 := ((SameXs.of x860) _ _ h855 (ni1 (ne_of_none (e839 _ _ h834) n846)))
      have h867 := ((SameXs.of x860) _ _ (e851 _ _ h841) (ni1 (ne_of_none h841 n846)))
      refine ⟨_, rfl, _, rfl, _, _, (rp_mk_ints h866), (rp_mk_ints h867), _, rfl, ?_⟩
      refine iteNF (show ((writer).full ++ [(2 * (writer).rest + 1) * 2 ^ (7 - (writer).bits).toNat] : (List Int)) = (writer).full ++ [(2 * (writer).rest + 1) * 2 ^ (7 - (writer).bits).toNat] from by rfl) ?_
      refine ⟨_, rfl, fun x868 dx869 n870 n871 n872 => ?_⟩
      generalize g873 : upd (upd H857 dx869 _) x868 _ = H874
      obtain ⟨e875, h876⟩ := gen_obj n870 n871 n872 g873
      have fr877 := S862.free n870
      have S878 := S862.new n870 e875 h876 fr877
      have h879 := (e875 _ _ h866)
      refine ⟨_, _, _, _, rfl, h876, h879, (by first | exact hlast | exact hmem | (rw [List.length_append]; have := wr_full hwr (by omega); simp only [List.length_cons, List.length_nil]; omega) | simp), (by first | exact hlast | exact hmem | (rw [List.length_append]; have := wr_full hwr (by omega); simp only [List.length_cons, List.length_nil]; omega) | simp), (by first | exact hlast | exact hmem | (rw [List.length_append]; have := wr_full hwr (by omega); simp only [List.length_cons, List.length_nil]; omega) | simp), (by first | exact hlast | exact hmem | (rw [List.length_append]; have := wr_full hwr (by omega); simp only [List.length_cons, List.length_nil]; omega) | simp), fun H881 l880 s882 q883 x884 n888 h885 h887 => ⟨rfl, ?_⟩⟩
      have fr889 := S878.free n888
      have S886 : Sep _ _ _ _ H881 [l880, x868, l856, x844, p835, p828, p817, p808, D598, x653, l664, p_bits] := Sep.init S878 x884 (.head _) h885 [l880] (all_cons ⟨n888, some_ne h887, fr889⟩ all_nil)
      have h890 := ((SameXs.of x884) _ _ (e875 _ _ ((SameXs.of x860) _ _ (e851 _ _ (e839 _ _ (e827 _ _ (e816 _ _ h814)))) (ni1 (ne_of_none (e839 _ _ (e827 _ _ (e816 _ _ h814))) n846)))) (ni1 (ne_of_none ((SameXs.of x860) _ _ (e851 _ _ (e839 _ _ (e827 _ _ (e816 _ _ h814)))) (ni1 (ne_of_none (e839 _ _ (e827 _ _ (e816 _ _ h814))) n846))) n870)))
      refine ⟨_, _, _, rfl, h885, _, _, _, (s882 : BrS), rfl, h885, h887, _, rfl, _, _, rfl, (SqL.of h890), _, _, rfl, rfl, _, rfl, ?_⟩
      refine iteNF (show ((s882).stop - (s882).place : Int) = (((bits) : (List Int)).length : Int) from by rw [q883]; have := (rr_init hwr).len; omega) ?_
      have h891 := ((SameXs.of x884) _ _ (e875 _ _ ((SameXs.of x860) _ _ (e851 _ _ (e839 _ _ (e827 _ _ (e816 _ _ (e807 _ _ h796))))) (ni1 (ne_of_none (e839 _ _ (e827 _ _ (e816 _ _ (e807 _ _ h796)))) n846)))) (ni1 (ne_of_none ((SameXs.of x860) _ _ (e851 _ _ (e839 _ _ (e827 _ _ (e816 _ _ (e807 _ _ h796))))) (ni1 (ne_of_none (e839 _ _ (e827 _ _ (e816 _ _ (e807 _ _ h796)))) n846))) n870)))
      refine ⟨_, rfl, _, _, rfl, (SqL.of h890), _, rfl, _, rfl, ⟨_, (SqL.of h891)⟩, for_list (K := K) (a := D598) (xs := vs648) (fun i σ H' => ∃ (reader : BrS) (left : Int) (u_item : Option V) (u_value : Option V) (u_size : Option V) (G' : Hp), σ = [some (V.ref a_script), some (V.ref D598), some (V.ref x653), some (V.ref p_bits), some (V.int ((((((List.map itemB ((script)))) : (List (Int × Int × Int))).length : Int) / 2))), u_k, some (V.ref p808), some (V.ref p835), some (V.ref x844), some (V.int left), u_item, u_value, u_size, none] ∧ Same G804 G' ∧ Sep [] H H G' H' [D598, x653, l664, p_bits, p808, p835, x844, l856] ∧ H' D598 = some (.lst (vs648)) ∧ H' x653 = some (.ins AD.c_BitWriter dx654 [("_full", V.ref l664), ("_rest", V.int (writer.rest)), ("_rest_bits", V.int (writer.bits))]) ∧ H' l664 = some (.lst ((writer.full).map V.int)) ∧ H' p_bits = some (.lst ((bits).map V.int)) ∧ H' p808 = some (.lst (((writer).full ++ [(2 * (writer).rest + 1) * 2 ^ (7 - (writer).bits).toNat]).map V.int)) ∧ H' p835 = some (.lst (((writer).full ++ [(2 * (writer).rest + 1) * 2 ^ (7 - (writer).bits).toNat]).map V.int)) ∧ H' x844 = some (.ins AD.c_BitReader dx845 [("_octets", V.ref l856), ("_place", V.int (reader.place)), ("_end", V.int (reader.stop))]) ∧ H' l856 = some (.lst ((reader.octs).map V.int)) ∧ (RR reader (bitsOf ((List.map itemB script).drop i)) ∧ left = ((bitsOf ((List.map itemB script).drop i)).length : Int))) ?_ ?_ ?_ ?_⟩
      · have h892 := ((SameXs.of x884) _ _ (e875 _ _ ((SameXs.of x860) _ _ (e851 _ _ (e839 _ _ (e827 _ _ h824))) (ni1 (ne_of_none (e839 _ _ (e827 _ _ h824)) n846)))) (ni1 (ne_of_none ((SameXs.of x860) _ _ (e851 _ _ (e839 _ _ (e827 _ _ h824))) (ni1 (ne_of_none (e839 _ _ (e827 _ _ h824)) n846))) n870)))
        have h893 := ((SameXs.of x884) _ _ (e875 _ _ ((SameXs.of x860) _ _ (e851 _ _ (e839 _ _ (e827 _ _ h825))) (ni1 (ne_of_none (e839 _ _ (e827 _ _ h825)) n846)))) (ni1 (ne_of_none ((SameXs.of x860) _ _ (e851 _ _ (e839 _ _ (e827 _ _ h825))) (ni1 (ne_of_none (e839 _ _ (e827 _ _ h825)) n846))) n870)))
        have h894 := ((SameXs.of x884) _ _ h879 (ni1 (ne_of_none h866 n870)))
        have h895 := ((SameXs.of x884) _ _ (e875 _ _ h867) (ni1 (ne_of_none h867 n870)))
        have h896 := ((SameXs.of x884) _ _ (e875 _ _ h861) (ni1 (ne_of_none h861 n870)))
        have h897 := ((SameXs.of x884) _ _ (e875 _ _ h863) (ni1 (ne_of_none h863 n870)))
        refine ⟨s858, _, _, _, _, _, rfl, (Same.refl _), (S886.sub (all_cons (.tail _ (.tail _ (.tail _ (.tail _ (.tail _ (.tail _ (.tail _ (.tail _ (.head _))))))))) (all_cons (.tail _ (.tail _ (.tail _ (.tail _ (.tail _ (.tail _ (.tail _ (.tail _ (.tail _ (.head _)))))))))) (all_cons (.tail _ (.tail _ (.tail _ (.tail _ (.tail _ (.tail _ (.tail _ (.tail _ (.tail _ (.tail _ (.head _))))))))))) (all_cons (.tail _ (.tail _ (.tail _ (.tail _ (.tail _ (.tail _ (.tail _ (.tail _ (.tail _ (.tail _ (.tail _ (.head _)))))))))))) (all_cons (.tail _ (.tail _ (.tail _ (.tail _ (.tail _ (.tail _ (.tail _ (.head _)))))))) (all_cons (.tail _ (.tail _ (.tail _ (.tail _ (.head _))))) (all_cons (.tail _ (.tail _ (.tail _ (.head _)))) (all_cons (.tail _ (.tail _ (.head _))) all_nil))))))))), h891, h892, h893, h890, h894, h895, h896, h897, ?_⟩
        rw [List.drop_zero, ← hall]
        exact ⟨R0, rfl⟩
      · intro i σ H898 _ hw
        obtain ⟨reader, left, u_item, u_value, u_size, G908, rfl, eG909, S899, h900, h901, h902, h903, h904, h905, h906, h907, hu⟩ := hw
        exact (SqL.of h900)
      · intro i x σ H910 hj hw
        obtain ⟨reader, left, u_item, u_value, u_size, G920, rfl, eG921, S911, h912, h913, h914, h915, h916, h917, h918, h919, hu⟩ := hw
        obtain ⟨item, hi, r922⟩ := RpAll.get (RpAll.mono eG921 (RpAll.mono eG805 d652)) hj
        obtain ⟨a923, v925, v926, v927, rfl, h924, r928, r929, r930⟩ := rp_tup3 r922
        obtain rfl := rp_int r928
        obtain rfl := rp_int r929
        obtain rfl := rp_int r930
        obtain ⟨hrr, hle⟩ := hu
        have hit : ItOk item := itemsB_ok (List.mem_of_getElem? hi)
        have hgo := rr_get hit (by rw [bits_drop hi] at hrr; exact hrr)
        have hio := hit
        unfold ItOk at hio
        have n0 := it_len0 hit
        have n1 := @it_len1 item
        have n2 := @it_len2 item
        refine ⟨_, rfl, _, _, _, rfl, h918, _, _, _, (reader : BrS), rfl, h918, h919, _, rfl, _, _, rfl, rfl, _, rfl, ?_⟩
        refine iteNF (show ((reader).stop - (reader).place : Int) = left from by have := hrr.len; omega) ?_
        refine ⟨_, rfl, _, rfl, _, _, _, (reader : BrS), _, _, rfl, h918, h919, (Rp.mono (S911.hid (all_cons (.tail _ (.tail _ (.tail _ (.tail _ (.tail _ (.tail _ (.head _))))))) (all_cons (.tail _ (.tail _ (.tail _ (.tail _ (.tail _ (.tail _ (.tail _ (.head _)))))))) all_nil))) (rp_mk3 h924 (.int _) (.int _) (.int _))), (by first | exact hgo | exact hit), (by first | exact hgo | exact hit), fun H931 s932 q933 x934 h935 h937  => ?_⟩
        have S936 := S911.mut x934 (all_cons (.tail _ (.tail _ (.tail _ (.tail _ (.tail _ (.tail _ (.head _))))))) (all_cons (.tail _ (.tail _ (.tail _ (.tail _ (.tail _ (.tail _ (.tail _ (.head _)))))))) all_nil)) (all_cons (some_ne h935) (all_cons (some_ne h937) all_nil))
        refine ⟨_, rfl, _, _, _, _, _, rfl, (.ty _), (.base (.int _)), rfl, _, rfl, ?_⟩
        refine iteF ?_
        refine ⟨_, rfl, _, _, _, _, _, rfl, (.ty _), (.base (.int _)), rfl, _, rfl, ?_⟩
        refine iteF ?_
        refine ⟨_, rfl, _, rfl, _, _, _, _, rfl, rfl, (SqT.of (S936.sG _ _ h924)), rfl, _, _, rfl, rfl, _, rfl, ?_⟩
        refine iteNF (show ((item).2.1 : Int) = item.2.1 from by rfl) ?_
        refine ⟨_, rfl, _, _, _, _, rfl, rfl, (SqT.of (S936.sG _ _ h924)), rfl, _, rfl, _, _, _, _, rfl, rfl, (SqT.of (S936.sG _ _ h924)), rfl, _, _, rfl, rfl, _, rfl, ?_⟩
        refine iteD (fun c938 => ?_) (fun c938 => ?_)
        · have c938 : (item.1 : Int) = 1 := c938
          refine ⟨_, rfl, _, _, _, _, rfl, rfl, (SqT.of (S936.sG _ _ h924)), rfl, _, rfl, (by omega), fun p941 H939 n942 e940 h943 => ?_⟩
          have h944 : H939 p941 = some (.lst ((ueL (item.2.1) : (List Int)).map V.int)) := h943
          have fr945 := S936.free n942
          have S946 := S936.new n942 e940 h944 fr945
          refine ⟨_, _, rfl, (SqL.of h944), _, rfl, _, _, _, _, rfl, rfl, (SqT.of (S946.sG _ _ h924)), rfl, _, _, rfl, rfl, _, rfl, ?_⟩
          refine iteD (fun c947 => ?_) (fun c947 => ?_)
          · have c947 : (item.1 : Int) = 2 := c947
            refine ⟨_, rfl, _, _, _, _, rfl, rfl, (SqT.of (S946.sG _ _ h924)), rfl, _, rfl, (by omega), fun p950 H948 n951 e949 h952 => ?_⟩
            have h953 : H948 p950 = some (.lst ((ueL (seCode (item.2.1)) : (List Int)).map V.int)) := h952
            have fr954 := S946.free n951
            have S955 := S946.new n951 e949 h953 fr954
            refine ⟨_, _, rfl, (SqL.of h953), _, rfl, _, rfl, _, _, rfl, rfl, ?_⟩
            have h956 := (e949 _ _ (e940 _ _ (x934 _ _ h912 (ni2 (ne_of_none (e839 _ _ (e827 _ _ (e816 _ _ (e807 _ _ h796)))) n846) (ne_of_none (e851 _ _ (e839 _ _ (e827 _ _ (e816 _ _ (e807 _ _ h796))))) n864)))))
            have h957 := (e949 _ _ (e940 _ _ (x934 _ _ h913 (ni2 (ne_of_none (e839 _ _ (e827 _ _ h824)) n846) (ne_of_none (e851 _ _ (e839 _ _ (e827 _ _ h824))) n864)))))
            have h958 := (e949 _ _ (e940 _ _ (x934 _ _ h914 (ni2 (ne_of_none (e839 _ _ (e827 _ _ h825)) n846) (ne_of_none (e851 _ _ (e839 _ _ (e827 _ _ h825))) n864)))))
            have h959 := (e949 _ _ (e940 _ _ (x934 _ _ h915 (ni2 (ne_of_none (e839 _ _ (e827 _ _ (e816 _ _ h814))) n846) (ne_of_none (e851 _ _ (e839 _ _ (e827 _ _ (e816 _ _ h814)))) n864)))))
            have h960 := (e949 _ _ (e940 _ _ (x934 _ _ h916 (ni2 (ne_of_none (e839 _ _ h834) n846) (ne_of_none h855 n864)))))
            have h961 := (e949 _ _ (e940 _ _ (x934 _ _ h917 (ni2 (ne_of_none h841 n846) (ne_of_none (e851 _ _ h841) n864)))))
            have h962 := (e949 _ _ (e940 _ _ h935))
            have h963 := (e949 _ _ (e940 _ _ h937))
            refine ⟨s932, _, _, _, _, _, rfl, eG921, (S955.sub (all_cons (.tail _ (.tail _ (.head _))) (all_cons (.tail _ (.tail _ (.tail _ (.head _)))) (all_cons (.tail _ (.tail _ (.tail _ (.tail _ (.head _))))) (all_cons (.tail _ (.tail _ (.tail _ (.tail _ (.tail _ (.head _)))))) (all_cons (.tail _ (.tail _ (.tail _ (.tail _ (.tail _ (.tail _ (.head _))))))) (all_cons (.tail _ (.tail _ (.tail _ (.tail _ (.tail _ (.tail _ (.tail _ (.head _)))))))) (all_cons (.tail _ (.tail _ (.tail _ (.tail _ (.tail _ (.tail _ (.tail _ (.tail _ (.head _))))))))) (all_cons (.tail _ (.tail _ (.tail _ (.tail _ (.tail _ (.tail _ (.tail _ (.tail _ (.tail _ (.head _)))))))))) all_nil))))))))), h956, h957, h958, h959, h960, h961, h962, h963, ?_⟩
            rw [bits_drop hi] at hrr hle
            refine ⟨by rw [q933]; exact rr_move hrr, ?_⟩
            rw [List.length_append] at hle
            omega
          · have c947 : ¬ ((item.1 : Int) = 2) := c947
            refine ⟨_, rfl, _, rfl, _, _, rfl, rfl, ?_⟩
            have h964 := (e940 _ _ (x934 _ _ h912 (ni2 (ne_of_none (e839 _ _ (e827 _ _ (e816 _ _ (e807 _ _ h796)))) n846) (ne_of_none (e851 _ _ (e839 _ _ (e827 _ _ (e816 _ _ (e807 _ _ h796))))) n864))))
            have h965 := (e940 _ _ (x934 _ _ h913 (ni2 (ne_of_none (e839 _ _ (e827 _ _ h824)) n846) (ne_of_none (e851 _ _ (e839 _ _ (e827 _ _ h824))) n864))))
            have h966 := (e940 _ _ (x934 _ _ h914 (ni2 (ne_of_none (e839 _ _ (e827 _ _ h825)) n846) (ne_of_none (e851 _ _ (e839 _ _ (e827 _ _ h825))) n864))))
            have h967 := (e940 _ _ (x934 _ _ h915 (ni2 (ne_of_none (e839 _ _ (e827 _ _ (e816 _ _ h814))) n846) (ne_of_none (e851 _ _ (e839 _ _ (e827 _ _ (e816 _ _ h814)))) n864))))
            have h968 := (e940 _ _ (x934 _ _ h916 (ni2 (ne_of_none (e839 _ _ h834) n846) (ne_of_none h855 n864))))
            have h969 := (e940 _ _ (x934 _ _ h917 (ni2 (ne_of_none h841 n846) (ne_of_none (e851 _ _ h841) n864))))
            have h970 := (e940 _ _ h935)
            have h971 := (e940 _ _ h937)
            refine ⟨s932, _, _, _, _, _, rfl, eG921, (S946.sub (all_cons (.tail _ (.head _)) (all_cons (.tail _ (.tail _ (.head _))) (all_cons (.tail _ (.tail _ (.tail _ (.head _)))) (all_cons (.tail _ (.tail _ (.tail _ (.tail _ (.head _))))) (all_cons (.tail _ (.tail _ (.tail _ (.tail _ (.tail _ (.head _)))))) (all_cons (.tail _ (.tail _ (.tail _ (.tail _ (.tail _ (.tail _ (.head _))))))) (all_cons (.tail _ (.tail _ (.tail _ (.tail _ (.tail _ (.tail _ (.tail _ (.head _)))))))) (all_cons (.tail _ (.tail _ (.tail _ (.tail _ (.tail _ (.tail _ (.tail _ (.tail _ (.head _))))))))) all_nil))))))))), h964, h965, h966, h967, h968, h969, h970, h971, ?_⟩
            rw [bits_drop hi] at hrr hle
            refine ⟨by rw [q933]; exact rr_move hrr, ?_⟩
            rw [List.length_append] at hle
            omega
        · have c938 : ¬ ((item.1 : Int) = 1) := c938
          refine ⟨_, rfl, _, _, _, _, rfl, rfl, (SqT.of (S936.sG _ _ h924)), rfl, _, _, rfl, rfl, _, rfl, ?_⟩
          refine iteD (fun c972 => ?_) (fun c972 => ?_)
          · have c972 : (item.1 : Int) = 2 := c972
            refine ⟨_, rfl, _, _, _, _, rfl, rfl, (SqT.of (S936.sG _ _ h924)), rfl, _, rfl, (by omega), fun p975 H973 n976 e974 h977 => ?_⟩
            have h978 : H973 p975 = some (.lst ((ueL (seCode (item.2.1)) : (List Int)).map V.int)) := h977
            have fr979 := S936.free n976
            have S980 := S936.new n976 e974 h978 fr979
            refine ⟨_, _, rfl, (SqL.of h978), _, rfl, _, rfl, _, _, rfl, rfl, ?_⟩
            have h981 := (e974 _ _ (x934 _ _ h912 (ni2 (ne_of_none (e839 _ _ (e827 _ _ (e816 _ _ (e807 _ _ h796)))) n846) (ne_of_none (e851 _ _ (e839 _ _ (e827 _ _ (e816 _ _ (e807 _ _ h796))))) n864))))
            have h982 := (e974 _ _ (x934 _ _ h913 (ni2 (ne_of_none (e839 _ _ (e827 _ _ h824)) n846) (ne_of_none (e851 _ _ (e839 _ _ (e827 _ _ h824))) n864))))
            have h983 := (e974 _ _ (x934 _ _ h914 (ni2 (ne_of_none (e839 _ _ (e827 _ _ h825)) n846) (ne_of_none (e851 _ _ (e839 _ _ (e827 _ _ h825))) n864))))
            have h984 := (e974 _ _ (x934 _ _ h915 (ni2 (ne_of_none (e839 _ _ (e827 _ _ (e816 _ _ h814))) n846) (ne_of_none (e851 _ _ (e839 _ _ (e827 _ _ (e816 _ _ h814)))) n864))))
            have h985 := (e974 _ _ (x934 _ _ h916 (ni2 (ne_of_none (e839 _ _ h834) n846) (ne_of_none h855 n864))))
            have h986 := (e974 _ _ (x934 _ _ h917 (ni2 (ne_of_none h841 n846) (ne_of_none (e851 _ _ h841) n864))))
            have h987 := (e974 _ _ h935)
            have h988 := (e974 _ _ h937)
            refine ⟨s932, _, _, _, _, _, rfl, eG921, (S980.sub (all_cons (.tail _ (.head _)) (all_cons (.tail _ (.tail _ (.head _))) (all_cons (.tail _ (.tail _ (.tail _ (.head _)))) (all_cons (.tail _ (.tail _ (.tail _ (.tail _ (.head _))))) (all_cons (.tail _ (.tail _ (.tail _ (.tail _ (.tail _ (.head _)))))) (all_cons (.tail _ (.tail _ (.tail _ (.tail _ (.tail _ (.tail _ (.head _))))))) (all_cons (.tail _ (.tail _ (.tail _ (.tail _ (.tail _ (.tail _ (.tail _ (.head _)))))))) (all_cons (.tail _ (.tail _ (.tail _ (.tail _ (.tail _ (.tail _ (.tail _ (.tail _ (.head _))))))))) all_nil))))))))), h981, h982, h983, h984, h985, h986, h987, h988, ?_⟩
            rw [bits_drop hi] at hrr hle
            refine ⟨by rw [q933]; exact rr_move hrr, ?_⟩
            rw [List.length_append] at hle
            omega
          · have c972 : ¬ ((item.1 : Int) = 2) := c972
            refine ⟨_, rfl, _, rfl, _, _, rfl, rfl, ?_⟩
            have h989 := (x934 _ _ h912 (ni2 (ne_of_none (e839 _ _ (e827 _ _ (e816 _ _ (e807 _ _ h796)))) n846) (ne_of_none (e851 _ _ (e839 _ _ (e827 _ _ (e816 _ _ (e807 _ _ h796))))) n864)))
            have h990 := (x934 _ _ h913 (ni2 (ne_of_none (e839 _ _ (e827 _ _ h824)) n846) (ne_of_none (e851 _ _ (e839 _ _ (e827 _ _ h824))) n864)))
            have h991 := (x934 _ _ h914 (ni2 (ne_of_none (e839 _ _ (e827 _ _ h825)) n846) (ne_of_none (e851 _ _ (e839 _ _ (e827 _ _ h825))) n864)))
            have h992 := (x934 _ _ h915 (ni2 (ne_of_none (e839 _ _ (e827 _ _ (e816 _ _ h814))) n846) (ne_of_none (e851 _ _ (e839 _ _ (e827 _ _ (e816 _ _ h814)))) n864)))
            have h993 := (x934 _ _ h916 (ni2 (ne_of_none (e839 _ _ h834) n846) (ne_of_none h855 n864)))
            have h994 := (x934 _ _ h917 (ni2 (ne_of_none h841 n846) (ne_of_none (e851 _ _ h841) n864)))
            refine ⟨s932, _, _, _, _, _, rfl, eG921, S936, h989, h990, h991, h992, h993, h994, h935, h937, ?_⟩
            rw [bits_drop hi] at hrr hle
            refine ⟨by rw [q933]; exact rr_move hrr, ?_⟩
            rw [List.length_append] at hle
            omega
      · intro σ H995 hw
        rw [show (vs648).length = ((List.map itemB ((script)))).length from (by rw [(RpAll.mono eG805 d652).len, List.length_map])] at hw
        obtain ⟨reader, left, u_item, u_value, u_size, G1005, rfl, eG1006, S996, h997, h998, h999, h1000, h1001, h1002, h1003, h1004, hu⟩ := hw
        obtain ⟨hrr, hle⟩ := hu
        refine ⟨_, rfl, (.inl ⟨rfl, _, SqL.of h1001⟩), _, _, _, rfl, rfl, h1001, (app_lenM (by rw [List.length_append]; have := wr_full hwr (by omega); simp only [List.length_cons, List.length_nil]; omega)), ?_⟩
        generalize g1007 : upd H995 p808 _ = H1008
        obtain ⟨x1009, h1010⟩ := gen_mut g1007
        have h1011 : H1008 p808 = some (.lst ((((writer).full ++ [(2 * (writer).rest + 1) * 2 ^ (7 - (writer).bits).toNat]) ++ [0] : (List Int)).map V.int)) := snoc_map h1010
        have S1012 := S996.mut1 x1009 (.tail _ (.tail _ (.tail _ (.tail _ (.head _))))) h1011
        have h1013 := (x1009 _ _ h1003 (ne_of_none (e839 _ _ h834) n846).symm)
        have h1014 := (x1009 _ _ h1004 (ne_of_none h855 n864).symm)
        refine ⟨_, rfl, _, _, _, rfl, h1013, _, _, _, (reader : BrS), rfl, h1013, h1014, _, _, rfl, rfl, _, rfl, ?_⟩
        refine iteBT (show (decide (((reader).stop - (reader).place : Int) = 0)) = true from by have h1 := hrr.len; have h0 : (bitsOf ((List.map itemB script).drop (List.map itemB script).length)).length = 0 := (by rw [List.drop_length]; rfl); exact decide_eq_true (by omega)) ?_
        have h1015 := (x1009 _ _ h998 (ne_of_none h797 n809))
        have h1016 := (x1009 _ _ h999 (ne_of_none h798 n809))
        refine ⟨_, rfl, _, _, _, rfl, h1015, rfl, _, _, _, (writer : BwS), rfl, h1015, h1016, (by first | exact hwr.g | (have := wr_full hwr (by omega); omega)), (by first | exact hwr.g | (have := wr_full hwr (by omega); omega)), fun p1019 H1017 n1020 e1018 h1021 => ?_⟩
        have h1022 : H1017 p1019 = some (.lst (((writer).full ++ [(2 * (writer).rest + 1) * 2 ^ (7 - (writer).bits).toNat] : (List Int)).map V.int)) := h1021
        have fr1023 := S1012.free n1020
        have S1024 := S1012.new n1020 e1018 h1022 fr1023
        have h1025 := (e1018 _ _ (x1009 _ _ h1002 (ne_of_none h834 n836).symm))
        refine ⟨_, rfl, _, _, (rp_mk_ints h1022), (rp_mk_ints h1025), ?_⟩
        exact eq_bl (k _) (by exact (decide_eq_true rfl).symm)
end
def spL (K : PySem.W.Frag) : Sp := fun vs H Q _ => ∃ (a_script : Addr) (script : List Int), vs = [.ref a_script] ∧ SqL K H a_script (script.map V.int) ∧ script.length ≤ 63 ∧ ∀ H', Q (.bl true) H'
theorem all_mk {l : PySem.W.OpenLaw} {w : World} {K : PySem.W.Frag} {h : Heap} {mg : Str → Option Value} {fa : Addr} (X : K.In h) (G : h.Ns mainGlobals mg) (hfa : mg "law" = some (.ref fa))
    {f0 f1 f2 f3 f4 f5 f6 f7 f8 f9 f10 f11 f12 f13 f14 f15 f16 f17 f18 f19 f20 f21 f22 f23 f24 CBitWriter CBitReader q1 q9 : Addr} {od0 an0 od1 an1 od2 an2 od3 an3 od4 an4 od5 an5 od6 an6 od7 an7 od8 an8 od9 an9 od10 an10 od11 an11 od12 an12 od13 an13 od14 an14 od15 an15 od16 an16 od17 an17 od18 an18 od19 an19 od20 an20 od21 an21 od22 an22 od23 an23 od24 an24 : Option Addr} {sl0 sl1 sl2 sl3 sl4 sl5 sl6 sl7 sl8 sl9 sl10 sl11 sl12 sl13 sl14 sl15 sl16 sl17 sl18 sl19 sl20 sl21 sl22 sl23 sl24 : Array (Option Value)} {oc0 kV0 dc0 pm0 cd0 ct0 oc1 kV1 dc1 pm1 cd1 ct1 oc2 kV2 dc2 pm2 cd2 ct2 oc3 kV3 dc3 pm3 cd3 ct3 oc4 kV4 dc4 pm4 cd4 ct4 oc5 kV5 dc5 pm5 cd5 ct5 oc6 kV6 dc6 pm6 cd6 ct6 oc7 kV7 dc7 pm7 cd7 ct7 oc8 kV8 dc8 pm8 cd8 ct8 oc9 kV9 dc9 pm9 cd9 ct9 oc10 kV10 dc10 pm10 cd10 ct10 oc11 kV11 dc11 pm11 cd11 ct11 oc12 kV12 dc12 pm12 cd12 ct12 oc13 kV13 dc13 pm13 cd13 ct13 oc14 kV14 dc14 pm14 cd14 ct14 oc15 kV15 dc15 pm15 cd15 ct15 oc16 kV16 dc16 pm16 cd16 ct16 oc17 kV17 dc17 pm17 cd17 ct17 oc18 kV18 dc18 pm18 cd18 ct18 oc19 kV19 dc19 pm19 cd19 ct19 oc20 kV20 dc20 pm20 cd20 ct20 oc21 kV21 dc21 pm21 cd21 ct21 oc22 kV22 dc22 pm22 cd22 ct22 oc23 kV23 dc23 pm23 cd23 ct23 oc24 kV24 dc24 pm24 cd24 ct24 : Value} {rs1 rs9 : List Value} {tk1 tk3 : Tok}
    (wBitWriter : PySem.W.nsIn K mainGlobals "BitWriter" = some (some (.ref CBitWriter))) (wBitReader : PySem.W.nsIn K mainGlobals "BitReader" = some (some (.ref CBitReader))) (a0 : PySem.W.findIn K (.ref CBitWriter) "__init__" = some (some (.ref f0))) (b0 : PySem.W.isFn K (.ref f0) = true) (d0 : PySem.W.makesIn K CBitWriter = true) (e0 : PySem.W.keepIn K (.ref CBitWriter) = true) (l0 : K.lookup f0 = some ⟨oc0, od0, .func (PySem.W.fnOf "__init__" "BitWriter.__init__" (defArgs s_BitWriter___init__) (defBody s_BitWriter___init__) (defScope s_BitWriter___init__) .none kV0 dc0 pm0 an0 cd0 ct0), sl0⟩) (c0 : PySem.W.codeIn K cd0 "BitWriter.__init__" = true) (k0 : PySem.W.keepIn K (.ref f0) = true) (a1 : PySem.W.findIn K (.ref CBitWriter) "length" = some (some (.ref q1))) (b1 : PySem.W.specialIn K (.ref q1) "__get__" = some (some (.builtin "property.__get__"))) (d1 : PySem.W.takesIn K (.ref q1) = some true) (e1 : PySem.W.recIn K q1 "property" = some (.ref f1 :: rs1)) (l1 : K.lookup f1 = some ⟨oc1, od1, .func (PySem.W.fnOf "length" "BitWriter.length" (defArgs s_BitWriter_length) (defBody s_BitWriter_length) (defScope s_BitWriter_length) .none kV1 dc1 pm1 an1 cd1 ct1), sl1⟩) (c1 : PySem.W.codeIn K cd1 "BitWriter.length" = true) (k1 : PySem.W.keepIn K (.ref f1) = true) (a2 : PySem.W.findIn K (.ref CBitWriter) "_add" = some (some (.ref f2))) (b2 : PySem.W.isFn K (.ref f2) = true) (l2 : K.lookup f2 = some ⟨oc2, od2, .func (PySem.W.fnOf "_add" "BitWriter._add" (defArgs s_BitWriter__add) (defBody s_BitWriter__add) (defScope s_BitWriter__add) .none kV2 dc2 pm2 an2 cd2 ct2), sl2⟩) (c2 : PySem.W.codeIn K cd2 "BitWriter._add" = true) (k2 : PySem.W.keepIn K (.ref f2) = true) (a3 : PySem.W.findIn K (.ref CBitWriter) "put" = some (some (.ref f3))) (b3 : PySem.W.isFn K (.ref f3) = true) (l3 : K.lookup f3 = some ⟨oc3, od3, .func (PySem.W.fnOf "put" "BitWriter.put" (defArgs s_BitWriter_put) (defBody s_BitWriter_put) (defScope s_BitWriter_put) .none kV3 dc3 pm3 an3 cd3 ct3), sl3⟩) (c3 : PySem.W.codeIn K cd3 "BitWriter.put" = true) (k3 : PySem.W.keepIn K (.ref f3) = true) (a4 : PySem.W.findIn K (.ref CBitWriter) "put_ue" = some (some (.ref f4))) (b4 : PySem.W.isFn K (.ref f4) = true) (l4 : K.lookup f4 = some ⟨oc4, od4, .func (PySem.W.fnOf "put_ue" "BitWriter.put_ue" (defArgs s_BitWriter_put_ue) (defBody s_BitWriter_put_ue) (defScope s_BitWriter_put_ue) .none kV4 dc4 pm4 an4 cd4 ct4), sl4⟩) (c4 : PySem.W.codeIn K cd4 "BitWriter.put_ue" = true) (k4 : PySem.W.keepIn K (.ref f4) = true) (a5 : PySem.W.findIn K (.ref CBitWriter) "put_se" = some (some (.ref f5))) (b5 : PySem.W.isFn K (.ref f5) = true) (l5 : K.lookup f5 = some ⟨oc5, od5, .func (PySem.W.fnOf "put_se" "BitWriter.put_se" (defArgs s_BitWriter_put_se) (defBody s_BitWriter_put_se) (defScope s_BitWriter_put_se) .none kV5 dc5 pm5 an5 cd5 ct5), sl5⟩) (c5 : PySem.W.codeIn K cd5 "BitWriter.put_se" = true) (k5 : PySem.W.keepIn K (.ref f5) = true) (a6 : PySem.W.findIn K (.ref CBitWriter) "octets" = some (some (.ref f6))) (b6 : PySem.W.isFn K (.ref f6) = true) (l6 : K.lookup f6 = some ⟨oc6, od6, .func (PySem.W.fnOf "octets" "BitWriter.octets" (defArgs s_BitWriter_octets) (defBody s_BitWriter_octets) (defScope s_BitWriter_octets) .none kV6 dc6 pm6 an6 cd6 ct6), sl6⟩) (c6 : PySem.W.codeIn K cd6 "BitWriter.octets" = true) (k6 : PySem.W.keepIn K (.ref f6) = true) (a7 : PySem.W.nsIn K mainGlobals "_last_bit" = some (some (.ref f7))) (l7 : K.lookup f7 = some ⟨oc7, od7, .func (PySem.W.fnOf "_last_bit" "_last_bit" (defArgs s__last_bit) (defBody s__last_bit) (defScope s__last_bit) .none kV7 dc7 pm7 an7 cd7 ct7), sl7⟩) (c7 : PySem.W.codeIn K cd7 "_last_bit" = true) (k7 : PySem.W.keepIn K (.ref f7) = true) (a8 : PySem.W.findIn K (.ref CBitReader) "__init__" = some (some (.ref f8))) (b8 : PySem.W.isFn K (.ref f8) = true) (d8 : PySem.W.makesIn K CBitReader = true) (e8 : PySem.W.keepIn K (.ref CBitReader) = true) (l8 : K.lookup f8 = some ⟨oc8, od8, .func (PySem.W.fnOf "__init__" "BitReader.__init__" (defArgs s_BitReader___init__) (defBody s_BitReader___init__) (defScope s_BitReader___init__) .none kV8 dc8 pm8 an8 cd8 ct8), sl8⟩) (c8 : PySem.W.codeIn K cd8 "BitReader.__init__" = true) (k8 : PySem.W.keepIn K (.ref f8) = true) (a9 : PySem.W.findIn K (.ref CBitReader) "left" = some (some (.ref q9))) (b9 : PySem.W.specialIn K (.ref q9) "__get__" = some (some (.builtin "property.__get__"))) (d9 : PySem.W.takesIn K (.ref q9) = some true) (e9 : PySem.W.recIn K q9 "property" = some (.ref f9 :: rs9)) (l9 : K.lookup f9 = some ⟨oc9, od9, .func (PySem.W.fnOf "left" "BitReader.left" (defArgs s_BitReader_left) (defBody s_BitReader_left) (defScope s_BitReader_left) .none kV9 dc9 pm9 an9 cd9 ct9), sl9⟩) (c9 : PySem.W.codeIn K cd9 "BitReader.left" = true) (k9 : PySem.W.keepIn K (.ref f9) = true) (a10 : PySem.W.findIn K (.ref CBitReader) "_look" = some (some (.ref f10))) (b10 : PySem.W.isFn K (.ref f10) = true) (l10 : K.lookup f10 = some ⟨oc10, od10, .func (PySem.W.fnOf "_look" "BitReader._look" (defArgs s_BitReader__look) (defBody s_BitReader__look) (defScope s_BitReader__look) .none kV10 dc10 pm10 an10 cd10 ct10), sl10⟩) (c10 : PySem.W.codeIn K cd10 "BitReader._look" = true) (k10 : PySem.W.keepIn K (.ref f10) = true) (a11 : PySem.W.findIn K (.ref CBitReader) "_take" = some (some (.ref f11))) (b11 : PySem.W.isFn K (.ref f11) = true) (l11 : K.lookup f11 = some ⟨oc11, od11, .func (PySem.W.fnOf "_take" "BitReader._take" (defArgs s_BitReader__take) (defBody s_BitReader__take) (defScope s_BitReader__take) .none kV11 dc11 pm11 an11 cd11 ct11), sl11⟩) (c11 : PySem.W.codeIn K cd11 "BitReader._take" = true) (k11 : PySem.W.keepIn K (.ref f11) = true) (a12 : PySem.W.findIn K (.ref CBitReader) "get" = some (some (.ref f12))) (b12 : PySem.W.isFn K (.ref f12) = true) (l12 : K.lookup f12 = some ⟨oc12, od12, .func (PySem.W.fnOf "get" "BitReader.get" (defArgs s_BitReader_get) (defBody s_BitReader_get) (defScope s_BitReader_get) .none kV12 dc12 pm12 an12 cd12 ct12), sl12⟩) (c12 : PySem.W.codeIn K cd12 "BitReader.get" = true) (k12 : PySem.W.keepIn K (.ref f12) = true) (a13 : PySem.W.findIn K (.ref CBitReader) "_zeros" = some (some (.ref f13))) (b13 : PySem.W.isFn K (.ref f13) = true) (l13 : K.lookup f13 = some ⟨oc13, od13, .func (PySem.W.fnOf "_zeros" "BitReader._zeros" (defArgs s_BitReader__zeros) (defBody s_BitReader__zeros) (defScope s_BitReader__zeros) .none kV13 dc13 pm13 an13 cd13 ct13), sl13⟩) (c13 : PySem.W.codeIn K cd13 "BitReader._zeros" = true) (k13 : PySem.W.keepIn K (.ref f13) = true) (a14 : PySem.W.findIn K (.ref CBitReader) "get_ue" = some (some (.ref f14))) (b14 : PySem.W.isFn K (.ref f14) = true) (l14 : K.lookup f14 = some ⟨oc14, od14, .func (PySem.W.fnOf "get_ue" "BitReader.get_ue" (defArgs s_BitReader_get_ue) (defBody s_BitReader_get_ue) (defScope s_BitReader_get_ue) .none kV14 dc14 pm14 an14 cd14 ct14), sl14⟩) (c14 : PySem.W.codeIn K cd14 "BitReader.get_ue" = true) (k14 : PySem.W.keepIn K (.ref f14) = true) (a15 : PySem.W.findIn K (.ref CBitReader) "get_se" = some (some (.ref f15))) (b15 : PySem.W.isFn K (.ref f15) = true) (l15 : K.lookup f15 = some ⟨oc15, od15, .func (PySem.W.fnOf "get_se" "BitReader.get_se" (defArgs s_BitReader_get_se) (defBody s_BitReader_get_se) (defScope s_BitReader_get_se) .none kV15 dc15 pm15 an15 cd15 ct15), sl15⟩) (c15 : PySem.W.codeIn K cd15 "BitReader.get_se" = true) (k15 : PySem.W.keepIn K (.ref f15) = true) (a16 : PySem.W.nsIn K mainGlobals "_law_draws" = some (some (.ref f16))) (l16 : K.lookup f16 = some ⟨oc16, od16, .func (PySem.W.fnOf "_law_draws" "_law_draws" (defArgs s__law_draws) (defBody s__law_draws) (defScope s__law_draws) .none kV16 dc16 pm16 an16 cd16 ct16), sl16⟩) (c16 : PySem.W.codeIn K cd16 "_law_draws" = true) (k16 : PySem.W.keepIn K (.ref f16) = true) (a17 : PySem.W.nsIn K mainGlobals "_law_bits" = some (some (.ref f17))) (l17 : K.lookup f17 = some ⟨oc17, od17, .func (PySem.W.fnOf "_law_bits" "_law_bits" (defArgs s__law_bits) (defBody s__law_bits) (defScope s__law_bits) .none kV17 dc17 pm17 an17 cd17 ct17), sl17⟩) (c17 : PySem.W.codeIn K cd17 "_law_bits" = true) (k17 : PySem.W.keepIn K (.ref f17) = true) (a18 : PySem.W.nsIn K mainGlobals "_law_ue" = some (some (.ref f18))) (l18 : K.lookup f18 = some ⟨oc18, od18, .func (PySem.W.fnOf "_law_ue" "_law_ue" (defArgs s__law_ue) (defBody s__law_ue) (defScope s__law_ue) .none kV18 dc18 pm18 an18 cd18 ct18), sl18⟩) (c18 : PySem.W.codeIn K cd18 "_law_ue" = true) (k18 : PySem.W.keepIn K (.ref f18) = true) (a19 : PySem.W.nsIn K mainGlobals "_law_se" = some (some (.ref f19))) (l19 : K.lookup f19 = some ⟨oc19, od19, .func (PySem.W.fnOf "_law_se" "_law_se" (defArgs s__law_se) (defBody s__law_se) (defScope s__law_se) .none kV19 dc19 pm19 an19 cd19 ct19), sl19⟩) (c19 : PySem.W.codeIn K cd19 "_law_se" = true) (k19 : PySem.W.keepIn K (.ref f19) = true) (a20 : PySem.W.nsIn K mainGlobals "_law_packed" = some (some (.ref f20))) (l20 : K.lookup f20 = some ⟨oc20, od20, .func (PySem.W.fnOf "_law_packed" "_law_packed" (defArgs s__law_packed) (defBody s__law_packed) (defScope s__law_packed) .none kV20 dc20 pm20 an20 cd20 ct20), sl20⟩) (c20 : PySem.W.codeIn K cd20 "_law_packed" = true) (k20 : PySem.W.keepIn K (.ref f20) = true) (a21 : PySem.W.nsIn K mainGlobals "_law_item" = some (some (.ref f21))) (l21 : K.lookup f21 = some ⟨oc21, od21, .func (PySem.W.fnOf "_law_item" "_law_item" (defArgs s__law_item) (defBody s__law_item) (defScope s__law_item) .none kV21 dc21 pm21 an21 cd21 ct21), sl21⟩) (c21 : PySem.W.codeIn K cd21 "_law_item" = true) (k21 : PySem.W.keepIn K (.ref f21) = true) (a22 : PySem.W.nsIn K mainGlobals "_law_put" = some (some (.ref f22))) (l22 : K.lookup f22 = some ⟨oc22, od22, .func (PySem.W.fnOf "_law_put" "_law_put" (defArgs s__law_put) (defBody s__law_put) (defScope s__law_put) .none kV22 dc22 pm22 an22 cd22 ct22), sl22⟩) (c22 : PySem.W.codeIn K cd22 "_law_put" = true) (k22 : PySem.W.keepIn K (.ref f22) = true) (a23 : PySem.W.nsIn K mainGlobals "_law_get" = some (some (.ref f23))) (l23 : K.lookup f23 = some ⟨oc23, od23, .func (PySem.W.fnOf "_law_get" "_law_get" (defArgs s__law_get) (defBody s__law_get) (defScope s__law_get) .none kV23 dc23 pm23 an23 cd23 ct23), sl23⟩) (c23 : PySem.W.codeIn K cd23 "_law_get" = true) (k23 : PySem.W.keepIn K (.ref f23) = true) (a24 : PySem.W.nsIn K mainGlobals "law" = some (some (.ref f24))) (l24 : K.lookup f24 = some ⟨oc24, od24, .func (PySem.W.fnOf "law" "law" (defArgs s_law) (defBody s_law) (defScope s_law) .none kV24 dc24 pm24 an24 cd24 ct24), sl24⟩) (c24 : PySem.W.codeIn K cd24 "law" = true) (k24 : PySem.W.keepIn K (.ref f24) = true)
    (z0 : PySem.W.nsIn K mainGlobals "len" = some none) (z1 : PySem.W.nsIn K mainGlobals "MOST_BITS" = some (some (.int 64 tk1))) (z2 : PySem.W.nsIn K mainGlobals "list" = some none) (z3 : PySem.W.nsIn K mainGlobals "MOST_ZEROS" = some (some (.int 32 tk3))) (z4 : PySem.W.nsIn K mainGlobals "abs" = some none) (z5 : PySem.W.nsIn K mainGlobals "int" = some none) (z6 : PySem.W.nsIn K mainGlobals "range" = some none) (z7 : PySem.W.nsIn K mainGlobals "sum" = some none) (z8 : PySem.W.nsIn K mainGlobals "isinstance" = some none) (z9 : PySem.W.nsIn K mainGlobals "bool" = some none) (yBitWriter0 : PySem.W.plainGet K CBitWriter Str.empty = true) (yBitWriter1 : PySem.W.hasDictIn K CBitWriter = true) (yBitWriter2 : PySem.W.plainOver K CBitWriter = true) (yBitWriter3 : PySem.W.findIn K (.ref CBitWriter) "__setattr__" = some (some (.builtin "object.__setattr__"))) (xBitWriter0 : PySem.W.findIn K (.ref CBitWriter) "_full" = some none) (xBitWriter1 : PySem.W.findIn K (.ref CBitWriter) "_rest" = some none) (xBitWriter2 : PySem.W.findIn K (.ref CBitWriter) "_rest_bits" = some none) (yBitReader0 : PySem.W.plainGet K CBitReader Str.empty = true) (yBitReader1 : PySem.W.hasDictIn K CBitReader = true) (yBitReader2 : PySem.W.plainOver K CBitReader = true) (yBitReader3 : PySem.W.findIn K (.ref CBitReader) "__setattr__" = some (some (.builtin "object.__setattr__"))) (xBitReader0 : PySem.W.findIn K (.ref CBitReader) "_octets" = some none) (xBitReader1 : PySem.W.findIn K (.ref CBitReader) "_place" = some none) (xBitReader2 : PySem.W.findIn K (.ref CBitReader) "_end" = some none) :
    ∃ fd : FuncData, (∀ (s : Shared) (v : Value), BindsTo s fd ⟨[v], []⟩ [("script", v)]) ∧ ∀ base : Heap, K.In base → base.Ns mainGlobals mg → FnOk l.prog w K mg base CX0 6 fa fd ["script"] (spL K) := by
  have e := hfa.symm.trans (PySem.W.mg_of X G a24)
  cases e
  have T : Txt K mg ⟨CBitWriter, CBitReader⟩ := ⟨PySem.W.mg_none_of X G z0, ⟨_, PySem.W.mg_of X G z1, ⟨_, rfl⟩⟩, PySem.W.mg_none_of X G z2, ⟨_, PySem.W.mg_of X G z3, ⟨_, rfl⟩⟩, PySem.W.mg_none_of X G z4, PySem.W.mg_none_of X G z5, PySem.W.mg_none_of X G z6, PySem.W.mg_none_of X G z7, PySem.W.mg_none_of X G z8, PySem.W.mg_none_of X G z9, ⟨yBitWriter0, yBitWriter1, yBitWriter2, yBitWriter3⟩, xBitWriter0, xBitWriter1, xBitWriter2, ⟨yBitReader0, yBitReader1, yBitReader2, yBitReader3⟩, xBitReader0, xBitReader1, xBitReader2⟩
  have F0 := fun_mk (st := s_BitWriter___init__) l0 c0 k0
  have bd0 := F0.binds (ps := ["self"]) fun _ _ _ _ _ _ us hl => match us, hl with | [_], _ => rfl
  have D0 : InitIn K mg CBitWriter "BitWriter" "BitWriter.__init__" s_BitWriter___init__ ["self"] := ⟨_, _, F0, ⟨d0, a0, b0, e0⟩, PySem.W.mg_of X G wBitWriter, bd0⟩
  have F1 := fun_mk (st := s_BitWriter_length) l1 c1 k1
  have bd1 := F1.binds (ps := ["self"]) fun _ _ _ _ _ _ us hl => match us, hl with | [_], _ => rfl
  have D1 : PropIn K CBitWriter "BitWriter.length" "length" s_BitWriter_length ["self"] := ⟨_, _, _, F1, ⟨a1, b1, d1, _, e1⟩, bd1⟩
  have F2 := fun_mk (st := s_BitWriter__add) l2 c2 k2
  have bd2 := F2.binds (ps := ["self", "value", "count"]) fun _ _ _ _ _ _ us hl => match us, hl with | [_, _, _], _ => rfl
  have D2 : MethIn K CBitWriter "BitWriter._add" "_add" s_BitWriter__add ["self", "value", "count"] := ⟨_, _, F2, ⟨a2, b2, k2⟩, bd2⟩
  have F3 := fun_mk (st := s_BitWriter_put) l3 c3 k3
  have bd3 := F3.binds (ps := ["self", "value", "count"]) fun _ _ _ _ _ _ us hl => match us, hl with | [_, _, _], _ => rfl
  have D3 : MethIn K CBitWriter "BitWriter.put" "put" s_BitWriter_put ["self", "value", "count"] := ⟨_, _, F3, ⟨a3, b3, k3⟩, bd3⟩
  have F4 := fun_mk (st := s_BitWriter_put_ue) l4 c4 k4
  have bd4 := F4.binds (ps := ["self", "value"]) fun _ _ _ _ _ _ us hl => match us, hl with | [_, _], _ => rfl
  have D4 : MethIn K CBitWriter "BitWriter.put_ue" "put_ue" s_BitWriter_put_ue ["self", "value"] := ⟨_, _, F4, ⟨a4, b4, k4⟩, bd4⟩
  have F5 := fun_mk (st := s_BitWriter_put_se) l5 c5 k5
  have bd5 := F5.binds (ps := ["self", "value"]) fun _ _ _ _ _ _ us hl => match us, hl with | [_, _], _ => rfl
  have D5 : MethIn K CBitWriter "BitWriter.put_se" "put_se" s_BitWriter_put_se ["self", "value"] := ⟨_, _, F5, ⟨a5, b5, k5⟩, bd5⟩
  have F6 := fun_mk (st := s_BitWriter_octets) l6 c6 k6
  have bd6 := F6.binds (ps := ["self"]) fun _ _ _ _ _ _ us hl => match us, hl with | [_], _ => rfl
  have D6 : MethIn K CBitWriter "BitWriter.octets" "octets" s_BitWriter_octets ["self"] := ⟨_, _, F6, ⟨a6, b6, k6⟩, bd6⟩
  have F7 := fun_mk (st := s__last_bit) l7 c7 k7
  have bd7 := F7.binds (ps := ["octet"]) fun _ _ _ _ _ _ us hl => match us, hl with | [_], _ => rfl
  have D7 : DefIn K mg "_last_bit" s__last_bit ["octet"] := ⟨_, _, F7, PySem.W.mg_of X G a7, bd7⟩
  have F8 := fun_mk (st := s_BitReader___init__) l8 c8 k8
  have bd8 := F8.binds (ps := ["self", "octets"]) fun _ _ _ _ _ _ us hl => match us, hl with | [_, _], _ => rfl
  have D8 : InitIn K mg CBitReader "BitReader" "BitReader.__init__" s_BitReader___init__ ["self", "octets"] := ⟨_, _, F8, ⟨d8, a8, b8, e8⟩, PySem.W.mg_of X G wBitReader, bd8⟩
  have F9 := fun_mk (st := s_BitReader_left) l9 c9 k9
  have bd9 := F9.binds (ps := ["self"]) fun _ _ _ _ _ _ us hl => match us, hl with | [_], _ => rfl
  have D9 : PropIn K CBitReader "BitReader.left" "left" s_BitReader_left ["self"] := ⟨_, _, _, F9, ⟨a9, b9, d9, _, e9⟩, bd9⟩
  have F10 := fun_mk (st := s_BitReader__look) l10 c10 k10
  have bd10 := F10.binds (ps := ["self", "place", "count"]) fun _ _ _ _ _ _ us hl => match us, hl with | [_, _, _], _ => rfl
  have D10 : MethIn K CBitReader "BitReader._look" "_look" s_BitReader__look ["self", "place", "count"] := ⟨_, _, F10, ⟨a10, b10, k10⟩, bd10⟩
  have F11 := fun_mk (st := s_BitReader__take) l11 c11 k11
  have bd11 := F11.binds (ps := ["self", "count"]) fun _ _ _ _ _ _ us hl => match us, hl with | [_, _], _ => rfl
  have D11 : MethIn K CBitReader "BitReader._take" "_take" s_BitReader__take ["self", "count"] := ⟨_, _, F11, ⟨a11, b11, k11⟩, bd11⟩
  have F12 := fun_mk (st := s_BitReader_get) l12 c12 k12
  have bd12 := F12.binds (ps := ["self", "count"]) fun _ _ _ _ _ _ us hl => match us, hl with | [_, _], _ => rfl
  have D12 : MethIn K CBitReader "BitReader.get" "get" s_BitReader_get ["self", "count"] := ⟨_, _, F12, ⟨a12, b12, k12⟩, bd12⟩
  have F13 := fun_mk (st := s_BitReader__zeros) l13 c13 k13
  have bd13 := F13.binds (ps := ["self"]) fun _ _ _ _ _ _ us hl => match us, hl with | [_], _ => rfl
  have D13 : MethIn K CBitReader "BitReader._zeros" "_zeros" s_BitReader__zeros ["self"] := ⟨_, _, F13, ⟨a13, b13, k13⟩, bd13⟩
  have F14 := fun_mk (st := s_BitReader_get_ue) l14 c14 k14
  have bd14 := F14.binds (ps := ["self"]) fun _ _ _ _ _ _ us hl => match us, hl with | [_], _ => rfl
  have D14 : MethIn K CBitReader "BitReader.get_ue" "get_ue" s_BitReader_get_ue ["self"] := ⟨_, _, F14, ⟨a14, b14, k14⟩, bd14⟩
  have F15 := fun_mk (st := s_BitReader_get_se) l15 c15 k15
  have bd15 := F15.binds (ps := ["self"]) fun _ _ _ _ _ _ us hl => match us, hl with | [_], _ => rfl
  have D15 : MethIn K CBitReader "BitReader.get_se" "get_se" s_BitReader_get_se ["self"] := ⟨_, _, F15, ⟨a15, b15, k15⟩, bd15⟩
  have F16 := fun_mk (st := s__law_draws) l16 c16 k16
  have bd16 := F16.binds (ps := ["cell", "limits"]) fun _ _ _ _ _ _ us hl => match us, hl with | [_, _], _ => rfl
  have D16 : DefIn K mg "_law_draws" s__law_draws ["cell", "limits"] := ⟨_, _, F16, PySem.W.mg_of X G a16, bd16⟩
  have F17 := fun_mk (st := s__law_bits) l17 c17 k17
  have bd17 := F17.binds (ps := ["value", "count"]) fun _ _ _ _ _ _ us hl => match us, hl with | [_, _], _ => rfl
  have D17 : DefIn K mg "_law_bits" s__law_bits ["value", "count"] := ⟨_, _, F17, PySem.W.mg_of X G a17, bd17⟩
  have F18 := fun_mk (st := s__law_ue) l18 c18 k18
  have bd18 := F18.binds (ps := ["value"]) fun _ _ _ _ _ _ us hl => match us, hl with | [_], _ => rfl
  have D18 : DefIn K mg "_law_ue" s__law_ue ["value"] := ⟨_, _, F18, PySem.W.mg_of X G a18, bd18⟩
  have F19 := fun_mk (st := s__law_se) l19 c19 k19
  have bd19 := F19.binds (ps := ["value"]) fun _ _ _ _ _ _ us hl => match us, hl with | [_], _ => rfl
  have D19 : DefIn K mg "_law_se" s__law_se ["value"] := ⟨_, _, F19, PySem.W.mg_of X G a19, bd19⟩
  have F20 := fun_mk (st := s__law_packed) l20 c20 k20
  have bd20 := F20.binds (ps := ["bits"]) fun _ _ _ _ _ _ us hl => match us, hl with | [_], _ => rfl
  have D20 : DefIn K mg "_law_packed" s__law_packed ["bits"] := ⟨_, _, F20, PySem.W.mg_of X G a20, bd20⟩
  have F21 := fun_mk (st := s__law_item) l21 c21 k21
  have bd21 := F21.binds (ps := ["cell"]) fun _ _ _ _ _ _ us hl => match us, hl with | [_], _ => rfl
  have D21 : DefIn K mg "_law_item" s__law_item ["cell"] := ⟨_, _, F21, PySem.W.mg_of X G a21, bd21⟩
  have F22 := fun_mk (st := s__law_put) l22 c22 k22
  have bd22 := F22.binds (ps := ["writer", "item"]) fun _ _ _ _ _ _ us hl => match us, hl with | [_, _], _ => rfl
  have D22 : DefIn K mg "_law_put" s__law_put ["writer", "item"] := ⟨_, _, F22, PySem.W.mg_of X G a22, bd22⟩
  have F23 := fun_mk (st := s__law_get) l23 c23 k23
  have bd23 := F23.binds (ps := ["reader", "item"]) fun _ _ _ _ _ _ us hl => match us, hl with | [_, _], _ => rfl
  have D23 : DefIn K mg "_law_get" s__law_get ["reader", "item"] := ⟨_, _, F23, PySem.W.mg_of X G a23, bd23⟩
  have F24 := fun_mk (st := s_law) l24 c24 k24
  have bd24 := F24.binds (ps := ["script"]) fun _ _ _ _ _ _ us hl => match us, hl with | [_], _ => rfl
  have D24 : DefIn K mg "law" s_law ["script"] := ⟨_, _, F24, PySem.W.mg_of X G a24, bd24⟩
  have R_BitWriter___init__ : ∀ base : Heap, MakC l.prog w K mg base 1 "BitWriter" (⟨CBitWriter, CBitReader⟩ : Ads).c_BitWriter (sp_BitWriter___init__ K ⟨CBitWriter, CBitReader⟩) := fun base => ok_BitWriter___init__ D0 T 
  have R_BitWriter_length : ∀ base : Heap, PropC l.prog w K mg base 1 (⟨CBitWriter, CBitReader⟩ : Ads).c_BitWriter "length" (sp_BitWriter_length K ⟨CBitWriter, CBitReader⟩) := fun base => ok_BitWriter_length D1 T 
  have R_BitWriter__add : ∀ base : Heap, MetC l.prog w K mg base 1 (⟨CBitWriter, CBitReader⟩ : Ads).c_BitWriter "_add" (sp_BitWriter__add K ⟨CBitWriter, CBitReader⟩) := fun base => ok_BitWriter__add D2 T 
  have R_BitWriter_put : ∀ base : Heap, MetC l.prog w K mg base 2 (⟨CBitWriter, CBitReader⟩ : Ads).c_BitWriter "put" (sp_BitWriter_put K ⟨CBitWriter, CBitReader⟩) := fun base => ok_BitWriter_put D3 T (R_BitWriter__add base)
  have R_BitWriter_put_ue : ∀ base : Heap, MetC l.prog w K mg base 2 (⟨CBitWriter, CBitReader⟩ : Ads).c_BitWriter "put_ue" (sp_BitWriter_put_ue K ⟨CBitWriter, CBitReader⟩) := fun base => ok_BitWriter_put_ue D4 T (R_BitWriter__add base)
  have R_BitWriter_put_se : ∀ base : Heap, MetC l.prog w K mg base 3 (⟨CBitWriter, CBitReader⟩ : Ads).c_BitWriter "put_se" (sp_BitWriter_put_se K ⟨CBitWriter, CBitReader⟩) := fun base => ok_BitWriter_put_se D5 T (R_BitWriter_put_ue base)
  have R_BitWriter_octets : ∀ base : Heap, MetC l.prog w K mg base 1 (⟨CBitWriter, CBitReader⟩ : Ads).c_BitWriter "octets" (sp_BitWriter_octets K ⟨CBitWriter, CBitReader⟩) := fun base => ok_BitWriter_octets D6 T 
  have R__last_bit : ∀ base : Heap, Cal l.prog w K mg base 1 "_last_bit" (sp__last_bit K ⟨CBitWriter, CBitReader⟩) := fun base => ok__last_bit D7 T 
  have R_BitReader___init__ : ∀ base : Heap, MakC l.prog w K mg base 2 "BitReader" (⟨CBitWriter, CBitReader⟩ : Ads).c_BitReader (sp_BitReader___init__ K ⟨CBitWriter, CBitReader⟩) := fun base => ok_BitReader___init__ D8 T (R__last_bit base)
  have R_BitReader_left : ∀ base : Heap, PropC l.prog w K mg base 1 (⟨CBitWriter, CBitReader⟩ : Ads).c_BitReader "left" (sp_BitReader_left K ⟨CBitWriter, CBitReader⟩) := fun base => ok_BitReader_left D9 T 
  have R_BitReader__look : ∀ base : Heap, MetC l.prog w K mg base 1 (⟨CBitWriter, CBitReader⟩ : Ads).c_BitReader "_look" (sp_BitReader__look K ⟨CBitWriter, CBitReader⟩) := fun base => ok_BitReader__look D10 T 
  have R_BitReader__take : ∀ base : Heap, MetC l.prog w K mg base 2 (⟨CBitWriter, CBitReader⟩ : Ads).c_BitReader "_take" (sp_BitReader__take K ⟨CBitWriter, CBitReader⟩) := fun base => ok_BitReader__take D11 T (R_BitReader__look base)
  have R_BitReader_get : ∀ base : Heap, MetC l.prog w K mg base 3 (⟨CBitWriter, CBitReader⟩ : Ads).c_BitReader "get" (sp_BitReader_get K ⟨CBitWriter, CBitReader⟩) := fun base => ok_BitReader_get D12 T (R_BitReader__take base)
  have R_BitReader__zeros : ∀ base : Heap, MetC l.prog w K mg base 2 (⟨CBitWriter, CBitReader⟩ : Ads).c_BitReader "_zeros" (sp_BitReader__zeros K ⟨CBitWriter, CBitReader⟩) := fun base => ok_BitReader__zeros D13 T (R_BitReader__look base)
  have R_BitReader_get_ue : ∀ base : Heap, MetC l.prog w K mg base 3 (⟨CBitWriter, CBitReader⟩ : Ads).c_BitReader "get_ue" (sp_BitReader_get_ue K ⟨CBitWriter, CBitReader⟩) := fun base => ok_BitReader_get_ue D14 T (R_BitReader__zeros base) (R_BitReader__take base)
  have R_BitReader_get_se : ∀ base : Heap, MetC l.prog w K mg base 4 (⟨CBitWriter, CBitReader⟩ : Ads).c_BitReader "get_se" (sp_BitReader_get_se K ⟨CBitWriter, CBitReader⟩) := fun base => ok_BitReader_get_se D15 T (R_BitReader_get_ue base)
  have R__law_draws : ∀ base : Heap, Cal l.prog w K mg base 1 "_law_draws" (sp__law_draws K ⟨CBitWriter, CBitReader⟩) := fun base => ok__law_draws D16 T 
  have R__law_bits : ∀ base : Heap, Cal l.prog w K mg base 1 "_law_bits" (sp__law_bits K ⟨CBitWriter, CBitReader⟩) := fun base => ok__law_bits D17 T 
  have R__law_ue : ∀ base : Heap, Cal l.prog w K mg base 2 "_law_ue" (sp__law_ue K ⟨CBitWriter, CBitReader⟩) := fun base => ok__law_ue D18 T (R__law_bits base)
  have R__law_se : ∀ base : Heap, Cal l.prog w K mg base 3 "_law_se" (sp__law_se K ⟨CBitWriter, CBitReader⟩) := fun base => ok__law_se D19 T (R__law_ue base)
  have R__law_packed : ∀ base : Heap, Cal l.prog w K mg base 1 "_law_packed" (sp__law_packed K ⟨CBitWriter, CBitReader⟩) := fun base => ok__law_packed D20 T 
  have R__law_item : ∀ base : Heap, Cal l.prog w K mg base 2 "_law_item" (sp__law_item K ⟨CBitWriter, CBitReader⟩) := fun base => ok__law_item D21 T (R__law_draws base)
  have R__law_put : ∀ base : Heap, Cal l.prog w K mg base 4 "_law_put" (sp__law_put K ⟨CBitWriter, CBitReader⟩) := fun base => ok__law_put D22 T (R_BitWriter_put base) (R__law_bits base) (R_BitWriter_put_ue base) (R__law_ue base) (R_BitWriter_put_se base) (R__law_se base)
  have R__law_get : ∀ base : Heap, Cal l.prog w K mg base 5 "_law_get" (sp__law_get K ⟨CBitWriter, CBitReader⟩) := fun base => ok__law_get D23 T (R_BitReader_get base) (R_BitReader_get_ue base) (R_BitReader_get_se base)

  exact ⟨PySem.W.fnOf "law" "law" (defArgs s_law) (defBody s_law) (defScope s_law) .none kV24 dc24 pm24 an24 cd24 ct24, fun s v => .of_eq rfl, fun base _ _ => ok_law (AD := ⟨CBitWriter, CBitReader⟩) F24 T (R__law_item base) (R_BitWriter___init__ base) (R_BitWriter_octets base) (R__law_packed base) (R__law_put base) (R_BitWriter_length base) (R_BitReader___init__ base) (R_BitReader_left base) (R__law_get base) (R__law_ue base) (R__law_se base)⟩
theorem walk {l : PySem.W.OpenLaw} {q : Program} {loose : List Str} {XP : (Str → Option Value) → Heap → Prop} {YP : World → Heap → Prop} {d : DefRec} {K : Params → PySem.W.Frag} (hn : l.most = some 63) (hdf : d.params.defaults = [])
    (hY : ∀ (w : World) (h : Heap), YP w h → (K w.params).In h)
    (F : ∀ (w : World) (mg : Str → Option Value) (fa : Addr) (h : Heap), (K w.params).In h → h.Ns mainGlobals mg → mg d.name = some (.ref fa) →
      ∃ fd : FuncData, (∀ (s : Shared) (u : Value), BindsTo s fd ⟨[u], []⟩ [("script", u)]) ∧ ∀ base : Heap, (K w.params).In base → base.Ns mainGlobals mg → FnOk l.prog w (K w.params) mg base CX0 6 fa fd ["script"] (spL (K w.params))) :
    PySem.W.WalkO q loose XP YP l.row.toRowW d [] (fun f vs => PySem.call f vs) :=
  L2.walk_of (n := 63) (k := 6) (x := "script") (CX := fun _ => CX0) (sp := fun w => spL (K w.params)) hn (by decide) hdf ⟨rfl, by decide, by decide⟩ hY F (fun _ _ a ns hl _ hS => ⟨a, ns, rfl, hS, hl, fun _ => rfl⟩) fun _ _ _ _ _ z => z
end Vx
open PySem PySem.W PyProof.Rows
set_option maxRecDepth 100000 in
set_option maxHeartbeats 0 in
theorem PySem.Challenge.cw_thaumatrope_k05_bits_written_and_read_holds : PySem.Challenge.rw_thaumatrope_k05_bits_written_and_read.Holds := by
  w_on; o_law; k_head; (case hw => w_witness2)
  k_fill
  refine Vx.walk (l := PySem.Challenge.rw_thaumatrope_k05_bits_written_and_read) rfl rfl (fun w h Y => PySem.W.kIn_of Y) ?F
  case F =>
    intro w mg fa h KX G hmg
    refine' Vx.all_mk KX G hmg ?wBitWriter ?wBitReader ?a0 ?b0 ?d0 ?e0 ?l0 ?c0 ?k0 ?a1 ?b1 ?d1 ?e1 ?l1 ?c1 ?k1 ?a2 ?b2 ?l2 ?c2 ?k2 ?a3 ?b3 ?l3 ?c3 ?k3 ?a4 ?b4 ?l4 ?c4 ?k4 ?a5 ?b5 ?l5 ?c5 ?k5 ?a6 ?b6 ?l6 ?c6 ?k6 ?a7 ?l7 ?c7 ?k7 ?a8 ?b8 ?d8 ?e8 ?l8 ?c8 ?k8 ?a9 ?b9 ?d9 ?e9 ?l9 ?c9 ?k9 ?a10 ?b10 ?l10 ?c10 ?k10 ?a11 ?b11 ?l11 ?c11 ?k11 ?a12 ?b12 ?l12 ?c12 ?k12 ?a13 ?b13 ?l13 ?c13 ?k13 ?a14 ?b14 ?l14 ?c14 ?k14 ?a15 ?b15 ?l15 ?c15 ?k15 ?a16 ?l16 ?c16 ?k16 ?a17 ?l17 ?c17 ?k17 ?a18 ?l18 ?c18 ?k18 ?a19 ?l19 ?c19 ?k19 ?a20 ?l20 ?c20 ?k20 ?a21 ?l21 ?c21 ?k21 ?a22 ?l22 ?c22 ?k22 ?a23 ?l23 ?c23 ?k23 ?a24 ?l24 ?c24 ?k24 ?z0 ?z1 ?z2 ?z3 ?z4 ?z5 ?z6 ?z7 ?z8 ?z9 ?yBitWriter0 ?yBitWriter1 ?yBitWriter2 ?yBitWriter3 ?xBitWriter0 ?xBitWriter1 ?xBitWriter2 ?yBitReader0 ?yBitReader1 ?yBitReader2 ?yBitReader3 ?xBitReader0 ?xBitReader1 ?xBitReader2
    (case wBitWriter => k_is)
    (case wBitReader => k_is)
    (case a0 => k_is)
    (case b0 => k_is)
    (case d0 => k_is)
    (case e0 => k_is)
    (case l0 => k_is)
    (case c0 => k_is)
    (case k0 => k_is)
    (case a1 => k_is)
    (case b1 => k_is)
    (case d1 => k_is)
    (case e1 => k_is)
    (case l1 => k_is)
    (case c1 => k_is)
    (case k1 => k_is)
    (case a2 => k_is)
    (case b2 => k_is)
    (case l2 => k_is)
    (case c2 => k_is)
    (case k2 => k_is)
    (case a3 => k_is)
    (case b3 => k_is)
    (case l3 => k_is)
    (case c3 => k_is)
    (case k3 => k_is)
    (case a4 => k_is)
    (case b4 => k_is)
    (case l4 => k_is)
    (case c4 => k_is)
    (case k4 => k_is)
    (case a5 => k_is)
    (case b5 => k_is)
    (case l5 => k_is)
    (case c5 => k_is)
    (case k5 => k_is)
    (case a6 => k_is)
    (case b6 => k_is)
    (case l6 => k_is)
    (case c6 => k_is)
    (case k6 => k_is)
    (case a7 => k_is)
    (case l7 => k_is)
    (case c7 => k_is)
    (case k7 => k_is)
    (case a8 => k_is)
    (case b8 => k_is)
    (case d8 => k_is)
    (case e8 => k_is)
    (case l8 => k_is)
    (case c8 => k_is)
    (case k8 => k_is)
    (case a9 => k_is)
    (case b9 => k_is)
    (case d9 => k_is)
    (case e9 => k_is)
    (case l9 => k_is)
    (case c9 => k_is)
    (case k9 => k_is)
    (case a10 => k_is)
    (case b10 => k_is)
    (case l10 => k_is)
    (case c10 => k_is)
    (case k10 => k_is)
    (case a11 => k_is)
    (case b11 => k_is)
    (case l11 => k_is)
    (case c11 => k_is)
    (case k11 => k_is)
    (case a12 => k_is)
    (case b12 => k_is)
    (case l12 => k_is)
    (case c12 => k_is)
    (case k12 => k_is)
    (case a13 => k_is)
    (case b13 => k_is)
    (case l13 => k_is)
    (case c13 => k_is)
    (case k13 => k_is)
    (case a14 => k_is)
    (case b14 => k_is)
    (case l14 => k_is)
    (case c14 => k_is)
    (case k14 => k_is)
    (case a15 => k_is)
    (case b15 => k_is)
    (case l15 => k_is)
    (case c15 => k_is)
    (case k15 => k_is)
    (case a16 => k_is)
    (case l16 => k_is)
    (case c16 => k_is)
    (case k16 => k_is)
    (case a17 => k_is)
    (case l17 => k_is)
    (case c17 => k_is)
    (case k17 => k_is)
    (case a18 => k_is)
    (case l18 => k_is)
    (case c18 => k_is)
    (case k18 => k_is)
    (case a19 => k_is)
    (case l19 => k_is)
    (case c19 => k_is)
    (case k19 => k_is)
    (case a20 => k_is)
    (case l20 => k_is)
    (case c20 => k_is)
    (case k20 => k_is)
    (case a21 => k_is)
    (case l21 => k_is)
    (case c21 => k_is)
    (case k21 => k_is)
    (case a22 => k_is)
    (case l22 => k_is)
    (case c22 => k_is)
    (case k22 => k_is)
    (case a23 => k_is)
    (case l23 => k_is)
    (case c23 => k_is)
    (case k23 => k_is)
    (case a24 => k_is)
    (case l24 => k_is)
    (case c24 => k_is)
    (case k24 => k_is)
    (case z0 => k_is)
    (case z1 => k_is)
    (case z2 => k_is)
    (case z3 => k_is)
    (case z4 => k_is)
    (case z5 => k_is)
    (case z6 => k_is)
    (case z7 => k_is)
    (case z8 => k_is)
    (case z9 => k_is)
    (case yBitWriter0 => k_is)
    (case yBitWriter1 => k_is)
    (case yBitWriter2 => k_is)
    (case yBitWriter3 => k_is)
    (case xBitWriter0 => k_is)
    (case xBitWriter1 => k_is)
    (case xBitWriter2 => k_is)
    (case yBitReader0 => k_is)
    (case yBitReader1 => k_is)
    (case yBitReader2 => k_is)
    (case yBitReader3 => k_is)
    (case xBitReader0 => k_is)
    (case xBitReader1 => k_is)
    (case xBitReader2 => k_is)
