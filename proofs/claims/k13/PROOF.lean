import PyProof.Rows.All
import Wide.All
import OpenK.AllK
import Wide.FinOn
import HandS.ForMost
import HandS.Codes
import HandS.Steps
import HandS.IsInst
import HandS.Property
import HandS.Wide
import HandS.WideBits
import PySem.Challenge.RW_thaumatrope_k13_whole_decisions_read_bac
set_option Elab.async false
set_option linter.all false
set_option maxRecDepth 100000
set_option maxHeartbeats 8000000
namespace Vx
open PySem PySem.Spec PyProof.Rows L2

/-! ### heaps -/
def SameX (m : Addr) (H H' : Hp) : Prop := ∀ b o, H b = some o → b ≠ m → H' b = some o
theorem gen_new {H H' : Hp} {p : Addr} {o : HO} (n : H p = none) (h : upd H p o = H') : Same H H' ∧ H' p = some o := by
  subst h
  exact ⟨fun b u e => by rw [upd_ne (ne_of_none e n)]; exact e, upd_same⟩
theorem gen_mut {H H' : Hp} {m : Addr} {o : HO} (h : upd H m o = H') : SameX m H H' ∧ H' m = some o := by
  subst h
  exact ⟨fun b u e n => by rw [upd_ne n]; exact e, upd_same⟩
theorem same_mut {H0 H H' : Hp} {m : Addr} (B : Same H0 H) (x : SameX m H H') (f : H0 m = none) : Same H0 H' :=
  fun b o e => x b o (B b o e) (ne_of_none e f)
theorem map_get {xs : List Int} {i : Nat} {x : V} (h : (xs.map V.int)[i]? = some x) : ∃ o, xs[i]? = some o ∧ x = .int o := by
  rw [List.getElem?_map] at h
  cases e : xs[i]? with
  | none => rw [e] at h; cases h
  | some z => rw [e] at h; exact ⟨z, rfl, (Option.some.inj h).symm⟩
theorem get_len {α : Type} {xs : List α} {i : Nat} {x : α} (h : xs[i]? = some x) : i < xs.length := (List.getElem?_eq_some_iff.mp h).1
theorem eq_int {Q : VK} {H : Hp} {a b : Int} (h : Q (.int a) H) (e : a = b) : Q (.int b) H := e ▸ h
theorem eq_bl {Q : VK} {H : Hp} {a b : Bool} (h : Q (.bl a) H) (e : a = b) : Q (.bl b) H := e ▸ h
theorem small {n : Nat} (h : n ≤ 1000000) : n < sizeLine := Nat.lt_of_le_of_lt h (by decide)
theorem smallE {n : Nat} (h : n ≤ 1000000) : n ≤ sizeLine := Nat.le_of_lt (small h)
theorem snoc_int {xs : List Int} {y : Int} {H : Hp} {p : Addr} (h : H p = some (.lst (xs.map V.int ++ [V.int y]))) : H p = some (.lst ((xs ++ [y]).map V.int)) := by
  rw [List.map_append]; exact h
theorem cat_int {xs ys : List Int} {H : Hp} {p : Addr} (h : H p = some (.lst (xs.map V.int ++ ys.map V.int))) : H p = some (.lst ((xs ++ ys).map V.int)) := by
  rw [List.map_append]; exact h
theorem cast_lst {xs ys : List Int} {H : Hp} {p : Addr} (h : H p = some (.lst (xs.map V.int))) (e : xs = ys) : H p = some (.lst (ys.map V.int)) := e ▸ h

/-! ### tests -/
theorem dT {p : Prop} [Decidable p] (h : decide p = true) : p := of_decide_eq_true h
theorem dF {p : Prop} [Decidable p] (h : ¬ decide p = true) : ¬ p := fun x => h (decide_eq_true x)
theorem iteD {p A B : Prop} [Decidable p] (h1 : p → A) (h2 : ¬ p → B) : if decide p = true then A else B := by
  by_cases h : p
  · rw [if_pos (decide_eq_true h)]; exact h1 h
  · rw [if_neg (fun x => h (of_decide_eq_true x))]; exact h2 h
theorem iteN {p A B : Prop} [Decidable p] (h1 : ¬ p → A) (h2 : p → B) : if (!decide p) = true then A else B := by
  by_cases h : p
  · rw [decide_eq_true h]; exact iteF (h2 h)
  · rw [decide_eq_false h]; exact iteT (h1 h)
theorem iteB {b : Bool} {A B : Prop} (h1 : b = true → A) (h2 : b = false → B) : if b = true then A else B := by
  cases b with
  | true => exact iteT (h1 rfl)
  | false => exact iteF (h2 rfl)
theorem iteBN {b : Bool} {A B : Prop} (h1 : b = false → A) (h2 : b = true → B) : if (!b) = true then A else B := by
  cases b with
  | true => exact iteF (h2 rfl)
  | false => exact iteT (h1 rfl)
theorem iteDT {p A B : Prop} [Decidable p] (h : p) (k : A) : if decide p = true then A else B := by
  rw [if_pos (decide_eq_true h)]; exact k
theorem iteDF {p A B : Prop} [Decidable p] (h : ¬ p) (k : B) : if decide p = true then A else B := by
  rw [if_neg (fun x => h (of_decide_eq_true x))]; exact k
theorem iteNT {p A B : Prop} [Decidable p] (h : ¬ p) (k : A) : if (!decide p) = true then A else B := iteN (fun _ => k) (fun x => (h x).elim)
theorem iteNF {p A B : Prop} [Decidable p] (h : p) (k : B) : if (!decide p) = true then A else B := iteN (fun x => (x h).elim) (fun _ => k)

/-! ### equality of lists of ints -/
theorem eqvAll_ints : ∀ xs ys : List Int, PyData.eqvAll (xs.map PyData.int) (ys.map PyData.int) = decide (xs = ys)
  | [], [] => by simp [PyData.eqvAll]
  | [], y :: ys => by simp [PyData.eqvAll]
  | x :: xs, [] => by simp [PyData.eqvAll]
  | x :: xs, y :: ys => by
    have ih := eqvAll_ints xs ys
    simp only [List.map_cons, PyData.eqvAll, PyData.eqv, ih]
    by_cases h : x = y <;> by_cases h2 : xs = ys <;> simp [h, h2]
end Vx

namespace Vx
open PySem PySem.Spec PyProof.Rows L2
section
variable {X : Cx}
def rEqLi (K : PySem.W.Frag) : R2 := fun x y H Q => ∃ (a b : Addr) (xs ys : List Int), x = .ref a ∧ y = .ref b ∧ SqL K H a (xs.map V.int) ∧ SqL K H b (ys.map V.int) ∧ Q (.bl (decide (xs = ys))) H
def rNeLi (K : PySem.W.Frag) : R2 := fun x y H Q => ∃ (a b : Addr) (xs ys : List Int), x = .ref a ∧ y = .ref b ∧ SqL K H a (xs.map V.int) ∧ SqL K H b (ys.map V.int) ∧ Q (.bl (!decide (xs = ys))) H
theorem dpAll_ints {K : PySem.W.Frag} {H : Hp} : ∀ xs : List Int, DpAll K H (xs.map V.int) (xs.map PyData.int)
  | [] => .nil
  | x :: xs => .cons (.int x) (dpAll_ints xs)
theorem dp_ints {K : PySem.W.Frag} {H : Hp} {a : Addr} {xs : List Int} (h : SqL K H a (xs.map V.int)) : Dp K H (.ref a) (.list (xs.map PyData.int)) := .lst h (dpAll_ints xs)
theorem canLay_ints : ∀ xs : List Int, PyData.canLayAll0 (xs.map PyData.int) = true
  | [] => by simp [PyData.canLayAll0]
  | x :: xs => by simp [PyData.canLayAll0, PyData.canLay0, canLay_ints xs]
theorem depth_ints : ∀ xs : List Int, PyData.depthAll (xs.map PyData.int) = 0
  | [] => by simp [PyData.depthAll]
  | x :: xs => by simp [PyData.depthAll, PyData.depth, depth_ints xs]
theorem shaped_ints (xs : List Int) : SeqAt.shaped (.list (xs.map PyData.int)) = true := by
  unfold SeqAt.shaped
  simp [PyData.canLay0, canLay_ints, PyData.depth, depth_ints]
theorem eqv_ints (xs ys : List Int) : PyData.eqv (.list (xs.map PyData.int)) (.list (ys.map PyData.int)) = decide (xs = ys) := by
  simp only [PyData.eqv]
  exact eqvAll_ints xs ys
theorem op_eqLi (hu : X.A.units + 64 < cLine) : OpR X (compareOp .Eq) (rEqLi X.K) := by
  intro pins s σ H x y v u Q I rx ry h
  obtain ⟨a, b, xs, ys, rfl, rfl, h1, h2, q⟩ := h
  exact op_eqD hu pins s σ H _ _ v u Q I rx ry ⟨_, _, dp_ints h1, dp_ints h2, shaped_ints xs, shaped_ints ys, by rw [eqv_ints]; exact q⟩
theorem op_neLi (hu : X.A.units + 64 < cLine) : OpR X (compareOp .NotEq) (rNeLi X.K) := by
  intro pins s σ H x y v u Q I rx ry h
  obtain ⟨a, b, xs, ys, rfl, rfl, h1, h2, q⟩ := h
  exact op_neD hu pins s σ H _ _ v u Q I rx ry ⟨_, _, dp_ints h1, dp_ints h2, shaped_ints xs, shaped_ints ys, by rw [eqv_ints]; exact q⟩

/-! ### items, slices, repetition, comprehensions of ints -/
def itI (xs : List Int) (i : Int) : Int := (atI xs i).getD 0
theorem atI_int {xs : List Int} {i : Int} (h : -(xs.length : Int) ≤ i ∧ i < xs.length) : atI (xs.map V.int) i = some (.int (itI xs i)) := by
  unfold itI atI
  rw [List.length_map]
  have hk : ∃ j, ixN xs.length i = some j ∧ j < xs.length := by
    unfold ixN
    by_cases h0 : 0 ≤ i
    · refine ⟨i.toNat, ?_, by omega⟩
      rw [if_pos h0, if_pos h.2]
    · refine ⟨(i + xs.length).toNat, ?_, by omega⟩
      rw [if_neg h0, if_pos h.1]
  obtain ⟨j, e, hj⟩ := hk
  rw [e]
  show (xs.map V.int)[j]? = some (V.int ((xs[j]?).getD 0))
  rw [List.getElem?_map, List.getElem?_eq_getElem hj] <;> rfl
def cutI (xs : List Int) (lo hi : Option Int) : List Int := (xs.drop (HT.sIx xs.length 0 lo)).take (HT.sIx xs.length xs.length hi - HT.sIx xs.length 0 lo)
theorem cut_int {xs : List Int} {lo hi : Option Int} {H : Hp} {p : Addr} (h : H p = some (.lst (cutV (xs.map V.int) lo hi))) : H p = some (.lst ((cutI xs lo hi).map V.int)) := by
  rw [h]
  unfold cutV cutI
  rw [List.length_map, List.map_take, List.map_drop]
def rep (xs : List Int) (k : Int) : List Int := (List.replicate k.toNat xs).flatten
theorem rep_int {xs : List Int} {k : Int} {H : Hp} {p : Addr} (h : H p = some (.lst (List.replicate k.toNat (xs.map V.int)).flatten)) : H p = some (.lst ((rep xs k).map V.int)) := by
  rw [h]
  unfold rep
  rw [List.map_flatten, List.map_replicate]
theorem divW_lit {i j : Int} (h : 0 < j) (h2 : j.natAbs.log2 < 9000) : CDivW i j := ⟨h, h2⟩
theorem divW_small {i j : Int} (h : 0 < j) (h2 : j < 2 ^ 128) : CDivW i j := wide_div h (show j.natAbs < 2 ^ 128 by omega) (by decide) (by decide)
theorem comp_list {xs : List Int} {i : Nat} {x y : Int} {f : Int → Int} {H : Hp} {D : Addr} (hi : xs[i]? = some x) (h : H D = some (.lst (((xs.take i).map f).map V.int ++ [V.int y]))) (e : f x = y) : H D = some (.lst (((xs.take (i + 1)).map f).map V.int)) := by
  rw [h, ← e, List.take_succ, hi, List.map_append, List.map_append] <;> rfl
theorem comp_done {xs : List Int} {f : Int → Int} {H : Hp} {D : Addr} (h : H D = some (.lst (((xs.take (xs.map V.int).length).map f).map V.int))) : H D = some (.lst ((xs.map f).map V.int)) := by
  rw [List.length_map, List.take_length] at h
  exact h
theorem comp_range {i : Nat} {y : Int} {f : Nat → Int} {H : Hp} {D : Addr} (h : H D = some (.lst (((List.range i).map f).map V.int ++ [V.int y]))) (e : f i = y) : H D = some (.lst (((List.range (i + 1)).map f).map V.int)) := by
  rw [h, ← e, List.range_succ, List.map_append, List.map_append] <;> rfl
theorem iteBT {b : Bool} {A B : Prop} (h : b = true) (k : A) : if b = true then A else B := by rw [if_pos h]; exact k
theorem iteBF {b : Bool} {A B : Prop} (h : b = false) (k : B) : if b = true then A else B := by rw [if_neg (by rw [h]; decide)]; exact k
theorem take_succ_get {α : Type} {xs : List α} {i : Nat} {x : α} (hi : xs[i]? = some x) : xs.take (i + 1) = xs.take i ++ [x] := by rw [List.take_succ, hi] <;> rfl
end

/-! ### defs of the module, as callers see them -/
section
variable {P : Program} {w : World} {K : PySem.W.Frag} {mg : Str → Option Value} {base : Heap}
structure DefIn (K : PySem.W.Frag) (mg : Str → Option Value) (x : Str) (st : Stmt) (ps : List Str) : Prop where
  ex : ∃ (f : Addr) (fd : FuncData), Fun K x x st f fd ∧ mg x = some (.ref f) ∧ Binds K fd ps []
structure Cal (P : Program) (w : World) (K : PySem.W.Frag) (mg : Str → Option Value) (base : Heap) (k : Nat) (x : Str) (sp : Sp) : Prop where
  ex : ∃ (f : Addr) (fd : FuncData) (ps : List Str), FnOk P w K mg base CX0 k f fd ps sp ∧ mg x = some (.ref f) ∧ PySem.W.keepIn K (.ref f) = true ∧ Binds K fd ps []
theorem DefIn.ok {x : Str} {st : Stmt} {N ps : List Str} {k : Nat} {sp : Sp} (D : DefIn K mg x st ps) (S : FnScope N ps (defScope st)) (len : ∀ vs H Q E, sp vs H Q E → vs.length = ps.length)
    (hbody : ∀ (f : Addr) (cdv : Value) (A : Around) (outer : List Env) (s : Shared) (H : Hp) (vs : List V) (Q : VK) (E : XK), Room k (A.deeper (envOfC x (defScope st) s.heap.objs.size f cdv)) → sp vs H Q E →
      ∃ t, PSs (cxOf CX0 P w K mg base N x (defScope st) f cdv A outer s H E).nox (defBody st) t ∧ t { nx := fun _ H' => Q .non H', rt := Q } (start N vs) H) : Cal P w K mg base (k + 1) x sp := by
  obtain ⟨f, fd, F, hm, b⟩ := D.ex
  exact ⟨f, fd, ps, F.ok S len (fun cdv A outer s H vs Q E hr h => hbody f cdv A outer s H vs Q E hr h), hm, F.kp, b⟩
end
section
variable {X : Cx} {k j : Nat} {x : Str} {sp : Sp} {p pos : Pos} {e : Expr} {es : List Expr} {t : TA}
theorem vx_call (c : Cal X.prog X.w X.K X.mg X.base k x sp) (hr : Room j X.A) (hk : k ≤ j) (hg : Gl X x) (ha : PA X (e :: es) t)
    (hdb : (x == ("__debug__" : Str)) = false := by decide) (he : starEach (e :: es) X.env = (false, eval e X.env) :: starEach es X.env := by rfl) (hpl : (backTo pos (starEach es X.env)).any (·.1) = false := by rfl) :
    PE X (.Call (.Name x p) (e :: es) [] pos) (tCall sp [] E0 t) := by
  obtain ⟨f, fd, ps, F, hm, kp, b⟩ := c.ex
  exact pe_call F (hr.mono hk) hg hm kp b .nil pass0 ha hdb he hpl
end
end Vx

namespace Vx
open PySem PySem.Spec PyProof.Rows L2
section
variable {σ : L2.St} {H : Hp} {ta tb : TE} {x y z : V} {t : TT}
theorem vv_and {a b : Bool} (h1 : Val ta σ H (.bl a)) (h2 : Val tb σ H (.bl b)) : Val (tAndV ta tb) σ H (.bl (a && b)) := fun Q q => h1 _ ⟨a, rfl, by
  cases a with
  | true => exact iteT (h2 Q q)
  | false => exact iteF q⟩
theorem vv_or {a b : Bool} (h1 : Val ta σ H (.bl a)) (h2 : Val tb σ H (.bl b)) : Val (tOrV ta tb) σ H (.bl (a || b)) := fun Q q => h1 _ ⟨a, rfl, by
  cases a with
  | true => exact iteT q
  | false => exact iteF (h2 Q q)⟩
theorem vv_not {a : Bool} (h1 : Val ta σ H (.bl a)) : Val (tNotV ta) σ H (.bl (!a)) := fun Q q => h1 _ ⟨a, rfl, q⟩
theorem vv_un {r : V → Hp → VK → Prop} (ha : Val ta σ H x) (hr : ∀ Q : VK, Q z H → r x H Q) : Val (tUn r ta) σ H z := fun Q q => ha _ (hr Q q)
theorem vv_cmp {p : Int → Int → Bool} (ha : Val ta σ H x) (hb : Val tb σ H y) (hr : ∀ Q : VK, Q z H → ∃ i j, x = .int i ∧ y = .int j ∧ Q (.bl (p i j)) H) : Val (tCmp p ta tb) σ H z := fun Q q => ha _ (hb _ (hr Q q))
theorem vv_call1 {r : List V → Hp → VK → Prop} (ha : Val ta σ H x) (hr : ∀ Q : VK, Q z H → r [x] H Q) : Val (tCB r (tCons ta tNil)) σ H z := fun Q q => ha _ (hr Q q)
theorem vt_cmp {b : Bool} (h : Val ta σ H (.bl b)) : Ans (tB ta) σ H b := fun Q q => h _ ⟨b, rfl, q⟩
theorem vt_val {b : Bool} (h : Val ta σ H (.bl b)) : Ans (tB ta) σ H b := fun Q q => h _ ⟨b, rfl, q⟩
theorem vt_int {i : Int} {K : PySem.W.Frag} (h : Val ta σ H (.int i)) : Ans (fun σ H Q => ta σ H fun x H' => ∃ k, TruV K x H' k ∧ Q k H') σ H (i != 0) := fun Q q => h _ ⟨_, rfl, q⟩
theorem vv_if {p : Prop} [Decidable p] {a b : Int} (ht : Ans t σ H (decide p)) (hx : Val ta σ H (.int a)) (hy : Val tb σ H (.int b)) : Val (tIf t ta tb) σ H (.int (if p then a else b)) := fun Q q => ht _ (by
  by_cases h : p
  · rw [if_pos h] at q; exact iteDT h (hx Q q)
  · rw [if_neg h] at q; exact iteDF h (hy Q q))
theorem vv_ifb {c : Bool} {a b : Int} (ht : Ans t σ H c) (hx : Val ta σ H (.int a)) (hy : Val tb σ H (.int b)) : Val (tIf t ta tb) σ H (.int (if c = true then a else b)) := fun Q q => ht _ (by
  cases c with
  | true => exact iteT (hx Q q)
  | false => exact iteF (hy Q q))
end
end Vx

namespace Vx
open PySem PySem.Spec PyProof.Rows L2
def rLenLi (K : PySem.W.Frag) : List V → Hp → VK → Prop := fun xs H Q => ∃ (p : Addr) (ns : List Int), xs = [.ref p] ∧ SqL K H p (ns.map V.int) ∧ Q (.int (ns.length : Int)) H
theorem call_lenLi {X : Cx} : CallR X (.builtin "len") (rLenLi X.K) := by
  intro pins s σ H xs us Q I r h
  obtain ⟨p, ns, rfl, hs, q⟩ := h
  exact call_len_seq pins s σ H _ us Q I r ⟨p, _, rfl, Or.inl hs, by rw [List.length_map]; exact q⟩
end Vx

namespace Vx
open PySem PySem.Spec PyProof.Rows L2
section
variable {X : Cx} {K : PySem.W.Frag}
theorem ix_listK (hK : X.K = K := by rfl) : IxR X (rIxL K) := hK ▸ ix_list
theorem sl_listK (hK : X.K = K := by rfl) : SlR X (rSlL K) := hK ▸ sl_list
theorem call_lenLiK (hK : X.K = K := by rfl) : CallR X (.builtin "len") (rLenLi K) := hK ▸ call_lenLi
theorem op_eqLiK (hu : X.A.units + 64 < cLine) (hK : X.K = K := by rfl) : OpR X (compareOp .Eq) (rEqLi K) := hK ▸ op_eqLi hu
theorem op_neLiK (hu : X.A.units + 64 < cLine) (hK : X.K = K := by rfl) : OpR X (compareOp .NotEq) (rNeLi K) := hK ▸ op_neLi hu
theorem pi_listK {tg l : Expr} {tl : TE} (hl : PE X l tl) (hK : X.K = K := by rfl) : PI X tg l (iList K tl) := hK ▸ pi_list hl
theorem cr_sumK (hc : X.calm = true) (hK : X.K = K := by rfl) : CallR X (.builtin "sum") (rSum K) := hK ▸ cr_sum hc
theorem cr_maxK (hc : X.calm = true) (hK : X.K = K := by rfl) : CallR X (.builtin "max") (rMax K) := hK ▸ cr_max hc
theorem cr_minK (hc : X.calm = true) (hK : X.K = K := by rfl) : CallR X (.builtin "min") (rMin K) := hK ▸ cr_min hc
end
end Vx

namespace Vx
open PySem PySem.Spec PyProof.Rows L2
theorem tyes_go {σ : L2.St} {H : Hp} {f g : Hp → Prop} (h : f H) : tYes σ H (fun b H3 => if b = true then f H3 else g H3) := by
  show if true = true then f H else g H
  exact iteT h
end Vx

/-! # second part: data of any depth, the stable heap G, the owned addresses O -/
namespace Vx
open PySem PySem.Spec PyProof.Rows L2
mutual
inductive Rp (H : Hp) : V → PyData → Prop
  | non : Rp H .non .none
  | bl (b : Bool) : Rp H (.bl b) (.bool b)
  | int (i : Int) : Rp H (.int i) (.int i)
  | str (x : Str) : Rp H (.str x) (.str x)
  | lst {a : Addr} {xs : List V} {ds : List PyData} : H a = some (.lst xs) → RpAll H xs ds → Rp H (.ref a) (.list ds)
  | tup {a : Addr} {xs : List V} {ds : List PyData} : H a = some (.tup xs) → RpAll H xs ds → Rp H (.ref a) (.tuple ds)
inductive RpAll (H : Hp) : List V → List PyData → Prop
  | nil : RpAll H [] []
  | cons {v : V} {vs : List V} {d : PyData} {ds : List PyData} : Rp H v d → RpAll H vs ds → RpAll H (v :: vs) (d :: ds)
end
mutual
theorem Rp.mono {H H' : Hp} (e : Same H H') : ∀ {v : V} {d : PyData}, Rp H v d → Rp H' v d
  | _, _, .non => .non
  | _, _, .bl b => .bl b
  | _, _, .int i => .int i
  | _, _, .str x => .str x
  | _, _, .lst h r => .lst (e _ _ h) (RpAll.mono e r)
  | _, _, .tup h r => .tup (e _ _ h) (RpAll.mono e r)
theorem RpAll.mono {H H' : Hp} (e : Same H H') : ∀ {vs : List V} {ds : List PyData}, RpAll H vs ds → RpAll H' vs ds
  | _, _, .nil => .nil
  | _, _, .cons a b => .cons (Rp.mono e a) (RpAll.mono e b)
end
mutual
theorem Rp.dp {K : PySem.W.Frag} {H : Hp} : ∀ {v : V} {d : PyData}, Rp H v d → Dp K H v d
  | _, _, .non => .non
  | _, _, .bl b => .bl b
  | _, _, .int i => .int i
  | _, _, .str x => .str x
  | _, _, .lst h r => .lst (SqL.of h) (RpAll.dp r)
  | _, _, .tup h r => .tup (SqT.of h) (RpAll.dp r)
theorem RpAll.dp {K : PySem.W.Frag} {H : Hp} : ∀ {vs : List V} {ds : List PyData}, RpAll H vs ds → DpAll K H vs ds
  | _, _, .nil => .nil
  | _, _, .cons a b => .cons (Rp.dp a) (RpAll.dp b)
end
theorem RpAll.append {H : Hp} : ∀ {xs ys : List V} {ds es : List PyData}, RpAll H xs ds → RpAll H ys es → RpAll H (xs ++ ys) (ds ++ es)
  | _, _, _, _, .nil, s => s
  | _, _, _, _, .cons r t, s => .cons r (RpAll.append t s)
theorem RpAll.ints {H : Hp} : ∀ xs : List Int, RpAll H (xs.map V.int) (xs.map PyData.int)
  | [] => .nil
  | x :: xs => .cons (.int x) (RpAll.ints xs)
theorem RpAll.bls {H : Hp} : ∀ xs : List Bool, RpAll H (xs.map V.bl) (xs.map PyData.bool)
  | [] => .nil
  | x :: xs => .cons (.bl x) (RpAll.bls xs)
theorem RpAll.one {H : Hp} {v : V} {d : PyData} (h : Rp H v d) : RpAll H [v] [d] := .cons h .nil
theorem RpAll.len {H : Hp} : ∀ {vs : List V} {ds : List PyData}, RpAll H vs ds → vs.length = ds.length
  | _, _, .nil => rfl
  | _, _, .cons _ t => by rw [List.length_cons, List.length_cons, RpAll.len t]
theorem RpAll.at {H : Hp} : ∀ {vs : List V} {ds : List PyData} {i : Nat} {v : V}, RpAll H vs ds → vs[i]? = some v → ∃ d, ds[i]? = some d ∧ Rp H v d
  | _, _, _, _, .nil, h => by simp at h
  | _, _, 0, _, .cons r _, h => by
    simp at h
    subst h
    exact ⟨_, rfl, r⟩
  | _, _, i + 1, _, .cons _ t, h => by
    obtain ⟨d, h1, h2⟩ := RpAll.at (i := i) t (by simpa using h)
    exact ⟨d, by simpa using h1, h2⟩
theorem RpAll.at' {H : Hp} : ∀ {vs : List V} {ds : List PyData} {i : Nat} {d : PyData}, RpAll H vs ds → ds[i]? = some d → ∃ v, vs[i]? = some v ∧ Rp H v d
  | _, _, _, _, .nil, h => by simp at h
  | _, _, 0, _, .cons r _, h => by
    simp at h
    subst h
    exact ⟨_, rfl, r⟩
  | _, _, i + 1, _, .cons _ t, h => by
    obtain ⟨v, h1, h2⟩ := RpAll.at' (i := i) t (by simpa using h)
    exact ⟨v, by simpa using h1, h2⟩
theorem RpAll.take {H : Hp} : ∀ (n : Nat) {vs : List V} {ds : List PyData}, RpAll H vs ds → RpAll H (vs.take n) (ds.take n)
  | 0, _, _, _ => by simpa using RpAll.nil
  | n + 1, _, _, .nil => by simpa using RpAll.nil
  | n + 1, _, _, .cons r t => .cons r (RpAll.take n t)
theorem RpAll.drop {H : Hp} : ∀ (n : Nat) {vs : List V} {ds : List PyData}, RpAll H vs ds → RpAll H (vs.drop n) (ds.drop n)
  | 0, _, _, r => r
  | n + 1, _, _, .nil => by simpa using RpAll.nil
  | n + 1, _, _, .cons r t => RpAll.drop n t
theorem RpAll.set {H : Hp} {v : V} {d : PyData} (h : Rp H v d) : ∀ (n : Nat) {vs : List V} {ds : List PyData}, RpAll H vs ds → RpAll H (vs.set n v) (ds.set n d)
  | _, _, _, .nil => .nil
  | 0, _, _, .cons _ t => .cons h t
  | n + 1, _, _, .cons r t => .cons r (RpAll.set h n t)
theorem RpAll.rep {H : Hp} {vs : List V} {ds : List PyData} (h : RpAll H vs ds) : ∀ n : Nat, RpAll H (List.replicate n vs).flatten (List.replicate n ds).flatten
  | 0 => by simpa using RpAll.nil
  | n + 1 => by
    rw [List.replicate_succ, List.flatten_cons, List.replicate_succ, List.flatten_cons]
    exact RpAll.append h (RpAll.rep h n)
theorem RpAll.get {α : Type} {f : α → PyData} {H : Hp} {vs : List V} {xs : List α} {i : Nat} {v : V} (r : RpAll H vs (xs.map f)) (h : vs[i]? = some v) : ∃ x, xs[i]? = some x ∧ Rp H v (f x) := by
  obtain ⟨d, h1, h2⟩ := RpAll.at r h
  rw [List.getElem?_map] at h1
  cases e : xs[i]? with
  | none => rw [e] at h1; cases h1
  | some x =>
    rw [e] at h1
    have : f x = d := Option.some.inj h1
    exact ⟨x, rfl, this ▸ h2⟩
/-- the item at an index, data -/
theorem RpAll.ix {α : Type} {f : α → PyData} {H : Hp} {vs : List V} {xs : List α} {k : Int} (r : RpAll H vs (xs.map f)) (h : -(xs.length : Int) ≤ k ∧ k < xs.length) : ∃ v x, atI vs k = some v ∧ atI xs k = some x ∧ Rp H v (f x) := by
  have hl : vs.length = xs.length := by rw [r.len, List.length_map]
  have hk : ∃ j, ixN xs.length k = some j ∧ j < xs.length := by
    unfold ixN
    by_cases h0 : 0 ≤ k
    · refine ⟨k.toNat, ?_, by omega⟩
      rw [if_pos h0, if_pos h.2]
    · refine ⟨(k + xs.length).toNat, ?_, by omega⟩
      rw [if_neg h0, if_pos h.1]
  obtain ⟨j, e, hj⟩ := hk
  have hx := List.getElem?_eq_getElem hj
  obtain ⟨v, h1, h2⟩ := RpAll.at' (i := j) (d := f xs[j]) r (by rw [List.getElem?_map, hx] <;> rfl)
  refine ⟨v, xs[j], ?_, ?_, h2⟩
  · unfold atI
    rw [hl, e]
    exact h1
  · unfold atI
    rw [e]
    exact hx

/-! ### types -/
def encL {α : Type} (f : α → PyData) (xs : List α) : PyData := .list (xs.map f)
def encT2 {α β : Type} (f : α → PyData) (g : β → PyData) (p : α × β) : PyData := .tuple [f p.1, g p.2]
def encT3 {α β γ : Type} (f : α → PyData) (g : β → PyData) (h : γ → PyData) (p : α × β × γ) : PyData := .tuple [f p.1, g p.2.1, h p.2.2]
def encT4 {α β γ δ : Type} (f : α → PyData) (g : β → PyData) (h : γ → PyData) (i : δ → PyData) (p : α × β × γ × δ) : PyData := .tuple [f p.1, g p.2.1, h p.2.2.1, i p.2.2.2]
structure EncOk {α : Type} [DecidableEq α] (n : Nat) (f : α → PyData) : Prop where
  lay : ∀ x, PyData.canLay0 (f x) = true
  dep : ∀ x, PyData.depth (f x) ≤ n
  eqv : ∀ x y, PyData.eqv (f x) (f y) = decide (x = y)
theorem encOk_int : EncOk 0 PyData.int := ⟨fun _ => by simp [PyData.canLay0], fun _ => by simp [PyData.depth], fun x y => by simp [PyData.eqv]; by_cases h : x = y <;> simp [h]⟩
theorem encOk_bool : EncOk 0 PyData.bool := ⟨fun _ => by simp [PyData.canLay0], fun _ => by simp [PyData.depth], fun x y => by cases x <;> cases y <;> simp [PyData.eqv]⟩
section
variable {α β γ δ : Type} [DecidableEq α] [DecidableEq β] [DecidableEq γ] [DecidableEq δ] {n m l o : Nat} {f : α → PyData} {g : β → PyData} {h : γ → PyData} {i : δ → PyData}
theorem lay_map (ok : EncOk n f) : ∀ xs : List α, PyData.canLayAll0 (xs.map f) = true
  | [] => by simp [PyData.canLayAll0]
  | x :: xs => by simp [PyData.canLayAll0, ok.lay x, lay_map ok xs]
theorem dep_map (ok : EncOk n f) : ∀ xs : List α, PyData.depthAll (xs.map f) ≤ n
  | [] => by simp [PyData.depthAll]
  | x :: xs => by
    have h1 := ok.dep x
    have h2 := dep_map ok xs
    simp only [List.map_cons, PyData.depthAll]
    omega
theorem eqv_map (ok : EncOk n f) : ∀ xs ys : List α, PyData.eqvAll (xs.map f) (ys.map f) = decide (xs = ys)
  | [], [] => by simp [PyData.eqvAll]
  | [], y :: ys => by simp [PyData.eqvAll]
  | x :: xs, [] => by simp [PyData.eqvAll]
  | x :: xs, y :: ys => by
    have ih := eqv_map ok xs ys
    simp only [List.map_cons, PyData.eqvAll, ok.eqv, ih]
    by_cases h : x = y <;> by_cases h2 : xs = ys <;> simp [h, h2]
theorem encOk_L (ok : EncOk n f) : EncOk (n + 1) (encL f) := ⟨fun xs => by simp [encL, PyData.canLay0, lay_map ok], fun xs => by
  have := dep_map ok xs
  simp only [encL, PyData.depth]
  omega, fun xs ys => by simp only [encL, PyData.eqv]; exact eqv_map ok xs ys⟩
theorem encOk_T2 (ok : EncOk n f) (ok2 : EncOk m g) : EncOk (max n m + 1) (encT2 f g) := ⟨fun x => by simp [encT2, PyData.canLay0, PyData.canLayAll0, ok.lay, ok2.lay], fun x => by
  have h1 := ok.dep x.1
  have h2 := ok2.dep x.2
  simp only [encT2, PyData.depth, PyData.depthAll]
  omega, fun x y => by
  obtain ⟨a, b⟩ := x
  obtain ⟨c, d⟩ := y
  simp only [encT2, PyData.eqv, PyData.eqvAll, ok.eqv, ok2.eqv, Prod.mk.injEq]
  by_cases h1 : a = c <;> by_cases h2 : b = d <;> simp [h1, h2]⟩
theorem encOk_T3 (ok : EncOk n f) (ok2 : EncOk m g) (ok3 : EncOk l h) : EncOk (max n (max m l) + 1) (encT3 f g h) := ⟨fun x => by simp [encT3, PyData.canLay0, PyData.canLayAll0, ok.lay, ok2.lay, ok3.lay], fun x => by
  have h1 := ok.dep x.1
  have h2 := ok2.dep x.2.1
  have h3 := ok3.dep x.2.2
  simp only [encT3, PyData.depth, PyData.depthAll]
  omega, fun x y => by
  obtain ⟨a, b, e⟩ := x
  obtain ⟨c, d, e'⟩ := y
  simp only [encT3, PyData.eqv, PyData.eqvAll, ok.eqv, ok2.eqv, ok3.eqv, Prod.mk.injEq]
  by_cases h1 : a = c <;> by_cases h2 : b = d <;> by_cases h3 : e = e' <;> simp [h1, h2, h3]⟩
theorem encOk_T4 (ok : EncOk n f) (ok2 : EncOk m g) (ok3 : EncOk l h) (ok4 : EncOk o i) : EncOk (max n (max m (max l o)) + 1) (encT4 f g h i) := ⟨fun x => by simp [encT4, PyData.canLay0, PyData.canLayAll0, ok.lay, ok2.lay, ok3.lay, ok4.lay], fun x => by
  have h1 := ok.dep x.1
  have h2 := ok2.dep x.2.1
  have h3 := ok3.dep x.2.2.1
  have h4 := ok4.dep x.2.2.2
  simp only [encT4, PyData.depth, PyData.depthAll]
  omega, fun x y => by
  obtain ⟨a, b, e, u⟩ := x
  obtain ⟨c, d, e', u'⟩ := y
  simp only [encT4, PyData.eqv, PyData.eqvAll, ok.eqv, ok2.eqv, ok3.eqv, ok4.eqv, Prod.mk.injEq]
  by_cases h1 : a = c <;> by_cases h2 : b = d <;> by_cases h3 : e = e' <;> by_cases h4 : u = u' <;> simp [h1, h2, h3, h4]⟩
end
section
variable {X : Cx} {α : Type} [DecidableEq α] {n : Nat} {f : α → PyData}
def rEqT (f : α → PyData) : R2 := fun x y H Q => ∃ (a b : α), Rp H x (f a) ∧ Rp H y (f b) ∧ Q (.bl (decide (a = b))) H
def rNeT (f : α → PyData) : R2 := fun x y H Q => ∃ (a b : α), Rp H x (f a) ∧ Rp H y (f b) ∧ Q (.bl (!decide (a = b))) H
theorem shaped_of (ok : EncOk n f) (hn : n ≤ 64) (a : α) : SeqAt.shaped (f a) = true := by
  unfold SeqAt.shaped
  have h := ok.dep a
  rw [ok.lay]
  simp
  omega
theorem op_eqT (ok : EncOk n f) (hu : X.A.units + 64 < cLine) (hn : n ≤ 64 := by decide) : OpR X (compareOp .Eq) (rEqT f) := by
  intro pins s σ H x y v u Q I rx ry h
  obtain ⟨a, b, h1, h2, q⟩ := h
  exact op_eqD hu pins s σ H _ _ v u Q I rx ry ⟨_, _, h1.dp, h2.dp, shaped_of ok hn a, shaped_of ok hn b, by rw [ok.eqv]; exact q⟩
theorem op_neT (ok : EncOk n f) (hu : X.A.units + 64 < cLine) (hn : n ≤ 64 := by decide) : OpR X (compareOp .NotEq) (rNeT f) := by
  intro pins s σ H x y v u Q I rx ry h
  obtain ⟨a, b, h1, h2, q⟩ := h
  exact op_neD hu pins s σ H _ _ v u Q I rx ry ⟨_, _, h1.dp, h2.dp, shaped_of ok hn a, shaped_of ok hn b, by rw [ok.eqv]; exact q⟩
end
section
variable {H : Hp} {v : V} {α β γ δ : Type} {f : α → PyData} {g : β → PyData} {h : γ → PyData} {i : δ → PyData}
theorem rp_int {x : Int} (r : Rp H v (.int x)) : v = .int x := by cases r; rfl
theorem rp_bool {x : Bool} (r : Rp H v (.bool x)) : v = .bl x := by cases r; rfl
theorem rp_str {x : Str} (r : Rp H v (.str x)) : v = .str x := by cases r; rfl
theorem rp_list {xs : List α} (r : Rp H v (encL f xs)) : ∃ a vs, v = .ref a ∧ H a = some (.lst vs) ∧ RpAll H vs (xs.map f) := by
  unfold encL at r
  cases r with
  | lst h1 h2 => exact ⟨_, _, rfl, h1, h2⟩
theorem rpAll_ints : ∀ {vs : List V} {xs : List Int}, RpAll H vs (xs.map PyData.int) → vs = xs.map V.int
  | _, [], .nil => rfl
  | _, x :: xs, .cons r t => by rw [rp_int r, rpAll_ints t] <;> rfl
theorem rp_ints {xs : List Int} (r : Rp H v (encL PyData.int xs)) : ∃ a, v = .ref a ∧ H a = some (.lst (xs.map V.int)) := by
  obtain ⟨a, vs, e, h1, h2⟩ := rp_list r
  rw [rpAll_ints h2] at h1
  exact ⟨a, e, h1⟩
theorem rp_tup2 {x : α × β} (r : Rp H v (encT2 f g x)) : ∃ a v1 v2, v = .ref a ∧ H a = some (.tup [v1, v2]) ∧ Rp H v1 (f x.1) ∧ Rp H v2 (g x.2) := by
  unfold encT2 at r
  cases r with
  | tup h1 h2 =>
    cases h2 with
    | cons a b =>
      cases b with
      | cons b c =>
        cases c
        exact ⟨_, _, _, rfl, h1, a, b⟩
theorem rp_tup3 {x : α × β × γ} (r : Rp H v (encT3 f g h x)) : ∃ a v1 v2 v3, v = .ref a ∧ H a = some (.tup [v1, v2, v3]) ∧ Rp H v1 (f x.1) ∧ Rp H v2 (g x.2.1) ∧ Rp H v3 (h x.2.2) := by
  unfold encT3 at r
  cases r with
  | tup h1 h2 =>
    cases h2 with
    | cons a b =>
      cases b with
      | cons b c =>
        cases c with
        | cons c d =>
          cases d
          exact ⟨_, _, _, _, rfl, h1, a, b, c⟩
theorem rp_mk_list {a : Addr} {vs : List V} {xs : List α} (h1 : H a = some (.lst vs)) (h2 : RpAll H vs (xs.map f)) : Rp H (.ref a) (encL f xs) := .lst h1 h2
theorem rp_mk_ints {a : Addr} {xs : List Int} (h1 : H a = some (.lst (xs.map V.int))) : Rp H (.ref a) (encL PyData.int xs) := .lst h1 (RpAll.ints xs)
theorem rp_mk2 {a : Addr} {v1 v2 : V} {x : α} {y : β} (h1 : H a = some (.tup [v1, v2])) (r1 : Rp H v1 (f x)) (r2 : Rp H v2 (g y)) : Rp H (.ref a) (encT2 f g (x, y)) := .tup h1 (.cons r1 (.cons r2 .nil))
theorem rp_mk3 {a : Addr} {v1 v2 v3 : V} {x : α} {y : β} {z : γ} (h1 : H a = some (.tup [v1, v2, v3])) (r1 : Rp H v1 (f x)) (r2 : Rp H v2 (g y)) (r3 : Rp H v3 (h z)) : Rp H (.ref a) (encT3 f g h (x, y, z)) := .tup h1 (.cons r1 (.cons r2 (.cons r3 .nil)))
end

/-! ### the two heaps -/
def SameXs (L : List Addr) (H H' : Hp) : Prop := ∀ b o, H b = some o → b ∉ L → H' b = some o
theorem SameXs.of {H H' : Hp} {m : Addr} (x : SameX m H H') : SameXs [m] H H' := fun b o e n => x b o e (fun z => n (by rw [z]; exact List.mem_cons_self))
theorem ni1 {b m : Addr} (h : b ≠ m) : b ∉ [m] := by simpa using h
theorem ni2 {b m n : Addr} (h : b ≠ m) (h2 : b ≠ n) : b ∉ [m, n] := by simp [h, h2]
theorem ni3 {b m n o : Addr} (h : b ≠ m) (h2 : b ≠ n) (h3 : b ≠ o) : b ∉ [m, n, o] := by simp [h, h2, h3]
theorem ni4 {b m n o p : Addr} (h : b ≠ m) (h2 : b ≠ n) (h3 : b ≠ o) (h4 : b ≠ p) : b ∉ [m, n, o, p] := by simp [h, h2, h3, h4]
def hideL (L : List Addr) (H : Hp) : Hp := fun b => if b ∈ L then none else H b
theorem hideL_same (L : List Addr) (H : Hp) : Same (hideL L H) H := fun b o e => by
  unfold hideL at e
  split at e
  · cases e
  · exact e
theorem hideL_in {L : List Addr} {H : Hp} {b : Addr} (h : b ∈ L) : hideL L H b = none := if_pos h
theorem hideL_out {L : List Addr} {H : Hp} {b : Addr} (h : b ∉ L) : hideL L H b = H b := if_neg h
/-- M: owned from outside; H0, G0: at the entry; G: what stays as it is; O: what may change -/
structure Sep (M : List Addr) (H0 G0 G H : Hp) (O : List Addr) : Prop where
  base : SameXs M H0 H
  pm : ∀ a ∈ M, H a ≠ none
  sG : Same G H
  g0 : Same G0 G
  gn : ∀ b, H0 b ≠ none → G0 b = none → G b = none
  ow : ∀ a ∈ O, G a = none ∧ H a ≠ none ∧ (a ∈ M ∨ H0 a = none)
theorem all_nil {P : Addr → Prop} : ∀ x ∈ ([] : List Addr), P x := fun x h => by cases h
theorem all_cons {P : Addr → Prop} {a : Addr} {l : List Addr} (h : P a) (t : ∀ x ∈ l, P x) : ∀ x ∈ a :: l, P x := fun x hx => by
  cases hx with
  | head => exact h
  | tail _ hx => exact t x hx
theorem some_ne {H : Hp} {a : Addr} {o : HO} (h : H a = some o) : H a ≠ none := by
  rw [h]
  exact fun z => nomatch z
theorem same_ne {H H' : Hp} {a : Addr} (e : Same H H') (h : H a ≠ none) : H' a ≠ none := by
  cases q : H a with
  | none => exact absurd q h
  | some o => exact some_ne (e a o q)
section
variable {M : List Addr} {H0 G0 G H H' : Hp} {O : List Addr} {p m : Addr} {o : HO}
theorem Sep.start (M : List Addr) (H : Hp) (hM : ∀ a ∈ M, H a ≠ none) : Sep M H (hideL M H) (hideL M H) H M :=
  ⟨fun _ _ e _ => e, hM, hideL_same M H, Same.refl _, fun _ _ e => e, fun a ha => ⟨hideL_in ha, hM a ha, .inl ha⟩⟩
theorem Sep.startG {G H : Hp} (e : Same G H) : Sep [] H G G H [] := ⟨fun _ _ e _ => e, all_nil, e, Same.refl _, fun _ _ e => e, fun a ha => by cases ha⟩
theorem Sep.start0 (H : Hp) : Sep [] H H H H [] := Sep.startG (Same.refl H)
theorem Sep.b0 (S : Sep [] H0 G0 G H O) : Same H0 H := fun b o e => S.base b o e List.not_mem_nil
theorem Sep.free (S : Sep M H0 G0 G H O) {q : Addr} (n : H q = none) : H0 q = none := by
  cases e : H0 q with
  | none => rfl
  | some o =>
    by_cases h : q ∈ M
    · exact absurd n (S.pm q h)
    · rw [S.base q o e h] at n
      cases n
theorem Sep.same (S : Sep M H0 G0 G H O) (e : Same H H') : Sep M H0 G0 G H' O :=
  ⟨fun b o h n => e b o (S.base b o h n), fun a ha => same_ne e (S.pm a ha), S.sG.trans e, S.g0, S.gn, fun a ha => ⟨(S.ow a ha).1, same_ne e (S.ow a ha).2.1, (S.ow a ha).2.2⟩⟩
theorem Sep.gfree (S : Sep M H0 G0 G H O) {q : Addr} (n : H q = none) : G q = none := by
  cases e : G q with
  | none => rfl
  | some o => rw [S.sG q o e] at n; cases n
theorem Sep.new (S : Sep M H0 G0 G H O) (n : H p = none) (e : Same H H') (h : H' p = some o) (hm : H0 p = none) : Sep M H0 G0 G H' (p :: O) := by
  have S1 := S.same e
  refine ⟨S1.base, S1.pm, S1.sG, S1.g0, S1.gn, fun a ha => ?_⟩
  cases ha with
  | head => exact ⟨S.gfree n, some_ne h, .inr hm⟩
  | tail _ ha => exact S1.ow a ha
theorem Sep.grow (S : Sep M H0 G0 G H O) (n : H p = none) (e : Same H H') (h : H' p = some o) (hm : H0 p = none) : ∃ G', Same G G' ∧ G' p = some o ∧ Sep M H0 G0 G' H' O := by
  have S1 := S.same e
  have ng := S.gfree n
  refine ⟨upd G p o, fun b u q => by rw [upd_ne (ne_of_none q ng)]; exact q, upd_same, S1.base, S1.pm, fun b u q => ?_, fun b u q => ?_, fun b hb gb => ?_, fun a ha => ?_⟩
  · by_cases z : b = p
    · subst z
      rw [upd_same] at q
      exact q ▸ h
    · rw [upd_ne z] at q
      exact S1.sG b u q
  · have := S.g0 b u q
    rw [upd_ne (ne_of_none this ng)]
    exact this
  · by_cases z : b = p
    · subst z
      exact absurd hm hb
    · rw [upd_ne z]
      exact S.gn b hb gb
  · have hne : a ≠ p := fun z => (S.ow a ha).2.1 (by rw [z]; exact n)
    rw [upd_ne hne]
    exact S1.ow a ha
theorem Sep.mut (S : Sep M H0 G0 G H O) {L : List Addr} (x : SameXs L H H') (hL : ∀ a ∈ L, a ∈ O) (hs : ∀ a ∈ L, H' a ≠ none) : Sep M H0 G0 G H' O := by
  have keep : ∀ a, H a ≠ none → H' a ≠ none := fun a h => by
    by_cases hb : a ∈ L
    · exact hs a hb
    · cases q : H a with
      | none => exact absurd q h
      | some o => exact some_ne (x a o q hb)
  refine ⟨fun b o e n => ?_, fun a ha => keep a (S.pm a ha), fun b o e => ?_, S.g0, S.gn, fun a ha => ⟨(S.ow a ha).1, keep a (S.ow a ha).2.1, (S.ow a ha).2.2⟩⟩
  · refine x b o (S.base b o e n) fun hb => ?_
    rcases (S.ow b (hL b hb)).2.2 with z | z
    · exact n z
    · rw [e] at z; cases z
  · refine x b o (S.sG b o e) fun hb => ?_
    have := (S.ow b (hL b hb)).1
    rw [e] at this
    cases this
theorem Sep.mut1 (S : Sep M H0 G0 G H O) (x : SameX m H H') (hm : m ∈ O) (h : H' m = some o) : Sep M H0 G0 G H' O :=
  S.mut (SameXs.of x) (all_cons hm all_nil) (all_cons (some_ne h) all_nil)
theorem Sep.sub (S : Sep M H0 G0 G H O) {O' : List Addr} (h : ∀ a ∈ O', a ∈ O) : Sep M H0 G0 G H O' := ⟨S.base, S.pm, S.sG, S.g0, S.gn, fun a ha => S.ow a (h a ha)⟩
/-- what was owned and is to stay as it is from now on -/
theorem Sep.freeze (S : Sep M H0 G0 G H O) {O' : List Addr} (hp : p ∈ O) (h : H p = some o) (hm : H0 p = none) (hO : ∀ a ∈ O', a ∈ O ∧ a ≠ p) : ∃ G', Same G G' ∧ G' p = some o ∧ Sep M H0 G0 G' H O' := by
  have ng := (S.ow p hp).1
  refine ⟨upd G p o, fun b u q => by rw [upd_ne (ne_of_none q ng)]; exact q, upd_same, S.base, S.pm, fun b u q => ?_, fun b u q => ?_, fun b hb gb => ?_, fun a ha => ?_⟩
  · by_cases z : b = p
    · subst z
      rw [upd_same] at q
      exact q ▸ h
    · rw [upd_ne z] at q
      exact S.sG b u q
  · have := S.g0 b u q
    rw [upd_ne (ne_of_none this ng)]
    exact this
  · by_cases z : b = p
    · subst z
      exact absurd hm hb
    · rw [upd_ne z]
      exact S.gn b hb gb
  · rw [upd_ne (hO a ha).2]
    exact S.ow a (hO a ha).1
/-- a callee that hands on data in a stable heap of its own -/
theorem Sep.step (S : Sep M H0 G0 G H O) {G' : Hp} (e : Same H H') (eG : Same G G') (sG : Same G' H') (hn : ∀ b, H b ≠ none → G b = none → G' b = none) : Sep M H0 G0 G' H' O := by
  have S1 := S.same e
  refine ⟨S1.base, S1.pm, sG, S.g0.trans eG, fun b hb gb => ?_, fun a ha => ⟨hn a (S.ow a ha).2.1 (S.ow a ha).1, (S1.ow a ha).2⟩⟩
  refine hn b (fun z => ?_) (S.gn b hb gb)
  exact hb (S.free z)
theorem Sep.hid (S : Sep M H0 G0 G H O) {L : List Addr} (h : ∀ a ∈ L, a ∈ O) : Same G (hideL L H) := fun b o e => by
  rw [hideL_out fun z => by
    have := (S.ow b (h b z)).1
    rw [e] at this
    cases this]
  exact S.sG b o e
end
end Vx

namespace Vx
open PySem PySem.Spec PyProof.Rows L2
/-! ### lists of plain things (f : V.int, V.bl, V.str) -/
section
variable {α : Type} {f : α → V} {H : Hp} {p : Addr}
theorem cat_map {xs ys : List α} (h : H p = some (.lst (xs.map f ++ ys.map f))) : H p = some (.lst ((xs ++ ys).map f)) := by
  rw [List.map_append]; exact h
theorem snoc_map {xs : List α} {y : α} (h : H p = some (.lst (xs.map f ++ [f y]))) : H p = some (.lst ((xs ++ [y]).map f)) := by
  rw [List.map_append]; exact h
def repL (xs : List α) (k : Int) : List α := (List.replicate k.toNat xs).flatten
theorem rep_map {xs : List α} {k : Int} (h : H p = some (.lst (List.replicate k.toNat (xs.map f)).flatten)) : H p = some (.lst ((repL xs k).map f)) := by
  rw [h]
  unfold repL
  rw [List.map_flatten, List.map_replicate]
def cutL (xs : List α) (lo hi : Option Int) : List α := (xs.drop (HT.sIx xs.length 0 lo)).take (HT.sIx xs.length xs.length hi - HT.sIx xs.length 0 lo)
theorem cut_map {xs : List α} {lo hi : Option Int} (h : H p = some (.lst (cutV (xs.map f) lo hi))) : H p = some (.lst ((cutL xs lo hi).map f)) := by
  rw [h]
  unfold cutV cutL
  rw [List.length_map, List.map_take, List.map_drop]
theorem cast_map {xs ys : List α} (h : H p = some (.lst (xs.map f))) (e : xs = ys) : H p = some (.lst (ys.map f)) := e ▸ h
theorem drop_map {xs : List α} (h : H p = some (.lst (xs.map f).dropLast)) : H p = some (.lst (xs.dropLast.map f)) := by
  rw [h, List.map_dropLast]
theorem ixN_some {n : Nat} {k : Int} (h : -(n : Int) ≤ k ∧ k < n) : ∃ j, ixN n k = some j ∧ j < n := by
  unfold ixN
  by_cases h0 : 0 ≤ k
  · exact ⟨k.toNat, by rw [if_pos h0, if_pos h.2], by omega⟩
  · exact ⟨(k + n).toNat, by rw [if_neg h0, if_pos h.1], by omega⟩
def itD [Inhabited α] (xs : List α) (k : Int) : α := (atI xs k).getD default
theorem atI_map [Inhabited α] {xs : List α} {k : Int} (h : -(xs.length : Int) ≤ k ∧ k < xs.length) : atI (xs.map f) k = some (f (itD xs k)) := by
  obtain ⟨j, e, hj⟩ := ixN_some h
  unfold itD atI
  rw [List.length_map, e]
  show (xs.map f)[j]? = some (f ((xs[j]?).getD default))
  rw [List.getElem?_map, List.getElem?_eq_getElem hj] <;> rfl
def setL (xs : List α) (k : Int) (y : α) : List α := xs.set ((ixN xs.length k).getD 0) y
theorem ixN_map {xs : List α} {k : Int} (h : -(xs.length : Int) ≤ k ∧ k < xs.length) : ixN (xs.map f).length k = some ((ixN xs.length k).getD 0) := by
  obtain ⟨j, e, hj⟩ := ixN_some h
  rw [List.length_map, e] <;> rfl
theorem set_map {xs : List α} {k : Int} {y : α} (h : H p = some (.lst ((xs.map f).set ((ixN xs.length k).getD 0) (f y)))) : H p = some (.lst ((setL xs k y).map f)) := by
  rw [h]
  unfold setL
  rw [List.map_set]
def lastD [Inhabited α] (xs : List α) : α := xs.getLastD default
theorem pop_map [Inhabited α] {xs : List α} (h : xs ≠ []) : (xs.map f)[(xs.map f).length - 1]? = some (f (lastD xs)) := by
  rw [← List.getLast?_eq_getElem?, List.getLast?_map]
  unfold lastD
  cases e : xs.getLast? with
  | none => exact absurd (List.getLast?_eq_none_iff.mp e) h
  | some y =>
    rw [List.getLastD_eq_getLast?, e] <;> rfl
end
/-! ### lists of data -/
section
variable {α β : Type} {f : α → PyData} {g : β → PyData} {G : Hp} {vs ws : List V} {xs ys : List α}
theorem app_map (a : RpAll G vs (xs.map f)) (b : RpAll G ws (ys.map f)) : RpAll G (vs ++ ws) ((xs ++ ys).map f) := by
  rw [List.map_append]; exact a.append b
theorem one_map {v : V} {y : α} (a : RpAll G vs (xs.map f)) (b : Rp G v (f y)) : RpAll G (vs ++ [v]) ((xs ++ [y]).map f) := by
  rw [List.map_append]; exact a.append (.one b)
theorem rep_all (k : Int) (a : RpAll G vs (xs.map f)) : RpAll G (List.replicate k.toNat vs).flatten ((repL xs k).map f) := by
  unfold repL
  rw [List.map_flatten, List.map_replicate]
  exact a.rep _
theorem cut_all (lo hi : Option Int) (a : RpAll G vs (xs.map f)) : RpAll G (cutV vs lo hi) ((cutL xs lo hi).map f) := by
  unfold cutV cutL
  rw [a.len, List.length_map, List.map_take, List.map_drop]
  exact (a.drop _).take _
theorem rp_cast {v : V} {d e : PyData} (r : Rp G v d) (h : d = e) : Rp G v e := h ▸ r
theorem comp_listD {i : Nat} {x : α} {y : β} {v : V} {h : α → β} (hi : xs[i]? = some x) (a : RpAll G vs (((xs.take i).map h).map g)) (r : Rp G v (g y)) (e : h x = y) : RpAll G (vs ++ [v]) (((xs.take (i + 1)).map h).map g) := by
  rw [take_succ_get hi, List.map_append, List.map_append]
  exact a.append (.one (e ▸ r))
theorem comp_rangeD {i : Nat} {y : β} {v : V} {h : Nat → β} (a : RpAll G vs (((List.range i).map h).map g)) (r : Rp G v (g y)) (e : h i = y) : RpAll G (vs ++ [v]) (((List.range (i + 1)).map h).map g) := by
  rw [List.range_succ, List.map_append, List.map_append]
  exact a.append (.one (e ▸ r))
theorem comp_doneD {n : Nat} {h : List α → List β} (hl : n = xs.length) (a : RpAll G vs ((h (xs.take n)).map g)) : RpAll G vs ((h xs).map g) := by
  rw [hl, List.take_length] at a
  exact a
theorem comp_listFD {i : Nat} {x : α} {y : β} {v : V} {h : α → β} {q : α → Bool} (hi : xs[i]? = some x) (hq : q x = true) (a : RpAll G vs ((((xs.take i).filter q).map h).map g)) (r : Rp G v (g y)) (e : h x = y) : RpAll G (vs ++ [v]) ((((xs.take (i + 1)).filter q).map h).map g) := by
  rw [take_succ_get hi, List.filter_append, List.filter_cons, if_pos hq, List.map_append, List.map_append]
  exact a.append (.one (e ▸ r))
theorem skip_listD {i : Nat} {x : α} {h : α → β} {q : α → Bool} (hi : xs[i]? = some x) (hq : q x = false) (a : RpAll G vs ((((xs.take i).filter q).map h).map g)) : RpAll G vs ((((xs.take (i + 1)).filter q).map h).map g) := by
  rw [take_succ_get hi, List.filter_append, List.filter_cons, if_neg (by rw [hq]; decide), List.filter_nil, List.append_nil]
  exact a
end
section
variable {α β : Type} {f : β → V} {H : Hp} {D : Addr} {xs : List α}
theorem compM_list {i : Nat} {x : α} {y : β} {h : α → β} (hi : xs[i]? = some x) (a : H D = some (.lst (((xs.take i).map h).map f ++ [f y]))) (e : h x = y) : H D = some (.lst (((xs.take (i + 1)).map h).map f)) := by
  rw [a, ← e, take_succ_get hi, List.map_append, List.map_append] <;> rfl
theorem compM_range {i : Nat} {y : β} {h : Nat → β} (a : H D = some (.lst (((List.range i).map h).map f ++ [f y]))) (e : h i = y) : H D = some (.lst (((List.range (i + 1)).map h).map f)) := by
  rw [a, ← e, List.range_succ, List.map_append, List.map_append] <;> rfl
theorem compM_done {n : Nat} {h : List α → List β} (hl : n = xs.length) (a : H D = some (.lst ((h (xs.take n)).map f))) : H D = some (.lst ((h xs).map f)) := by
  rw [hl, List.take_length] at a
  exact a
theorem compM_listF {i : Nat} {x : α} {y : β} {h : α → β} {q : α → Bool} (hi : xs[i]? = some x) (hq : q x = true) (a : H D = some (.lst ((((xs.take i).filter q).map h).map f ++ [f y]))) (e : h x = y) : H D = some (.lst ((((xs.take (i + 1)).filter q).map h).map f)) := by
  rw [a, ← e, take_succ_get hi, List.filter_append, List.filter_cons, if_pos hq, List.map_append, List.map_append] <;> rfl
theorem skipM_list {i : Nat} {x : α} {h : α → β} {q : α → Bool} (hi : xs[i]? = some x) (hq : q x = false) (a : H D = some (.lst ((((xs.take i).filter q).map h).map f))) : H D = some (.lst ((((xs.take (i + 1)).filter q).map h).map f)) := by
  rw [a, take_succ_get hi, List.filter_append, List.filter_cons, if_neg (by rw [hq]; decide), List.filter_nil, List.append_nil]
theorem compM_rangeF {i : Nat} {y : β} {h : Nat → β} {q : Nat → Bool} (hq : q i = true) (a : H D = some (.lst ((((List.range i).filter q).map h).map f ++ [f y]))) (e : h i = y) : H D = some (.lst ((((List.range (i + 1)).filter q).map h).map f)) := by
  rw [a, ← e, List.range_succ, List.filter_append, List.filter_cons, if_pos hq, List.map_append, List.map_append] <;> rfl
theorem skipM_range {i : Nat} {h : Nat → β} {q : Nat → Bool} (hq : q i = false) (a : H D = some (.lst ((((List.range i).filter q).map h).map f))) : H D = some (.lst ((((List.range (i + 1)).filter q).map h).map f)) := by
  rw [a, List.range_succ, List.filter_append, List.filter_cons, if_neg (by rw [hq]; decide), List.filter_nil, List.append_nil]
end
/-! ### more rules -/
section
variable {X : Cx} {K : PySem.W.Frag}
theorem ix_tupK (hK : X.K = K := by rfl) : IxR X (rIxT K) := hK ▸ ix_tup
def rLenLK (K : PySem.W.Frag) : List V → Hp → VK → Prop := fun xs H Q => ∃ (p : Addr) (vs : List V) (n : Nat), xs = [.ref p] ∧ SqL K H p vs ∧ vs.length = n ∧ Q (.int (n : Int)) H
theorem call_lenLK (hK : X.K = K := by rfl) : CallR X (.builtin "len") (rLenLK K) := by
  subst hK
  intro pins s σ H xs us Q I r h
  obtain ⟨p, vs, n, rfl, hs, hn, q⟩ := h
  exact call_len_seq pins s σ H _ us Q I r ⟨p, _, rfl, Or.inl hs, by rw [hn]; exact q⟩
def rListLK (K : PySem.W.Frag) : List V → Hp → VK → Prop := fun xs H Q => ∃ (p : Addr) (vs : List V), xs = [.ref p] ∧ SqL K H p vs ∧ ∀ l, H l = none → Q (.ref l) (upd H l (.lst vs))
theorem call_listLK (hK : X.K = K := by rfl) : CallR X (.type "list") (rListLK K) := by
  subst hK
  intro pins s σ H xs us Q I r h
  obtain ⟨p, vs, rfl, hs, q⟩ := h
  exact call_list_of pins s σ H _ us Q I r ⟨p, _, rfl, Or.inl hs, q⟩
theorem cr_anyK (hc : X.calm = true) (hK : X.K = K := by rfl) : CallR X (.builtin "any") (rAny K) := hK ▸ cr_any hc
theorem cr_allK (hc : X.calm = true) (hK : X.K = K := by rfl) : CallR X (.builtin "all") (rAll K) := hK ▸ cr_all hc
theorem pi_tupK {tg l : Expr} {tl : TE} (hl : PE X l tl) (hK : X.K = K := by rfl) : PI X tg l (iTup K tl) := hK ▸ pi_tup hl
theorem pip {op : Operator} {r : R2} (h : OpR X (inplaceOp op) r) : PIp X op r := fun pins s σ H x y v u Q I rx ry q => h pins s σ H x y v u Q I rx ry q
/-- an item at a place from 0 on, by itself (ahead of o[i] op= e) -/
def rIxP (K : PySem.W.Frag) : R2 := fun x y H Q => ∃ (p : Addr) (xs : List V) (k : Int) (v : V), x = .ref p ∧ y = .int k ∧ SqL K H p xs ∧ 0 ≤ k ∧ k < 2 ^ 62 ∧ atI xs k = some v ∧ Q v H
theorem pget_list (hK : X.K = K := by rfl) : PGet X (rIxP K) := by
  subst hK
  intro pins s σ H o i ov iv Q I ro ri h
  obtain ⟨p, xs, k, v, rfl, rfl, hq, h0, h62, ha, q⟩ := h
  cases ro
  obtain ⟨t, rfl⟩ := ri
  obtain ⟨its, r, pl, hz⟩ := I.list hq
  obtain ⟨j, h1, h2, h3, h4, h5⟩ := atI_get ha
  obtain ⟨w, ew, rw'⟩ := r.get h2
  have hj : k.toNat = j := by
    rw [seqIndex_of h0 h5] at h1
    exact Option.some.inj h1
  exact getItem_listL pl.isList h0 (by omega) (by rw [hj]; simpa using ew) ⟨v, H, I, rw', q⟩
theorem tru_map {α : Type} [DecidableEq α] {f : α → V} {xs : List α} : (!decide (xs = [])) = !(xs.map f).isEmpty := by
  cases xs <;> simp
end
end Vx

namespace Vx
open PySem PySem.Spec PyProof.Rows L2
/-! ### objects -/
section
variable {M : List Addr} {H0 G0 G H H' : Hp} {O : List Addr} {p m : Addr} {o : HO}
theorem gen_obj {x dx : Addr} {o1 o2 : HO} (nx : H x = none) (nd : H dx = none) (ne : dx ≠ x) (h : upd (upd H dx o1) x o2 = H') : Same H H' ∧ H' x = some o2 := by
  subst h
  exact ⟨fun b u e => by rw [upd_ne (ne_of_none e nx), upd_ne (ne_of_none e nd)]; exact e, upd_same⟩
theorem sameX_of {m : Addr} (x : SameXs [m] H H') : SameX m H H' := fun b o e n => x b o e (by simpa using n)
theorem g_ne {a b : Addr} (h : G a = some o) (S : Sep M H0 G0 G H O) (hb : b ∈ O) : a ≠ b := fun z => by
  have := (S.ow b hb).1
  rw [← z, h] at this
  cases this
/-- an object whose making has laid some lists -/
theorem Sep.mutnew (S : Sep M H0 G0 G H O) {L : List Addr} (x : SameXs L H H') (hL : ∀ a ∈ L, a ∈ O) (hs : ∀ a ∈ L, H' a ≠ none) (hn : H p = none) (hp : H' p ≠ none) (h0 : H0 p = none) : Sep M H0 G0 G H' (p :: O) := by
  have S1 := S.mut x hL hs
  refine ⟨S1.base, S1.pm, S1.sG, S1.g0, S1.gn, all_cons ⟨S.gfree hn, hp, .inr h0⟩ S1.ow⟩
theorem Sep.init (S : Sep M H0 G0 G H O) (x : SameX m H H') (hm : m ∈ O) (h : H' m = some o) (L : List Addr) (hL : ∀ a ∈ L, H a = none ∧ H' a ≠ none ∧ H0 a = none) : Sep M H0 G0 G H' (L ++ O) := by
  have S1 := S.mut1 x hm h
  refine ⟨S1.base, S1.pm, S1.sG, S1.g0, S1.gn, fun a ha => ?_⟩
  rcases List.mem_append.mp ha with z | z
  · obtain ⟨h1, h2, h3⟩ := hL a z
    exact ⟨S.gfree h1, h2, .inr h3⟩
  · exact S1.ow a z
end
section
variable {P : Program} {w : World} {K : PySem.W.Frag} {mg : Str → Option Value} {base : Heap}
structure MethIn (K : PySem.W.Frag) (C : Addr) (q m : Str) (st : Stmt) (ps : List Str) : Prop where
  ex : ∃ (f : Addr) (fd : FuncData), Fun K m q st f fd ∧ Meth K C m f ∧ Binds K fd ps []
structure PropIn (K : PySem.W.Frag) (C : Addr) (q m : Str) (st : Stmt) (ps : List Str) : Prop where
  ex : ∃ (r f : Addr) (fd : FuncData), Fun K m q st f fd ∧ PropOf K C m r f ∧ Binds K fd ps []
structure InitIn (K : PySem.W.Frag) (mg : Str → Option Value) (C : Addr) (cn q : Str) (st : Stmt) (ps : List Str) : Prop where
  ex : ∃ (f : Addr) (fd : FuncData), Fun K "__init__" q st f fd ∧ Mk K C f ∧ mg cn = some (.ref C) ∧ Binds K fd ps []
structure MetC (P : Program) (w : World) (K : PySem.W.Frag) (mg : Str → Option Value) (base : Heap) (k : Nat) (C : Addr) (m : Str) (sp : Sp) : Prop where
  ex : ∃ (f : Addr) (fd : FuncData) (ps : List Str), Cls K C ∧ Meth K C m f ∧ FnOk P w K mg base CX0 k f fd ps sp ∧ Binds K fd ps []
structure PropC (P : Program) (w : World) (K : PySem.W.Frag) (mg : Str → Option Value) (base : Heap) (k : Nat) (C : Addr) (m : Str) (sp : Sp) : Prop where
  ex : ∃ (q f : Addr) (fd : FuncData) (ps : List Str), Cls K C ∧ PropOf K C m q f ∧ FnOk P w K mg base CX0 k f fd ps sp ∧ Binds K fd ps []
structure MakC (P : Program) (w : World) (K : PySem.W.Frag) (mg : Str → Option Value) (base : Heap) (k : Nat) (cn : Str) (C : Addr) (sp : Sp) : Prop where
  ex : ∃ (f : Addr) (fd : FuncData) (ps : List Str), Mk K C f ∧ FnOk P w K mg base CX0 k f fd ps sp ∧ mg cn = some (.ref C) ∧ Binds K fd ps []
abbrev Body (P : Program) (w : World) (K : PySem.W.Frag) (mg : Str → Option Value) (base : Heap) (x : Str) (st : Stmt) (N : List Str) (k : Nat) (sp : Sp) : Prop :=
  ∀ (f : Addr) (cdv : Value) (A : Around) (outer : List Env) (s : Shared) (H : Hp) (vs : List V) (Q : VK) (E : XK), Room k (A.deeper (envOfC x (defScope st) s.heap.objs.size f cdv)) → sp vs H Q E →
    ∃ t, PSs (cxOf CX0 P w K mg base N x (defScope st) f cdv A outer s H E).nox (defBody st) t ∧ t { nx := fun _ H' => Q .non H', rt := Q } (start N vs) H
theorem MethIn.ok {C : Addr} {q m : Str} {st : Stmt} {N ps : List Str} {k : Nat} {sp : Sp} (D : MethIn K C q m st ps) (c : Cls K C) (S : FnScope N ps (defScope st)) (len : ∀ vs H Q E, sp vs H Q E → vs.length = ps.length)
    (hbody : Body P w K mg base q st N k sp) : MetC P w K mg base (k + 1) C m sp := by
  obtain ⟨f, fd, F, me, b⟩ := D.ex
  exact ⟨f, fd, ps, c, me, F.ok S len (fun cdv A outer s H vs Q E hr h => hbody f cdv A outer s H vs Q E hr h), b⟩
theorem PropIn.ok {C : Addr} {q m : Str} {st : Stmt} {N ps : List Str} {k : Nat} {sp : Sp} (D : PropIn K C q m st ps) (c : Cls K C) (S : FnScope N ps (defScope st)) (len : ∀ vs H Q E, sp vs H Q E → vs.length = ps.length)
    (hbody : Body P w K mg base q st N k sp) : PropC P w K mg base (k + 1) C m sp := by
  obtain ⟨r, f, fd, F, me, b⟩ := D.ex
  exact ⟨r, f, fd, ps, c, me, F.ok S len (fun cdv A outer s H vs Q E hr h => hbody f cdv A outer s H vs Q E hr h), b⟩
theorem InitIn.ok {C : Addr} {cn q : Str} {st : Stmt} {N ps : List Str} {k : Nat} {sp : Sp} (D : InitIn K mg C cn q st ps) (S : FnScope N ps (defScope st)) (len : ∀ vs H Q E, sp vs H Q E → vs.length = ps.length)
    (hbody : Body P w K mg base q st N k sp) : MakC P w K mg base (k + 1) cn C sp := by
  obtain ⟨f, fd, F, me, hm, b⟩ := D.ex
  exact ⟨f, fd, ps, me, F.ok S len (fun cdv A outer s H vs Q E hr h => hbody f cdv A outer s H vs Q E hr h), hm, b⟩
end
section
variable {X : Cx} {k j : Nat} {C : Addr} {x m : Str} {sp : Sp} {p pos apos : Pos} {e o : Expr} {es : List Expr} {ta : TE} {t : TA}
theorem vx_call0 (c : Cal X.prog X.w X.K X.mg X.base k x sp) (hr : Room j X.A) (hk : k ≤ j) (hg : Gl X x) (hdb : (x == ("__debug__" : Str)) = false := by decide) : PE X (.Call (.Name x p) [] [] pos) (tCall sp [] E0 tNil) := by
  obtain ⟨f, fd, ps, F, hm, kp, b⟩ := c.ex
  exact pe_call0 F (hr.mono hk) hg hm kp b .nil pass0 hdb
theorem vx_make (c : MakC X.prog X.w X.K X.mg X.base k x C sp) (hr : Room j X.A) (hk : k + 1 ≤ j) (hg : Gl X x) (ha : PA X (e :: es) t)
    (hdb : (x == ("__debug__" : Str)) = false := by decide) (he : starEach (e :: es) X.env = (false, eval e X.env) :: starEach es X.env := by rfl) (hpl : (backTo pos (starEach es X.env)).any (·.1) = false := by rfl) :
    PE X (.Call (.Name x p) (e :: es) [] pos) (tMake C sp [] E0 t) := by
  obtain ⟨f, fd, ps, M, F, hm, b⟩ := c.ex
  exact pe_make M F (hr.mono hk) hg hm b .nil pass0 ha hdb he hpl
theorem vx_make0 (c : MakC X.prog X.w X.K X.mg X.base k x C sp) (hr : Room j X.A) (hk : k + 1 ≤ j) (hg : Gl X x) (hdb : (x == ("__debug__" : Str)) = false := by decide) :
    PE X (.Call (.Name x p) [] [] pos) (tMake C sp [] E0 tNil) := by
  obtain ⟨f, fd, ps, M, F, hm, b⟩ := c.ex
  exact pe_make0 M F (hr.mono hk) hg hm b .nil pass0 hdb
theorem vx_meth {pl : Sem Bool} (c : MetC X.prog X.w X.K X.mg X.base k C m sp) (hr : Room j X.A) (hk : k ≤ j) (he : PE X o ta) (ha : PA X (e :: es) t)
    (hst : starEach (e :: es) X.env = (false, eval e X.env) :: starEach es X.env := by rfl) (hpl : (backTo pos (starEach es X.env)).any (·.1) = false := by rfl)
    (ht : eval (.Call (.Attribute o m apos) (e :: es) [] pos) X.env = (do
      let ov ← eval o X.env
      standAt apos.atName
      let (f, first) ← holding [ov] (getMethod ov m pl)
      callWith pos f first (backTo pos (starEach (e :: es) X.env)) (backToKw pos (keywordEach [] X.env))) := by rfl) :
    PE X (.Call (.Attribute o m apos) (e :: es) [] pos) (tMeth C m sp [] E0 ta t) := by
  obtain ⟨f, fd, ps, hc, hm, F, b⟩ := c.ex
  exact pe_meth he hc hm F (hr.mono hk) b .nil pass0 ha hst hpl ht
theorem vx_meth0 {pl : Sem Bool} (c : MetC X.prog X.w X.K X.mg X.base k C m sp) (hr : Room j X.A) (hk : k ≤ j) (he : PE X o ta)
    (ht : eval (.Call (.Attribute o m apos) [] [] pos) X.env = (do
      let ov ← eval o X.env
      standAt apos.atName
      let (f, first) ← holding [ov] (getMethod ov m pl)
      callWith pos f first (backTo pos (starEach [] X.env)) (backToKw pos (keywordEach [] X.env))) := by rfl) :
    PE X (.Call (.Attribute o m apos) [] [] pos) (tMeth C m sp [] E0 ta tNil) := by
  obtain ⟨f, fd, ps, hc, hm, F, b⟩ := c.ex
  exact pe_meth0 he hc hm F (hr.mono hk) b .nil pass0 ht
theorem vx_prop (c : PropC X.prog X.w X.K X.mg X.base k C m sp) (hr : Room j X.A) (hk : k + 1 ≤ j) (he : PE X o ta) (hab : attributeBase o m X.env (eval o X.env) = eval o X.env) : PE X (.Attribute o m pos) (tProp C sp [] E0 ta) := by
  obtain ⟨q, f, fd, ps, hc, hp, F, b⟩ := c.ex
  exact pe_prop he hc hp F (hr.mono hk) b .nil pass0 hab
end
theorem iteBNT {b : Bool} {A B : Prop} (h : b = false) (k : A) : if (!b) = true then A else B := by rw [h]; exact iteT k
theorem iteNN {b : Bool} {A B : Prop} (h : if b = true then A else B) : if (!!b) = true then A else B := by rw [Bool.not_not]; exact h
theorem iteBNF {b : Bool} {A B : Prop} (h : b = true) (k : B) : if (!b) = true then A else B := by rw [h]; exact iteF k
theorem shl_side {i j : Int} (h0 : 0 ≤ j) (h1 : j ≤ 4096) (h2 : -(2 ^ 4096) < i) (h3 : i < 2 ^ 4096) : CShl i j := by
  obtain ⟨k, rfl⟩ := Int.eq_ofNat_of_zero_le h0
  exact shl_ok (n := 4096) (by omega) (by omega)
end Vx

namespace Vx
open PySem PySem.Spec PyProof.Rows L2
section
variable {X : Cx} {K : PySem.W.Frag}
theorem fldK {e : Expr} {f : Str} {pos : Pos} {ta : TE} (he : PE X e ta) (hb : attributeBase e f X.env (eval e X.env) = eval e X.env := by rfl) (hK : X.K = K := by rfl) : PE X (.Attribute e f pos) (tFld K ta f) := hK ▸ pe_fld he hb
theorem pg_tupK {es : List Expr} {k : Nat} {t : TGs} {n : Nat} {pos : Pos} (h : PGs X es t) (hc : X.calm = true := by rfl)
    (hn : (assignEach es X.env).length = n := by rfl) (hst : (assignEach es X.env).findIdx? (·.1) = none := by rfl) (hK : X.K = K := by rfl) : PG X (.Tuple es k pos) (gTup K n t) := hK ▸ pg_tup hc h hn hst
end
end Vx

namespace Vx
open PySem PySem.Spec PyProof.Rows L2
section
variable {α β : Type} {f : α → PyData} {g : β → PyData} {fv : α → V} {gv : β → V} {G : Hp} {vs ws : List V} {xs : List α} {ys : List β}
theorem big1 {n : Nat} (h : n ≤ 1000000) : n ≤ sizeLine := smallE h
theorem cat_len (a : RpAll G vs (xs.map f)) (b : RpAll G ws (ys.map g)) (h : xs.length + ys.length ≤ 1000000) : vs.length + ws.length ≤ sizeLine := by
  rw [a.len, b.len, List.length_map, List.length_map]; exact smallE h
theorem cat_lenM (h : xs.length + ys.length ≤ 1000000) : (xs.map fv).length + (ys.map gv).length ≤ sizeLine := by
  rw [List.length_map, List.length_map]; exact smallE h
theorem rep_len {k : Nat} (a : RpAll G vs (xs.map f)) (h : xs.length * k ≤ 1000000) : vs.length * k ≤ sizeLine := by
  rw [a.len, List.length_map]; exact smallE h
theorem rep_lenM {k : Nat} (h : xs.length * k ≤ 1000000) : (xs.map fv).length * k ≤ sizeLine := by
  rw [List.length_map]; exact smallE h
theorem app_len (a : RpAll G vs (xs.map f)) (h : xs.length ≤ 1000000) : vs.length < sizeLine := by
  rw [a.len, List.length_map]; exact small h
theorem app_lenM (h : xs.length ≤ 1000000) : (xs.map fv).length < sizeLine := by
  rw [List.length_map]; exact small h
theorem cutL_len {α : Type} (xs : List α) (lo hi : Option Int) : (cutL xs lo hi).length ≤ xs.length := by
  unfold cutL
  rw [List.length_take, List.length_drop]
  omega
theorem repL_len {α : Type} (xs : List α) (k : Int) : (repL xs k).length = k.toNat * xs.length := by
  unfold repL
  simp
end
end Vx
namespace Vx
open PySem PySem.Spec PyProof.Rows L2

def cellI (ns : List Int) (k : Int) : Int := if k < (ns.length : Int) then itD ns k else 0
def drawStep (free : Bool) (s : List Int × Int × Int) (l : Int) : List Int × Int × Int :=
  if free = true ∧ 1 < s.2.1 then (s.1 ++ [s.2.1 % l], s.2.1 / l, s.2.2)
  else (s.1 ++ [((s.2.2 * 48271 + 11) % 2147483647 * 69621 + 7) % 2147483647 / 13 % l], s.2.1, ((s.2.2 * 48271 + 11) % 2147483647 * 69621 + 7) % 2147483647)
def draws (cell : Int) (limits : List Int) : List Int :=
  (limits.foldl (drawStep (decide (cell < 0) || decide (1000000000000000000 ≤ cell))) ([], (if cell < 0 then -cell else cell), (if cell < 0 then -cell else cell) % 2147483647)).1
theorem draw_step_len (f : Bool) (s : List Int × Int × Int) (l : Int) : (drawStep f s l).1.length = s.1.length + 1 := by
  unfold drawStep
  split <;> simp
theorem draw_fold_len (f : Bool) : ∀ (ls : List Int) (s : List Int × Int × Int), (ls.foldl (drawStep f) s).1.length = s.1.length + ls.length
  | [], s => by simp
  | l :: ls, s => by
    rw [List.foldl_cons, draw_fold_len f ls, draw_step_len, List.length_cons]
    omega
theorem draws_len (cell : Int) (ls : List Int) : (draws cell ls).length = ls.length := by
  unfold draws
  rw [draw_fold_len]
  simp
/-- each draw is below its limit -/
def Below (xs ls : List Int) : Prop := xs.length = ls.length ∧ ∀ (j : Nat) (x l : Int), xs[j]? = some x → ls[j]? = some l → 0 ≤ x ∧ x < l
theorem draw_step_low (f : Bool) (s : List Int × Int × Int) (l : Int) (h : 0 < l) : ∃ x st, drawStep f s l = (s.1 ++ [x], st) ∧ 0 ≤ x ∧ x < l := by
  unfold drawStep
  split
  · exact ⟨_, _, rfl, Int.emod_nonneg _ (by omega), Int.emod_lt_of_pos _ h⟩
  · exact ⟨_, _, rfl, Int.emod_nonneg _ (by omega), Int.emod_lt_of_pos _ h⟩
theorem draw_fold_low (f : Bool) : ∀ (ls : List Int) (done : List Int) (s : List Int × Int × Int), (∀ l ∈ ls, 0 < l) → Below s.1 done → Below (ls.foldl (drawStep f) s).1 (done ++ ls)
  | [], done, s, _, b => by simpa using b
  | l :: ls, done, s, h, b => by
    obtain ⟨x, st, e, h1, h2⟩ := draw_step_low f s l (h l List.mem_cons_self)
    rw [List.foldl_cons, e]
    have := draw_fold_low f ls (done ++ [l]) (s.1 ++ [x], st) (fun m hm => h m (List.mem_cons_of_mem _ hm)) ⟨by simp [b.1], fun j y m hy hm => by
      by_cases hj : j < s.1.length
      · rw [List.getElem?_append_left hj] at hy
        rw [List.getElem?_append_left (by rw [← b.1]; exact hj)] at hm
        exact b.2 j y m hy hm
      · have hj2 := (List.getElem?_eq_some_iff.mp hy).1
        simp at hj2
        have ej : j = s.1.length := by omega
        subst ej
        simp at hy
        rw [b.1] at hm
        simp at hm
        subst hy hm
        exact ⟨h1, h2⟩⟩
    simpa using this
theorem draws_low {cell : Int} {ls : List Int} (h : ∀ l ∈ ls, 0 < l) : Below (draws cell ls) ls := by
  have := draw_fold_low (decide (cell < 0) || decide (1000000000000000000 ≤ cell)) ls [] ([], (if cell < 0 then -cell else cell), (if cell < 0 then -cell else cell) % 2147483647) h ⟨rfl, fun j x l hx => by simp at hx⟩
  rw [List.nil_append] at this
  exact this
/-- the k-th draw -/
theorem draw_at {cell : Int} {ls : List Int} (h : ∀ l ∈ ls, 0 < l) (k : Nat) {l : Int} (hk : ls[k]? = some l) : 0 ≤ itD (draws cell ls) (k : Int) ∧ itD (draws cell ls) (k : Int) < l := by
  have b := draws_low (cell := cell) h
  have hl : k < (draws cell ls).length := by
    rw [b.1]
    exact (List.getElem?_eq_some_iff.mp hk).1
  have e := List.getElem?_eq_getElem hl
  have : itD (draws cell ls) (k : Int) = (draws cell ls)[k] := by
    unfold itD atI ixN
    rw [if_pos (by omega), if_pos (by omega)]
    simp [e]
  rw [this]
  exact b.2 k _ l e hk
theorem len_rep1 {α : Type} (a : α) (k : Int) : (repL [a] k).length = k.toNat := by
  unfold repL
  simp
theorem mem_rep1 {α : Type} {a x : α} {k : Int} (h : x ∈ repL [a] k) : x = a := by
  unfold repL at h
  simp at h
  exact h.2
theorem lims_rep {n k : Int} (h : 0 < n ∧ n < 2 ^ 128) : ∀ l ∈ repL [n] k, 0 < l ∧ l < 2 ^ 128 := fun l hl => by
  rw [mem_rep1 hl]
  exact h
theorem itD_nat {α : Type} [Inhabited α] {e : List α} {k : Nat} {x : α} (h : e[k]? = some x) : itD e (k : Int) = x := by
  unfold itD atI ixN
  have hk := (List.getElem?_eq_some_iff.mp h).1
  rw [if_pos (by omega), if_pos (by omega)]
  simp [h]
theorem itD_mem {α : Type} [Inhabited α] {e : List α} {k : Int} (h : -(e.length : Int) ≤ k ∧ k < e.length) : itD e k ∈ e := by
  obtain ⟨j, hj, hl⟩ := ixN_some h
  unfold itD atI
  rw [hj]
  show (e[j]?).getD default ∈ e
  rw [List.getElem?_eq_getElem hl]
  exact List.getElem_mem hl
theorem repl_get {α : Type} {a x : α} {k : Int} {j : Nat} (h : (repL [a] k)[j]? = some x) : x = a := mem_rep1 (List.mem_of_getElem? h)

structure EncS where
  probs : List Int
  front : List Int
  low : Int
  span : Int
def adaptE (p d : Int) : Int := if d = 0 then p + (4096 - p) / 32 else p - p / 32
theorem adaptE_in {p d : Int} (h : 31 ≤ p ∧ p ≤ 4065) : 31 ≤ adaptE p d ∧ adaptE p d ≤ 4065 := by
  unfold adaptE
  split <;> omega
def num (xs : List Int) : Int := xs.foldl (fun a x => a * 256 + x) 0
theorem num_snoc (xs : List Int) (x : Int) : num (xs ++ [x]) = num xs * 256 + x := by
  unfold num
  rw [List.foldl_append] <;> rfl
def incR : List Int → List Int
  | [] => []
  | x :: r => if x = 255 then 0 :: incR r else (x + 1) :: r
def incE (xs : List Int) : List Int := (incR xs.reverse).reverse
theorem incR_rep (x : Int) (r : List Int) (hx : x ≠ 255) : ∀ j : Nat, incR (List.replicate j 255 ++ x :: r) = List.replicate j 0 ++ (x + 1) :: r
  | 0 => by simp [incR, hx]
  | j + 1 => by
    rw [List.replicate_succ, List.cons_append, incR, if_pos rfl, incR_rep x r hx j, List.replicate_succ, List.cons_append]
theorem incE_mid {A : List Int} {x : Int} {j : Nat} (hx : x ≠ 255) : incE (A ++ [x] ++ List.replicate j 255) = A ++ [x + 1] ++ List.replicate j 0 := by
  unfold incE
  rw [show (A ++ [x] ++ List.replicate j (255 : Int)).reverse = List.replicate j 255 ++ x :: A.reverse by simp, incR_rep x _ hx]
  simp
theorem mid_in {F A : List Int} {x pl : Int} {j : Nat} (h : F = A ++ [x] ++ List.replicate j 0) (hp : pl = (A.length : Int)) : -(F.length : Int) ≤ pl ∧ pl < F.length := by
  subst h hp
  simp only [List.length_append, List.length_cons, List.length_nil, List.length_replicate]
  omega
theorem get_mid {α : Type} {A R : List α} {x : α} : (A ++ [x] ++ R)[A.length]? = some x := by simp
theorem mid_at {F A : List Int} {x pl : Int} {j : Nat} (h : F = A ++ [x] ++ List.replicate j 0) (hp : pl = (A.length : Int)) : itD F pl = x := by
  subst h hp
  exact itD_nat get_mid
theorem ixN_nat' {n j : Nat} (hj : j < n) : ixN n (j : Int) = some j := by
  unfold ixN
  rw [if_pos (by omega), if_pos (by omega)]
  simp
theorem setL_mid {A R : List Int} {x y : Int} : setL (A ++ [x] ++ R) (A.length : Int) y = A ++ [y] ++ R := by
  unfold setL
  rw [ixN_nat' (by simp)]
  simp
theorem all255 {F : List Int} {j : Nat} (h : ∃ y ∈ F, y ≠ 255) (e : F = List.replicate j 255) : False := by
  obtain ⟨y, hy, hn⟩ := h
  rw [e] at hy
  exact hn (List.eq_of_mem_replicate hy)
theorem carry_start {F : List Int} (h : ∃ y ∈ F, y ≠ 255) : ∃ (A : List Int) (x : Int) (j : Nat), F = A ++ [x] ++ List.replicate j 255 ∧ F = A ++ [x] ++ List.replicate j 0 ∧ ((F.length : Int) - 1) = (A.length : Int) := by
  have hn : F ≠ [] := by
    obtain ⟨y, hy, _⟩ := h
    intro z
    rw [z] at hy
    cases hy
  refine ⟨F.dropLast, F.getLast hn, 0, ?_, ?_, ?_⟩
  · rw [List.dropLast_concat_getLast]
    simp
  · rw [List.dropLast_concat_getLast]
    simp
  · have := List.length_pos_iff.mpr hn
    rw [List.length_dropLast]
    omega
theorem carry_A {F A : List Int} {x : Int} {j : Nat} (h : ∃ y ∈ F, y ≠ 255) (e : F = A ++ [x] ++ List.replicate j 255) (hx : x = 255) : A ≠ [] := by
  intro z
  subst z hx
  refine all255 (j := j + 1) h ?_
  rw [e, List.replicate_succ] <;> rfl
theorem carry_turn {F F' A : List Int} {x pl : Int} {j : Nat} (h : ∃ y ∈ F, y ≠ 255) (e : F = A ++ [x] ++ List.replicate j 255) (e' : F' = A ++ [x] ++ List.replicate j 0) (hp : pl = (A.length : Int)) (hx : x = 255) :
    ∃ (B : List Int) (y : Int) (k : Nat), F = B ++ [y] ++ List.replicate k 255 ∧ setL F' pl 0 = B ++ [y] ++ List.replicate k 0 ∧ pl - 1 = (B.length : Int) := by
  have hA := carry_A h e hx
  refine ⟨A.dropLast, A.getLast hA, j + 1, ?_, ?_, ?_⟩
  · rw [e, hx, List.dropLast_concat_getLast hA, List.replicate_succ]
    simp
  · rw [e', hp, setL_mid, List.dropLast_concat_getLast hA, List.replicate_succ]
    simp
  · have := List.length_pos_iff.mpr hA
    rw [hp, List.length_dropLast]
    omega
theorem carry_less {F A : List Int} {x pl : Int} {j : Nat} (h : ∃ y ∈ F, y ≠ 255) (e : F = A ++ [x] ++ List.replicate j 255) (hp : pl = (A.length : Int)) (hx : x = 255) : (pl - 1).toNat < pl.toNat := by
  have := List.length_pos_iff.mpr (carry_A h e hx)
  omega
theorem carry_end {F F' A : List Int} {x pl : Int} {j : Nat} (e : F = A ++ [x] ++ List.replicate j 255) (e' : F' = A ++ [x] ++ List.replicate j 0) (hp : pl = (A.length : Int)) (hx : x ≠ 255) : setL F' pl (itD F' pl + 1) = incE F := by
  rw [mid_at e' hp, e', hp, setL_mid, e, incE_mid hx]

def encInit : EncS := ⟨repL [2048] 256, [], 0, 4294967296 - 1⟩
def encPre (e : EncS) (p d : Int) : EncS :=
  if d = 0 then ⟨e.probs, e.front, e.low, e.span / 4096 * p⟩
  else if 4294967296 ≤ e.low + e.span / 4096 * p then ⟨e.probs, incE e.front, e.low + e.span / 4096 * p - 4294967296, e.span - e.span / 4096 * p⟩
  else ⟨e.probs, e.front, e.low + e.span / 4096 * p, e.span - e.span / 4096 * p⟩
def encNorm1 (e : EncS) : EncS := ⟨e.probs, e.front ++ [e.low / 16777216], e.low * 256 % 4294967296, e.span * 256⟩
def encNorm (e : EncS) : EncS := if e.span < 16777216 then encNorm1 e else e
def encNarrow (e : EncS) (p d : Int) : EncS := encNorm (encPre e p d)
def encCode (e : EncS) (c d : Int) : EncS := ⟨setL (encNarrow e (itD e.probs c) d).probs c (adaptE (itD e.probs c) d), (encNarrow e (itD e.probs c) d).front, (encNarrow e (itD e.probs c) d).low, (encNarrow e (itD e.probs c) d).span⟩
structure EncMid (e : EncS) : Prop where
  oct : ∀ x ∈ e.front, 0 ≤ x ∧ x ≤ 255
  low : 0 ≤ e.low ∧ e.low < 4294967296
  span0 : 0 < e.span
  span : 65536 ≤ e.span ∧ e.span < 4294967296
  fit : num e.front * 4294967296 + e.low + e.span ≤ 256 ^ e.front.length * 4294967296
structure EncG (e : EncS) : Prop where
  len : e.probs.length = 256
  prob : ∀ p ∈ e.probs, 31 ≤ p ∧ p ≤ 4065
  mid : EncMid e
  big : 16777216 ≤ e.span
theorem EncG.chance {e : EncS} (h : EncG e) {c : Int} (h0 : 0 ≤ c) (h1 : c < 256) : 31 ≤ itD e.probs c ∧ itD e.probs c ≤ 4065 := h.prob _ (itD_mem (by rw [h.len]; omega))
theorem part_in {s p : Int} (hs : 16777216 ≤ s ∧ s < 4294967296) (hp : 31 ≤ p ∧ p ≤ 4065) : 65536 ≤ s / 4096 * p ∧ 65536 ≤ s - s / 4096 * p := by
  have h1 : 4096 ≤ s / 4096 := by omega
  have h2 : s / 4096 * 4096 ≤ s := by omega
  have a : s / 4096 * 31 ≤ s / 4096 * p := Int.mul_le_mul_of_nonneg_left hp.1 (by omega)
  have b : s / 4096 * p ≤ s / 4096 * 4065 := Int.mul_le_mul_of_nonneg_left hp.2 (by omega)
  omega
theorem snocInd {α : Type} {motive : List α → Prop} (nil : motive []) (snoc : ∀ xs x, motive xs → motive (xs ++ [x])) (xs : List α) : motive xs := by
  have : ∀ l : List α, motive l.reverse := by
    intro l
    induction l with
    | nil => exact nil
    | cons x r ih =>
      rw [List.reverse_cons]
      exact snoc _ _ ih
  have h := this xs.reverse
  rwa [List.reverse_reverse] at h
theorem num_nn : ∀ {xs : List Int}, (∀ x ∈ xs, 0 ≤ x ∧ x ≤ 255) → 0 ≤ num xs := by
  intro xs
  induction xs using snocInd with
  | nil => intro _; decide
  | snoc xs x ih =>
    intro h
    rw [num_snoc]
    have h1 := ih fun y hy => h y (List.mem_append_left _ hy)
    have h2 := h x (List.mem_append_right _ List.mem_cons_self)
    omega
theorem inc_len (xs : List Int) : (incE xs).length = xs.length := by
  have : ∀ l : List Int, (incR l).length = l.length := by
    intro l
    induction l with
    | nil => rfl
    | cons x r ih =>
      unfold incR
      split
      · rw [List.length_cons, List.length_cons, ih]
      · rfl
  unfold incE
  rw [List.length_reverse, this, List.length_reverse]
theorem split255 : ∀ {xs : List Int}, (∃ y ∈ xs, y ≠ 255) → ∃ (A : List Int) (x : Int) (j : Nat), xs = A ++ [x] ++ List.replicate j 255 ∧ x ≠ 255 := by
  intro xs
  induction xs using snocInd with
  | nil => rintro ⟨y, hy, _⟩; cases hy
  | snoc xs x ih =>
    intro h
    by_cases hx : x = 255
    · subst hx
      obtain ⟨y, hy, hn⟩ := h
      have : ∃ y ∈ xs, y ≠ 255 := by
        rcases List.mem_append.mp hy with z | z
        · exact ⟨y, z, hn⟩
        · simp at z
          exact absurd z hn
      obtain ⟨A, x, j, e, hx⟩ := ih this
      refine ⟨A, x, j + 1, ?_, hx⟩
      rw [e, List.replicate_succ', List.append_assoc]
    · exact ⟨xs, x, 0, by simp, hx⟩
theorem num_rep (A : List Int) (x : Int) : ∀ j : Nat, num (A ++ [x + 1] ++ List.replicate j 0) = num (A ++ [x] ++ List.replicate j 255) + 1
  | 0 => by simp [num_snoc]; omega
  | j + 1 => by
    rw [List.replicate_succ', List.replicate_succ', ← List.append_assoc, ← List.append_assoc, num_snoc, num_snoc, num_rep A x j]
    omega
theorem inc_num {xs : List Int} (h : ∃ y ∈ xs, y ≠ 255) : num (incE xs) = num xs + 1 := by
  obtain ⟨A, x, j, e, hx⟩ := split255 h
  rw [e, incE_mid hx, num_rep]
theorem inc_oct {xs : List Int} (h : ∃ y ∈ xs, y ≠ 255) (ho : ∀ x ∈ xs, 0 ≤ x ∧ x ≤ 255) : ∀ x ∈ incE xs, 0 ≤ x ∧ x ≤ 255 := by
  obtain ⟨A, x, j, e, hx⟩ := split255 h
  subst e
  rw [incE_mid hx]
  intro y hy
  have hxo := ho x (by simp)
  simp at hy
  rcases hy with z | z | z
  · exact ho y (by simp [z])
  · omega
  · omega
theorem num_all255 : ∀ {xs : List Int}, (∀ y ∈ xs, y = 255) → num xs = 256 ^ xs.length - 1 := by
  intro xs
  induction xs using snocInd with
  | nil => intro _; decide
  | snoc xs x ih =>
    intro h
    rw [num_snoc, ih fun y hy => h y (List.mem_append_left _ hy), h x (List.mem_append_right _ List.mem_cons_self), List.length_append, List.length_cons, List.length_nil, Int.pow_succ]
    omega
theorem carry_pre {e : EncS} (h : EncG e) {p : Int} (hp : 31 ≤ p ∧ p ≤ 4065) (c : 4294967296 ≤ e.low + e.span / 4096 * p) : ∃ y ∈ e.front, y ≠ 255 := by
  by_cases z : ∃ y ∈ e.front, y ≠ 255
  · exact z
  · have a : ∀ y ∈ e.front, y = 255 := fun y hy => by
      by_cases q : y = 255
      · exact q
      · exact absurd ⟨y, hy, q⟩ z
    have n := num_all255 a
    have f := h.mid.fit
    have q := part_in ⟨h.big, h.mid.span.2⟩ hp
    rw [n] at f
    have : (256 ^ e.front.length - 1 : Int) * 4294967296 = 256 ^ e.front.length * 4294967296 - 4294967296 := by rw [Int.sub_mul]; omega
    omega
theorem encPre_ok {e : EncS} (h : EncG e) {p : Int} (hp : 31 ≤ p ∧ p ≤ 4065) (d : Int) : EncMid (encPre e p d) := by
  have q := part_in ⟨h.big, h.mid.span.2⟩ hp
  have f := h.mid.fit
  have l := h.mid.low
  have s := h.mid.span
  unfold encPre
  split
  · exact ⟨h.mid.oct, l, by show 0 < e.span / 4096 * p; omega, by show 65536 ≤ e.span / 4096 * p ∧ e.span / 4096 * p < 4294967296; omega, by show num e.front * 4294967296 + e.low + e.span / 4096 * p ≤ 256 ^ e.front.length * 4294967296; omega⟩
  · split
    · rename_i c
      have cp := carry_pre h hp c
      refine ⟨inc_oct cp h.mid.oct, ?_, ?_, ?_, ?_⟩
      · show 0 ≤ e.low + e.span / 4096 * p - 4294967296 ∧ e.low + e.span / 4096 * p - 4294967296 < 4294967296
        omega
      · show 0 < e.span - e.span / 4096 * p
        omega
      · show 65536 ≤ e.span - e.span / 4096 * p ∧ e.span - e.span / 4096 * p < 4294967296
        omega
      · show num (incE e.front) * 4294967296 + (e.low + e.span / 4096 * p - 4294967296) + (e.span - e.span / 4096 * p) ≤ 256 ^ (incE e.front).length * 4294967296
        rw [inc_num cp, inc_len]
        omega
    · refine ⟨h.mid.oct, ?_, ?_, ?_, ?_⟩
      · show 0 ≤ e.low + e.span / 4096 * p ∧ e.low + e.span / 4096 * p < 4294967296
        omega
      · show 0 < e.span - e.span / 4096 * p
        omega
      · show 65536 ≤ e.span - e.span / 4096 * p ∧ e.span - e.span / 4096 * p < 4294967296
        omega
      · show num e.front * 4294967296 + (e.low + e.span / 4096 * p) + (e.span - e.span / 4096 * p) ≤ 256 ^ e.front.length * 4294967296
        omega
theorem norm_span {e : EncS} (h : EncMid e) : 16777216 ≤ (encNorm1 e).span := by
  have := h.span
  show 16777216 ≤ e.span * 256
  omega
theorem shl32 {i j : Int} (h : 0 ≤ i ∧ i < 4294967296) (hj : 0 ≤ j ∧ j ≤ 64) : CShl i j := by
  obtain ⟨k, rfl⟩ := Int.eq_ofNat_of_zero_le hj.1
  exact shl_ok (n := 64) (by omega) (by omega)
theorem encNorm_eq (e : EncS) : (⟨e.probs, e.front ++ [e.low / 16777216], PySem.Builtin.bitAnd (e.low * 256) (4294967296 - 1), e.span * 256⟩ : EncS) = encNorm1 e := by
  unfold encNorm1
  rw [show (4294967296 - 1 : Int) = 4294967295 by decide, bitAnd_m32] <;> rfl
theorem norm_ok {e : EncS} (h : EncMid e) : EncMid (encNorm e) ∧ 16777216 ≤ (encNorm e).span := by
  unfold encNorm
  split
  · rename_i c
    have l := h.low
    have s := h.span
    have f := h.fit
    refine ⟨⟨?_, ?_, ?_, ?_, ?_⟩, norm_span h⟩
    · intro x hx
      rcases List.mem_append.mp hx with z | z
      · exact h.oct x z
      · simp at z
        omega
    · show 0 ≤ e.low * 256 % 4294967296 ∧ e.low * 256 % 4294967296 < 4294967296
      omega
    · show 0 < e.span * 256
      omega
    · show 65536 ≤ e.span * 256 ∧ e.span * 256 < 4294967296
      omega
    · show num (e.front ++ [e.low / 16777216]) * 4294967296 + e.low * 256 % 4294967296 + e.span * 256 ≤ 256 ^ (e.front ++ [e.low / 16777216]).length * 4294967296
      rw [num_snoc, List.length_append, List.length_cons, List.length_nil, Int.pow_succ]
      have e1 : (num e.front * 256 + e.low / 16777216) * 4294967296 + e.low * 256 % 4294967296 = (num e.front * 4294967296 + e.low) * 256 := by omega
      have e2 : (256 : Int) ^ e.front.length * 256 * 4294967296 = 256 ^ e.front.length * 4294967296 * 256 := by rw [Int.mul_right_comm]
      rw [e1, e2]
      omega
  · exact ⟨h, by omega⟩
theorem probs_pre (e : EncS) (p d : Int) : (encPre e p d).probs = e.probs := by
  unfold encPre
  split
  · rfl
  · split <;> rfl
theorem len_pre (e : EncS) (p d : Int) : (encPre e p d).front.length = e.front.length := by
  unfold encPre
  split
  · rfl
  · split
    · exact inc_len _
    · rfl
theorem len_narrow (e : EncS) (p d : Int) : (encNarrow e p d).front.length ≤ e.front.length + 1 := by
  have := len_pre e p d
  unfold encNarrow encNorm
  split
  · show ((encPre e p d).front ++ [(encPre e p d).low / 16777216]).length ≤ e.front.length + 1
    rw [List.length_append, List.length_cons, List.length_nil]
    omega
  · omega
theorem probs_narrow (e : EncS) (p d : Int) : (encNarrow e p d).probs = e.probs := by
  unfold encNarrow encNorm
  split
  · exact probs_pre e p d
  · exact probs_pre e p d
theorem narrow_ok {e : EncS} (h : EncG e) {p : Int} (hp : 31 ≤ p ∧ p ≤ 4065) (d : Int) : EncG (encNarrow e p d) := by
  obtain ⟨m, b⟩ := norm_ok (encPre_ok h hp d)
  exact ⟨by rw [probs_narrow]; exact h.len, by rw [probs_narrow]; exact h.prob, m, b⟩
theorem even_ok {e : EncS} (h : EncG e) (d : Int) : EncG (encNarrow e 2048 d) := narrow_ok h (by decide) d
theorem setL_len {α : Type} (xs : List α) (k : Int) (y : α) : (setL xs k y).length = xs.length := by
  unfold setL
  rw [List.length_set]
theorem setL_mem {α : Type} {xs : List α} {k : Int} {x y : α} (h : x ∈ setL xs k y) : x ∈ xs ∨ x = y := by
  unfold setL at h
  exact List.mem_or_eq_of_mem_set h
theorem code_ok {e : EncS} (h : EncG e) {c d : Int} (h0 : 0 ≤ c) (h1 : c < 256) : EncG (encCode e c d) := by
  have hc := h.chance h0 h1
  have n := narrow_ok h hc d
  refine ⟨?_, ?_, ⟨n.mid.oct, n.mid.low, n.mid.span0, n.mid.span, n.mid.fit⟩, n.big⟩
  · show (setL _ _ _).length = 256
    rw [setL_len]
    exact n.len
  · intro p hp
    rcases setL_mem hp with z | z
    · exact n.prob p z
    · rw [z]
      exact adaptE_in hc
theorem init_ok : EncG encInit := by
  refine ⟨by decide, fun p hp => ?_, ⟨fun x hx => (by cases hx), by decide, by decide, by decide, by decide⟩, by decide⟩
  rw [mem_rep1 hp]
  decide
/-! the octets -/
def stripZ (xs : List Int) : List Int := (xs.reverse.dropWhile (fun x => decide (x = 0))).reverse
def digits4 (n : Int) : List Int := ([24, 16, 8, 0] : List Int).map (fun k => PySem.Builtin.bitAnd (n / 2 ^ Int.toNat k) 255)
def encOctets (e : EncS) : List Int := stripZ (e.front ++ digits4 e.low)
theorem shifts_nn {k : Int} (h : k ∈ ([24, 16, 8, 0] : List Int)) : 0 ≤ k := by
  simp at h
  omega
theorem last_in {xs : List Int} (h : xs ≠ []) : -(xs.length : Int) ≤ -1 ∧ -1 < (xs.length : Int) := by
  have := List.length_pos_iff.mpr h
  omega
theorem itD_last {xs : List Int} (h : xs ≠ []) : itD xs (-1) = xs.getLast h := by
  unfold itD atI ixN
  have := List.length_pos_iff.mpr h
  rw [if_neg (by omega), if_pos (by omega)]
  have e : (-1 + (xs.length : Int)).toNat = xs.length - 1 := by omega
  show (xs[(-1 + (xs.length : Int)).toNat]?).getD default = _
  rw [e, ← List.getLast?_eq_getElem?, List.getLast?_eq_some_getLast h] <;> rfl
theorem strip_pop {xs : List Int} (h : xs ≠ []) (hz : itD xs (-1) = 0) : stripZ xs.dropLast = stripZ xs := by
  rw [itD_last h] at hz
  unfold stripZ
  have e : xs.reverse = 0 :: xs.dropLast.reverse := by
    conv => lhs; rw [← List.dropLast_concat_getLast h, List.reverse_append, hz]
    rfl
  rw [e, List.dropWhile_cons, if_pos (by decide)]
theorem drop_less {xs : List Int} (h : xs ≠ []) : xs.dropLast.length < xs.length := by
  have := List.length_pos_iff.mpr h
  rw [List.length_dropLast]
  omega
theorem strip_nil : stripZ [] = [] := rfl
theorem strip_last {xs : List Int} (h : xs ≠ []) (hz : ¬ itD xs (-1) = 0) : stripZ xs = xs := by
  rw [itD_last h] at hz
  unfold stripZ
  have e : xs.reverse = xs.getLast h :: xs.dropLast.reverse := by
    conv => lhs; rw [← List.dropLast_concat_getLast h, List.reverse_append]
    rfl
  rw [e, List.dropWhile_cons, if_neg (by simpa using hz), ← e, List.reverse_reverse]
theorem strip_done {xs : List Int} (h : xs = [] ∨ ¬ itD xs (-1) = 0) : stripZ xs = xs := by
  by_cases n : xs = []
  · rw [n] <;> rfl
  · rcases h with z | z
    · exact absurd z n
    · exact strip_last n z

theorem five (cell a b c d e : Int) (h : 0 < a ∧ 0 < b ∧ 0 < c ∧ 0 < d ∧ 0 < e) : (draws cell [a, b, c, d, e]).length = 5 ∧ (0 ≤ itD (draws cell [a, b, c, d, e]) 0 ∧ itD (draws cell [a, b, c, d, e]) 0 < a) ∧
    (0 ≤ itD (draws cell [a, b, c, d, e]) 1 ∧ itD (draws cell [a, b, c, d, e]) 1 < b) ∧ (0 ≤ itD (draws cell [a, b, c, d, e]) 2 ∧ itD (draws cell [a, b, c, d, e]) 2 < c) ∧
    (0 ≤ itD (draws cell [a, b, c, d, e]) 3 ∧ itD (draws cell [a, b, c, d, e]) 3 < d) ∧ (0 ≤ itD (draws cell [a, b, c, d, e]) 4 ∧ itD (draws cell [a, b, c, d, e]) 4 < e) := by
  have hp : ∀ l ∈ [a, b, c, d, e], 0 < l := by
    intro l hl
    simp at hl
    omega
  exact ⟨draws_len _ _, draw_at hp 0 rfl, draw_at hp 1 rfl, draw_at hp 2 rfl, draw_at hp 3 rfl, draw_at hp 4 rfl⟩
theorem item_draws (cell : Int) : (draws cell [4, 8, 256, 2, 40]).length = 5 ∧ (0 ≤ itD (draws cell [4, 8, 256, 2, 40]) 0 ∧ itD (draws cell [4, 8, 256, 2, 40]) 0 < 4) ∧
    (0 ≤ itD (draws cell [4, 8, 256, 2, 40]) 1 ∧ itD (draws cell [4, 8, 256, 2, 40]) 1 < 8) ∧ (0 ≤ itD (draws cell [4, 8, 256, 2, 40]) 2 ∧ itD (draws cell [4, 8, 256, 2, 40]) 2 < 256) ∧
    (0 ≤ itD (draws cell [4, 8, 256, 2, 40]) 3 ∧ itD (draws cell [4, 8, 256, 2, 40]) 3 < 2) ∧ (0 ≤ itD (draws cell [4, 8, 256, 2, 40]) 4 ∧ itD (draws cell [4, 8, 256, 2, 40]) 4 < 40) := five cell 4 8 256 2 40 (by decide)
theorem bits_len (cell : Int) : (draws (cell / 1000) (repL [2] (itD (draws cell [4, 8, 256, 2, 40]) 4))).length ≤ 39 := by
  have := item_draws cell
  rw [draws_len, len_rep1]
  omega
def itemCtx (cell : Int) : Int := itD [0, 255, 1, 128, itD (draws cell [4, 8, 256, 2, 40]) 2, itD (draws cell [4, 8, 256, 2, 40]) 2, itD (draws cell [4, 8, 256, 2, 40]) 2, (-1)] (itD (draws cell [4, 8, 256, 2, 40]) 1)
def itemsStep (items : List (Int × Int)) (cell : Int) : List (Int × Int) :=
  if itD (draws cell [4, 8, 256, 2, 40]) 0 < 2 then items ++ repL [(itemCtx cell, itD (draws cell [4, 8, 256, 2, 40]) 3)] (itD (draws cell [4, 8, 256, 2, 40]) 4)
  else items ++ (List.range (((draws (cell / 1000) (repL [2] (itD (draws cell [4, 8, 256, 2, 40]) 4))).length : Int)).toNat).map fun (j : Nat) => ((itemCtx cell + 1) * (if 0 < (0 + (j : Int)) % 3 then 1 else 0) - 1, itD (draws (cell / 1000) (repL [2] (itD (draws cell [4, 8, 256, 2, 40]) 4))) (0 + (j : Int)))
def itemsL (script : List Int) (most : Int) : List (Int × Int) := cutL (script.foldl itemsStep []) none (some most)
def ItemsOk (items : List (Int × Int)) : Prop := ∀ it ∈ items, (-1 ≤ it.1 ∧ it.1 ≤ 255) ∧ 0 ≤ it.2 ∧ it.2 ≤ 1
theorem ctx_ok (cell : Int) : -1 ≤ itemCtx cell ∧ itemCtx cell ≤ 255 := by
  have D := item_draws cell
  have m : itemCtx cell ∈ [0, 255, 1, 128, itD (draws cell [4, 8, 256, 2, 40]) 2, itD (draws cell [4, 8, 256, 2, 40]) 2, itD (draws cell [4, 8, 256, 2, 40]) 2, (-1)] := itD_mem (by simp only [List.length_cons, List.length_nil]; omega)
  simp only [List.mem_cons, List.not_mem_nil, or_false] at m
  omega
theorem step_ok {items : List (Int × Int)} {cell : Int} (h : ItemsOk items) : ItemsOk (itemsStep items cell) := by
  have D := item_draws cell
  have C := ctx_ok cell
  intro it hit
  unfold itemsStep at hit
  split at hit
  · rcases List.mem_append.mp hit with z | z
    · exact h it z
    · rw [mem_rep1 z]
      exact ⟨C, by omega⟩
  · rcases List.mem_append.mp hit with z | z
    · exact h it z
    · obtain ⟨j, hj, e⟩ := List.mem_map.mp z
      rw [← e]
      have hj2 : j < (draws (cell / 1000) (repL [2] (itD (draws cell [4, 8, 256, 2, 40]) 4))).length := by
        have := List.mem_range.mp hj
        omega
      have hb : 0 ≤ itD (draws (cell / 1000) (repL [2] (itD (draws cell [4, 8, 256, 2, 40]) 4))) (j : Int) ∧ itD (draws (cell / 1000) (repL [2] (itD (draws cell [4, 8, 256, 2, 40]) 4))) (j : Int) < 2 := by
        have hj3 : j < (repL [(2 : Int)] (itD (draws cell [4, 8, 256, 2, 40]) 4)).length := by rw [draws_len] at hj2; exact hj2
        refine draw_at (fun l hl => (lims_rep (by decide) l hl).1) j ?_
        rw [List.getElem?_eq_getElem hj3]
        exact congrArg some (mem_rep1 (List.getElem_mem hj3))
      rw [Int.zero_add]
      refine ⟨?_, by show 0 ≤ itD (draws (cell / 1000) _) (j : Int) ∧ itD (draws (cell / 1000) _) (j : Int) ≤ 1; omega⟩
      show -1 ≤ (itemCtx cell + 1) * (if 0 < (j : Int) % 3 then 1 else 0) - 1 ∧ (itemCtx cell + 1) * (if 0 < (j : Int) % 3 then 1 else 0) - 1 ≤ 255
      split <;> omega
theorem fold_items_ok : ∀ (cells : List Int) (items : List (Int × Int)), ItemsOk items → ItemsOk (cells.foldl itemsStep items)
  | [], _, h => h
  | c :: r, items, h => by
    rw [List.foldl_cons]
    exact fold_items_ok r _ (step_ok h)
theorem mem_cutL {α : Type} {xs : List α} {lo hi : Option Int} {x : α} (h : x ∈ cutL xs lo hi) : x ∈ xs := by
  unfold cutL at h
  exact List.mem_of_mem_drop (List.mem_of_mem_take h)
theorem itemsL_ok (script : List Int) (most : Int) : ItemsOk (itemsL script most) := fun it h => fold_items_ok script [] (fun _ z => by cases z) it (mem_cutL h)
theorem cut_ok {items : List (Int × Int)} (h : ItemsOk items) (lo hi : Option Int) : ItemsOk (cutL items lo hi) := fun it z => h it (mem_cutL z)
theorem cut_most {α : Type} (xs : List α) (n : Nat) : (cutL xs none (some (n : Int))).length ≤ n := by
  unfold cutL
  rw [HT.sIx_nat, HT.sIx_none, List.length_take]
  omega
theorem itemsL_len (script : List Int) : (itemsL script 300).length ≤ 300 := cut_most _ 300

def encItem (e : EncS) (it : Int × Int) : EncS := if 0 ≤ it.1 then encCode e it.1 it.2 else encNarrow e 2048 it.2
def encItems (e : EncS) (items : List (Int × Int)) : EncS := items.foldl encItem e
theorem items_turn {e : EncS} {items : List (Int × Int)} {i : Nat} {it : Int × Int} {e' : EncS} (hi : items[i]? = some it) (h : encItem (encItems e (items.take i)) it = e') : e' = encItems e (items.take (i + 1)) := by
  unfold encItems at h ⊢
  rw [take_succ_get hi, List.foldl_append, ← h] <;> rfl
theorem len_code (e : EncS) (c d : Int) : (encCode e c d).front.length ≤ e.front.length + 1 := len_narrow e _ d
theorem item_ok {e : EncS} {it : Int × Int} (h : EncG e) (hi : (-1 ≤ it.1 ∧ it.1 ≤ 255) ∧ 0 ≤ it.2 ∧ it.2 ≤ 1) : EncG (encItem e it) := by
  unfold encItem
  split
  · exact code_ok h (by omega) (by omega)
  · exact even_ok h _
theorem item_len (e : EncS) (it : Int × Int) : (encItem e it).front.length ≤ e.front.length + 1 := by
  unfold encItem
  split
  · exact len_code _ _ _
  · exact len_narrow _ _ _
theorem items_ok : ∀ {items : List (Int × Int)} {e : EncS}, EncG e → ItemsOk items → EncG (encItems e items)
  | [], _, h, _ => h
  | it :: r, e, h, hi => items_ok (items := r) (item_ok h (hi it List.mem_cons_self)) fun x hx => hi x (List.mem_cons_of_mem _ hx)
theorem items_len : ∀ (items : List (Int × Int)) (e : EncS), (encItems e items).front.length ≤ e.front.length + items.length
  | [], e => Nat.le_refl _
  | it :: r, e => by
    have h1 := item_len e it
    have h2 := items_len r (encItem e it)
    have h3 : encItems e (it :: r) = encItems (encItem e it) r := rfl
    rw [h3, List.length_cons]
    omega
theorem items_app (e : EncS) (xs ys : List (Int × Int)) : encItems e (xs ++ ys) = encItems (encItems e xs) ys := by
  unfold encItems
  rw [List.foldl_append]

structure CodeN (e : EncS) (low span count : Int) : Prop where
  low : low = num e.front * 4294967296 + e.low
  span : span = e.span
  count : count = (e.front.length : Int)
structure CodeR (e : EncS) (chances : List Int) (low span count : Int) : Prop where
  toN : CodeN e low span count
  chances : chances = e.probs ++ [2048]
theorem codeR_init : CodeR encInit (repL [2048] 257) 0 (4294967296 - 1) 0 := ⟨⟨rfl, rfl, rfl⟩, by decide⟩
theorem itD_app {e : List Int} {a c : Int} (h0 : 0 ≤ c) (h1 : c < e.length) : itD (e ++ [a]) c = itD e c := by
  obtain ⟨k, rfl⟩ := Int.eq_ofNat_of_zero_le h0
  have hk : k < e.length := by omega
  rw [itD_nat (List.getElem?_eq_getElem hk), itD_nat (x := e[k]) (by rw [List.getElem?_append_left hk, List.getElem?_eq_getElem hk])]
theorem itD_end {e : List Int} {a : Int} : itD (e ++ [a]) (-1) = a := by
  rw [itD_last (by simp), List.getLast_append] <;> simp
theorem setL_app {e : List Int} {a c y : Int} (h0 : 0 ≤ c) (h1 : c < e.length) : setL (e ++ [a]) c y = setL e c y ++ [a] := by
  obtain ⟨k, rfl⟩ := Int.eq_ofNat_of_zero_le h0
  have hk : k < e.length := by omega
  unfold setL
  rw [ixN_nat' hk, ixN_nat' (by rw [List.length_append]; omega)]
  exact List.set_append_left _ _ hk
theorem codeR_chance {e : EncS} {chances : List Int} {low span count c : Int} (hg : EncG e) (hr : CodeR e chances low span count) (hc : -1 ≤ c ∧ c ≤ 255) :
    (-(chances.length : Int) ≤ c ∧ c < chances.length) ∧ 31 ≤ itD chances c ∧ itD chances c ≤ 4065 := by
  have hl := hg.len
  refine ⟨by rw [hr.chances, List.length_append, hl]; simp; omega, ?_⟩
  rw [hr.chances]
  by_cases h : 0 ≤ c
  · rw [itD_app h (by omega)]
    exact hg.chance h (by omega)
  · rw [show c = -1 from by omega, itD_end]
    decide
theorem codeN_pre {e : EncS} {p d low span count low' span' : Int} (hg : EncG e) (hp : 31 ≤ p ∧ p ≤ 4065) (h : CodeN e low span count) (hl : low' = if d = 0 then low else low + span / 4096 * p)
    (hs : span' = if d = 0 then span / 4096 * p else span - span / 4096 * p) : CodeN (encPre e p d) low' span' count := by
  have h1 := h.low
  have h2 := h.span
  have h3 := h.count
  unfold encPre
  split
  · rw [if_pos ‹_›] at hl hs
    exact ⟨by rw [hl, h1], by rw [hs, h2], h3⟩
  · rw [if_neg ‹_›] at hl hs
    split
    · have hy := carry_pre hg hp ‹_›
      have hn := inc_num hy
      rw [h2] at hl hs
      exact ⟨by show low' = num (incE e.front) * 4294967296 + (e.low + e.span / 4096 * p - 4294967296); rw [hl, hn, h1, Int.add_mul]; omega, hs, by show count = ((incE e.front).length : Int); rw [inc_len]; exact h3⟩
    · rw [h2] at hl hs
      exact ⟨by show low' = num e.front * 4294967296 + (e.low + e.span / 4096 * p); rw [hl, h1]; omega, hs, h3⟩
theorem codeN_norm {e : EncS} {low span count : Int} (h : CodeN e low span count) : CodeN (encNorm1 e) (low * 256) (span * 256) (count + 1) := by
  have h1 := h.low
  have h2 := h.span
  have h3 := h.count
  refine ⟨?_, by rw [h2]; rfl, by show count + 1 = (((e.front ++ [e.low / 16777216]).length : Nat) : Int); rw [List.length_append]; simp; omega⟩
  show low * 256 = num (e.front ++ [e.low / 16777216]) * 4294967296 + e.low * 256 % 4294967296
  rw [num_snoc]
  omega
theorem codeN_turn {em : EncS} {low span count cn0 low' span' count' : Int} {i : Nat} (hm : EncMid em) (h : CodeN (if i = 0 then em else encNorm em) low span count) (h0 : cn0 ≤ count) (h1 : count ≤ cn0 + 1) (h2 : i = 0 → count = cn0)
    (hs : (span < 16777216 ∧ low' = low * 256 ∧ span' = span * 256 ∧ count' = count + 1) ∨ (¬ span < 16777216 ∧ low' = low ∧ span' = span ∧ count' = count)) :
    CodeN (if i + 1 = 0 then em else encNorm em) low' span' count' ∧ cn0 ≤ count' ∧ count' ≤ cn0 + 1 ∧ (i + 1 = 0 → count' = cn0) := by
  rw [if_neg (by omega)]
  have hb := (norm_ok hm).2
  by_cases hi : i = 0
  · rw [if_pos hi] at h
    have hc := h2 hi
    have hsp := h.span
    rcases hs with ⟨a, rfl, rfl, rfl⟩ | ⟨a, rfl, rfl, rfl⟩
    · have e1 : encNorm em = encNorm1 em := if_pos (by omega)
      rw [e1]
      exact ⟨codeN_norm h, by omega, by omega, by omega⟩
    · have e1 : encNorm em = em := if_neg (by omega)
      rw [e1]
      exact ⟨h, by omega, by omega, by omega⟩
  · rw [if_neg hi] at h
    have hsp := h.span
    rcases hs with ⟨a, rfl, rfl, rfl⟩ | ⟨a, rfl, rfl, rfl⟩
    · omega
    · exact ⟨h, by omega, by omega, by omega⟩
def codeChances (chances : List Int) (c d : Int) : List Int := if 0 ≤ c then setL chances c (adaptE (itD chances c) d) else chances
theorem codeR_turn {items : List (Int × Int)} {i : Nat} {item : Int × Int} {chances chances' : List Int} {low span count low' span' count' : Int} {em : EncS} (hi : items[i]? = some item) (hg : EncG (encItems encInit (items.take i)))
    (hr : CodeR (encItems encInit (items.take i)) chances low span count) (hit : (-1 ≤ item.1 ∧ item.1 ≤ 255) ∧ 0 ≤ item.2 ∧ item.2 ≤ 1)
    (hme : em = encPre (encItems encInit (items.take i)) (itD chances item.1) item.2) (hc : codeChances chances item.1 item.2 = chances') (hn : CodeN (encNorm em) low' span' count') :
    CodeR (encItems encInit (items.take (i + 1))) chances' low' span' count' := by
  have hl := hg.len
  rw [← items_turn hi rfl]
  generalize encItems encInit (items.take i) = e at *
  rw [hr.chances] at hc hme
  unfold encItem
  unfold codeChances at hc
  by_cases h : 0 ≤ item.1
  · rw [if_pos h] at hc ⊢
    rw [itD_app h (by omega)] at hc hme
    rw [setL_app h (by omega)] at hc
    rw [hme] at hn
    refine ⟨⟨hn.low, hn.span, hn.count⟩, ?_⟩
    rw [← hc]
    show _ = setL (encNarrow e (itD e.probs item.1) item.2).probs item.1 _ ++ [2048]
    rw [probs_narrow]
  · rw [if_neg h] at hc ⊢
    rw [show item.1 = -1 from by omega, itD_end] at hme
    rw [hme] at hn
    refine ⟨hn, ?_⟩
    rw [← hc, probs_narrow]
def digs (n : Int) (k : Nat) : List Int := (List.range k).map fun j => n / 2 ^ (8 * (k - 1 - j)) % 256
theorem digs_snoc (n x : Int) (k : Nat) (hx : 0 ≤ x ∧ x ≤ 255) : digs (n * 256 + x) (k + 1) = digs n k ++ [x] := by
  unfold digs
  rw [List.range_succ, List.map_append]
  congr 1
  · apply List.map_congr_left
    intro j hj
    have hj := List.mem_range.mp hj
    show (n * 256 + x) / 2 ^ (8 * (k + 1 - 1 - j)) % 256 = n / 2 ^ (8 * (k - 1 - j)) % 256
    rw [show 8 * (k + 1 - 1 - j) = 8 + 8 * (k - 1 - j) from by omega, Int.pow_add, ← Int.ediv_ediv_of_nonneg (by decide)]
    rw [show (n * 256 + x) / 2 ^ 8 = n from by omega]
  · show [(n * 256 + x) / 2 ^ (8 * (k + 1 - 1 - k)) % 256] = [x]
    rw [show 8 * (k + 1 - 1 - k) = 0 from by omega]
    congr 1
    simp
    omega
theorem digs_num : ∀ {xs : List Int}, (∀ x ∈ xs, 0 ≤ x ∧ x ≤ 255) → digs (num xs) xs.length = xs := by
  intro xs
  refine snocInd (motive := fun xs => (∀ x ∈ xs, 0 ≤ x ∧ x ≤ 255) → digs (num xs) xs.length = xs) (fun _ => rfl) (fun ys y ih h => ?_) xs
  rw [num_snoc, List.length_append]
  show digs _ (ys.length + 1) = _
  rw [digs_snoc _ _ _ (h y (by simp)), ih fun x hx => h x (by simp [hx])]
theorem digits4_eq {n : Int} : digits4 n = [n / 16777216 % 256, n / 65536 % 256, n / 256 % 256, n % 256] := by
  unfold digits4
  simp only [List.map_cons, List.map_nil, bitAnd_m8]
  simp
theorem digits4_len (n : Int) : (digits4 n).length = 4 := rfl
theorem code_digits {e : EncS} (h : EncMid e) : digs (num e.front * 4294967296 + e.low) (e.front.length + 4) = e.front ++ digits4 e.low := by
  have ho : ∀ x ∈ e.front ++ digits4 e.low, 0 ≤ x ∧ x ≤ 255 := by
    intro x hx
    rcases List.mem_append.mp hx with z | z
    · exact h.oct x z
    · rw [digits4_eq] at z
      simp only [List.mem_cons, List.not_mem_nil, or_false] at z
      omega
  have hl := h.low
  have hd := digs_num ho
  rw [List.length_append, digits4_len] at hd
  rw [← hd]
  congr 1
  rw [digits4_eq, show e.front ++ [e.low / 16777216 % 256, e.low / 65536 % 256, e.low / 256 % 256, e.low % 256] = e.front ++ [e.low / 16777216 % 256] ++ [e.low / 65536 % 256] ++ [e.low / 256 % 256] ++ [e.low % 256] from by simp]
  rw [num_snoc, num_snoc, num_snoc, num_snoc]
  omega
theorem ne_len {xs : List Int} (h : 0 < (xs.length : Int)) : xs ≠ [] := by
  intro z
  rw [z] at h
  simp at h
theorem nil_len {xs : List Int} (h : ¬ 0 < (xs.length : Int)) : xs = [] := by
  cases xs with
  | nil => rfl
  | cons a r => exact absurd (by rw [List.length_cons]; omega) h
theorem code_oct {e : EncS} {low span count : Int} (hm : EncMid e) (hn : CodeN e low span count) :
    (List.range (count + 4).toNat).map (fun (j : Nat) => PySem.Builtin.bitAnd (low / 2 ^ Int.toNat (8 * (count + 3 - (0 + (j : Int))))) 255) = e.front ++ digits4 e.low := by
  rw [← code_digits hm, hn.low, hn.count]
  unfold digs
  rw [show ((e.front.length : Int) + 4).toNat = e.front.length + 4 from by omega]
  apply List.map_congr_left
  intro j hj
  have hj := List.mem_range.mp hj
  rw [bitAnd_m8, show Int.toNat (8 * ((e.front.length : Int) + 3 - (0 + (j : Int)))) = 8 * (e.front.length + 4 - 1 - j) from by omega]
theorem strip_len (xs : List Int) : (stripZ xs).length ≤ xs.length := by
  unfold stripZ
  rw [List.length_reverse]
  have h := (List.dropWhile_sublist (fun x => decide (x = 0)) (l := xs.reverse)).length_le
  rw [List.length_reverse] at h
  exact h
theorem oct_turn {octets o E : List Int} {i : Nat} {count : Int} (hs : stripZ octets = E) (hl : octets = E ∨ (octets.length : Int) + i ≤ count + 4)
    (h : (octets ≠ [] ∧ itD octets (-1) = 0 ∧ o = octets.dropLast) ∨ ((¬ itD octets (-1) = 0 ∨ octets = []) ∧ o = octets)) : stripZ o = E ∧ (o = E ∨ (o.length : Int) + ((i + 1 : Nat) : Int) ≤ count + 4) := by
  rcases h with ⟨h1, h2, rfl⟩ | ⟨h1, rfl⟩
  · have e1 := strip_pop h1 h2
    have e2 := drop_less h1
    have e3 := strip_len octets.dropLast
    refine ⟨e1.trans hs, .inr ?_⟩
    rcases hl with z | z
    · rw [e1, hs, ← z] at e3
      omega
    · omega
  · have e1 := strip_done (xs := o) (by rcases h1 with z | z; exact .inr z; exact .inl z)
    exact ⟨hs, .inl (e1.symm.trans hs)⟩
theorem oct_end {octets E : List Int} {count : Int} (hs : stripZ octets = E) (hl : octets = E ∨ (octets.length : Int) + ((count + 4).toNat : Int) ≤ count + 4) (hc : 0 ≤ count) : octets = E := by
  rcases hl with z | z
  · exact z
  · have e : octets = [] := nil_len (by omega)
    rw [← hs, e]
    rfl
theorem chances_cut {e : EncS} {chances : List Int} {low span count : Int} (hg : EncG e) (hr : CodeR e chances low span count) : cutL chances none (some 256) = e.probs := by
  rw [hr.chances]
  have hl := hg.len
  unfold cutL
  rw [HT.sIx_none, show (256 : Int) = ((256 : Nat) : Int) from rfl, HT.sIx_nat, List.length_append, hl]
  show List.take 256 (List.drop 0 (e.probs ++ [2048])) = e.probs
  rw [List.drop_zero, List.take_append_of_le_length (by omega), List.take_of_length_le (by omega)]

structure DecS where
  probs : List Int
  octs : List Int
  place : Int
  span : Int
  value : Int
structure DecO (d : DecS) : Prop where
  place : 0 ≤ d.place
  oct : ∀ x ∈ d.octs, 0 ≤ x ∧ x ≤ 255
def decOct (d : DecS) : Int := if d.place < (d.octs.length : Int) then itD d.octs d.place else 0
def decShift (d : DecS) : DecS := ⟨d.probs, d.octs, if d.place < (d.octs.length : Int) then d.place + 1 else d.place, d.span, d.value * 256 + decOct d⟩
def decPre (d : DecS) (p : Int) : DecS :=
  if d.value < d.span / 4096 * p then ⟨d.probs, d.octs, d.place, d.span / 4096 * p, d.value⟩ else ⟨d.probs, d.octs, d.place, d.span - d.span / 4096 * p, d.value - d.span / 4096 * p⟩
def decBit (d : DecS) (p : Int) : Int := if d.value < d.span / 4096 * p then 0 else 1
def decNorm1 (d : DecS) : DecS := ⟨(decShift d).probs, (decShift d).octs, (decShift d).place, (decShift d).span * 256, (decShift d).value⟩
def decNorm (d : DecS) : DecS := if d.span < 16777216 then decNorm1 d else d
def decDecide (d : DecS) (p : Int) : DecS := decNorm (decPre d p)
def decRead (d : DecS) (c : Int) : DecS := ⟨setL (decDecide d (itD d.probs c)).probs c (adaptE (itD d.probs c) (decBit d (itD d.probs c))), (decDecide d (itD d.probs c)).octs, (decDecide d (itD d.probs c)).place, (decDecide d (itD d.probs c)).span, (decDecide d (itD d.probs c)).value⟩
def decBlank (o : List Int) : DecS := ⟨repL [2048] 256, o, 0, 4294967296 - 1, 0⟩
def decShifts : Nat → DecS → DecS
  | 0, d => d
  | n + 1, d => decShift (decShifts n d)
def decInit (o : List Int) : DecS := ⟨(decShifts 4 (decBlank o)).probs, (decShifts 4 (decBlank o)).octs, (decShifts 4 (decBlank o)).place, (decShifts 4 (decBlank o)).span, if 4294967296 - 2 < (decShifts 4 (decBlank o)).value then 4294967296 - 2 else (decShifts 4 (decBlank o)).value⟩
structure DecG (d : DecS) : Prop where
  o : DecO d
  len : d.probs.length = 256
  prob : ∀ p ∈ d.probs, 31 ≤ p ∧ p ≤ 4065
  span : 16777216 ≤ d.span ∧ d.span < 4294967296
  value : 0 ≤ d.value ∧ d.value < d.span
structure DecMid (d : DecS) : Prop where
  o : DecO d
  len : d.probs.length = 256
  prob : ∀ p ∈ d.probs, 31 ≤ p ∧ p ≤ 4065
  span : 65536 ≤ d.span ∧ d.span < 4294967296
  value : 0 ≤ d.value ∧ d.value < d.span
theorem DecG.chance {d : DecS} (h : DecG d) {c : Int} (h0 : 0 ≤ c) (h1 : c < 256) : 31 ≤ itD d.probs c ∧ itD d.probs c ≤ 4065 := h.prob _ (itD_mem (by rw [h.len]; omega))
theorem ite01 {p : Prop} [Decidable p] (h : (if p then (0 : Int) else 1) = 0) : p := by
  by_cases c : p
  · exact c
  · rw [if_neg c] at h
    exact absurd h (by decide)
theorem ite10 {p : Prop} [Decidable p] (h : ¬ (if p then (0 : Int) else 1) = 0) : ¬ p := by
  intro c
  rw [if_pos c] at h
  exact h rfl
theorem low_or {v o : Int} (h : 0 ≤ v) (h0 : 0 ≤ o) (h1 : o ≤ 255) : PySem.Builtin.bitOr (v * 256) o = v * 256 + o := by
  obtain ⟨a, rfl⟩ := Int.eq_ofNat_of_zero_le h
  obtain ⟨b, rfl⟩ := Int.eq_ofNat_of_zero_le h0
  have z : (a * 256) &&& b = 0 := by
    apply Nat.eq_of_testBit_eq
    intro i
    rw [Nat.testBit_and, Nat.zero_testBit, show a * 256 = a * 2 ^ 8 from rfl, Nat.testBit_mul_two_pow]
    by_cases hi : 8 ≤ i
    · have e : b.testBit i = false := Nat.testBit_lt_two_pow (Nat.lt_of_lt_of_le (by omega : b < 2 ^ 8) (Nat.pow_le_pow_right (by decide) hi))
      rw [e, Bool.and_false]
    · simp [hi]
  rw [PyProof.Rows.bitOr_and, PyProof.Rows.bitAnd_pp (by omega) (by omega)]
  rw [show ((a : Int) * 256).toNat = a * 256 from by omega, show ((b : Int)).toNat = b from rfl, z]
  exact Int.sub_zero _
theorem oct_in {d : DecS} (h : DecO d) : 0 ≤ decOct d ∧ decOct d ≤ 255 := by
  unfold decOct
  split
  · exact h.oct _ (itD_mem (by have := h.place; omega))
  · decide
theorem shift_in {d : DecS} (c : d.place < (d.octs.length : Int)) (h : DecO d) (hv : 0 ≤ d.value) : decShift d = ⟨d.probs, d.octs, d.place + 1, d.span, PySem.Builtin.bitOr (d.value * 256) (itD d.octs d.place)⟩ := by
  have ho := oct_in h
  unfold decShift decOct at *
  rw [if_pos c] at *
  rw [low_or hv ho.1 ho.2]
  simp [c]
theorem shift_out {d : DecS} (c : ¬ d.place < (d.octs.length : Int)) (hv : 0 ≤ d.value) : decShift d = ⟨d.probs, d.octs, d.place, d.span, PySem.Builtin.bitOr (d.value * 256) 0⟩ := by
  unfold decShift decOct
  rw [if_neg c, if_neg c]
  rw [low_or hv (by decide) (by decide)]
theorem decPre_ok {d : DecS} (h : DecG d) {p : Int} (hp : 31 ≤ p ∧ p ≤ 4065) : DecMid (decPre d p) := by
  have hi := part_in h.span hp
  have hv := h.value
  have hs := h.span
  unfold decPre
  split
  · exact ⟨⟨h.o.place, h.o.oct⟩, h.len, h.prob, ⟨hi.1, by show d.span / 4096 * p < 4294967296; omega⟩, ⟨hv.1, by show d.value < d.span / 4096 * p; omega⟩⟩
  · exact ⟨⟨h.o.place, h.o.oct⟩, h.len, h.prob, ⟨hi.2, by show d.span - d.span / 4096 * p < 4294967296; omega⟩, ⟨by show 0 ≤ d.value - d.span / 4096 * p; omega, by show d.value - d.span / 4096 * p < d.span - d.span / 4096 * p; omega⟩⟩
theorem shift_o {d : DecS} (h : DecO d) : DecO (decShift d) := by
  refine ⟨?_, h.oct⟩
  have := h.place
  show 0 ≤ (if d.place < (d.octs.length : Int) then d.place + 1 else d.place)
  split <;> omega
theorem decNorm_ok {d : DecS} (h : DecMid d) : DecG (decNorm d) := by
  have hv := h.value
  have hs := h.span
  have ho := oct_in h.o
  unfold decNorm
  split
  · exact ⟨⟨(shift_o h.o).place, (shift_o h.o).oct⟩, h.len, h.prob, ⟨by show 16777216 ≤ d.span * 256; omega, by show d.span * 256 < 4294967296; omega⟩, ⟨by show 0 ≤ d.value * 256 + decOct d; omega, by show d.value * 256 + decOct d < d.span * 256; omega⟩⟩
  · exact ⟨h.o, h.len, h.prob, ⟨by omega, hs.2⟩, hv⟩
theorem decide_ok {d : DecS} (h : DecG d) {p : Int} (hp : 31 ≤ p ∧ p ≤ 4065) : DecG (decDecide d p) := decNorm_ok (decPre_ok h hp)
theorem probs_decide (d : DecS) (p : Int) : (decDecide d p).probs = d.probs := by
  unfold decDecide decNorm decPre
  split <;> split <;> rfl
theorem bit_in (d : DecS) (p : Int) : 0 ≤ decBit d p ∧ decBit d p ≤ 1 := by
  unfold decBit
  split <;> decide
theorem read_ok {d : DecS} (h : DecG d) {c : Int} (h0 : 0 ≤ c) (h1 : c < 256) : DecG (decRead d c) := by
  have hp := h.chance h0 h1
  have hd := decide_ok h hp
  refine ⟨⟨hd.o.place, hd.o.oct⟩, ?_, fun p hm => ?_, hd.span, hd.value⟩
  · show (setL _ c _).length = 256
    rw [setL_len]
    exact hd.len
  · rcases setL_mem hm with z | z
    · exact hd.prob p z
    · rw [z]
      exact adaptE_in hp
theorem blank_ok {o : List Int} (h : ∀ x ∈ o, 0 ≤ x ∧ x ≤ 255) : DecO (decBlank o) := ⟨Int.le_refl 0, h⟩
theorem shifts_ok {d : DecS} (h : DecO d) (hv : d.value = 0) : ∀ n : Nat, DecO (decShifts n d) ∧ 0 ≤ (decShifts n d).value ∧ (decShifts n d).value < 256 ^ n
  | 0 => ⟨h, by show 0 ≤ d.value; omega, by show d.value < 1; omega⟩
  | n + 1 => by
    have ih := shifts_ok h hv n
    have ho := oct_in ih.1
    refine ⟨shift_o ih.1, ?_, ?_⟩
    · show 0 ≤ (decShifts n d).value * 256 + decOct (decShifts n d)
      omega
    · show (decShifts n d).value * 256 + decOct (decShifts n d) < 256 ^ (n + 1)
      rw [Int.pow_succ]
      omega
theorem shifts_probs (d : DecS) : ∀ n : Nat, (decShifts n d).probs = d.probs
  | 0 => rfl
  | n + 1 => shifts_probs d n
theorem shifts_span (d : DecS) : ∀ n : Nat, (decShifts n d).span = d.span
  | 0 => rfl
  | n + 1 => shifts_span d n
theorem shifts_octs (d : DecS) : ∀ n : Nat, (decShifts n d).octs = d.octs
  | 0 => rfl
  | n + 1 => shifts_octs d n
theorem pow_turn {i : Nat} (hi : i < 4) {v : Int} (h : v < 256 ^ i) : v < 4294967296 := by
  have : (256 : Int) ^ i ≤ 256 ^ 3 := by
    have := Nat.pow_le_pow_right (n := 256) (by decide) (show i ≤ 3 by omega)
    exact_mod_cast this
  omega
theorem decInit_ok {o : List Int} (h : ∀ x ∈ o, 0 ≤ x ∧ x ≤ 255) : DecG (decInit o) := by
  have hs := shifts_ok (blank_ok h) rfl 4
  refine ⟨⟨hs.1.place, hs.1.oct⟩, ?_, ?_, ?_, ?_⟩
  · show (decShifts 4 (decBlank o)).probs.length = 256
    rw [shifts_probs]
    exact init_ok.len
  · show ∀ p ∈ (decShifts 4 (decBlank o)).probs, _
    rw [shifts_probs]
    exact init_ok.prob
  · show 16777216 ≤ (decShifts 4 (decBlank o)).span ∧ (decShifts 4 (decBlank o)).span < 4294967296
    rw [shifts_span]
    show (16777216 : Int) ≤ 4294967296 - 1 ∧ (4294967296 - 1 : Int) < 4294967296
    decide
  · show 0 ≤ (if 4294967296 - 2 < (decShifts 4 (decBlank o)).value then 4294967296 - 2 else (decShifts 4 (decBlank o)).value) ∧ (if 4294967296 - 2 < (decShifts 4 (decBlank o)).value then 4294967296 - 2 else (decShifts 4 (decBlank o)).value) < (decShifts 4 (decBlank o)).span
    rw [shifts_span]
    show _ ∧ _ < (4294967296 - 1 : Int)
    have := hs.2
    split <;> omega

def decItem (d : DecS) (it : Int × Int) : DecS := if 0 ≤ it.1 then decRead d it.1 else decDecide d 2048
def decItemBit (d : DecS) (it : Int × Int) : Int := if 0 ≤ it.1 then decBit d (itD d.probs it.1) else decBit d 2048
def accO (o : List Int) : Nat → Int
  | 0 => 0
  | k + 1 => accO o k * 256 + (o[k]?).getD 0
def bigL (e : EncS) : Int := num e.front * 4294967296 + e.low
def vAt (E e : EncS) : Int := bigL E / 256 ^ (E.front.length - e.front.length)
structure Within (E e : EncS) : Prop where
  n : e.front.length ≤ E.front.length
  lo : bigL e ≤ vAt E e
  hi : vAt E e < bigL e + e.span
theorem codeN_self (e : EncS) : CodeN e (bigL e) e.span (e.front.length : Int) := ⟨rfl, rfl, rfl⟩
theorem within_self {E : EncS} (h : 0 < E.span) : Within E E := by
  have e : vAt E E = bigL E := by
    unfold vAt
    rw [Nat.sub_self]
    exact Int.ediv_one _
  exact ⟨Nat.le_refl _, by rw [e]; exact Int.le_refl _, by rw [e]; omega⟩
theorem within_norm1 {E e : EncS} (h : Within E (encNorm1 e)) : Within E e := by
  have c := codeN_norm (codeN_self e)
  have hn : (encNorm1 e).front.length = e.front.length + 1 := by
    have := c.count
    omega
  have h1 := h.n
  have h2 := h.lo
  have h3 := h.hi
  rw [show bigL (encNorm1 e) = bigL e * 256 from c.low.symm] at h2 h3
  rw [show (encNorm1 e).span = e.span * 256 from rfl] at h3
  have hv : vAt E e = vAt E (encNorm1 e) / 256 := by
    unfold vAt
    rw [hn, show E.front.length - e.front.length = (E.front.length - (e.front.length + 1)) + 1 from by omega, Int.pow_succ, Int.ediv_ediv_of_nonneg]
    have : (0 : Nat) < 256 ^ (E.front.length - (e.front.length + 1)) := Nat.pow_pos (by decide)
    exact_mod_cast Nat.le_of_lt this
  exact ⟨by omega, by rw [hv]; omega, by rw [hv]; omega⟩
theorem within_norm {E e : EncS} (h : Within E (encNorm e)) : Within E e := by
  unfold encNorm at h
  split at h
  · exact within_norm1 h
  · exact h
theorem within_pre {E e : EncS} {p d : Int} (hg : EncG e) (hp : 31 ≤ p ∧ p ≤ 4065) (h : Within E (encPre e p d)) : Within E e ∧ (d = 0 → vAt E e < bigL e + e.span / 4096 * p) ∧ (d ≠ 0 → bigL e + e.span / 4096 * p ≤ vAt E e) := by
  have hsp := hg.mid.span
  have hb := hg.big
  have hi := part_in ⟨hb, hsp.2⟩ hp
  have c := codeN_pre (d := d) hg hp (codeN_self e) rfl rfl
  have hn : (encPre e p d).front.length = e.front.length := len_pre e p d
  have h1 := h.n
  have h2 := h.lo
  have h3 := h.hi
  have hv : vAt E (encPre e p d) = vAt E e := by
    unfold vAt
    rw [hn]
  rw [hv, show bigL (encPre e p d) = _ from c.low.symm] at h2 h3
  rw [← c.span] at h3
  rw [hn] at h1
  by_cases hd : d = 0
  · rw [if_pos hd] at h2 h3
    rw [if_pos hd] at h3
    exact ⟨⟨h1, h2, by omega⟩, fun _ => h3, fun z => absurd hd z⟩
  · rw [if_neg hd] at h2 h3
    rw [if_neg hd] at h3
    exact ⟨⟨h1, by omega, by omega⟩, fun z => absurd z hd, fun _ => h2⟩
theorem within_congr {E e e' : EncS} (hf : e'.front = e.front) (hl : e'.low = e.low) (hs : e'.span = e.span) (h : Within E e') : Within E e := by
  have h1 := h.n
  have h2 := h.lo
  have h3 := h.hi
  unfold bigL vAt at *
  rw [hf] at h1
  rw [hf, hl] at h2
  rw [hf, hl, hs] at h3
  exact ⟨h1, h2, h3⟩
def chanceOf (e : EncS) (it : Int × Int) : Int := if 0 ≤ it.1 then itD e.probs it.1 else 2048
theorem chance_in {e : EncS} {it : Int × Int} (h : EncG e) (hc : it.1 ≤ 255) : 31 ≤ chanceOf e it ∧ chanceOf e it ≤ 4065 := by
  unfold chanceOf
  split
  · exact h.chance ‹_› (by omega)
  · decide
theorem within_item0 {E e : EncS} {it : Int × Int} (h : Within E (encItem e it)) : Within E (encNorm (encPre e (chanceOf e it) it.2)) := by
  unfold encItem at h
  unfold chanceOf
  split at h
  · rw [if_pos ‹_›]
    exact within_congr (e' := encCode e it.1 it.2) rfl rfl rfl h
  · rw [if_neg ‹_›]
    exact h
theorem within_item {E e : EncS} {it : Int × Int} (hg : EncG e) (hc : it.1 ≤ 255) (h : Within E (encItem e it)) :
    Within E e ∧ (it.2 = 0 → vAt E e < bigL e + e.span / 4096 * chanceOf e it) ∧ (it.2 ≠ 0 → bigL e + e.span / 4096 * chanceOf e it ≤ vAt E e) :=
  within_pre hg (chance_in hg hc) (within_norm (within_item0 h))
theorem within_items : ∀ {items : List (Int × Int)} {E e : EncS}, EncG e → ItemsOk items → Within E (encItems e items) → Within E e
  | [], _, _, _, _, h => h
  | it :: r, E, e, hg, hi, h => by
    have h0 := hi it List.mem_cons_self
    exact (within_item hg h0.1.2 (within_items (items := r) (item_ok hg h0) (fun x hx => hi x (List.mem_cons_of_mem _ hx)) h)).1
theorem acc_div {o : List Int} (h : ∀ x ∈ o, 0 ≤ x ∧ x ≤ 255) (k : Nat) : ∀ m : Nat, accO o (k + m) / 256 ^ m = accO o k
  | 0 => Int.ediv_one _
  | m + 1 => by
    have ho : 0 ≤ (o[k + m]?).getD 0 ∧ (o[k + m]?).getD 0 ≤ 255 := by
      cases hx : o[k + m]? with
      | none => decide
      | some x => exact h x (List.mem_of_getElem? hx)
    rw [Int.pow_succ, Int.mul_comm, ← Int.ediv_ediv_of_nonneg (by decide)]
    rw [show accO o (k + (m + 1)) = accO o (k + m) * 256 + (o[k + m]?).getD 0 from rfl, show (accO o (k + m) * 256 + (o[k + m]?).getD 0) / 256 = accO o (k + m) from by omega]
    exact acc_div h k m
theorem acc_app (ys zs : List Int) : ∀ k : Nat, k ≤ ys.length → accO (ys ++ zs) k = accO ys k
  | 0, _ => rfl
  | k + 1, h => by
    show accO (ys ++ zs) k * 256 + ((ys ++ zs)[k]?).getD 0 = accO ys k * 256 + (ys[k]?).getD 0
    rw [acc_app ys zs k (by omega), List.getElem?_append_left (by omega)]
theorem acc_num (xs : List Int) : accO xs xs.length = num xs := by
  refine snocInd (motive := fun xs => accO xs xs.length = num xs) rfl (fun ys y ih => ?_) xs
  rw [List.length_append, num_snoc]
  show accO (ys ++ [y]) ys.length * 256 + ((ys ++ [y])[ys.length]?).getD 0 = _
  rw [acc_app ys [y] _ (Nat.le_refl _), ih, List.getElem?_append_right (Nat.le_refl _), Nat.sub_self]
  rfl
theorem acc_congr {xs ys : List Int} (h : ∀ j : Nat, (xs[j]?).getD 0 = (ys[j]?).getD 0) : ∀ k : Nat, accO xs k = accO ys k
  | 0 => rfl
  | k + 1 => by
    show accO xs k * 256 + _ = accO ys k * 256 + _
    rw [acc_congr h k, h k]
theorem get_zeros (ys : List Int) (m j : Nat) : ((ys ++ List.replicate m 0)[j]?).getD 0 = (ys[j]?).getD 0 := by
  by_cases h : j < ys.length
  · rw [List.getElem?_append_left h]
  · rw [List.getElem?_append_right (by omega), List.getElem?_eq_none (l := ys) (by omega)]
    by_cases hm : j - ys.length < m
    · rw [List.getElem?_eq_getElem (by rw [List.length_replicate]; exact hm), List.getElem_replicate]
      rfl
    · rw [List.getElem?_eq_none (by rw [List.length_replicate]; omega)]
theorem dw_split : ∀ ys : List Int, ∃ m : Nat, ys = List.replicate m 0 ++ ys.dropWhile (fun x => decide (x = 0))
  | [] => ⟨0, rfl⟩
  | y :: r => by
    rw [List.dropWhile_cons]
    split
    · obtain ⟨m, e⟩ := dw_split r
      refine ⟨m + 1, ?_⟩
      have hy : decide (y = 0) = true := ‹_›
      rw [List.replicate_succ, List.cons_append, ← e, of_decide_eq_true hy]
    · exact ⟨0, rfl⟩
theorem strip_split (xs : List Int) : ∃ m : Nat, xs = stripZ xs ++ List.replicate m 0 := by
  obtain ⟨m, e⟩ := dw_split xs.reverse
  refine ⟨m, ?_⟩
  have e2 := congrArg List.reverse e
  rw [List.reverse_reverse, List.reverse_append, List.reverse_replicate] at e2
  exact e2
theorem acc_code {E : EncS} (hm : EncMid E) (m : Nat) : accO (encOctets E ++ List.replicate m 0) (E.front.length + 4) = bigL E := by
  obtain ⟨q, e⟩ := strip_split (E.front ++ digits4 E.low)
  have a1 : accO (encOctets E ++ List.replicate m 0) (E.front.length + 4) = accO (E.front ++ digits4 E.low) (E.front.length + 4) := by
    apply acc_congr
    intro j
    rw [get_zeros, e, get_zeros]
    rfl
  have a2 := acc_num (E.front ++ digits4 E.low)
  rw [List.length_append, digits4_len] at a2
  have hl := hm.low
  rw [a1, a2, digits4_eq, show E.front ++ [E.low / 16777216 % 256, E.low / 65536 % 256, E.low / 256 % 256, E.low % 256] = E.front ++ [E.low / 16777216 % 256] ++ [E.low / 65536 % 256] ++ [E.low / 256 % 256] ++ [E.low % 256] from by simp]
  rw [num_snoc, num_snoc, num_snoc, num_snoc]
  unfold bigL
  omega
theorem strip_mem {xs : List Int} {x : Int} (h : x ∈ stripZ xs) : x ∈ xs := by
  obtain ⟨m, e⟩ := strip_split xs
  rw [e]
  exact List.mem_append_left _ h
theorem code_oct_in {E : EncS} (h : EncMid E) : ∀ x ∈ encOctets E, 0 ≤ x ∧ x ≤ 255 := by
  intro x hx
  rcases List.mem_append.mp (strip_mem hx) with z | z
  · exact h.oct x z
  · rw [digits4_eq] at z
    have hl := h.low
    simp only [List.mem_cons, List.not_mem_nil, or_false] at z
    omega
structure Rel (o : List Int) (e : EncS) (d : DecS) : Prop where
  g : DecG d
  octs : d.octs = o
  probs : d.probs = e.probs
  span : d.span = e.span
  place : d.place = if (o.length : Int) < (e.front.length : Int) + 4 then (o.length : Int) else (e.front.length : Int) + 4
  value : d.value = accO o (e.front.length + 4) - bigL e
theorem dec_oct {o : List Int} {d : DecS} {n : Nat} (ho : d.octs = o) (hp : d.place = if (o.length : Int) < (n : Int) then (o.length : Int) else (n : Int)) : decOct d = (o[n]?).getD 0 := by
  unfold decOct
  rw [ho, hp]
  by_cases h : n < o.length
  · rw [if_neg (show ¬ (o.length : Int) < (n : Int) from by omega), if_pos (by omega), itD_nat (List.getElem?_eq_getElem h), List.getElem?_eq_getElem h]
    rfl
  · rw [if_neg (by split <;> omega), List.getElem?_eq_none (by omega)]
    rfl
theorem place_turn {n : Nat} {l pl : Int} (h : pl = if l < (n : Int) then l else (n : Int)) (h0 : 0 ≤ l) : (if pl < l then pl + 1 else pl) = if l < ((n + 1 : Nat) : Int) then l else ((n + 1 : Nat) : Int) := by
  rw [h]
  split <;> split <;> split <;> omega
theorem shifts_val (o : List Int) : ∀ n : Nat, (decShifts n (decBlank o)).value = accO o n ∧ (decShifts n (decBlank o)).place = if (o.length : Int) < (n : Int) then (o.length : Int) else (n : Int)
  | 0 => ⟨rfl, by rw [if_neg (by omega)]; rfl⟩
  | n + 1 => by
    have ih := shifts_val o n
    have ho := shifts_octs (decBlank o) n
    have hd := dec_oct (o := o) ho ih.2
    refine ⟨?_, ?_⟩
    · show (decShifts n (decBlank o)).value * 256 + decOct (decShifts n (decBlank o)) = accO o n * 256 + _
      rw [ih.1, hd]
    · show (if (decShifts n (decBlank o)).place < ((decShifts n (decBlank o)).octs.length : Int) then (decShifts n (decBlank o)).place + 1 else (decShifts n (decBlank o)).place) = _
      rw [ho]
      exact place_turn ih.2 (by show (0 : Int) ≤ (o.length : Int); omega)
theorem acc_at {E e : EncS} {o : List Int} (ho : ∀ x ∈ o, 0 ≤ x ∧ x ≤ 255) (hc : accO o (E.front.length + 4) = bigL E) (h : e.front.length ≤ E.front.length) : accO o (e.front.length + 4) = vAt E e := by
  have a := acc_div ho (e.front.length + 4) (E.front.length - e.front.length)
  rw [show e.front.length + 4 + (E.front.length - e.front.length) = E.front.length + 4 from by omega, hc] at a
  exact a.symm
theorem rel_init {E : EncS} {o : List Int} (ho : ∀ x ∈ o, 0 ≤ x ∧ x ≤ 255) (hc : accO o (E.front.length + 4) = bigL E) (h : Within E encInit) : Rel o encInit (decInit o) := by
  have s := shifts_val o 4
  have a := acc_at ho hc h.n
  have hv : accO o 4 = vAt E encInit := a
  have hi : vAt E encInit < 0 + (4294967296 - 1) := h.hi
  refine ⟨decInit_ok ho, shifts_octs _ 4, shifts_probs _ 4, shifts_span _ 4, s.2, ?_⟩
  show (if 4294967296 - 2 < (decShifts 4 (decBlank o)).value then 4294967296 - 2 else (decShifts 4 (decBlank o)).value) = accO o 4 - 0
  rw [s.1, if_neg (by omega)]
  omega
theorem rel_norm {o : List Int} {e : EncS} {d : DecS} (hg : DecG (decNorm d)) (octs : d.octs = o) (probs : d.probs = e.probs) (span : d.span = e.span)
    (place : d.place = if (o.length : Int) < (e.front.length : Int) + 4 then (o.length : Int) else (e.front.length : Int) + 4) (value : d.value = accO o (e.front.length + 4) - bigL e) : Rel o (encNorm e) (decNorm d) := by
  unfold decNorm at hg ⊢
  unfold encNorm
  rw [span] at hg ⊢
  by_cases h : e.span < 16777216
  · rw [if_pos h] at hg
    rw [if_pos h, if_pos h]
    have c := codeN_norm (codeN_self e)
    have hn : (encNorm1 e).front.length = e.front.length + 1 := by
      have := c.count
      omega
    have hb : bigL (encNorm1 e) = bigL e * 256 := c.low.symm
    have hd := dec_oct (n := e.front.length + 4) octs (by rw [place] <;> rfl)
    refine ⟨hg, octs, probs, ?_, ?_, ?_⟩
    · show d.span * 256 = e.span * 256
      rw [span]
    · show (if d.place < (d.octs.length : Int) then d.place + 1 else d.place) = _
      rw [hn, octs]
      exact place_turn (n := e.front.length + 4) place (by omega)
    · show d.value * 256 + decOct d = accO o ((encNorm1 e).front.length + 4) - bigL (encNorm1 e)
      rw [hn, hb, hd, value, show e.front.length + 1 + 4 = e.front.length + 4 + 1 from by omega]
      show _ = accO o (e.front.length + 4) * 256 + _ - _
      omega
  · rw [if_neg h] at hg
    rw [if_neg h, if_neg h]
    exact ⟨hg, octs, probs, span, place, value⟩
theorem rel_step {E e : EncS} {o : List Int} {d : DecS} {p b : Int} (ho : ∀ x ∈ o, 0 ≤ x ∧ x ≤ 255) (hc : accO o (E.front.length + 4) = bigL E) (hr : Rel o e d) (hg : EncG e) (hp : 31 ≤ p ∧ p ≤ 4065) (hb : 0 ≤ b ∧ b ≤ 1) (hw : Within E e)
    (h0 : b = 0 → vAt E e < bigL e + e.span / 4096 * p) (h1 : b ≠ 0 → bigL e + e.span / 4096 * p ≤ vAt E e) : decBit d p = b ∧ Rel o (encNarrow e p b) (decDecide d p) := by
  have hv := hr.value
  rw [acc_at ho hc hw.n] at hv
  have hs := hr.span
  have c := codeN_pre (d := b) hg hp (codeN_self e) rfl rfl
  have hn : (encPre e p b).front.length = e.front.length := len_pre e p b
  have hl : bigL (encPre e p b) = _ := c.low.symm
  have hsp := c.span.symm
  have hgd := decNorm_ok (decPre_ok hr.g hp)
  by_cases hb0 : b = 0
  · have hlt : d.value < d.span / 4096 * p := by
      rw [hs, hv]
      have := h0 hb0
      omega
    rw [if_pos hb0] at hl hsp
    refine ⟨by unfold decBit; rw [if_pos hlt, hb0], ?_⟩
    unfold encNarrow decDecide
    have e1 : decPre d p = ⟨d.probs, d.octs, d.place, d.span / 4096 * p, d.value⟩ := by
      unfold decPre
      rw [if_pos hlt]
    rw [e1] at hgd ⊢
    refine rel_norm hgd hr.octs ?_ ?_ ?_ ?_
    · show d.probs = _
      rw [probs_pre]
      exact hr.probs
    · show d.span / 4096 * p = _
      rw [hsp, hs]
    · show d.place = _
      rw [hn]
      exact hr.place
    · show d.value = _
      rw [hn, hl]
      exact hr.value
  · have hlt : ¬ d.value < d.span / 4096 * p := by
      rw [hs, hv]
      have := h1 hb0
      omega
    rw [if_neg hb0] at hl hsp
    refine ⟨by unfold decBit; rw [if_neg hlt]; omega, ?_⟩
    unfold encNarrow decDecide
    have e1 : decPre d p = ⟨d.probs, d.octs, d.place, d.span - d.span / 4096 * p, d.value - d.span / 4096 * p⟩ := by
      unfold decPre
      rw [if_neg hlt]
    rw [e1] at hgd ⊢
    refine rel_norm hgd hr.octs ?_ ?_ ?_ ?_
    · show d.probs = _
      rw [probs_pre]
      exact hr.probs
    · show d.span - d.span / 4096 * p = _
      rw [hsp, hs]
    · show d.place = _
      rw [hn]
      exact hr.place
    · show d.value - d.span / 4096 * p = _
      rw [hn, hl, hr.value, hs]
      omega
theorem rel_item {E e : EncS} {o : List Int} {d : DecS} {it : Int × Int} (ho : ∀ x ∈ o, 0 ≤ x ∧ x ≤ 255) (hc : accO o (E.front.length + 4) = bigL E) (hr : Rel o e d) (hg : EncG e) (hi : (-1 ≤ it.1 ∧ it.1 ≤ 255) ∧ 0 ≤ it.2 ∧ it.2 ≤ 1)
    (h : Within E (encItem e it)) : decItemBit d it = it.2 ∧ Rel o (encItem e it) (decItem d it) := by
  have w := within_item hg hi.1.2 h
  have r := rel_step ho hc hr hg (chance_in hg hi.1.2) hi.2 w.1 w.2.1 w.2.2
  unfold decItemBit decItem encItem
  unfold chanceOf at r
  by_cases z : 0 ≤ it.1
  · rw [if_pos z] at r
    rw [if_pos z, if_pos z, if_pos z, hr.probs]
    refine ⟨r.1, ?_⟩
    have q := r.2
    have hg2 := read_ok hr.g z (by omega : it.1 < 256)
    have hp := hr.probs
    refine ⟨hg2, ?_, ?_, ?_, ?_, ?_⟩
    · show (decDecide d (itD d.probs it.1)).octs = o
      rw [hp]
      exact q.octs
    · show setL (decDecide d (itD d.probs it.1)).probs it.1 (adaptE (itD d.probs it.1) (decBit d (itD d.probs it.1))) = setL (encNarrow e (itD e.probs it.1) it.2).probs it.1 (adaptE (itD e.probs it.1) it.2)
      rw [hp, r.1, q.probs]
    · show (decDecide d (itD d.probs it.1)).span = (encNarrow e (itD e.probs it.1) it.2).span
      rw [hp]
      exact q.span
    · show (decDecide d (itD d.probs it.1)).place = if (o.length : Int) < ((encNarrow e (itD e.probs it.1) it.2).front.length : Int) + 4 then (o.length : Int) else ((encNarrow e (itD e.probs it.1) it.2).front.length : Int) + 4
      rw [hp]
      exact q.place
    · show (decDecide d (itD d.probs it.1)).value = accO o ((encNarrow e (itD e.probs it.1) it.2).front.length + 4) - bigL (encNarrow e (itD e.probs it.1) it.2)
      rw [hp]
      exact q.value
  · rw [if_neg z] at r
    rw [if_neg z, if_neg z, if_neg z]
    exact r
theorem items_split (e : EncS) (items : List (Int × Int)) (i : Nat) : encItems e items = encItems (encItems e (items.take i)) (items.drop i) := by
  rw [← items_app, List.take_append_drop]
theorem rel_turn {o : List Int} {items : List (Int × Int)} {i : Nat} {it : Int × Int} {d : DecS} (hi : items[i]? = some it) (hok : ItemsOk items) (ho : ∀ x ∈ o, 0 ≤ x ∧ x ≤ 255)
    (hc : accO o ((encItems encInit items).front.length + 4) = bigL (encItems encInit items)) (hr : Rel o (encItems encInit (items.take i)) d) :
    decItemBit d it = it.2 ∧ Rel o (encItems encInit (items.take (i + 1))) (decItem d it) := by
  have hg : EncG (encItems encInit (items.take i)) := items_ok init_ok (fun x hx => hok x (List.mem_of_mem_take hx))
  have hE : EncG (encItems encInit items) := items_ok init_ok hok
  have hit := hok _ (List.mem_of_getElem? hi)
  have e1 := items_turn (e := encInit) hi rfl
  have hw : Within (encItems encInit items) (encItem (encItems encInit (items.take i)) it) := by
    have hw := within_self hE.mid.span0
    have hs := items_split encInit items (i + 1)
    rw [← e1] at hs
    exact within_items (item_ok hg hit) (fun x hx => hok x (List.mem_of_mem_drop hx)) (by rw [← hs]; exact hw)
  rw [← e1]
  exact rel_item ho hc hr hg hit hw
theorem rel_start {o : List Int} {items : List (Int × Int)} (hok : ItemsOk items) (ho : ∀ x ∈ o, 0 ≤ x ∧ x ≤ 255) (hc : accO o ((encItems encInit items).front.length + 4) = bigL (encItems encInit items)) : Rel o encInit (decInit o) :=
  rel_init ho hc (within_items init_ok hok (within_self (items_ok init_ok hok).mid.span0))

theorem items_rep {items : List (Int × Int)} (h : ItemsOk items) (k : Int) : ItemsOk (repL items k) := by
  intro it hit
  unfold repL at hit
  obtain ⟨l, hl, hx⟩ := List.mem_flatten.mp hit
  rw [List.eq_of_mem_replicate hl] at hx
  exact h it hx
theorem items_rep_len {items : List (Int × Int)} (h : items.length ≤ 300) : (repL items 10).length ≤ 3000 := by
  rw [repL_len, show Int.toNat 10 = 10 from rfl]
  omega
theorem rep_zero (k : Int) : repL [(0 : Int)] k = List.replicate k.toNat 0 := by
  unfold repL
  induction k.toNat with
  | zero => rfl
  | succ n ih =>
    rw [List.replicate_succ, List.flatten_cons, ih]
    rfl
theorem zeros_in {xs : List Int} (h : ∀ x ∈ xs, 0 ≤ x ∧ x ≤ 255) (k : Int) : ∀ x ∈ xs ++ repL [0] k, 0 ≤ x ∧ x ≤ 255 := by
  intro x hx
  rcases List.mem_append.mp hx with z | z
  · exact h x z
  · rw [mem_rep1 z]
    decide
theorem acc_code0 {E : EncS} (hm : EncMid E) : accO (encOctets E) (E.front.length + 4) = bigL E := by
  have h := acc_code hm 0
  rw [List.replicate_zero, List.append_nil] at h
  exact h
theorem chances_turn {items : List (Int × Int)} {i : Nat} {it : Int × Int} {chances chances' : List Int} (hi : items[i]? = some it) (h : chances = (encItems encInit (items.take i)).probs) (hc : codeChances chances it.1 it.2 = chances') :
    chances' = (encItems encInit (items.take (i + 1))).probs := by
  rw [← items_turn hi rfl, ← hc, h]
  unfold codeChances encItem
  split
  · show _ = setL (encNarrow _ _ _).probs _ _
    rw [probs_narrow]
  · rw [probs_narrow]
theorem octs_len (e : EncS) : (encOctets e).length ≤ e.front.length + 4 := by
  have h := strip_len (e.front ++ digits4 e.low)
  rw [List.length_append, digits4_len] at h
  exact h

end Vx
namespace Vx
open PySem PySem.Spec PyProof.Rows L2
def topS (i : Nat) : Stmt := PySem.Challenge.pw_thaumatrope_k13_whole_decisions_read_bac.main.body.getD i (.Pass ⟨0, 0, 0, 0⟩)
abbrev s__check_context : Stmt := topS 13
abbrev s__check_decision : Stmt := topS 14
abbrev s__adapted : Stmt := topS 15
abbrev s_Encoder___init__ : Stmt := inClass (topS 11) 0
abbrev s_Encoder__carry : Stmt := inClass (topS 11) 6
abbrev s_Encoder__narrow : Stmt := inClass (topS 11) 5
abbrev s_Encoder_code : Stmt := inClass (topS 11) 1
abbrev s_Encoder_code_even : Stmt := inClass (topS 11) 2
abbrev s_Encoder_octets : Stmt := inClass (topS 11) 3
abbrev s_Encoder_probability : Stmt := inClass (topS 11) 4
abbrev s_Decoder__shift : Stmt := inClass (topS 12) 5
abbrev s_Decoder__decide : Stmt := inClass (topS 12) 4
abbrev s_Decoder___init__ : Stmt := inClass (topS 12) 0
abbrev s_Decoder_read : Stmt := inClass (topS 12) 1
abbrev s_Decoder_read_even : Stmt := inClass (topS 12) 2
abbrev s_Decoder_probability : Stmt := inClass (topS 12) 3
abbrev s__law_cell : Stmt := topS 17
abbrev s__law_draws : Stmt := topS 18
abbrev s__law_items : Stmt := topS 19
abbrev s__law_moved : Stmt := topS 20
abbrev s__law_code_items : Stmt := topS 21
abbrev s__law_read : Stmt := topS 22
abbrev s_law : Stmt := topS 23
structure Ads where
  c_Encoder : Addr
  c_Decoder : Addr
structure Txt (K : PySem.W.Frag) (mg : Str → Option Value) (AD : Ads) : Prop where
  g_CONTEXTS : ∃ u, mg "CONTEXTS" = some u ∧ RelV (V.int 256) u
  g_SCALE : ∃ u, mg "SCALE" = some u ∧ RelV (V.int 4096) u
  g_RATE : ∃ u, mg "RATE" = some u ∧ RelV (V.int 5) u
  g_EVEN : ∃ u, mg "EVEN" = some u ∧ RelV (V.int 2048) u
  g_WORD : ∃ u, mg "WORD" = some u ∧ RelV (V.int 4294967296) u
  b_len : mg "len" = none
  g_SCALE_BITS : ∃ u, mg "SCALE_BITS" = some u ∧ RelV (V.int 12) u
  g_LEAST_SPAN : ∃ u, mg "LEAST_SPAN" = some u ∧ RelV (V.int 16777216) u
  b_list : mg "list" = none
  b_range : mg "range" = none
  b_min : mg "min" = none
  b_int : mg "int" = none
  b_abs : mg "abs" = none
  b_isinstance : mg "isinstance" = none
  b_bool : mg "bool" = none
  cl_Encoder : Cls K AD.c_Encoder
  n_Encoder__probabilities : NoAttr K AD.c_Encoder "_probabilities"
  n_Encoder__front : NoAttr K AD.c_Encoder "_front"
  n_Encoder__low : NoAttr K AD.c_Encoder "_low"
  n_Encoder__span : NoAttr K AD.c_Encoder "_span"
  cl_Decoder : Cls K AD.c_Decoder
  n_Decoder__probabilities : NoAttr K AD.c_Decoder "_probabilities"
  n_Decoder__octets : NoAttr K AD.c_Decoder "_octets"
  n_Decoder__place : NoAttr K AD.c_Decoder "_place"
  n_Decoder__span : NoAttr K AD.c_Decoder "_span"
  n_Decoder__value : NoAttr K AD.c_Decoder "_value"
def sp__check_context (K : PySem.W.Frag) (AD : Ads) : Sp := fun vs H Q _ => ∃ (context : Int), vs = [.int context] ∧ (0 ≤ context) ∧ (context < 256) ∧ Q (.non) H
def sp__check_decision (K : PySem.W.Frag) (AD : Ads) : Sp := fun vs H Q _ => ∃ (decision : Int), vs = [.int decision] ∧ (0 ≤ decision) ∧ (decision ≤ 1) ∧ Q (.non) H
def sp__adapted (K : PySem.W.Frag) (AD : Ads) : Sp := fun vs H Q _ => ∃ (chance : Int) (decision : Int), vs = [.int chance, .int decision] ∧ Q (.int (adaptE chance decision)) H
def sp_Encoder___init__ (K : PySem.W.Frag) (AD : Ads) : Sp := fun vs H Q _ => ∃ (p_self dx_self : Addr), vs = [.ref p_self] ∧ H p_self = some (.ins AD.c_Encoder dx_self []) ∧ ∀ (H' : Hp) (l_probs l_front : Addr) (s : EncS), s = encInit → SameX p_self H H' → H l_probs = none → H l_front = none → l_probs ≠ l_front → H' p_self = some (.ins AD.c_Encoder dx_self [("_probabilities", V.ref l_probs), ("_front", V.ref l_front), ("_low", V.int s.low), ("_span", V.int s.span)]) → H' l_probs = some (.lst (s.probs.map V.int)) → H' l_front = some (.lst (s.front.map V.int)) → Q .non H'
def sp_Encoder__carry (K : PySem.W.Frag) (AD : Ads) : Sp := fun vs H Q _ => ∃ (p_self dx_self l_self_probs l_self_front : Addr) (self_ : EncS), vs = [.ref p_self] ∧ H p_self = some (.ins AD.c_Encoder dx_self [("_probabilities", V.ref l_self_probs), ("_front", V.ref l_self_front), ("_low", V.int self_.low), ("_span", V.int self_.span)]) ∧ H l_self_probs = some (.lst (self_.probs.map V.int)) ∧ H l_self_front = some (.lst (self_.front.map V.int)) ∧ l_self_probs ≠ l_self_front ∧ (∃ y ∈ self_.front, y ≠ 255) ∧ (self_.front.length ≤ 100000) ∧ ∀ (H' : Hp) (s : EncS), s = (⟨self_.probs, incE self_.front, self_.low, self_.span⟩ : EncS) → SameXs [p_self, l_self_probs, l_self_front] H H' → H' p_self = some (.ins AD.c_Encoder dx_self [("_probabilities", V.ref l_self_probs), ("_front", V.ref l_self_front), ("_low", V.int s.low), ("_span", V.int s.span)]) → H' l_self_probs = some (.lst (s.probs.map V.int)) → H' l_self_front = some (.lst (s.front.map V.int)) → Q (.non) H'
def sp_Encoder__narrow (K : PySem.W.Frag) (AD : Ads) : Sp := fun vs H Q _ => ∃ (p_self dx_self l_self_probs l_self_front : Addr) (self_ : EncS) (chance : Int) (decision : Int), vs = [.ref p_self, .int chance, .int decision] ∧ H p_self = some (.ins AD.c_Encoder dx_self [("_probabilities", V.ref l_self_probs), ("_front", V.ref l_self_front), ("_low", V.int self_.low), ("_span", V.int self_.span)]) ∧ H l_self_probs = some (.lst (self_.probs.map V.int)) ∧ H l_self_front = some (.lst (self_.front.map V.int)) ∧ l_self_probs ≠ l_self_front ∧ (EncG self_) ∧ (31 ≤ chance ∧ chance ≤ 4065) ∧ (self_.front.length ≤ 90000) ∧ ∀ (H' : Hp) (s : EncS), s = encNarrow self_ chance decision → SameXs [p_self, l_self_probs, l_self_front] H H' → H' p_self = some (.ins AD.c_Encoder dx_self [("_probabilities", V.ref l_self_probs), ("_front", V.ref l_self_front), ("_low", V.int s.low), ("_span", V.int s.span)]) → H' l_self_probs = some (.lst (s.probs.map V.int)) → H' l_self_front = some (.lst (s.front.map V.int)) → Q (.non) H'
def sp_Encoder_code (K : PySem.W.Frag) (AD : Ads) : Sp := fun vs H Q _ => ∃ (p_self dx_self l_self_probs l_self_front : Addr) (self_ : EncS) (context : Int) (decision : Int), vs = [.ref p_self, .int context, .int decision] ∧ H p_self = some (.ins AD.c_Encoder dx_self [("_probabilities", V.ref l_self_probs), ("_front", V.ref l_self_front), ("_low", V.int self_.low), ("_span", V.int self_.span)]) ∧ H l_self_probs = some (.lst (self_.probs.map V.int)) ∧ H l_self_front = some (.lst (self_.front.map V.int)) ∧ l_self_probs ≠ l_self_front ∧ (EncG self_) ∧ (0 ≤ context) ∧ (context < 256) ∧ (0 ≤ decision) ∧ (decision ≤ 1) ∧ (self_.front.length ≤ 90000) ∧ ∀ (H' : Hp) (s : EncS), s = encCode self_ context decision → SameXs [p_self, l_self_probs, l_self_front] H H' → H' p_self = some (.ins AD.c_Encoder dx_self [("_probabilities", V.ref l_self_probs), ("_front", V.ref l_self_front), ("_low", V.int s.low), ("_span", V.int s.span)]) → H' l_self_probs = some (.lst (s.probs.map V.int)) → H' l_self_front = some (.lst (s.front.map V.int)) → Q (.non) H'
def sp_Encoder_code_even (K : PySem.W.Frag) (AD : Ads) : Sp := fun vs H Q _ => ∃ (p_self dx_self l_self_probs l_self_front : Addr) (self_ : EncS) (decision : Int), vs = [.ref p_self, .int decision] ∧ H p_self = some (.ins AD.c_Encoder dx_self [("_probabilities", V.ref l_self_probs), ("_front", V.ref l_self_front), ("_low", V.int self_.low), ("_span", V.int self_.span)]) ∧ H l_self_probs = some (.lst (self_.probs.map V.int)) ∧ H l_self_front = some (.lst (self_.front.map V.int)) ∧ l_self_probs ≠ l_self_front ∧ (EncG self_) ∧ (0 ≤ decision) ∧ (decision ≤ 1) ∧ (self_.front.length ≤ 90000) ∧ ∀ (H' : Hp) (s : EncS), s = encNarrow self_ 2048 decision → SameXs [p_self, l_self_probs, l_self_front] H H' → H' p_self = some (.ins AD.c_Encoder dx_self [("_probabilities", V.ref l_self_probs), ("_front", V.ref l_self_front), ("_low", V.int s.low), ("_span", V.int s.span)]) → H' l_self_probs = some (.lst (s.probs.map V.int)) → H' l_self_front = some (.lst (s.front.map V.int)) → Q (.non) H'
def sp_Encoder_octets (K : PySem.W.Frag) (AD : Ads) : Sp := fun vs H Q _ => ∃ (p_self dx_self l_self_probs l_self_front : Addr) (self_ : EncS), vs = [.ref p_self] ∧ H p_self = some (.ins AD.c_Encoder dx_self [("_probabilities", V.ref l_self_probs), ("_front", V.ref l_self_front), ("_low", V.int self_.low), ("_span", V.int self_.span)]) ∧ H l_self_probs = some (.lst (self_.probs.map V.int)) ∧ H l_self_front = some (.lst (self_.front.map V.int)) ∧ l_self_probs ≠ l_self_front ∧ (self_.front.length ≤ 100000) ∧ ∀ p H', H p = none → Same H H' → H' p = some (.lst ((encOctets self_ : (List Int)).map V.int)) → Q (.ref p) H'
def sp_Encoder_probability (K : PySem.W.Frag) (AD : Ads) : Sp := fun vs H Q _ => ∃ (p_self dx_self l_self_probs l_self_front : Addr) (self_ : EncS) (context : Int), vs = [.ref p_self, .int context] ∧ H p_self = some (.ins AD.c_Encoder dx_self [("_probabilities", V.ref l_self_probs), ("_front", V.ref l_self_front), ("_low", V.int self_.low), ("_span", V.int self_.span)]) ∧ H l_self_probs = some (.lst (self_.probs.map V.int)) ∧ H l_self_front = some (.lst (self_.front.map V.int)) ∧ l_self_probs ≠ l_self_front ∧ (0 ≤ context) ∧ (context < 256) ∧ (self_.probs.length = 256) ∧ Q (.int (itD self_.probs context)) H
def sp_Decoder__shift (K : PySem.W.Frag) (AD : Ads) : Sp := fun vs H Q _ => ∃ (p_self dx_self l_self_probs l_self_octs : Addr) (self_ : DecS), vs = [.ref p_self] ∧ H p_self = some (.ins AD.c_Decoder dx_self [("_probabilities", V.ref l_self_probs), ("_octets", V.ref l_self_octs), ("_place", V.int self_.place), ("_span", V.int self_.span), ("_value", V.int self_.value)]) ∧ H l_self_probs = some (.lst (self_.probs.map V.int)) ∧ H l_self_octs = some (.lst (self_.octs.map V.int)) ∧ l_self_probs ≠ l_self_octs ∧ (DecO self_) ∧ (0 ≤ self_.value ∧ self_.value < 4294967296) ∧ ∀ (H' : Hp) (s : DecS), s = decShift self_ → SameXs [p_self, l_self_probs, l_self_octs] H H' → H' p_self = some (.ins AD.c_Decoder dx_self [("_probabilities", V.ref l_self_probs), ("_octets", V.ref l_self_octs), ("_place", V.int s.place), ("_span", V.int s.span), ("_value", V.int s.value)]) → H' l_self_probs = some (.lst (s.probs.map V.int)) → H' l_self_octs = some (.lst (s.octs.map V.int)) → Q (.non) H'
def sp_Decoder__decide (K : PySem.W.Frag) (AD : Ads) : Sp := fun vs H Q _ => ∃ (p_self dx_self l_self_probs l_self_octs : Addr) (self_ : DecS) (chance : Int), vs = [.ref p_self, .int chance] ∧ H p_self = some (.ins AD.c_Decoder dx_self [("_probabilities", V.ref l_self_probs), ("_octets", V.ref l_self_octs), ("_place", V.int self_.place), ("_span", V.int self_.span), ("_value", V.int self_.value)]) ∧ H l_self_probs = some (.lst (self_.probs.map V.int)) ∧ H l_self_octs = some (.lst (self_.octs.map V.int)) ∧ l_self_probs ≠ l_self_octs ∧ (DecG self_) ∧ (31 ≤ chance ∧ chance ≤ 4065) ∧ ∀ (H' : Hp) (s : DecS), s = decDecide self_ chance → SameXs [p_self, l_self_probs, l_self_octs] H H' → H' p_self = some (.ins AD.c_Decoder dx_self [("_probabilities", V.ref l_self_probs), ("_octets", V.ref l_self_octs), ("_place", V.int s.place), ("_span", V.int s.span), ("_value", V.int s.value)]) → H' l_self_probs = some (.lst (s.probs.map V.int)) → H' l_self_octs = some (.lst (s.octs.map V.int)) → Q (.int (decBit self_ chance)) H'
def sp_Decoder___init__ (K : PySem.W.Frag) (AD : Ads) : Sp := fun vs H Q _ => ∃ (p_self dx_self : Addr) (a_octets : Addr) (octets : List Int), vs = [.ref p_self, .ref a_octets] ∧ H p_self = some (.ins AD.c_Decoder dx_self []) ∧ H a_octets = some (.lst (octets.map V.int)) ∧ (∀ x ∈ octets, 0 ≤ x ∧ x ≤ 255) ∧ (octets.length ≤ 100000) ∧ ∀ (H' : Hp) (l_probs l_octs : Addr) (s : DecS), s = decInit octets → SameX p_self H H' → H l_probs = none → H l_octs = none → l_probs ≠ l_octs → H' p_self = some (.ins AD.c_Decoder dx_self [("_probabilities", V.ref l_probs), ("_octets", V.ref l_octs), ("_place", V.int s.place), ("_span", V.int s.span), ("_value", V.int s.value)]) → H' l_probs = some (.lst (s.probs.map V.int)) → H' l_octs = some (.lst (s.octs.map V.int)) → Q .non H'
def sp_Decoder_read (K : PySem.W.Frag) (AD : Ads) : Sp := fun vs H Q _ => ∃ (p_self dx_self l_self_probs l_self_octs : Addr) (self_ : DecS) (context : Int), vs = [.ref p_self, .int context] ∧ H p_self = some (.ins AD.c_Decoder dx_self [("_probabilities", V.ref l_self_probs), ("_octets", V.ref l_self_octs), ("_place", V.int self_.place), ("_span", V.int self_.span), ("_value", V.int self_.value)]) ∧ H l_self_probs = some (.lst (self_.probs.map V.int)) ∧ H l_self_octs = some (.lst (self_.octs.map V.int)) ∧ l_self_probs ≠ l_self_octs ∧ (DecG self_) ∧ (0 ≤ context) ∧ (context < 256) ∧ ∀ (H' : Hp) (s : DecS), s = decRead self_ context → SameXs [p_self, l_self_probs, l_self_octs] H H' → H' p_self = some (.ins AD.c_Decoder dx_self [("_probabilities", V.ref l_self_probs), ("_octets", V.ref l_self_octs), ("_place", V.int s.place), ("_span", V.int s.span), ("_value", V.int s.value)]) → H' l_self_probs = some (.lst (s.probs.map V.int)) → H' l_self_octs = some (.lst (s.octs.map V.int)) → Q (.int (decBit self_ (itD self_.probs context))) H'
def sp_Decoder_read_even (K : PySem.W.Frag) (AD : Ads) : Sp := fun vs H Q _ => ∃ (p_self dx_self l_self_probs l_self_octs : Addr) (self_ : DecS), vs = [.ref p_self] ∧ H p_self = some (.ins AD.c_Decoder dx_self [("_probabilities", V.ref l_self_probs), ("_octets", V.ref l_self_octs), ("_place", V.int self_.place), ("_span", V.int self_.span), ("_value", V.int self_.value)]) ∧ H l_self_probs = some (.lst (self_.probs.map V.int)) ∧ H l_self_octs = some (.lst (self_.octs.map V.int)) ∧ l_self_probs ≠ l_self_octs ∧ (DecG self_) ∧ ∀ (H' : Hp) (s : DecS), s = decDecide self_ 2048 → SameXs [p_self, l_self_probs, l_self_octs] H H' → H' p_self = some (.ins AD.c_Decoder dx_self [("_probabilities", V.ref l_self_probs), ("_octets", V.ref l_self_octs), ("_place", V.int s.place), ("_span", V.int s.span), ("_value", V.int s.value)]) → H' l_self_probs = some (.lst (s.probs.map V.int)) → H' l_self_octs = some (.lst (s.octs.map V.int)) → Q (.int (decBit self_ 2048)) H'
def sp_Decoder_probability (K : PySem.W.Frag) (AD : Ads) : Sp := fun vs H Q _ => ∃ (p_self dx_self l_self_probs l_self_octs : Addr) (self_ : DecS) (context : Int), vs = [.ref p_self, .int context] ∧ H p_self = some (.ins AD.c_Decoder dx_self [("_probabilities", V.ref l_self_probs), ("_octets", V.ref l_self_octs), ("_place", V.int self_.place), ("_span", V.int self_.span), ("_value", V.int self_.value)]) ∧ H l_self_probs = some (.lst (self_.probs.map V.int)) ∧ H l_self_octs = some (.lst (self_.octs.map V.int)) ∧ l_self_probs ≠ l_self_octs ∧ (0 ≤ context) ∧ (context < 256) ∧ (self_.probs.length = 256) ∧ Q (.int (itD self_.probs context)) H
def sp__law_cell (K : PySem.W.Frag) (AD : Ads) : Sp := fun vs H Q _ => ∃ (a_script : Addr) (script : List Int) (kk : Int), vs = [.ref a_script, .int kk] ∧ SqL K H a_script (script.map V.int) ∧ (0 ≤ kk) ∧ Q (.int (cellI script kk)) H
def sp__law_draws (K : PySem.W.Frag) (AD : Ads) : Sp := fun vs H Q _ => ∃ (cell : Int) (a_limits : Addr) (limits : List Int), vs = [.int cell, .ref a_limits] ∧ H a_limits = some (.lst (limits.map V.int)) ∧ (∀ l ∈ limits, 0 < l ∧ l < 2 ^ 128) ∧ (limits.length ≤ 100000) ∧ ∀ p H', H p = none → Same H H' → H' p = some (.lst ((draws cell limits : (List Int)).map V.int)) → Q (.ref p) H'
def sp__law_items (K : PySem.W.Frag) (AD : Ads) : Sp := fun vs H Q _ => ∃ (G : Hp) (a_script : Addr) (script : List Int) (most : Int), vs = [.ref a_script, .int most] ∧ Same G H ∧ SqL K H a_script (script.map V.int) ∧ (script.length ≤ 63) ∧ ∀ v H' G', Same H H' → Same G G' → Same G' H' → (∀ b, H b ≠ none → G b = none → G' b = none) → Rp G' v ((encL (encT2 PyData.int PyData.int)) (itemsL script most)) → Q v H'
def sp__law_moved (K : PySem.W.Frag) (AD : Ads) : Sp := fun vs H Q _ => ∃ (p : Int) (decision : Int), vs = [.int p, .int decision] ∧ Q (.int (adaptE p decision)) H
def sp__law_code_items (K : PySem.W.Frag) (AD : Ads) : Sp := fun vs H Q _ => ∃ (p_encoder dx_encoder l_encoder_probs l_encoder_front : Addr) (enc : EncS) (v_items : V) (items : (List (Int × Int))), vs = [.ref p_encoder, v_items] ∧ H p_encoder = some (.ins AD.c_Encoder dx_encoder [("_probabilities", V.ref l_encoder_probs), ("_front", V.ref l_encoder_front), ("_low", V.int enc.low), ("_span", V.int enc.span)]) ∧ H l_encoder_probs = some (.lst (enc.probs.map V.int)) ∧ H l_encoder_front = some (.lst (enc.front.map V.int)) ∧ l_encoder_probs ≠ l_encoder_front ∧ Rp (hideL [p_encoder, l_encoder_probs, l_encoder_front] H) v_items ((encL (encT2 PyData.int PyData.int)) items) ∧ (EncG enc) ∧ (ItemsOk items) ∧ (enc.front.length + items.length ≤ 90000) ∧ ∀ (H' : Hp) (s : EncS), s = encItems enc items → SameXs [p_encoder, l_encoder_probs, l_encoder_front] H H' → H' p_encoder = some (.ins AD.c_Encoder dx_encoder [("_probabilities", V.ref l_encoder_probs), ("_front", V.ref l_encoder_front), ("_low", V.int s.low), ("_span", V.int s.span)]) → H' l_encoder_probs = some (.lst (s.probs.map V.int)) → H' l_encoder_front = some (.lst (s.front.map V.int)) → Q (.non) H'
def sp__law_read (K : PySem.W.Frag) (AD : Ads) : Sp := fun vs H Q _ => ∃ (p_decoder dx_decoder l_decoder_probs l_decoder_octs : Addr) (dec : DecS) (v_item : V) (item : (Int × Int)), vs = [.ref p_decoder, v_item] ∧ H p_decoder = some (.ins AD.c_Decoder dx_decoder [("_probabilities", V.ref l_decoder_probs), ("_octets", V.ref l_decoder_octs), ("_place", V.int dec.place), ("_span", V.int dec.span), ("_value", V.int dec.value)]) ∧ H l_decoder_probs = some (.lst (dec.probs.map V.int)) ∧ H l_decoder_octs = some (.lst (dec.octs.map V.int)) ∧ l_decoder_probs ≠ l_decoder_octs ∧ Rp (hideL [p_decoder, l_decoder_probs, l_decoder_octs] H) v_item ((encT2 PyData.int PyData.int) item) ∧ (DecG dec) ∧ (-1 ≤ item.1 ∧ item.1 ≤ 255) ∧ ∀ (H' : Hp) (s : DecS), s = decItem dec item → SameXs [p_decoder, l_decoder_probs, l_decoder_octs] H H' → H' p_decoder = some (.ins AD.c_Decoder dx_decoder [("_probabilities", V.ref l_decoder_probs), ("_octets", V.ref l_decoder_octs), ("_place", V.int s.place), ("_span", V.int s.span), ("_value", V.int s.value)]) → H' l_decoder_probs = some (.lst (s.probs.map V.int)) → H' l_decoder_octs = some (.lst (s.octs.map V.int)) → Q (.int (decItemBit dec item)) H'
def sp_law (K : PySem.W.Frag) (AD : Ads) : Sp := fun vs H Q _ => ∃ (a_script : Addr) (script : List Int), vs = [.ref a_script] ∧ SqL K H a_script (script.map V.int) ∧ script.length ≤ 63 ∧ ∀ H', Q (.bl true) H'
section
variable {P : Program} {w : World} {K : PySem.W.Frag} {mg : Str → Option Value} {base : Heap} {AD : Ads}
abbrev N__check_context : List Str := ["context"]
theorem sc__check_context : FnScope N__check_context ["context"] (defScope s__check_context) := ⟨rfl, rfl, rfl, by decide +kernel, rfl, by decide +kernel, by decide +kernel⟩
theorem ok__check_context (D : DefIn K mg "_check_context" s__check_context ["context"]) (T : Txt K mg AD)  : Cal P w K mg base 1 "_check_context" (sp__check_context K AD) := by
  refine D.ok sc__check_context (fun vs H Q E h => ?_) (fun f cdv A_ outer s H vs Q E hr h => ?_)
  · obtain ⟨context, rfl, _⟩ := h
    rfl
  · obtain ⟨context, rfl, pre0, pre1, k⟩ := h
    refine ⟨_, (pss_one (ps_if (pt_not (pt_chain op_le op_lt pe_int (pv 0) (C8.pe_gc rfl T.g_CONTEXTS))) (pss_one ps_never) pss_nil)), ?_⟩
    have S0 := Sep.start0 H
    refine ⟨_, rfl, _, _, rfl, rfl, _, rfl, ?_⟩
    refine iteDT (show 0 ≤ context from by omega) ?_
    refine ⟨_, _, rfl, rfl, _, rfl, ?_⟩
    refine iteNF (show context < 256 from by omega) ?_
    exact k

abbrev N__check_decision : List Str := ["decision"]
theorem sc__check_decision : FnScope N__check_decision ["decision"] (defScope s__check_decision) := ⟨rfl, rfl, rfl, by decide +kernel, rfl, by decide +kernel, by decide +kernel⟩
theorem ok__check_decision (D : DefIn K mg "_check_decision" s__check_decision ["decision"]) (T : Txt K mg AD)  : Cal P w K mg base 1 "_check_decision" (sp__check_decision K AD) := by
  refine D.ok sc__check_decision (fun vs H Q E h => ?_) (fun f cdv A_ outer s H vs Q E hr h => ?_)
  · obtain ⟨decision, rfl, _⟩ := h
    rfl
  · obtain ⟨decision, rfl, pre0, pre1, k⟩ := h
    refine ⟨_, (pss_one (ps_if (pt_not (pt_chain op_le op_le pe_int (pv 0) pe_int)) (pss_one ps_never) pss_nil)), ?_⟩
    have S0 := Sep.start0 H
    refine ⟨_, rfl, _, _, rfl, rfl, _, rfl, ?_⟩
    refine iteDT (show 0 ≤ decision from by omega) ?_
    refine ⟨_, _, rfl, rfl, _, rfl, ?_⟩
    refine iteNF (show decision ≤ 1 from by omega) ?_
    exact k

abbrev N__adapted : List Str := ["chance", "decision"]
theorem sc__adapted : FnScope N__adapted ["chance", "decision"] (defScope s__adapted) := ⟨rfl, rfl, rfl, by decide +kernel, rfl, by decide +kernel, by decide +kernel⟩
theorem ok__adapted (D : DefIn K mg "_adapted" s__adapted ["chance", "decision"]) (T : Txt K mg AD)  : Cal P w K mg base 1 "_adapted" (sp__adapted K AD) := by
  refine D.ok sc__adapted (fun vs H Q E h => ?_) (fun f cdv A_ outer s H vs Q E hr h => ?_)
  · obtain ⟨chance, decision, rfl, _⟩ := h
    rfl
  · obtain ⟨chance, decision, rfl, k⟩ := h
    refine ⟨_, (pss_cons (ps_if (pt_cmp (pc_eqI (pv 1) pe_int)) (pss_one (ps_ret (pe_op op_add (pv 0) (pe_op op_shr (pe_op op_sub (C8.pe_gc rfl T.g_SCALE) (pv 0)) (C8.pe_gc rfl T.g_RATE))))) pss_nil)
      (pss_one (ps_ret (pe_op op_sub (pv 0) (pe_op op_shr (pv 0) (C8.pe_gc rfl T.g_RATE)))))), ?_⟩
    have S0 := Sep.start0 H
    refine ⟨_, rfl, _, _, rfl, rfl, _, rfl, ?_⟩
    refine iteD (fun c1 => ?_) (fun c1 => ?_)
    · have c1 : (decision : Int) = 0 := c1
      refine ⟨_, rfl, _, rfl, _, _, rfl, rfl, _, _, rfl, rfl, (show (0 : Int) ≤ 5 by decide), _, _, rfl, rfl, ?_⟩
      exact eq_int k (by simp [adaptE, *])
    · have c1 : ¬ ((decision : Int) = 0) := c1
      refine ⟨_, rfl, _, rfl, _, _, rfl, rfl, (show (0 : Int) ≤ 5 by decide), _, _, rfl, rfl, ?_⟩
      exact eq_int k (by simp [adaptE, *])

abbrev N_Encoder___init__ : List Str := ["self"]
theorem sc_Encoder___init__ : FnScope N_Encoder___init__ ["self"] (defScope s_Encoder___init__) := ⟨rfl, rfl, rfl, by decide +kernel, rfl, by decide +kernel, by decide +kernel⟩
theorem ok_Encoder___init__ (D : InitIn K mg AD.c_Encoder "Encoder" "Encoder.__init__" s_Encoder___init__ ["self"]) (T : Txt K mg AD)  : MakC P w K mg base 1 "Encoder" AD.c_Encoder (sp_Encoder___init__ K AD) := by
  refine D.ok sc_Encoder___init__ (fun vs H Q E h => ?_) (fun f cdv A_ outer s H vs Q E hr h => ?_)
  · obtain ⟨p_self, dx_self, rfl, _⟩ := h
    rfl
  · obtain ⟨p_self, dx_self, rfl, h_self, k⟩ := h
    refine ⟨_, (pss_cons (ps_fld (pv 0) (pe_op op_rep (pe_lst (pa_cons (C8.pe_gc rfl T.g_EVEN) pa_nil)) (C8.pe_gc rfl T.g_CONTEXTS)) rfl)
      (pss_cons (ps_fld (pv 0) (pe_lst pa_nil) rfl)
      (pss_cons (ps_fld (pv 0) pe_int rfl)
      (pss_one (ps_fld (pv 0) (pe_op op_sub (C8.pe_gc rfl T.g_WORD) pe_int) rfl))))), ?_⟩
    have hM : ∀ a ∈ [p_self], H a ≠ none := (all_cons (some_ne h_self) all_nil)
    have S0 := Sep.start [p_self] H hM
    refine ⟨(by show 1 ≤ sizeLine; decide), fun p2 n3 => ?_⟩
    generalize g4 : upd H p2 _ = H5
    obtain ⟨e6, h7⟩ := gen_new n3 g4
    have h8 : H5 p2 = some (.lst (([2048] : (List Int)).map V.int)) := h7
    have fr9 := S0.free n3
    have S10 := S0.new n3 e6 h8 fr9
    refine ⟨_, _, _, rfl, rfl, h8, (by first | omega | decide), (by first | omega | decide), (rep_lenM (by first | omega | (simp only [List.length_map, List.length_append, List.length_take, List.length_range, List.length_cons, List.length_nil, repL_len]; omega))), fun p11 n12 => ?_⟩
    generalize g13 : upd H5 p11 _ = H14
    obtain ⟨e15, h16⟩ := gen_new n12 g13
    have h17 : H14 p11 = some (.lst ((repL ([2048]) (256) : (List Int)).map V.int)) := rep_map h16
    have fr18 := S10.free n12
    have S19 := S10.new n12 e15 h17 fr18
    have h20 := (e15 _ _ (e6 _ _ h_self))
    refine ⟨_, rfl, _, _, _, _, rfl, h20, T.cl_Encoder, T.n_Encoder__probabilities, (by show 0 < 1000; decide), ?_⟩
    generalize g21 : upd H14 p_self _ = H22
    obtain ⟨x23, h24⟩ := gen_mut g21
    have h25 : H22 p_self = some (.ins AD.c_Encoder dx_self [("_probabilities", V.ref p11)]) := h24
    have S26 := S19.mut1 x23 (.tail _ (.tail _ (.head _))) h25
    refine ⟨(by show 0 ≤ sizeLine; decide), fun p27 n28 => ?_⟩
    generalize g29 : upd H22 p27 _ = H30
    obtain ⟨e31, h32⟩ := gen_new n28 g29
    have h33 : H30 p27 = some (.lst (([] : (List Int)).map V.int)) := h32
    have fr34 := S26.free n28
    have S35 := S26.new n28 e31 h33 fr34
    have h36 := (e31 _ _ h25)
    refine ⟨_, rfl, _, _, _, _, rfl, h36, T.cl_Encoder, T.n_Encoder__front, (by show 1 < 1000; decide), ?_⟩
    generalize g37 : upd H30 p_self _ = H38
    obtain ⟨x39, h40⟩ := gen_mut g37
    have h41 : H38 p_self = some (.ins AD.c_Encoder dx_self [("_probabilities", V.ref p11), ("_front", V.ref p27)]) := h40
    have S42 := S35.mut1 x39 (.tail _ (.tail _ (.tail _ (.head _)))) h41
    refine ⟨_, rfl, _, _, _, _, rfl, h41, T.cl_Encoder, T.n_Encoder__low, (by show 2 < 1000; decide), ?_⟩
    generalize g43 : upd H38 p_self _ = H44
    obtain ⟨x45, h46⟩ := gen_mut g43
    have h47 : H44 p_self = some (.ins AD.c_Encoder dx_self [("_probabilities", V.ref p11), ("_front", V.ref p27), ("_low", V.int (0))]) := h46
    have S48 := S42.mut1 x45 (.tail _ (.tail _ (.tail _ (.head _)))) h47
    refine ⟨_, _, rfl, rfl, _, rfl, _, _, _, _, rfl, h47, T.cl_Encoder, T.n_Encoder__span, (by show 3 < 1000; decide), ?_⟩
    generalize g49 : upd H44 p_self _ = H50
    obtain ⟨x51, h52⟩ := gen_mut g49
    have h53 : H50 p_self = some (.ins AD.c_Encoder dx_self [("_probabilities", V.ref p11), ("_front", V.ref p27), ("_low", V.int (0)), ("_span", V.int ((4294967296 - 1)))]) := h52
    have S54 := S48.mut1 x51 (.tail _ (.tail _ (.tail _ (.head _)))) h53
    have h55 := (x51 _ _ (x45 _ _ (x39 _ _ (e31 _ _ (x23 _ _ h17 (ne_of_none (e6 _ _ h_self) n12).symm)) (ne_of_none (e6 _ _ h_self) n12).symm) (ne_of_none (e6 _ _ h_self) n12).symm) (ne_of_none (e6 _ _ h_self) n12).symm)
    have h56 := (x51 _ _ (x45 _ _ (x39 _ _ h33 (ne_of_none h25 n28).symm) (ne_of_none h25 n28).symm) (ne_of_none h25 n28).symm)
    have E57 : ((⟨repL ([2048]) (256), [], 0, (4294967296 - 1)⟩) : EncS) = encInit := by rfl
    exact k _ _ _ _ E57 (sameX_of S54.base) fr18 fr34 (ne_of_none (x23 _ _ h17 (ne_of_none (e6 _ _ h_self) n12).symm) n28) h53 h55 h56

abbrev N_Encoder__carry : List Str := ["self", "place"]
theorem sc_Encoder__carry : FnScope N_Encoder__carry ["self"] (defScope s_Encoder__carry) := ⟨rfl, rfl, rfl, by decide +kernel, rfl, by decide +kernel, by decide +kernel⟩
theorem ok_Encoder__carry (D : MethIn K AD.c_Encoder "Encoder._carry" "_carry" s_Encoder__carry ["self"]) (T : Txt K mg AD)  : MetC P w K mg base 1 AD.c_Encoder "_carry" (sp_Encoder__carry K AD) := by
  refine D.ok T.cl_Encoder sc_Encoder__carry (fun vs H Q E h => ?_) (fun f cdv A_ outer s H vs Q E hr h => ?_)
  · obtain ⟨p_self, dx_self, l_self_probs, l_self_front, self_, rfl, _⟩ := h
    rfl
  · obtain ⟨p_self, dx_self, l_self_probs, l_self_front, self_, rfl, h_self, h_self_probs, h_self_front, ne_self_0, pre0, pre1, k⟩ := h
    refine ⟨_, (pss_cons (ps_set (i := 1) sc_Encoder__carry.nd rfl (Or.inl rfl) (pe_op op_sub (pe_callB (call_lenLiK (K := K)) (by rfl) T.b_len (by decide +kernel) (pa_cons (fldK (K := K) (pv 0)) pa_nil)) pe_int))
      (pss_cons (ps_while PassesOwn.never (pt_cmp (pc_eqI (pe_ix (ix_listK (K := K)) (fldK (K := K) (pv 0)) (pv 1) (fun _ _ => rfl)) pe_int)) (pss_cons (ps_asg pe_int (pg_sub (fldK (K := K) (pv 0)) (pv 1) set_list))
      (pss_one (ps_aug (i := 1) sc_Encoder__carry.nd rfl (Or.inl rfl) pe_int (pip iop_sub)))))
      (pss_one (ps_augS (fldK (K := K) (pv 0)) (pv 1) (pget_list (K := K)) pe_int (pip iop_add) set_list)))), ?_⟩
    have hM : ∀ a ∈ [p_self, l_self_probs, l_self_front], H a ≠ none := (all_cons (some_ne h_self) (all_cons (some_ne h_self_probs) (all_cons (some_ne h_self_front) all_nil)))
    have S0 := Sep.start [p_self, l_self_probs, l_self_front] H hM
    refine ⟨_, rfl, _, _, _, _, _, rfl, h_self, T.cl_Encoder, T.n_Encoder__front, rfl, _, _, rfl, (SqL.of h_self_front), _, _, rfl, rfl, ⟨fun m σ H' => ∃ (self : EncS) (place : Int), σ = [some (V.ref p_self), some (V.int place)] ∧ Sep [p_self, l_self_probs, l_self_front] H (hideL [p_self, l_self_probs, l_self_front] H) (hideL [p_self, l_self_probs, l_self_front] H) H' [p_self, l_self_probs, l_self_front] ∧ H' p_self = some (.ins AD.c_Encoder dx_self [("_probabilities", V.ref l_self_probs), ("_front", V.ref l_self_front), ("_low", V.int (self.low)), ("_span", V.int (self.span))]) ∧ H' l_self_probs = some (.lst ((self.probs).map V.int)) ∧ H' l_self_front = some (.lst ((self.front).map V.int)) ∧ ((m = place.toNat) ∧ (self.probs = self_.probs ∧ self.low = self_.low ∧ self.span = self_.span ∧ ∃ (A : List Int) (x : Int) (j : Nat), self_.front = A ++ [x] ++ List.replicate j 255 ∧ self.front = A ++ [x] ++ List.replicate j 0 ∧ place = (A.length : Int))), ?_, ?_⟩⟩
    · refine ⟨_, self_, _, rfl, S0, h_self, h_self_probs, h_self_front, rfl, ?_⟩
      exact ⟨rfl, rfl, rfl, carry_start pre0⟩
    · intro m σ H58 hw
      obtain ⟨self, place, rfl, S59, h60, h61, h62, hu⟩ := hw
      obtain ⟨hm, hu⟩ := hu
      obtain ⟨hp, hlo, hsp, A, x, j, hf0, hf, hpl⟩ := hu
      have hin := mid_in hf hpl
      have hx := mid_at hf hpl
      refine ⟨_, rfl, _, _, _, _, _, rfl, h60, T.cl_Encoder, T.n_Encoder__front, rfl, _, rfl, _, _, _, _, rfl, rfl, (SqL.of h62), (atI_map (by exact hin)), _, _, rfl, rfl, _, rfl, ?_⟩
      refine iteD (fun c63 => ?_) (fun c63 => ?_)
      · have c63 : ((itD (self.front) (place)) : Int) = 255 := c63
        refine ⟨(fun σ H' => ∃ m', (∃ (self : EncS) (place : Int), σ = [some (V.ref p_self), some (V.int place)] ∧ Sep [p_self, l_self_probs, l_self_front] H (hideL [p_self, l_self_probs, l_self_front] H) (hideL [p_self, l_self_probs, l_self_front] H) H' [p_self, l_self_probs, l_self_front] ∧ H' p_self = some (.ins AD.c_Encoder dx_self [("_probabilities", V.ref l_self_probs), ("_front", V.ref l_self_front), ("_low", V.int (self.low)), ("_span", V.int (self.span))]) ∧ H' l_self_probs = some (.lst ((self.probs).map V.int)) ∧ H' l_self_front = some (.lst ((self.front).map V.int)) ∧ ((m' = place.toNat) ∧ (self.probs = self_.probs ∧ self.low = self_.low ∧ self.span = self_.span ∧ ∃ (A : List Int) (x : Int) (j : Nat), self_.front = A ++ [x] ++ List.replicate j 255 ∧ self.front = A ++ [x] ++ List.replicate j 0 ∧ place = (A.length : Int)))) ∧ m' < m), (fun _ _ ⟨m', a, b⟩ => ⟨m', b, a⟩), ?_⟩
        refine ⟨_, rfl, _, _, _, _, _, rfl, h60, T.cl_Encoder, T.n_Encoder__front, rfl, _, rfl, _, _, _, _, rfl, rfl, h62, (ixN_map (by exact hin)), ?_⟩
        generalize g64 : upd H58 l_self_front _ = H65
        obtain ⟨x66, h67⟩ := gen_mut g64
        have h68 : H65 l_self_front = some (.lst ((setL (self.front) (place) (0) : (List Int)).map V.int)) := set_map h67
        have S69 := S59.mut1 x66 (.tail _ (.tail _ (.head _))) h68
        refine ⟨_, rfl, _, _, rfl, rfl, ?_⟩
        have h70 := (x66 _ _ h60 (ne_of h60 h62 (fun z => nomatch z)))
        have h71 := (x66 _ _ h61 ne_self_0)
        refine ⟨_, ⟨⟨self.probs, setL (self.front) (place) (0), self.low, self.span⟩, _, rfl, S69, h70, h71, h68, rfl, ?_⟩, ?_⟩
        · exact ⟨hp, hlo, hsp, carry_turn pre0 hf0 hf hpl (hx.symm.trans ‹_›)⟩
        · rw [hm]
          exact carry_less pre0 hf0 hpl (hx.symm.trans ‹_›)
      · have c63 : ¬ (((itD (self.front) (place)) : Int) = 255) := c63
        refine ⟨_, rfl, _, _, _, _, _, rfl, h60, T.cl_Encoder, T.n_Encoder__front, rfl, _, rfl, _, _, _, _, rfl, rfl, (SqL.of h62), (by omega), (by rw [hf0] at pre1; simp only [List.length_append, List.length_cons, List.length_nil] at pre1; omega), (atI_map (by exact hin)), _, _, rfl, rfl, _, _, _, _, rfl, rfl, h62, (ixN_map (by exact hin)), ?_⟩
        generalize g72 : upd H58 l_self_front _ = H73
        obtain ⟨x74, h75⟩ := gen_mut g72
        have h76 : H73 l_self_front = some (.lst ((setL (self.front) (place) (((itD (self.front) (place)) + 1)) : (List Int)).map V.int)) := set_map h75
        have S77 := S59.mut1 x74 (.tail _ (.tail _ (.head _))) h76
        have h78 := (x74 _ _ h60 (ne_of h60 h62 (fun z => nomatch z)))
        have h79 := (x74 _ _ h61 ne_self_0)
        have E80 : ((⟨self.probs, setL (self.front) (place) (((itD (self.front) (place)) + 1)), self.low, self.span⟩) : EncS) = (⟨self_.probs, incE self_.front, self_.low, self_.span⟩ : EncS) := by rw [← hp, ← hlo, ← hsp]; congr 1; exact carry_end hf0 hf hpl (fun z => ‹¬ _› (hx.trans z))
        exact (k _ _ E80 S77.base h78 h79 h76)

abbrev N_Encoder__narrow : List Str := ["self", "chance", "decision", "part"]
theorem sc_Encoder__narrow : FnScope N_Encoder__narrow ["self", "chance", "decision"] (defScope s_Encoder__narrow) := ⟨rfl, rfl, rfl, by decide +kernel, rfl, by decide +kernel, by decide +kernel⟩
theorem ok_Encoder__narrow (D : MethIn K AD.c_Encoder "Encoder._narrow" "_narrow" s_Encoder__narrow ["self", "chance", "decision"]) (T : Txt K mg AD) (c_Encoder__carry : MetC P w K mg base 1 AD.c_Encoder "_carry" (sp_Encoder__carry K AD)) : MetC P w K mg base 2 AD.c_Encoder "_narrow" (sp_Encoder__narrow K AD) := by
  refine D.ok T.cl_Encoder sc_Encoder__narrow (fun vs H Q E h => ?_) (fun f cdv A_ outer s H vs Q E hr h => ?_)
  · obtain ⟨p_self, dx_self, l_self_probs, l_self_front, self_, chance, decision, rfl, _⟩ := h
    rfl
  · obtain ⟨p_self, dx_self, l_self_probs, l_self_front, self_, chance, decision, rfl, h_self, h_self_probs, h_self_front, ne_self_0, pre0, pre1, pre2, k⟩ := h
    refine ⟨_, (pss_cons (ps_set (i := 3) sc_Encoder__narrow.nd rfl (Or.inl rfl) (pe_op op_mul (pe_op op_shr (fldK (K := K) (pv 0)) (C8.pe_gc rfl T.g_SCALE_BITS)) (pv 1)))
      (pss_cons (ps_if (pt_cmp (pc_eqI (pv 2) pe_int)) (pss_one (ps_fld (pv 0) (pv 3) rfl)) (pss_cons (ps_fldaug (pv 0) (pv 3) (pip iop_sub))
      (pss_cons (ps_fldaug (pv 0) (pv 3) (pip iop_add))
      (pss_one (ps_if (pt_cmp (pc_ge (fldK (K := K) (pv 0)) (C8.pe_gc rfl T.g_WORD))) (pss_cons (ps_fldaug (pv 0) (C8.pe_gc rfl T.g_WORD) (pip iop_sub))
      (pss_one (ps_expr (vx_meth0 c_Encoder__carry hr (by decide) (pv 0))))) pss_nil)))))
      (pss_one (ps_while PassesOwn.never (pt_cmp (pc_lt (fldK (K := K) (pv 0)) (C8.pe_gc rfl T.g_LEAST_SPAN))) (pss_cons (ps_expr (pe_bm PySem.F.plainAttrs_list PySem.F.slot_list_append PySem.F.type_list_append mt_append (fldK (K := K) (pv 0)) (pa_cons (pe_op op_shr (fldK (K := K) (pv 0)) pe_int) pa_nil)))
      (pss_cons (ps_fld (pv 0) (pe_op op_and (pe_op op_shlW (fldK (K := K) (pv 0)) pe_int) (pe_op op_sub (C8.pe_gc rfl T.g_WORD) pe_int)) rfl)
      (pss_one (ps_fldaug (pv 0) pe_int (pip iop_shlW))))))))), ?_⟩
    have hM : ∀ a ∈ [p_self, l_self_probs, l_self_front], H a ≠ none := (all_cons (some_ne h_self) (all_cons (some_ne h_self_probs) (all_cons (some_ne h_self_front) all_nil)))
    have S0 := Sep.start [p_self, l_self_probs, l_self_front] H hM
    have hpre := encPre_ok pre0 pre1 decision
    refine ⟨_, rfl, _, _, _, _, _, rfl, h_self, T.cl_Encoder, T.n_Encoder__span, rfl, _, _, rfl, rfl, (show (0 : Int) ≤ 12 by decide), _, rfl, _, _, rfl, rfl, (by exact .inr ⟨by omega, by omega⟩), _, rfl, _, _, rfl, rfl, _, rfl, ?_⟩
    refine iteD (fun c81 => ?_) (fun c81 => ?_)
    · have c81 : (decision : Int) = 0 := c81
      refine ⟨_, rfl, _, rfl, _, _, _, _, rfl, h_self, T.cl_Encoder, T.n_Encoder__span, (by show 4 < 1000; decide), ?_⟩
      generalize g82 : upd H p_self _ = H83
      obtain ⟨x84, h85⟩ := gen_mut g82
      have h86 : H83 p_self = some (.ins AD.c_Encoder dx_self [("_probabilities", V.ref l_self_probs), ("_front", V.ref l_self_front), ("_low", V.int (self_.low)), ("_span", V.int (((self_.span / 4096) * chance)))]) := h85
      have S87 := S0.mut1 x84 (.head _) h86
      refine ⟨fun m σ H' => ∃ (self : EncS), σ = [some (V.ref p_self), some (V.int (chance)), some (V.int (decision)), some (V.int (((self_.span / 4096) * chance)))] ∧ Sep [p_self, l_self_probs, l_self_front] H (hideL [p_self, l_self_probs, l_self_front] H) (hideL [p_self, l_self_probs, l_self_front] H) H' [p_self, l_self_probs, l_self_front] ∧ H' p_self = some (.ins AD.c_Encoder dx_self [("_probabilities", V.ref l_self_probs), ("_front", V.ref l_self_front), ("_low", V.int (self.low)), ("_span", V.int (self.span))]) ∧ H' l_self_probs = some (.lst ((self.probs).map V.int)) ∧ H' l_self_front = some (.lst ((self.front).map V.int)) ∧ ((m = (16777216 - self.span).toNat) ∧ (self = encPre self_ chance decision ∨ (self = encNorm1 (encPre self_ chance decision) ∧ (encPre self_ chance decision).span < 16777216 ∧ 16777216 ≤ self.span))), ?_, ?_⟩
      · have h88 := (x84 _ _ h_self_probs (ne_of h_self_probs h_self (fun z => nomatch z)))
        have h89 := (x84 _ _ h_self_front (ne_of h_self_front h_self (fun z => nomatch z)))
        refine ⟨_, ⟨self_.probs, self_.front, self_.low, ((self_.span / 4096) * chance)⟩, rfl, S87, h86, h88, h89, rfl, ?_⟩
        left
        simp [encPre, *]
      · intro m σ H90 hw
        obtain ⟨self, rfl, S91, h92, h93, h94, hu⟩ := hw
        obtain ⟨hm, hu⟩ := hu
        refine ⟨_, rfl, _, _, _, _, _, rfl, h92, T.cl_Encoder, T.n_Encoder__span, rfl, _, _, rfl, rfl, _, rfl, ?_⟩
        refine iteD (fun c95 => ?_) (fun c95 => ?_)
        · have c95 : self.span < 16777216 := c95
          have hs : self = encPre self_ chance decision := by
            rcases hu with h | h
            · exact h
            · omega
          refine ⟨(fun σ H' => ∃ m', (∃ (self : EncS), σ = [some (V.ref p_self), some (V.int (chance)), some (V.int (decision)), some (V.int (((self_.span / 4096) * chance)))] ∧ Sep [p_self, l_self_probs, l_self_front] H (hideL [p_self, l_self_probs, l_self_front] H) (hideL [p_self, l_self_probs, l_self_front] H) H' [p_self, l_self_probs, l_self_front] ∧ H' p_self = some (.ins AD.c_Encoder dx_self [("_probabilities", V.ref l_self_probs), ("_front", V.ref l_self_front), ("_low", V.int (self.low)), ("_span", V.int (self.span))]) ∧ H' l_self_probs = some (.lst ((self.probs).map V.int)) ∧ H' l_self_front = some (.lst ((self.front).map V.int)) ∧ ((m' = (16777216 - self.span).toNat) ∧ (self = encPre self_ chance decision ∨ (self = encNorm1 (encPre self_ chance decision) ∧ (encPre self_ chance decision).span < 16777216 ∧ 16777216 ≤ self.span)))) ∧ m' < m), (fun _ _ ⟨m', a, b⟩ => ⟨m', b, a⟩), ?_⟩
          refine ⟨_, rfl, _, _, _, _, _, rfl, h92, T.cl_Encoder, T.n_Encoder__front, rfl, (.inl ⟨rfl, _, SqL.of h94⟩), _, rfl, _, _, _, _, _, rfl, h92, T.cl_Encoder, T.n_Encoder__low, rfl, _, _, rfl, rfl, (show (0 : Int) ≤ 24 by decide), _, _, _, rfl, rfl, h94, (app_lenM (by rw [hs]; have := len_pre self_ chance decision; omega)), ?_⟩
          generalize g96 : upd H90 l_self_front _ = H97
          obtain ⟨x98, h99⟩ := gen_mut g96
          have h100 : H97 l_self_front = some (.lst (((self.front) ++ [(self.low / 16777216)] : (List Int)).map V.int)) := snoc_map h99
          have S101 := S91.mut1 x98 (.tail _ (.tail _ (.head _))) h100
          have h102 := (x98 _ _ h92 (ne_of h92 h94 (fun z => nomatch z)))
          refine ⟨_, rfl, _, _, _, _, _, rfl, h102, T.cl_Encoder, T.n_Encoder__low, rfl, _, _, rfl, rfl, (by exact shl32 (by rw [hs]; exact hpre.low) (by decide)), _, _, rfl, rfl, _, _, rfl, rfl, _, rfl, _, _, _, _, rfl, h102, T.cl_Encoder, T.n_Encoder__low, (by show 4 < 1000; decide), ?_⟩
          generalize g103 : upd H97 p_self _ = H104
          obtain ⟨x105, h106⟩ := gen_mut g103
          have h107 : H104 p_self = some (.ins AD.c_Encoder dx_self [("_probabilities", V.ref l_self_probs), ("_front", V.ref l_self_front), ("_low", V.int ((PySem.Builtin.bitAnd ((self.low * 256)) ((4294967296 - 1))))), ("_span", V.int (self.span))]) := h106
          have S108 := S101.mut1 x105 (.head _) h107
          refine ⟨_, rfl, _, _, _, _, _, rfl, h107, T.cl_Encoder, T.n_Encoder__span, rfl, _, _, rfl, rfl, (by exact shl32 (by have := hpre.span0; rw [← hs] at this; omega) (by decide)), _, _, h107, (by show 4 < 1000; decide), ?_⟩
          generalize g109 : upd H104 p_self _ = H110
          obtain ⟨x111, h112⟩ := gen_mut g109
          have h113 : H110 p_self = some (.ins AD.c_Encoder dx_self [("_probabilities", V.ref l_self_probs), ("_front", V.ref l_self_front), ("_low", V.int ((PySem.Builtin.bitAnd ((self.low * 256)) ((4294967296 - 1))))), ("_span", V.int ((self.span * 256)))]) := h112
          have S114 := S108.mut1 x111 (.head _) h113
          have h115 := (x111 _ _ (x105 _ _ (x98 _ _ h93 ne_self_0) (ne_of h93 h92 (fun z => nomatch z))) (ne_of h93 h92 (fun z => nomatch z)))
          have h116 := (x111 _ _ (x105 _ _ h100 (ne_of h100 h102 (fun z => nomatch z))) (ne_of h100 h102 (fun z => nomatch z)))
          refine ⟨_, ⟨⟨self.probs, (self.front) ++ [(self.low / 16777216)], (PySem.Builtin.bitAnd ((self.low * 256)) ((4294967296 - 1))), (self.span * 256)⟩, rfl, S114, h113, h115, h116, rfl, ?_⟩, ?_⟩
          · right
            rw [hs]
            exact ⟨encNorm_eq _, by rw [← hs]; omega, norm_span hpre⟩
          · rw [hm]
            have := hpre.span0
            rw [← hs] at this
            show (16777216 - self.span * 256).toNat < (16777216 - self.span).toNat
            omega
        · have c95 : ¬ (self.span < 16777216) := c95
          have hs : self = encNarrow self_ chance decision := by
            unfold encNarrow encNorm
            rcases hu with h | h
            · rw [if_neg (by rw [← h]; omega)]; exact h
            · rw [if_pos h.2.1]; exact h.1
          have E117 : ((⟨self.probs, self.front, self.low, self.span⟩) : EncS) = encNarrow self_ chance decision := by exact hs
          exact (k _ _ E117 S91.base h92 h93 h94)
    · have c81 : ¬ ((decision : Int) = 0) := c81
      refine ⟨_, rfl, _, _, _, _, _, rfl, h_self, T.cl_Encoder, T.n_Encoder__span, rfl, _, rfl, _, _, rfl, rfl, _, _, h_self, (by show 4 < 1000; decide), ?_⟩
      generalize g118 : upd H p_self _ = H119
      obtain ⟨x120, h121⟩ := gen_mut g118
      have h122 : H119 p_self = some (.ins AD.c_Encoder dx_self [("_probabilities", V.ref l_self_probs), ("_front", V.ref l_self_front), ("_low", V.int (self_.low)), ("_span", V.int ((self_.span - ((self_.span / 4096) * chance))))]) := h121
      have S123 := S0.mut1 x120 (.head _) h122
      refine ⟨_, rfl, _, _, _, _, _, rfl, h122, T.cl_Encoder, T.n_Encoder__low, rfl, _, rfl, _, _, rfl, rfl, _, _, h122, (by show 4 < 1000; decide), ?_⟩
      generalize g124 : upd H119 p_self _ = H125
      obtain ⟨x126, h127⟩ := gen_mut g124
      have h128 : H125 p_self = some (.ins AD.c_Encoder dx_self [("_probabilities", V.ref l_self_probs), ("_front", V.ref l_self_front), ("_low", V.int ((self_.low + ((self_.span / 4096) * chance)))), ("_span", V.int ((self_.span - ((self_.span / 4096) * chance))))]) := h127
      have S129 := S123.mut1 x126 (.head _) h128
      refine ⟨_, rfl, _, _, _, _, _, rfl, h128, T.cl_Encoder, T.n_Encoder__low, rfl, _, _, rfl, rfl, _, rfl, ?_⟩
      refine iteD (fun c130 => ?_) (fun c130 => ?_)
      · have c130 : 4294967296 ≤ (self_.low + ((self_.span / 4096) * chance)) := c130
        refine ⟨_, rfl, _, _, _, _, _, rfl, h128, T.cl_Encoder, T.n_Encoder__low, rfl, _, _, rfl, rfl, _, _, h128, (by show 4 < 1000; decide), ?_⟩
        generalize g131 : upd H125 p_self _ = H132
        obtain ⟨x133, h134⟩ := gen_mut g131
        have h135 : H132 p_self = some (.ins AD.c_Encoder dx_self [("_probabilities", V.ref l_self_probs), ("_front", V.ref l_self_front), ("_low", V.int (((self_.low + ((self_.span / 4096) * chance)) - 4294967296))), ("_span", V.int ((self_.span - ((self_.span / 4096) * chance))))]) := h134
        have S136 := S129.mut1 x133 (.head _) h135
        have h137 := (x133 _ _ (x126 _ _ (x120 _ _ h_self_probs (ne_of h_self_probs h_self (fun z => nomatch z))) (ne_of h_self_probs h_self (fun z => nomatch z))) (ne_of h_self_probs h_self (fun z => nomatch z)))
        have h138 := (x133 _ _ (x126 _ _ (x120 _ _ h_self_front (ne_of h_self_front h_self (fun z => nomatch z))) (ne_of h_self_front h_self (fun z => nomatch z))) (ne_of h_self_front h_self (fun z => nomatch z)))
        refine ⟨_, rfl, _, _, _, rfl, h135, rfl, _, _, _, _, (⟨self_.probs, self_.front, ((self_.low + ((self_.span / 4096) * chance)) - 4294967296), (self_.span - ((self_.span / 4096) * chance))⟩ : EncS), rfl, h135, h137, h138, ne_self_0, (by first | (show ∃ y ∈ self_.front, y ≠ 255; exact carry_pre pre0 pre1 ‹_›) | (show self_.front.length ≤ 100000; omega)), (by first | (show ∃ y ∈ self_.front, y ≠ 255; exact carry_pre pre0 pre1 ‹_›) | (show self_.front.length ≤ 100000; omega)), fun H139 s140 q141 x142 h143 h145 h146  => ?_⟩
        have S144 := S136.mut x142 (all_cons (.head _) (all_cons (.tail _ (.head _)) (all_cons (.tail _ (.tail _ (.head _))) all_nil))) (all_cons (some_ne h143) (all_cons (some_ne h145) (all_cons (some_ne h146) all_nil)))
        refine ⟨fun m σ H' => ∃ (self : EncS), σ = [some (V.ref p_self), some (V.int (chance)), some (V.int (decision)), some (V.int (((self_.span / 4096) * chance)))] ∧ Sep [p_self, l_self_probs, l_self_front] H (hideL [p_self, l_self_probs, l_self_front] H) (hideL [p_self, l_self_probs, l_self_front] H) H' [p_self, l_self_probs, l_self_front] ∧ H' p_self = some (.ins AD.c_Encoder dx_self [("_probabilities", V.ref l_self_probs), ("_front", V.ref l_self_front), ("_low", V.int (self.low)), ("_span", V.int (self.span))]) ∧ H' l_self_probs = some (.lst ((self.probs).map V.int)) ∧ H' l_self_front = some (.lst ((self.front).map V.int)) ∧ ((m = (16777216 - self.span).toNat) ∧ (self = encPre self_ chance decision ∨ (self = encNorm1 (encPre self_ chance decision) ∧ (encPre self_ chance decision).span < 16777216 ∧ 16777216 ≤ self.span))), ?_, ?_⟩
        · refine ⟨_, s140, rfl, S144, h143, h145, h146, rfl, ?_⟩
          left
          simp [encPre, *]
        · intro m σ H147 hw
          obtain ⟨self, rfl, S148, h149, h150, h151, hu⟩ := hw
          obtain ⟨hm, hu⟩ := hu
          refine ⟨_, rfl, _, _, _, _, _, rfl, h149, T.cl_Encoder, T.n_Encoder__span, rfl, _, _, rfl, rfl, _, rfl, ?_⟩
          refine iteD (fun c152 => ?_) (fun c152 => ?_)
          · have c152 : self.span < 16777216 := c152
            have hs : self = encPre self_ chance decision := by
              rcases hu with h | h
              · exact h
              · omega
            refine ⟨(fun σ H' => ∃ m', (∃ (self : EncS), σ = [some (V.ref p_self), some (V.int (chance)), some (V.int (decision)), some (V.int (((self_.span / 4096) * chance)))] ∧ Sep [p_self, l_self_probs, l_self_front] H (hideL [p_self, l_self_probs, l_self_front] H) (hideL [p_self, l_self_probs, l_self_front] H) H' [p_self, l_self_probs, l_self_front] ∧ H' p_self = some (.ins AD.c_Encoder dx_self [("_probabilities", V.ref l_self_probs), ("_front", V.ref l_self_front), ("_low", V.int (self.low)), ("_span", V.int (self.span))]) ∧ H' l_self_probs = some (.lst ((self.probs).map V.int)) ∧ H' l_self_front = some (.lst ((self.front).map V.int)) ∧ ((m' = (16777216 - self.span).toNat) ∧ (self = encPre self_ chance decision ∨ (self = encNorm1 (encPre self_ chance decision) ∧ (encPre self_ chance decision).span < 16777216 ∧ 16777216 ≤ self.span)))) ∧ m' < m), (fun _ _ ⟨m', a, b⟩ => ⟨m', b, a⟩), ?_⟩
            refine ⟨_, rfl, _, _, _, _, _, rfl, h149, T.cl_Encoder, T.n_Encoder__front, rfl, (.inl ⟨rfl, _, SqL.of h151⟩), _, rfl, _, _, _, _, _, rfl, h149, T.cl_Encoder, T.n_Encoder__low, rfl, _, _, rfl, rfl, (show (0 : Int) ≤ 24 by decide), _, _, _, rfl, rfl, h151, (app_lenM (by rw [hs]; have := len_pre self_ chance decision; omega)), ?_⟩
            generalize g153 : upd H147 l_self_front _ = H154
            obtain ⟨x155, h156⟩ := gen_mut g153
            have h157 : H154 l_self_front = some (.lst (((self.front) ++ [(self.low / 16777216)] : (List Int)).map V.int)) := snoc_map h156
            have S158 := S148.mut1 x155 (.tail _ (.tail _ (.head _))) h157
            have h159 := (x155 _ _ h149 (ne_of h149 h151 (fun z => nomatch z)))
            refine ⟨_, rfl, _, _, _, _, _, rfl, h159, T.cl_Encoder, T.n_Encoder__low, rfl, _, _, rfl, rfl, (by exact shl32 (by rw [hs]; exact hpre.low) (by decide)), _, _, rfl, rfl, _, _, rfl, rfl, _, rfl, _, _, _, _, rfl, h159, T.cl_Encoder, T.n_Encoder__low, (by show 4 < 1000; decide), ?_⟩
            generalize g160 : upd H154 p_self _ = H161
            obtain ⟨x162, h163⟩ := gen_mut g160
            have h164 : H161 p_self = some (.ins AD.c_Encoder dx_self [("_probabilities", V.ref l_self_probs), ("_front", V.ref l_self_front), ("_low", V.int ((PySem.Builtin.bitAnd ((self.low * 256)) ((4294967296 - 1))))), ("_span", V.int (self.span))]) := h163
            have S165 := S158.mut1 x162 (.head _) h164
            refine ⟨_, rfl, _, _, _, _, _, rfl, h164, T.cl_Encoder, T.n_Encoder__span, rfl, _, _, rfl, rfl, (by exact shl32 (by have := hpre.span0; rw [← hs] at this; omega) (by decide)), _, _, h164, (by show 4 < 1000; decide), ?_⟩
            generalize g166 : upd H161 p_self _ = H167
            obtain ⟨x168, h169⟩ := gen_mut g166
            have h170 : H167 p_self = some (.ins AD.c_Encoder dx_self [("_probabilities", V.ref l_self_probs), ("_front", V.ref l_self_front), ("_low", V.int ((PySem.Builtin.bitAnd ((self.low * 256)) ((4294967296 - 1))))), ("_span", V.int ((self.span * 256)))]) := h169
            have S171 := S165.mut1 x168 (.head _) h170
            have h172 := (x168 _ _ (x162 _ _ (x155 _ _ h150 ne_self_0) (ne_of h150 h149 (fun z => nomatch z))) (ne_of h150 h149 (fun z => nomatch z)))
            have h173 := (x168 _ _ (x162 _ _ h157 (ne_of h157 h159 (fun z => nomatch z))) (ne_of h157 h159 (fun z => nomatch z)))
            refine ⟨_, ⟨⟨self.probs, (self.front) ++ [(self.low / 16777216)], (PySem.Builtin.bitAnd ((self.low * 256)) ((4294967296 - 1))), (self.span * 256)⟩, rfl, S171, h170, h172, h173, rfl, ?_⟩, ?_⟩
            · right
              rw [hs]
              exact ⟨encNorm_eq _, by rw [← hs]; omega, norm_span hpre⟩
            · rw [hm]
              have := hpre.span0
              rw [← hs] at this
              show (16777216 - self.span * 256).toNat < (16777216 - self.span).toNat
              omega
          · have c152 : ¬ (self.span < 16777216) := c152
            have hs : self = encNarrow self_ chance decision := by
              unfold encNarrow encNorm
              rcases hu with h | h
              · rw [if_neg (by rw [← h]; omega)]; exact h
              · rw [if_pos h.2.1]; exact h.1
            have E174 : ((⟨self.probs, self.front, self.low, self.span⟩) : EncS) = encNarrow self_ chance decision := by exact hs
            exact (k _ _ E174 S148.base h149 h150 h151)
      · have c130 : ¬ (4294967296 ≤ (self_.low + ((self_.span / 4096) * chance))) := c130
        refine ⟨fun m σ H' => ∃ (self : EncS), σ = [some (V.ref p_self), some (V.int (chance)), some (V.int (decision)), some (V.int (((self_.span / 4096) * chance)))] ∧ Sep [p_self, l_self_probs, l_self_front] H (hideL [p_self, l_self_probs, l_self_front] H) (hideL [p_self, l_self_probs, l_self_front] H) H' [p_self, l_self_probs, l_self_front] ∧ H' p_self = some (.ins AD.c_Encoder dx_self [("_probabilities", V.ref l_self_probs), ("_front", V.ref l_self_front), ("_low", V.int (self.low)), ("_span", V.int (self.span))]) ∧ H' l_self_probs = some (.lst ((self.probs).map V.int)) ∧ H' l_self_front = some (.lst ((self.front).map V.int)) ∧ ((m = (16777216 - self.span).toNat) ∧ (self = encPre self_ chance decision ∨ (self = encNorm1 (encPre self_ chance decision) ∧ (encPre self_ chance decision).span < 16777216 ∧ 16777216 ≤ self.span))), ?_, ?_⟩
        · have h175 := (x126 _ _ (x120 _ _ h_self_probs (ne_of h_self_probs h_self (fun z => nomatch z))) (ne_of h_self_probs h_self (fun z => nomatch z)))
          have h176 := (x126 _ _ (x120 _ _ h_self_front (ne_of h_self_front h_self (fun z => nomatch z))) (ne_of h_self_front h_self (fun z => nomatch z)))
          refine ⟨_, ⟨self_.probs, self_.front, (self_.low + ((self_.span / 4096) * chance)), (self_.span - ((self_.span / 4096) * chance))⟩, rfl, S129, h128, h175, h176, rfl, ?_⟩
          left
          simp [encPre, *]
        · intro m σ H177 hw
          obtain ⟨self, rfl, S178, h179, h180, h181, hu⟩ := hw
          obtain ⟨hm, hu⟩ := hu
          refine ⟨_, rfl, _, _, _, _, _, rfl, h179, T.cl_Encoder, T.n_Encoder__span, rfl, _, _, rfl, rfl, _, rfl, ?_⟩
          refine iteD (fun c182 => ?_) (fun c182 => ?_)
          · have c182 : self.span < 16777216 := c182
            have hs : self = encPre self_ chance decision := by
              rcases hu with h | h
              · exact h
              · omega
            refine ⟨(fun σ H' => ∃ m', (∃ (self : EncS), σ = [some (V.ref p_self), some (V.int (chance)), some (V.int (decision)), some (V.int (((self_.span / 4096) * chance)))] ∧ Sep [p_self, l_self_probs, l_self_front] H (hideL [p_self, l_self_probs, l_self_front] H) (hideL [p_self, l_self_probs, l_self_front] H) H' [p_self, l_self_probs, l_self_front] ∧ H' p_self = some (.ins AD.c_Encoder dx_self [("_probabilities", V.ref l_self_probs), ("_front", V.ref l_self_front), ("_low", V.int (self.low)), ("_span", V.int (self.span))]) ∧ H' l_self_probs = some (.lst ((self.probs).map V.int)) ∧ H' l_self_front = some (.lst ((self.front).map V.int)) ∧ ((m' = (16777216 - self.span).toNat) ∧ (self = encPre self_ chance decision ∨ (self = encNorm1 (encPre self_ chance decision) ∧ (encPre self_ chance decision).span < 16777216 ∧ 16777216 ≤ self.span)))) ∧ m' < m), (fun _ _ ⟨m', a, b⟩ => ⟨m', b, a⟩), ?_⟩
            refine ⟨_, rfl, _, _, _, _, _, rfl, h179, T.cl_Encoder, T.n_Encoder__front, rfl, (.inl ⟨rfl, _, SqL.of h181⟩), _, rfl, _, _, _, _, _, rfl, h179, T.cl_Encoder, T.n_Encoder__low, rfl, _, _, rfl, rfl, (show (0 : Int) ≤ 24 by decide), _, _, _, rfl, rfl, h181, (app_lenM (by rw [hs]; have := len_pre self_ chance decision; omega)), ?_⟩
            generalize g183 : upd H177 l_self_front _ = H184
            obtain ⟨x185, h186⟩ := gen_mut g183
            have h187 : H184 l_self_front = some (.lst (((self.front) ++ [(self.low / 16777216)] : (List Int)).map V.int)) := snoc_map h186
            have S188 := S178.mut1 x185 (.tail _ (.tail _ (.head _))) h187
            have h189 := (x185 _ _ h179 (ne_of h179 h181 (fun z => nomatch z)))
            refine ⟨_, rfl, _, _, _, _, _, rfl, h189, T.cl_Encoder, T.n_Encoder__low, rfl, _, _, rfl, rfl, (by exact shl32 (by rw [hs]; exact hpre.low) (by decide)), _, _, rfl, rfl, _, _, rfl, rfl, _, rfl, _, _, _, _, rfl, h189, T.cl_Encoder, T.n_Encoder__low, (by show 4 < 1000; decide), ?_⟩
            generalize g190 : upd H184 p_self _ = H191
            obtain ⟨x192, h193⟩ := gen_mut g190
            have h194 : H191 p_self = some (.ins AD.c_Encoder dx_self [("_probabilities", V.ref l_self_probs), ("_front", V.ref l_self_front), ("_low", V.int ((PySem.Builtin.bitAnd ((self.low * 256)) ((4294967296 - 1))))), ("_span", V.int (self.span))]) := h193
            have S195 := S188.mut1 x192 (.head _) h194
            refine ⟨_, rfl, _, _, _, _, _, rfl, h194, T.cl_Encoder, T.n_Encoder__span, rfl, _, _, rfl, rfl, (by exact shl32 (by have := hpre.span0; rw [← hs] at this; omega) (by decide)), _, _, h194, (by show 4 < 1000; decide), ?_⟩
            generalize g196 : upd H191 p_self _ = H197
            obtain ⟨x198, h199⟩ := gen_mut g196
            have h200 : H197 p_self = some (.ins AD.c_Encoder dx_self [("_probabilities", V.ref l_self_probs), ("_front", V.ref l_self_front), ("_low", V.int ((PySem.Builtin.bitAnd ((self.low * 256)) ((4294967296 - 1))))), ("_span", V.int ((self.span * 256)))]) := h199
            have S201 := S195.mut1 x198 (.head _) h200
            have h202 := (x198 _ _ (x192 _ _ (x185 _ _ h180 ne_self_0) (ne_of h180 h179 (fun z => nomatch z))) (ne_of h180 h179 (fun z => nomatch z)))
            have h203 := (x198 _ _ (x192 _ _ h187 (ne_of h187 h189 (fun z => nomatch z))) (ne_of h187 h189 (fun z => nomatch z)))
            refine ⟨_, ⟨⟨self.probs, (self.front) ++ [(self.low / 16777216)], (PySem.Builtin.bitAnd ((self.low * 256)) ((4294967296 - 1))), (self.span * 256)⟩, rfl, S201, h200, h202, h203, rfl, ?_⟩, ?_⟩
            · right
              rw [hs]
              exact ⟨encNorm_eq _, by rw [← hs]; omega, norm_span hpre⟩
            · rw [hm]
              have := hpre.span0
              rw [← hs] at this
              show (16777216 - self.span * 256).toNat < (16777216 - self.span).toNat
              omega
          · have c182 : ¬ (self.span < 16777216) := c182
            have hs : self = encNarrow self_ chance decision := by
              unfold encNarrow encNorm
              rcases hu with h | h
              · rw [if_neg (by rw [← h]; omega)]; exact h
              · rw [if_pos h.2.1]; exact h.1
            have E204 : ((⟨self.probs, self.front, self.low, self.span⟩) : EncS) = encNarrow self_ chance decision := by exact hs
            exact (k _ _ E204 S178.base h179 h180 h181)

abbrev N_Encoder_code : List Str := ["self", "context", "decision", "chance"]
theorem sc_Encoder_code : FnScope N_Encoder_code ["self", "context", "decision"] (defScope s_Encoder_code) := ⟨rfl, rfl, rfl, by decide +kernel, rfl, by decide +kernel, by decide +kernel⟩
theorem ok_Encoder_code (D : MethIn K AD.c_Encoder "Encoder.code" "code" s_Encoder_code ["self", "context", "decision"]) (T : Txt K mg AD) (c__check_context : Cal P w K mg base 1 "_check_context" (sp__check_context K AD)) (c__check_decision : Cal P w K mg base 1 "_check_decision" (sp__check_decision K AD)) (c_Encoder__narrow : MetC P w K mg base 2 AD.c_Encoder "_narrow" (sp_Encoder__narrow K AD)) (c__adapted : Cal P w K mg base 1 "_adapted" (sp__adapted K AD)) : MetC P w K mg base 3 AD.c_Encoder "code" (sp_Encoder_code K AD) := by
  refine D.ok T.cl_Encoder sc_Encoder_code (fun vs H Q E h => ?_) (fun f cdv A_ outer s H vs Q E hr h => ?_)
  · obtain ⟨p_self, dx_self, l_self_probs, l_self_front, self_, context, decision, rfl, _⟩ := h
    rfl
  · obtain ⟨p_self, dx_self, l_self_probs, l_self_front, self_, context, decision, rfl, h_self, h_self_probs, h_self_front, ne_self_0, pre0, pre1, pre2, pre3, pre4, pre5, k⟩ := h
    refine ⟨_, (pss_cons (ps_expr (vx_call c__check_context hr (by decide) rfl (pa_cons (pv 1) pa_nil)))
      (pss_cons (ps_expr (vx_call c__check_decision hr (by decide) rfl (pa_cons (pv 2) pa_nil)))
      (pss_cons (ps_set (i := 3) sc_Encoder_code.nd rfl (Or.inl rfl) (pe_ix (ix_listK (K := K)) (fldK (K := K) (pv 0)) (pv 1) (fun _ _ => rfl)))
      (pss_cons (ps_expr (vx_meth c_Encoder__narrow hr (by decide) (pv 0) (pa_cons (pv 3) (pa_cons (pv 2) pa_nil))))
      (pss_one (ps_asg (vx_call c__adapted hr (by decide) rfl (pa_cons (pv 3) (pa_cons (pv 2) pa_nil))) (pg_sub (fldK (K := K) (pv 0)) (pv 1) set_list))))))), ?_⟩
    have hM : ∀ a ∈ [p_self, l_self_probs, l_self_front], H a ≠ none := (all_cons (some_ne h_self) (all_cons (some_ne h_self_probs) (all_cons (some_ne h_self_front) all_nil)))
    have S0 := Sep.start [p_self, l_self_probs, l_self_front] H hM
    have hch := pre0.chance pre1 pre2
    have hlen := pre0.len
    refine ⟨_, rfl, _, rfl, (by first | assumption | omega | decide), (by first | assumption | omega | decide), _, rfl, _, rfl, (by first | assumption | omega | decide), (by first | assumption | omega | decide), _, rfl, _, _, _, _, _, rfl, h_self, T.cl_Encoder, T.n_Encoder__probabilities, rfl, _, rfl, _, _, _, _, rfl, rfl, (SqL.of h_self_probs), (atI_map (by first | (rw [hlen]; omega) | (rw [hlen, probs_narrow, hlen]; omega))), _, rfl, _, _, _, rfl, h_self, rfl, _, rfl, _, rfl, _, _, _, _, (self_ : EncS), _, _, rfl, h_self, h_self_probs, h_self_front, ne_self_0, (by first | assumption | omega | decide), (by first | assumption | omega | decide), (by first | assumption | omega | decide), fun H205 s206 q207 x208 h209 h211 h212  => ?_⟩
    have S210 := S0.mut x208 (all_cons (.head _) (all_cons (.tail _ (.head _)) (all_cons (.tail _ (.tail _ (.head _))) all_nil))) (all_cons (some_ne h209) (all_cons (some_ne h211) (all_cons (some_ne h212) all_nil)))
    refine ⟨_, rfl, _, rfl, _, _, rfl, _, rfl, _, _, _, _, _, rfl, h209, T.cl_Encoder, T.n_Encoder__probabilities, rfl, _, rfl, _, _, _, _, rfl, rfl, h211, (ixN_map (by first | (rw [hlen]; omega) | (rw [q207, probs_narrow, hlen]; omega))), ?_⟩
    generalize g213 : upd H205 l_self_probs _ = H214
    obtain ⟨x215, h216⟩ := gen_mut g213
    have h217 : H214 l_self_probs = some (.lst ((setL (s206.probs) (context) (adaptE ((itD (self_.probs) (context))) (decision)) : (List Int)).map V.int)) := set_map h216
    have S218 := S210.mut1 x215 (.tail _ (.head _)) h217
    have h219 := (x215 _ _ h209 (ne_of h209 h211 (fun z => nomatch z)))
    have h220 := (x215 _ _ h212 (ne_self_0).symm)
    have E221 : ((⟨setL (s206.probs) (context) (adaptE ((itD (self_.probs) (context))) (decision)), s206.front, s206.low, s206.span⟩) : EncS) = encCode self_ context decision := by rw [q207]; rfl
    exact (k _ _ E221 S218.base h219 h217 h220)

abbrev N_Encoder_code_even : List Str := ["self", "decision"]
theorem sc_Encoder_code_even : FnScope N_Encoder_code_even ["self", "decision"] (defScope s_Encoder_code_even) := ⟨rfl, rfl, rfl, by decide +kernel, rfl, by decide +kernel, by decide +kernel⟩
theorem ok_Encoder_code_even (D : MethIn K AD.c_Encoder "Encoder.code_even" "code_even" s_Encoder_code_even ["self", "decision"]) (T : Txt K mg AD) (c__check_decision : Cal P w K mg base 1 "_check_decision" (sp__check_decision K AD)) (c_Encoder__narrow : MetC P w K mg base 2 AD.c_Encoder "_narrow" (sp_Encoder__narrow K AD)) : MetC P w K mg base 3 AD.c_Encoder "code_even" (sp_Encoder_code_even K AD) := by
  refine D.ok T.cl_Encoder sc_Encoder_code_even (fun vs H Q E h => ?_) (fun f cdv A_ outer s H vs Q E hr h => ?_)
  · obtain ⟨p_self, dx_self, l_self_probs, l_self_front, self_, decision, rfl, _⟩ := h
    rfl
  · obtain ⟨p_self, dx_self, l_self_probs, l_self_front, self_, decision, rfl, h_self, h_self_probs, h_self_front, ne_self_0, pre0, pre1, pre2, pre3, k⟩ := h
    refine ⟨_, (pss_cons (ps_expr (vx_call c__check_decision hr (by decide) rfl (pa_cons (pv 1) pa_nil)))
      (pss_one (ps_expr (vx_meth c_Encoder__narrow hr (by decide) (pv 0) (pa_cons (C8.pe_gc rfl T.g_EVEN) (pa_cons (pv 1) pa_nil)))))), ?_⟩
    have hM : ∀ a ∈ [p_self, l_self_probs, l_self_front], H a ≠ none := (all_cons (some_ne h_self) (all_cons (some_ne h_self_probs) (all_cons (some_ne h_self_front) all_nil)))
    have S0 := Sep.start [p_self, l_self_probs, l_self_front] H hM
    refine ⟨_, rfl, _, rfl, (by first | assumption | omega | decide), (by first | assumption | omega | decide), _, rfl, _, _, _, rfl, h_self, rfl, _, rfl, _, _, _, _, (self_ : EncS), _, _, rfl, h_self, h_self_probs, h_self_front, ne_self_0, (by first | assumption | omega | decide), (by first | assumption | omega | decide), (by first | assumption | omega | decide), fun H222 s223 q224 x225 h226 h228 h229  => ?_⟩
    have S227 := S0.mut x225 (all_cons (.head _) (all_cons (.tail _ (.head _)) (all_cons (.tail _ (.tail _ (.head _))) all_nil))) (all_cons (some_ne h226) (all_cons (some_ne h228) (all_cons (some_ne h229) all_nil)))
    have E230 : ((⟨s223.probs, s223.front, s223.low, s223.span⟩) : EncS) = encNarrow self_ 2048 decision := by exact q224
    exact (k _ _ E230 S227.base h226 h228 h229)

abbrev N_Encoder_octets : List Str := ["self", "octets", "shift"]
theorem sc_Encoder_octets : FnScope N_Encoder_octets ["self"] (defScope s_Encoder_octets) := ⟨rfl, rfl, rfl, by decide +kernel, rfl, by decide +kernel, by decide +kernel⟩
theorem ok_Encoder_octets (D : MethIn K AD.c_Encoder "Encoder.octets" "octets" s_Encoder_octets ["self"]) (T : Txt K mg AD)  : MetC P w K mg base 1 AD.c_Encoder "octets" (sp_Encoder_octets K AD) := by
  refine D.ok T.cl_Encoder sc_Encoder_octets (fun vs H Q E h => ?_) (fun f cdv A_ outer s H vs Q E hr h => ?_)
  · obtain ⟨p_self, dx_self, l_self_probs, l_self_front, self_, rfl, _⟩ := h
    rfl
  · obtain ⟨p_self, dx_self, l_self_probs, l_self_front, self_, rfl, h_self, h_self_probs, h_self_front, ne_self_0, pre0, k⟩ := h
    refine ⟨_, (pss_cons (ps_set (i := 1) sc_Encoder_octets.nd rfl (Or.inl rfl) (pe_op op_cat (fldK (K := K) (pv 0)) (pe_lc (own := [("shift", 2)]) (g := gName 2) (by rfl) sc_Encoder_octets.nd (pi_tupK (K := K) (pe_tup (pa_cons pe_int (pa_cons pe_int (pa_cons pe_int (pa_cons pe_int pa_nil)))))) (blkOk_by (own := [("shift", 2)]) (N := N_Encoder_octets) (sc := defScope s_Encoder_octets) (by decide +kernel)) (fun _ _ _ _ _ => (pg_name (i := 2) sc_Encoder_octets.nd rfl (Or.inl rfl))) (fun _ _ _ _ _ => pts_nil) (fun _ _ _ _ _ => (pe_op op_and (pe_op op_shr (fldK (K := K) (pv 0)) (pv 2)) pe_int)))))
      (pss_cons (ps_while PassesOwn.never (PW.pt (pw_and (pt_truth (pv 1) (fun _ => rfl)) (pw_and1 (pt_cmp (pc_eqI (pe_ix (ix_listK (K := K)) (pv 1) (pe_un un_neg pe_int) (fun _ _ => rfl)) pe_int))))) (pss_one (ps_expr (pe_bm0 PySem.F.plainAttrs_list PySem.F.slot_list_pop PySem.F.type_list_pop mt_pop (pv 1)))))
      (pss_one (ps_ret (pv 1))))), ?_⟩
    have S0 := Sep.start0 H
    refine ⟨_, rfl, _, _, _, _, _, rfl, (S0.sG _ _ h_self), T.cl_Encoder, T.n_Encoder__front, rfl, (by show 4 ≤ sizeLine; decide), fun p231 n232 => ?_⟩
    generalize g233 : upd H p231 _ = H234
    obtain ⟨e235, h236⟩ := gen_new n232 g233
    have h237 : H234 p231 = some (.tup [V.int (24), V.int (16), V.int (8), V.int (0)]) := h236
    have fr238 := S0.free n232
    obtain ⟨G240, eG241, hg242, S239⟩ := S0.grow n232 e235 h237 fr238
    refine ⟨_, rfl, ⟨_, (SqT.of (S239.sG _ _ hg242))⟩, fun D243 n244 => lc_tup (K := K) (a := p231) (xs := (([24, 16, 8, 0] : List Int).map V.int)) (fun i H' => Sep [] H H G240 H' [D243] ∧ H' D243 = some (.lst (((List.map (fun k => PySem.Builtin.bitAnd (self_.low / 2 ^ Int.toNat k) 255) (List.take i ([24, 16, 8, 0] : List Int))) : (List Int)).map V.int))) ?_ ?_ ?_ ?_⟩
    · generalize g245 : upd H234 D243 _ = H246
      obtain ⟨e247, h248⟩ := gen_new n244 g245
      have fr249 := S239.free n244
      have S250 := S239.new n244 e247 h248 fr249
      exact ⟨S250, h248⟩
    · intro i H251 _ hw
      obtain ⟨S252, h253⟩ := hw
      exact (SqT.of (S252.sG _ _ hg242))
    · intro i x H254 hj hw
      obtain ⟨S255, h256⟩ := hw
      obtain ⟨shift, hi, rfl⟩ := map_get hj
      refine ⟨rfl, ?_⟩
      refine tyes_go ?_
      refine ⟨_, rfl, _, _, _, _, _, rfl, (S255.sG _ _ (eG241 _ _ h_self)), T.cl_Encoder, T.n_Encoder__low, rfl, _, rfl, _, _, rfl, rfl, (by exact shifts_nn (List.mem_of_getElem? hi)), _, _, rfl, rfl, _, h256, (app_lenM (by simp only [List.length_map, List.length_take]; simp; omega)), ?_⟩
      generalize g257 : upd H254 D243 _ = H258
      obtain ⟨x259, h260⟩ := gen_mut g257
      have S261 := S255.mut1 x259 (.head _) h260
      exact ⟨S261, (compM_list hi h260 (by rfl))⟩
    intro H262 hw
    obtain ⟨S263, h264⟩ := hw
    have fr266 := S239.free n244
    have h265 : H262 D243 = some (.lst (((List.map (fun k => PySem.Builtin.bitAnd (self_.low / 2 ^ Int.toNat k) 255) (([24, 16, 8, 0] : List Int))) : (List Int)).map V.int)) := compM_done (h := fun l => (List.map (fun k => PySem.Builtin.bitAnd (self_.low / 2 ^ Int.toNat k) 255) (l))) (by rw [List.length_map]) h264
    refine ⟨_, _, _, _, rfl, rfl, (S263.sG _ _ (eG241 _ _ h_self_front)), h265, (cat_lenM (by first | omega | (simp only [List.length_map, List.length_append, List.length_take, List.length_range, List.length_cons, List.length_nil, repL_len]; omega))), fun p267 n268 => ?_⟩
    generalize g269 : upd H262 p267 _ = H270
    obtain ⟨e271, h272⟩ := gen_new n268 g269
    have h273 : H270 p267 = some (.lst (((self_.front) ++ ((List.map (fun k => PySem.Builtin.bitAnd (self_.low / 2 ^ Int.toNat k) 255) (([24, 16, 8, 0] : List Int)))) : (List Int)).map V.int)) := cat_map h272
    have fr274 := S263.free n268
    have S275 := S263.new n268 e271 h273 fr274
    refine ⟨fun m σ H' => ∃ (octets : (List Int)), σ = [some (V.ref p_self), some (V.ref p267), none] ∧ Sep [] H H G240 H' [p267] ∧ H' p267 = some (.lst ((octets).map V.int)) ∧ ((m = octets.length) ∧ (stripZ octets = encOctets self_)), ?_, ?_⟩
    · refine ⟨_, ((self_.front) ++ ((List.map (fun k => PySem.Builtin.bitAnd (self_.low / 2 ^ Int.toNat k) 255) (([24, 16, 8, 0] : List Int))))), rfl, (S275.sub (all_cons (.head _) all_nil)), h273, rfl, ?_⟩
      rfl
    · intro m σ H276 hw
      obtain ⟨octets, rfl, S277, h278, hu⟩ := hw
      obtain ⟨hm, hu⟩ := hu
      refine ⟨_, rfl, (!decide ((octets : (List Int)) = [])), (.inl ⟨_, (SqL.of h278), tru_map⟩), ?_⟩
      refine iteN (fun c279 => ?_) (fun c279 => ?_)
      · have c279 : ¬ ((octets : (List Int)) = []) := c279
        refine ⟨_, rfl, _, rfl, _, _, _, _, rfl, rfl, (SqL.of h278), (atI_map (by exact last_in ‹_›)), _, _, rfl, rfl, _, rfl, ?_⟩
        refine iteD (fun c280 => ?_) (fun c280 => ?_)
        · have c280 : ((itD (octets) ((-1))) : Int) = 0 := c280
          refine ⟨(fun σ H' => ∃ m', (∃ (octets : (List Int)), σ = [some (V.ref p_self), some (V.ref p267), none] ∧ Sep [] H H G240 H' [p267] ∧ H' p267 = some (.lst ((octets).map V.int)) ∧ ((m' = octets.length) ∧ (stripZ octets = encOctets self_))) ∧ m' < m), (fun _ _ ⟨m', a, b⟩ => ⟨m', b, a⟩), ?_⟩
          refine ⟨_, rfl, (.inl ⟨rfl, _, SqL.of h278⟩), _, _, _, rfl, rfl, h278, (pop_map (by assumption)), ?_⟩
          generalize g281 : upd H276 p267 _ = H282
          obtain ⟨x283, h284⟩ := gen_mut g281
          have h285 : H282 p267 = some (.lst (((octets).dropLast : (List Int)).map V.int)) := drop_map h284
          have S286 := S277.mut1 x283 (.head _) h285
          refine ⟨_, ⟨((octets).dropLast), rfl, S286, h285, rfl, ?_⟩, ?_⟩
          · exact (strip_pop ‹_› ‹_›).trans hu
          · rw [hm]
            exact drop_less ‹_›
        · have c280 : ¬ (((itD (octets) ((-1))) : Int) = 0) := c280
          refine ⟨_, rfl, ?_⟩
          exact k _ _ fr274 S277.b0 (cast_map h278 (by first | exact (strip_done (.inl ‹_›)).symm.trans hu | exact (strip_done (.inr ‹_›)).symm.trans hu))
      · have c279 : (octets : (List Int)) = [] := c279
        refine iteF ?_
        refine ⟨_, rfl, ?_⟩
        exact k _ _ fr274 S277.b0 (cast_map h278 (by first | exact (strip_done (.inl ‹_›)).symm.trans hu | exact (strip_done (.inr ‹_›)).symm.trans hu))

abbrev N_Encoder_probability : List Str := ["self", "context"]
theorem sc_Encoder_probability : FnScope N_Encoder_probability ["self", "context"] (defScope s_Encoder_probability) := ⟨rfl, rfl, rfl, by decide +kernel, rfl, by decide +kernel, by decide +kernel⟩
theorem ok_Encoder_probability (D : MethIn K AD.c_Encoder "Encoder.probability" "probability" s_Encoder_probability ["self", "context"]) (T : Txt K mg AD) (c__check_context : Cal P w K mg base 1 "_check_context" (sp__check_context K AD)) : MetC P w K mg base 2 AD.c_Encoder "probability" (sp_Encoder_probability K AD) := by
  refine D.ok T.cl_Encoder sc_Encoder_probability (fun vs H Q E h => ?_) (fun f cdv A_ outer s H vs Q E hr h => ?_)
  · obtain ⟨p_self, dx_self, l_self_probs, l_self_front, self_, context, rfl, _⟩ := h
    rfl
  · obtain ⟨p_self, dx_self, l_self_probs, l_self_front, self_, context, rfl, h_self, h_self_probs, h_self_front, ne_self_0, pre0, pre1, pre2, k⟩ := h
    refine ⟨_, (pss_cons (ps_expr (vx_call c__check_context hr (by decide) rfl (pa_cons (pv 1) pa_nil)))
      (pss_one (ps_ret (pe_ix (ix_listK (K := K)) (fldK (K := K) (pv 0)) (pv 1) (fun _ _ => rfl))))), ?_⟩
    have S0 := Sep.start0 H
    refine ⟨_, rfl, _, rfl, (by first | assumption | omega | decide), (by first | assumption | omega | decide), _, rfl, _, _, _, _, _, rfl, (S0.sG _ _ h_self), T.cl_Encoder, T.n_Encoder__probabilities, rfl, _, rfl, _, _, _, _, rfl, rfl, (SqL.of (S0.sG _ _ h_self_probs)), (atI_map (by exact ⟨by omega, by omega⟩)), ?_⟩
    exact eq_int k (by rfl)

abbrev N_Decoder__shift : List Str := ["self", "octet"]
theorem sc_Decoder__shift : FnScope N_Decoder__shift ["self"] (defScope s_Decoder__shift) := ⟨rfl, rfl, rfl, by decide +kernel, rfl, by decide +kernel, by decide +kernel⟩
theorem ok_Decoder__shift (D : MethIn K AD.c_Decoder "Decoder._shift" "_shift" s_Decoder__shift ["self"]) (T : Txt K mg AD)  : MetC P w K mg base 1 AD.c_Decoder "_shift" (sp_Decoder__shift K AD) := by
  refine D.ok T.cl_Decoder sc_Decoder__shift (fun vs H Q E h => ?_) (fun f cdv A_ outer s H vs Q E hr h => ?_)
  · obtain ⟨p_self, dx_self, l_self_probs, l_self_octs, self_, rfl, _⟩ := h
    rfl
  · obtain ⟨p_self, dx_self, l_self_probs, l_self_octs, self_, rfl, h_self, h_self_probs, h_self_octs, ne_self_0, pre0, pre1, k⟩ := h
    refine ⟨_, (pss_cons (ps_set (i := 1) sc_Decoder__shift.nd rfl (Or.inl rfl) pe_int)
      (pss_cons (ps_if (pt_cmp (pc_lt (fldK (K := K) (pv 0)) (pe_callB (call_lenLiK (K := K)) (by rfl) T.b_len (by decide +kernel) (pa_cons (fldK (K := K) (pv 0)) pa_nil)))) (pss_cons (ps_set (i := 1) sc_Decoder__shift.nd rfl (Or.inl rfl) (pe_ix (ix_listK (K := K)) (fldK (K := K) (pv 0)) (fldK (K := K) (pv 0)) (fun _ _ => rfl)))
      (pss_one (ps_fldaug (pv 0) pe_int (pip iop_add)))) pss_nil)
      (pss_one (ps_fld (pv 0) (pe_op op_or (pe_op op_shlW (fldK (K := K) (pv 0)) pe_int) (pv 1)) rfl)))), ?_⟩
    have hM : ∀ a ∈ [p_self, l_self_probs, l_self_octs], H a ≠ none := (all_cons (some_ne h_self) (all_cons (some_ne h_self_probs) (all_cons (some_ne h_self_octs) all_nil)))
    have S0 := Sep.start [p_self, l_self_probs, l_self_octs] H hM
    refine ⟨_, rfl, _, _, _, _, _, rfl, h_self, T.cl_Decoder, T.n_Decoder__place, rfl, _, rfl, _, _, _, _, _, rfl, h_self, T.cl_Decoder, T.n_Decoder__octets, rfl, _, _, rfl, (SqL.of h_self_octs), _, _, rfl, rfl, _, rfl, ?_⟩
    refine iteD (fun c287 => ?_) (fun c287 => ?_)
    · have c287 : self_.place < (((self_.octs) : (List Int)).length : Int) := c287
      refine ⟨_, rfl, _, _, _, _, _, rfl, h_self, T.cl_Decoder, T.n_Decoder__octets, rfl, _, rfl, _, _, _, _, _, rfl, h_self, T.cl_Decoder, T.n_Decoder__place, rfl, _, _, _, _, rfl, rfl, (SqL.of h_self_octs), (atI_map (by have := pre0.place; omega)), _, rfl, _, _, _, _, _, rfl, h_self, T.cl_Decoder, T.n_Decoder__place, rfl, _, _, rfl, rfl, _, _, h_self, (by show 5 < 1000; decide), ?_⟩
      generalize g288 : upd H p_self _ = H289
      obtain ⟨x290, h291⟩ := gen_mut g288
      have h292 : H289 p_self = some (.ins AD.c_Decoder dx_self [("_probabilities", V.ref l_self_probs), ("_octets", V.ref l_self_octs), ("_place", V.int ((self_.place + 1))), ("_span", V.int (self_.span)), ("_value", V.int (self_.value))]) := h291
      have S293 := S0.mut1 x290 (.head _) h292
      refine ⟨_, rfl, _, _, _, _, _, rfl, h292, T.cl_Decoder, T.n_Decoder__value, rfl, _, _, rfl, rfl, (by exact shl32 pre1 (by decide)), _, rfl, _, _, rfl, rfl, _, rfl, _, _, _, _, rfl, h292, T.cl_Decoder, T.n_Decoder__value, (by show 5 < 1000; decide), ?_⟩
      generalize g294 : upd H289 p_self _ = H295
      obtain ⟨x296, h297⟩ := gen_mut g294
      have h298 : H295 p_self = some (.ins AD.c_Decoder dx_self [("_probabilities", V.ref l_self_probs), ("_octets", V.ref l_self_octs), ("_place", V.int ((self_.place + 1))), ("_span", V.int (self_.span)), ("_value", V.int ((PySem.Builtin.bitOr ((self_.value * 256)) ((itD (self_.octs) (self_.place))))))]) := h297
      have S299 := S293.mut1 x296 (.head _) h298
      have h300 := (x296 _ _ (x290 _ _ h_self_probs (ne_of h_self_probs h_self (fun z => nomatch z))) (ne_of h_self_probs h_self (fun z => nomatch z)))
      have h301 := (x296 _ _ (x290 _ _ h_self_octs (ne_of h_self_octs h_self (fun z => nomatch z))) (ne_of h_self_octs h_self (fun z => nomatch z)))
      have E302 : ((⟨self_.probs, self_.octs, (self_.place + 1), self_.span, (PySem.Builtin.bitOr ((self_.value * 256)) ((itD (self_.octs) (self_.place))))⟩) : DecS) = decShift self_ := by first | exact (shift_in ‹_› pre0 pre1.1).symm | exact (shift_out ‹_› pre1.1).symm
      exact (k _ _ E302 S299.base h298 h300 h301)
    · have c287 : ¬ (self_.place < (((self_.octs) : (List Int)).length : Int)) := c287
      refine ⟨_, rfl, _, _, _, _, _, rfl, h_self, T.cl_Decoder, T.n_Decoder__value, rfl, _, _, rfl, rfl, (by exact shl32 pre1 (by decide)), _, rfl, _, _, rfl, rfl, _, rfl, _, _, _, _, rfl, h_self, T.cl_Decoder, T.n_Decoder__value, (by show 5 < 1000; decide), ?_⟩
      generalize g303 : upd H p_self _ = H304
      obtain ⟨x305, h306⟩ := gen_mut g303
      have h307 : H304 p_self = some (.ins AD.c_Decoder dx_self [("_probabilities", V.ref l_self_probs), ("_octets", V.ref l_self_octs), ("_place", V.int (self_.place)), ("_span", V.int (self_.span)), ("_value", V.int ((PySem.Builtin.bitOr ((self_.value * 256)) (0))))]) := h306
      have S308 := S0.mut1 x305 (.head _) h307
      have h309 := (x305 _ _ h_self_probs (ne_of h_self_probs h_self (fun z => nomatch z)))
      have h310 := (x305 _ _ h_self_octs (ne_of h_self_octs h_self (fun z => nomatch z)))
      have E311 : ((⟨self_.probs, self_.octs, self_.place, self_.span, (PySem.Builtin.bitOr ((self_.value * 256)) (0))⟩) : DecS) = decShift self_ := by first | exact (shift_in ‹_› pre0 pre1.1).symm | exact (shift_out ‹_› pre1.1).symm
      exact (k _ _ E311 S308.base h307 h309 h310)

abbrev N_Decoder__decide : List Str := ["self", "chance", "part", "decision"]
theorem sc_Decoder__decide : FnScope N_Decoder__decide ["self", "chance"] (defScope s_Decoder__decide) := ⟨rfl, rfl, rfl, by decide +kernel, rfl, by decide +kernel, by decide +kernel⟩
theorem ok_Decoder__decide (D : MethIn K AD.c_Decoder "Decoder._decide" "_decide" s_Decoder__decide ["self", "chance"]) (T : Txt K mg AD) (c_Decoder__shift : MetC P w K mg base 1 AD.c_Decoder "_shift" (sp_Decoder__shift K AD)) : MetC P w K mg base 2 AD.c_Decoder "_decide" (sp_Decoder__decide K AD) := by
  refine D.ok T.cl_Decoder sc_Decoder__decide (fun vs H Q E h => ?_) (fun f cdv A_ outer s H vs Q E hr h => ?_)
  · obtain ⟨p_self, dx_self, l_self_probs, l_self_octs, self_, chance, rfl, _⟩ := h
    rfl
  · obtain ⟨p_self, dx_self, l_self_probs, l_self_octs, self_, chance, rfl, h_self, h_self_probs, h_self_octs, ne_self_0, pre0, pre1, k⟩ := h
    refine ⟨_, (pss_cons (ps_set (i := 2) sc_Decoder__decide.nd rfl (Or.inl rfl) (pe_op op_mul (pe_op op_shr (fldK (K := K) (pv 0)) (C8.pe_gc rfl T.g_SCALE_BITS)) (pv 1)))
      (pss_cons (ps_set (i := 3) sc_Decoder__decide.nd rfl (Or.inl rfl) (pe_ifExp (pt_cmp (pc_lt (fldK (K := K) (pv 0)) (pv 2))) pe_int pe_int))
      (pss_cons (ps_if (pt_cmp (pc_eqI (pv 3) pe_int)) (pss_one (ps_fld (pv 0) (pv 2) rfl)) (pss_cons (ps_fldaug (pv 0) (pv 2) (pip iop_sub))
      (pss_one (ps_fldaug (pv 0) (pv 2) (pip iop_sub)))))
      (pss_cons (ps_while PassesOwn.never (pt_cmp (pc_lt (fldK (K := K) (pv 0)) (C8.pe_gc rfl T.g_LEAST_SPAN))) (pss_cons (ps_expr (vx_meth0 c_Decoder__shift hr (by decide) (pv 0)))
      (pss_one (ps_fldaug (pv 0) pe_int (pip iop_shlW)))))
      (pss_one (ps_ret (pv 3))))))), ?_⟩
    have hM : ∀ a ∈ [p_self, l_self_probs, l_self_octs], H a ≠ none := (all_cons (some_ne h_self) (all_cons (some_ne h_self_probs) (all_cons (some_ne h_self_octs) all_nil)))
    have S0 := Sep.start [p_self, l_self_probs, l_self_octs] H hM
    have hd := decPre_ok pre0 pre1
    have hsp := pre0.span
    have hpi := part_in pre0.span pre1
    refine ⟨_, rfl, _, _, _, _, _, rfl, h_self, T.cl_Decoder, T.n_Decoder__span, rfl, _, _, rfl, rfl, (show (0 : Int) ≤ 12 by decide), _, rfl, _, _, rfl, rfl, (by exact .inr ⟨by omega, by omega⟩), ?_⟩
    refine vv_if (vt_cmp (vv_cmp (val_fld (val_var rfl) h_self T.cl_Decoder T.n_Decoder__value rfl) (val_var rfl) (fun Q q => ⟨_, _, rfl, rfl, q⟩))) val_c val_c _ ?_
    refine ⟨_, rfl, _, _, rfl, rfl, _, rfl, ?_⟩
    refine iteD (fun c312 => ?_) (fun c312 => ?_)
    · have c312 : ((if self_.value < ((self_.span / 4096) * chance) then 0 else 1) : Int) = 0 := c312
      refine ⟨_, rfl, _, rfl, _, _, _, _, rfl, h_self, T.cl_Decoder, T.n_Decoder__span, (by show 5 < 1000; decide), ?_⟩
      generalize g313 : upd H p_self _ = H314
      obtain ⟨x315, h316⟩ := gen_mut g313
      have h317 : H314 p_self = some (.ins AD.c_Decoder dx_self [("_probabilities", V.ref l_self_probs), ("_octets", V.ref l_self_octs), ("_place", V.int (self_.place)), ("_span", V.int (((self_.span / 4096) * chance))), ("_value", V.int (self_.value))]) := h316
      have S318 := S0.mut1 x315 (.head _) h317
      refine ⟨fun m σ H' => ∃ (self : DecS), σ = [some (V.ref p_self), some (V.int (chance)), some (V.int (((self_.span / 4096) * chance))), some (V.int ((if self_.value < ((self_.span / 4096) * chance) then 0 else 1)))] ∧ Sep [p_self, l_self_probs, l_self_octs] H (hideL [p_self, l_self_probs, l_self_octs] H) (hideL [p_self, l_self_probs, l_self_octs] H) H' [p_self, l_self_probs, l_self_octs] ∧ H' p_self = some (.ins AD.c_Decoder dx_self [("_probabilities", V.ref l_self_probs), ("_octets", V.ref l_self_octs), ("_place", V.int (self.place)), ("_span", V.int (self.span)), ("_value", V.int (self.value))]) ∧ H' l_self_probs = some (.lst ((self.probs).map V.int)) ∧ H' l_self_octs = some (.lst ((self.octs).map V.int)) ∧ ((m = (16777216 - self.span).toNat) ∧ (self = decPre self_ chance ∨ (self = decNorm1 (decPre self_ chance) ∧ (decPre self_ chance).span < 16777216 ∧ 16777216 ≤ self.span))), ?_, ?_⟩
      · have h319 := (x315 _ _ h_self_probs (ne_of h_self_probs h_self (fun z => nomatch z)))
        have h320 := (x315 _ _ h_self_octs (ne_of h_self_octs h_self (fun z => nomatch z)))
        refine ⟨_, ⟨self_.probs, self_.octs, self_.place, ((self_.span / 4096) * chance), self_.value⟩, rfl, S318, h317, h319, h320, rfl, ?_⟩
        left
        unfold decPre
        first | (rw [if_pos (ite01 ‹_›)]; done) | (rw [if_neg (ite10 ‹_›)]; done)
      · intro m σ H321 hw
        obtain ⟨self, rfl, S322, h323, h324, h325, hu⟩ := hw
        obtain ⟨hm, hu⟩ := hu
        refine ⟨_, rfl, _, _, _, _, _, rfl, h323, T.cl_Decoder, T.n_Decoder__span, rfl, _, _, rfl, rfl, _, rfl, ?_⟩
        refine iteD (fun c326 => ?_) (fun c326 => ?_)
        · have c326 : self.span < 16777216 := c326
          have hs : self = decPre self_ chance := by
            rcases hu with h | h
            · exact h
            · omega
          refine ⟨(fun σ H' => ∃ m', (∃ (self : DecS), σ = [some (V.ref p_self), some (V.int (chance)), some (V.int (((self_.span / 4096) * chance))), some (V.int ((if self_.value < ((self_.span / 4096) * chance) then 0 else 1)))] ∧ Sep [p_self, l_self_probs, l_self_octs] H (hideL [p_self, l_self_probs, l_self_octs] H) (hideL [p_self, l_self_probs, l_self_octs] H) H' [p_self, l_self_probs, l_self_octs] ∧ H' p_self = some (.ins AD.c_Decoder dx_self [("_probabilities", V.ref l_self_probs), ("_octets", V.ref l_self_octs), ("_place", V.int (self.place)), ("_span", V.int (self.span)), ("_value", V.int (self.value))]) ∧ H' l_self_probs = some (.lst ((self.probs).map V.int)) ∧ H' l_self_octs = some (.lst ((self.octs).map V.int)) ∧ ((m' = (16777216 - self.span).toNat) ∧ (self = decPre self_ chance ∨ (self = decNorm1 (decPre self_ chance) ∧ (decPre self_ chance).span < 16777216 ∧ 16777216 ≤ self.span)))) ∧ m' < m), (fun _ _ ⟨m', a, b⟩ => ⟨m', b, a⟩), ?_⟩
          refine ⟨_, rfl, _, _, _, rfl, h323, rfl, _, _, _, _, (self : DecS), rfl, h323, h324, h325, ne_self_0, (by first | (rw [hs]; exact hd.o) | (rw [hs]; have := hd.value; have := hd.span; exact ⟨by omega, by omega⟩)), (by first | (rw [hs]; exact hd.o) | (rw [hs]; have := hd.value; have := hd.span; exact ⟨by omega, by omega⟩)), fun H327 s328 q329 x330 h331 h333 h334  => ?_⟩
          have S332 := S322.mut x330 (all_cons (.head _) (all_cons (.tail _ (.head _)) (all_cons (.tail _ (.tail _ (.head _))) all_nil))) (all_cons (some_ne h331) (all_cons (some_ne h333) (all_cons (some_ne h334) all_nil)))
          refine ⟨_, rfl, _, _, _, _, _, rfl, h331, T.cl_Decoder, T.n_Decoder__span, rfl, _, _, rfl, rfl, (by exact shl32 (by rw [q329, hs]; have := hd.span; exact ⟨by show 0 ≤ (decPre self_ chance).span; omega, by show (decPre self_ chance).span < _; omega⟩) (by decide)), _, _, h331, (by show 5 < 1000; decide), ?_⟩
          generalize g335 : upd H327 p_self _ = H336
          obtain ⟨x337, h338⟩ := gen_mut g335
          have h339 : H336 p_self = some (.ins AD.c_Decoder dx_self [("_probabilities", V.ref l_self_probs), ("_octets", V.ref l_self_octs), ("_place", V.int (s328.place)), ("_span", V.int ((s328.span * 256))), ("_value", V.int (s328.value))]) := h338
          have S340 := S332.mut1 x337 (.head _) h339
          have h341 := (x337 _ _ h333 (ne_of h333 h331 (fun z => nomatch z)))
          have h342 := (x337 _ _ h334 (ne_of h334 h331 (fun z => nomatch z)))
          refine ⟨_, ⟨⟨s328.probs, s328.octs, s328.place, (s328.span * 256), s328.value⟩, rfl, S340, h339, h341, h342, rfl, ?_⟩, ?_⟩
          · right
            rw [q329, hs]
            exact ⟨rfl, by rw [← hs]; omega, by show 16777216 ≤ (decPre self_ chance).span * 256; have := hd.span; omega⟩
          · rw [hm, q329, hs]
            have hx := hd.span
            have hc : (decPre self_ chance).span < 16777216 := by
              rw [← hs]
              omega
            show (16777216 - (decPre self_ chance).span * 256).toNat < (16777216 - (decPre self_ chance).span).toNat
            omega
        · have c326 : ¬ (self.span < 16777216) := c326
          have hs : self = decDecide self_ chance := by
            unfold decDecide decNorm
            rcases hu with h | h
            · rw [if_neg (by rw [← h]; omega)]; exact h
            · rw [if_pos h.2.1]; exact h.1
          refine ⟨_, rfl, ?_⟩
          have E343 : ((⟨self.probs, self.octs, self.place, self.span, self.value⟩) : DecS) = decDecide self_ chance := by exact hs
          exact eq_int (k _ _ E343 S322.base h323 h324 h325) (by rfl)
    · have c312 : ¬ (((if self_.value < ((self_.span / 4096) * chance) then 0 else 1) : Int) = 0) := c312
      refine ⟨_, rfl, _, _, _, _, _, rfl, h_self, T.cl_Decoder, T.n_Decoder__value, rfl, _, rfl, _, _, rfl, rfl, _, _, h_self, (by show 5 < 1000; decide), ?_⟩
      generalize g344 : upd H p_self _ = H345
      obtain ⟨x346, h347⟩ := gen_mut g344
      have h348 : H345 p_self = some (.ins AD.c_Decoder dx_self [("_probabilities", V.ref l_self_probs), ("_octets", V.ref l_self_octs), ("_place", V.int (self_.place)), ("_span", V.int (self_.span)), ("_value", V.int ((self_.value - ((self_.span / 4096) * chance))))]) := h347
      have S349 := S0.mut1 x346 (.head _) h348
      refine ⟨_, rfl, _, _, _, _, _, rfl, h348, T.cl_Decoder, T.n_Decoder__span, rfl, _, rfl, _, _, rfl, rfl, _, _, h348, (by show 5 < 1000; decide), ?_⟩
      generalize g350 : upd H345 p_self _ = H351
      obtain ⟨x352, h353⟩ := gen_mut g350
      have h354 : H351 p_self = some (.ins AD.c_Decoder dx_self [("_probabilities", V.ref l_self_probs), ("_octets", V.ref l_self_octs), ("_place", V.int (self_.place)), ("_span", V.int ((self_.span - ((self_.span / 4096) * chance)))), ("_value", V.int ((self_.value - ((self_.span / 4096) * chance))))]) := h353
      have S355 := S349.mut1 x352 (.head _) h354
      refine ⟨fun m σ H' => ∃ (self : DecS), σ = [some (V.ref p_self), some (V.int (chance)), some (V.int (((self_.span / 4096) * chance))), some (V.int ((if self_.value < ((self_.span / 4096) * chance) then 0 else 1)))] ∧ Sep [p_self, l_self_probs, l_self_octs] H (hideL [p_self, l_self_probs, l_self_octs] H) (hideL [p_self, l_self_probs, l_self_octs] H) H' [p_self, l_self_probs, l_self_octs] ∧ H' p_self = some (.ins AD.c_Decoder dx_self [("_probabilities", V.ref l_self_probs), ("_octets", V.ref l_self_octs), ("_place", V.int (self.place)), ("_span", V.int (self.span)), ("_value", V.int (self.value))]) ∧ H' l_self_probs = some (.lst ((self.probs).map V.int)) ∧ H' l_self_octs = some (.lst ((self.octs).map V.int)) ∧ ((m = (16777216 - self.span).toNat) ∧ (self = decPre self_ chance ∨ (self = decNorm1 (decPre self_ chance) ∧ (decPre self_ chance).span < 16777216 ∧ 16777216 ≤ self.span))), ?_, ?_⟩
      · have h356 := (x352 _ _ (x346 _ _ h_self_probs (ne_of h_self_probs h_self (fun z => nomatch z))) (ne_of h_self_probs h_self (fun z => nomatch z)))
        have h357 := (x352 _ _ (x346 _ _ h_self_octs (ne_of h_self_octs h_self (fun z => nomatch z))) (ne_of h_self_octs h_self (fun z => nomatch z)))
        refine ⟨_, ⟨self_.probs, self_.octs, self_.place, (self_.span - ((self_.span / 4096) * chance)), (self_.value - ((self_.span / 4096) * chance))⟩, rfl, S355, h354, h356, h357, rfl, ?_⟩
        left
        unfold decPre
        first | (rw [if_pos (ite01 ‹_›)]; done) | (rw [if_neg (ite10 ‹_›)]; done)
      · intro m σ H358 hw
        obtain ⟨self, rfl, S359, h360, h361, h362, hu⟩ := hw
        obtain ⟨hm, hu⟩ := hu
        refine ⟨_, rfl, _, _, _, _, _, rfl, h360, T.cl_Decoder, T.n_Decoder__span, rfl, _, _, rfl, rfl, _, rfl, ?_⟩
        refine iteD (fun c363 => ?_) (fun c363 => ?_)
        · have c363 : self.span < 16777216 := c363
          have hs : self = decPre self_ chance := by
            rcases hu with h | h
            · exact h
            · omega
          refine ⟨(fun σ H' => ∃ m', (∃ (self : DecS), σ = [some (V.ref p_self), some (V.int (chance)), some (V.int (((self_.span / 4096) * chance))), some (V.int ((if self_.value < ((self_.span / 4096) * chance) then 0 else 1)))] ∧ Sep [p_self, l_self_probs, l_self_octs] H (hideL [p_self, l_self_probs, l_self_octs] H) (hideL [p_self, l_self_probs, l_self_octs] H) H' [p_self, l_self_probs, l_self_octs] ∧ H' p_self = some (.ins AD.c_Decoder dx_self [("_probabilities", V.ref l_self_probs), ("_octets", V.ref l_self_octs), ("_place", V.int (self.place)), ("_span", V.int (self.span)), ("_value", V.int (self.value))]) ∧ H' l_self_probs = some (.lst ((self.probs).map V.int)) ∧ H' l_self_octs = some (.lst ((self.octs).map V.int)) ∧ ((m' = (16777216 - self.span).toNat) ∧ (self = decPre self_ chance ∨ (self = decNorm1 (decPre self_ chance) ∧ (decPre self_ chance).span < 16777216 ∧ 16777216 ≤ self.span)))) ∧ m' < m), (fun _ _ ⟨m', a, b⟩ => ⟨m', b, a⟩), ?_⟩
          refine ⟨_, rfl, _, _, _, rfl, h360, rfl, _, _, _, _, (self : DecS), rfl, h360, h361, h362, ne_self_0, (by first | (rw [hs]; exact hd.o) | (rw [hs]; have := hd.value; have := hd.span; exact ⟨by omega, by omega⟩)), (by first | (rw [hs]; exact hd.o) | (rw [hs]; have := hd.value; have := hd.span; exact ⟨by omega, by omega⟩)), fun H364 s365 q366 x367 h368 h370 h371  => ?_⟩
          have S369 := S359.mut x367 (all_cons (.head _) (all_cons (.tail _ (.head _)) (all_cons (.tail _ (.tail _ (.head _))) all_nil))) (all_cons (some_ne h368) (all_cons (some_ne h370) (all_cons (some_ne h371) all_nil)))
          refine ⟨_, rfl, _, _, _, _, _, rfl, h368, T.cl_Decoder, T.n_Decoder__span, rfl, _, _, rfl, rfl, (by exact shl32 (by rw [q366, hs]; have := hd.span; exact ⟨by show 0 ≤ (decPre self_ chance).span; omega, by show (decPre self_ chance).span < _; omega⟩) (by decide)), _, _, h368, (by show 5 < 1000; decide), ?_⟩
          generalize g372 : upd H364 p_self _ = H373
          obtain ⟨x374, h375⟩ := gen_mut g372
          have h376 : H373 p_self = some (.ins AD.c_Decoder dx_self [("_probabilities", V.ref l_self_probs), ("_octets", V.ref l_self_octs), ("_place", V.int (s365.place)), ("_span", V.int ((s365.span * 256))), ("_value", V.int (s365.value))]) := h375
          have S377 := S369.mut1 x374 (.head _) h376
          have h378 := (x374 _ _ h370 (ne_of h370 h368 (fun z => nomatch z)))
          have h379 := (x374 _ _ h371 (ne_of h371 h368 (fun z => nomatch z)))
          refine ⟨_, ⟨⟨s365.probs, s365.octs, s365.place, (s365.span * 256), s365.value⟩, rfl, S377, h376, h378, h379, rfl, ?_⟩, ?_⟩
          · right
            rw [q366, hs]
            exact ⟨rfl, by rw [← hs]; omega, by show 16777216 ≤ (decPre self_ chance).span * 256; have := hd.span; omega⟩
          · rw [hm, q366, hs]
            have hx := hd.span
            have hc : (decPre self_ chance).span < 16777216 := by
              rw [← hs]
              omega
            show (16777216 - (decPre self_ chance).span * 256).toNat < (16777216 - (decPre self_ chance).span).toNat
            omega
        · have c363 : ¬ (self.span < 16777216) := c363
          have hs : self = decDecide self_ chance := by
            unfold decDecide decNorm
            rcases hu with h | h
            · rw [if_neg (by rw [← h]; omega)]; exact h
            · rw [if_pos h.2.1]; exact h.1
          refine ⟨_, rfl, ?_⟩
          have E380 : ((⟨self.probs, self.octs, self.place, self.span, self.value⟩) : DecS) = decDecide self_ chance := by exact hs
          exact eq_int (k _ _ E380 S359.base h360 h361 h362) (by rfl)

abbrev N_Decoder___init__ : List Str := ["self", "octets", "_"]
theorem sc_Decoder___init__ : FnScope N_Decoder___init__ ["self", "octets"] (defScope s_Decoder___init__) := ⟨rfl, rfl, rfl, by decide +kernel, rfl, by decide +kernel, by decide +kernel⟩
theorem ok_Decoder___init__ (D : InitIn K mg AD.c_Decoder "Decoder" "Decoder.__init__" s_Decoder___init__ ["self", "octets"]) (T : Txt K mg AD) (c_Decoder__shift : MetC P w K mg base 1 AD.c_Decoder "_shift" (sp_Decoder__shift K AD)) : MakC P w K mg base 2 "Decoder" AD.c_Decoder (sp_Decoder___init__ K AD) := by
  refine D.ok sc_Decoder___init__ (fun vs H Q E h => ?_) (fun f cdv A_ outer s H vs Q E hr h => ?_)
  · obtain ⟨p_self, dx_self, a_octets, octets, rfl, _⟩ := h
    rfl
  · obtain ⟨p_self, dx_self, a_octets, octets, rfl, h_self, q_octets, pre0, pre1, k⟩ := h
    refine ⟨_, (pss_cons (ps_fld (pv 0) (pe_op op_rep (pe_lst (pa_cons (C8.pe_gc rfl T.g_EVEN) pa_nil)) (C8.pe_gc rfl T.g_CONTEXTS)) rfl)
      (pss_cons (ps_fld (pv 0) (pe_callTy (call_listLK (K := K)) (by rfl) T.b_list (by decide +kernel) (pa_cons (pv 1) pa_nil)) rfl)
      (pss_cons (ps_fld (pv 0) pe_int rfl)
      (pss_cons (ps_fld (pv 0) (pe_op op_sub (C8.pe_gc rfl T.g_WORD) pe_int) rfl)
      (pss_cons (ps_fld (pv 0) pe_int rfl)
      (pss_cons (ps_for PassesOwn.never rfl (pi_range1 rfl T.b_range (pa_cons pe_int pa_nil)) (pg_name (i := 2) sc_Decoder___init__.nd rfl (Or.inl rfl)) (pss_one (ps_expr (vx_meth0 c_Decoder__shift hr (by decide) (pv 0)))))
      (pss_one (ps_fld (pv 0) (pe_callB (call_min2 rfl) (by rfl) T.b_min (by decide +kernel) (pa_cons (fldK (K := K) (pv 0)) (pa_cons (pe_op op_sub (C8.pe_gc rfl T.g_WORD) pe_int) pa_nil))) rfl)))))))), ?_⟩
    have hM : ∀ a ∈ [p_self], H a ≠ none := (all_cons (some_ne h_self) all_nil)
    have S0 := Sep.start [p_self] H hM
    have h381 : (hideL [p_self] H) a_octets = _ := (hideL_out (ni1 (ne_of q_octets h_self (fun z => nomatch z)))).trans q_octets
    refine ⟨(by show 1 ≤ sizeLine; decide), fun p382 n383 => ?_⟩
    generalize g384 : upd H p382 _ = H385
    obtain ⟨e386, h387⟩ := gen_new n383 g384
    have h388 : H385 p382 = some (.lst (([2048] : (List Int)).map V.int)) := h387
    have fr389 := S0.free n383
    have S390 := S0.new n383 e386 h388 fr389
    refine ⟨_, _, _, rfl, rfl, h388, (by first | omega | decide), (by first | omega | decide), (rep_lenM (by first | omega | (simp only [List.length_map, List.length_append, List.length_take, List.length_range, List.length_cons, List.length_nil, repL_len]; omega))), fun p391 n392 => ?_⟩
    generalize g393 : upd H385 p391 _ = H394
    obtain ⟨e395, h396⟩ := gen_new n392 g393
    have h397 : H394 p391 = some (.lst ((repL ([2048]) (256) : (List Int)).map V.int)) := rep_map h396
    have fr398 := S390.free n392
    have S399 := S390.new n392 e395 h397 fr398
    have h400 := (e395 _ _ (e386 _ _ h_self))
    refine ⟨_, rfl, _, _, _, _, rfl, h400, T.cl_Decoder, T.n_Decoder__probabilities, (by show 0 < 1000; decide), ?_⟩
    generalize g401 : upd H394 p_self _ = H402
    obtain ⟨x403, h404⟩ := gen_mut g401
    have h405 : H402 p_self = some (.ins AD.c_Decoder dx_self [("_probabilities", V.ref p391)]) := h404
    have S406 := S399.mut1 x403 (.tail _ (.tail _ (.head _))) h405
    refine ⟨_, rfl, _, _, rfl, (SqL.of (S406.sG _ _ h381)), fun p407 n408 => ?_⟩
    generalize g409 : upd H402 p407 _ = H410
    obtain ⟨e411, h412⟩ := gen_new n408 g409
    have h413 : H410 p407 = some (.lst ((octets : (List Int)).map V.int)) := h412
    have fr414 := S406.free n408
    have S415 := S406.new n408 e411 h413 fr414
    have h416 := (e411 _ _ h405)
    refine ⟨_, rfl, _, _, _, _, rfl, h416, T.cl_Decoder, T.n_Decoder__octets, (by show 1 < 1000; decide), ?_⟩
    generalize g417 : upd H410 p_self _ = H418
    obtain ⟨x419, h420⟩ := gen_mut g417
    have h421 : H418 p_self = some (.ins AD.c_Decoder dx_self [("_probabilities", V.ref p391), ("_octets", V.ref p407)]) := h420
    have S422 := S415.mut1 x419 (.tail _ (.tail _ (.tail _ (.head _)))) h421
    refine ⟨_, rfl, _, _, _, _, rfl, h421, T.cl_Decoder, T.n_Decoder__place, (by show 2 < 1000; decide), ?_⟩
    generalize g423 : upd H418 p_self _ = H424
    obtain ⟨x425, h426⟩ := gen_mut g423
    have h427 : H424 p_self = some (.ins AD.c_Decoder dx_self [("_probabilities", V.ref p391), ("_octets", V.ref p407), ("_place", V.int (0))]) := h426
    have S428 := S422.mut1 x425 (.tail _ (.tail _ (.tail _ (.head _)))) h427
    refine ⟨_, _, rfl, rfl, _, rfl, _, _, _, _, rfl, h427, T.cl_Decoder, T.n_Decoder__span, (by show 3 < 1000; decide), ?_⟩
    generalize g429 : upd H424 p_self _ = H430
    obtain ⟨x431, h432⟩ := gen_mut g429
    have h433 : H430 p_self = some (.ins AD.c_Decoder dx_self [("_probabilities", V.ref p391), ("_octets", V.ref p407), ("_place", V.int (0)), ("_span", V.int ((4294967296 - 1)))]) := h432
    have S434 := S428.mut1 x431 (.tail _ (.tail _ (.tail _ (.head _)))) h433
    refine ⟨_, rfl, _, _, _, _, rfl, h433, T.cl_Decoder, T.n_Decoder__value, (by show 4 < 1000; decide), ?_⟩
    generalize g435 : upd H430 p_self _ = H436
    obtain ⟨x437, h438⟩ := gen_mut g435
    have h439 : H436 p_self = some (.ins AD.c_Decoder dx_self [("_probabilities", V.ref p391), ("_octets", V.ref p407), ("_place", V.int (0)), ("_span", V.int ((4294967296 - 1))), ("_value", V.int (0))]) := h438
    have S440 := S434.mut1 x437 (.tail _ (.tail _ (.tail _ (.head _)))) h439
    refine ⟨_, rfl, (by omega), (by omega), for_range (lo := 0) (n := (4 : Int).toNat) (fun i σ H' => ∃ (self : DecS) (u__ : Option V), σ = [some (V.ref p_self), some (V.ref a_octets), u__] ∧ Sep [p_self] H (hideL [p_self] H) (hideL [p_self] H) H' [p_self, p391, p407] ∧ H' p_self = some (.ins AD.c_Decoder dx_self [("_probabilities", V.ref p391), ("_octets", V.ref p407), ("_place", V.int (self.place)), ("_span", V.int (self.span)), ("_value", V.int (self.value))]) ∧ H' p391 = some (.lst ((self.probs).map V.int)) ∧ H' p407 = some (.lst ((self.octs).map V.int)) ∧ (self = decShifts i (decBlank octets))) ?_ ?_ ?_⟩
    · have h441 := (x437 _ _ (x431 _ _ (x425 _ _ (x419 _ _ (e411 _ _ (x403 _ _ h397 (ne_of_none (e386 _ _ h_self) n392).symm)) (ne_of_none (e386 _ _ h_self) n392).symm) (ne_of_none (e386 _ _ h_self) n392).symm) (ne_of_none (e386 _ _ h_self) n392).symm) (ne_of_none (e386 _ _ h_self) n392).symm)
      have h442 := (x437 _ _ (x431 _ _ (x425 _ _ (x419 _ _ h413 (ne_of_none h405 n408).symm) (ne_of_none h405 n408).symm) (ne_of_none h405 n408).symm) (ne_of_none h405 n408).symm)
      refine ⟨⟨repL ([2048]) (256), octets, 0, (4294967296 - 1), 0⟩, _, rfl, (S440.sub (all_cons (.tail _ (.tail _ (.tail _ (.head _)))) (all_cons (.tail _ (.head _)) (all_cons (.head _) all_nil)))), h439, h441, h442, ?_⟩
      rfl
    · intro i σ H443 hi hw
      obtain ⟨self, u__, rfl, S444, h445, h446, h447, hu⟩ := hw
      have hv := shifts_ok (blank_ok pre0) rfl i
      rw [← hu] at hv
      refine ⟨_, rfl, _, _, _, rfl, h445, rfl, _, _, _, _, (self : DecS), rfl, h445, h446, h447, (ne_of_none (x403 _ _ h397 (ne_of_none (e386 _ _ h_self) n392).symm) n408), (by first | exact hv.1 | exact ⟨hv.2.1, pow_turn hi hv.2.2⟩), (by first | exact hv.1 | exact ⟨hv.2.1, pow_turn hi hv.2.2⟩), fun H448 s449 q450 x451 h452 h454 h455  => ?_⟩
      have S453 := S444.mut x451 (all_cons (.head _) (all_cons (.tail _ (.head _)) (all_cons (.tail _ (.tail _ (.head _))) all_nil))) (all_cons (some_ne h452) (all_cons (some_ne h454) (all_cons (some_ne h455) all_nil)))
      refine ⟨s449, _, rfl, S453, h452, h454, h455, ?_⟩
      rw [q450, hu]; rfl
    · intro σ H456 hw
      obtain ⟨self, u__, rfl, S457, h458, h459, h460, hu⟩ := hw
      refine ⟨_, rfl, _, _, _, _, _, rfl, h458, T.cl_Decoder, T.n_Decoder__value, rfl, _, _, rfl, rfl, _, _, rfl, _, rfl, _, _, _, _, rfl, h458, T.cl_Decoder, T.n_Decoder__value, (by show 5 < 1000; decide), ?_⟩
      generalize g461 : upd H456 p_self _ = H462
      obtain ⟨x463, h464⟩ := gen_mut g461
      have h465 : H462 p_self = some (.ins AD.c_Decoder dx_self [("_probabilities", V.ref p391), ("_octets", V.ref p407), ("_place", V.int (self.place)), ("_span", V.int (self.span)), ("_value", V.int ((if (4294967296 - 2) < self.value then (4294967296 - 2) else self.value)))]) := h464
      have S466 := S457.mut1 x463 (.head _) h465
      have h467 := (x463 _ _ h459 (ne_of_none (e386 _ _ h_self) n392).symm)
      have h468 := (x463 _ _ h460 (ne_of_none h405 n408).symm)
      have E469 : ((⟨self.probs, self.octs, self.place, self.span, (if (4294967296 - 2) < self.value then (4294967296 - 2) else self.value)⟩) : DecS) = decInit octets := by rw [hu]; rfl
      exact k _ _ _ _ E469 (sameX_of S466.base) fr398 fr414 (ne_of_none (x403 _ _ h397 (ne_of_none (e386 _ _ h_self) n392).symm) n408) h465 h467 h468

abbrev N_Decoder_read : List Str := ["self", "context", "chance", "decision"]
theorem sc_Decoder_read : FnScope N_Decoder_read ["self", "context"] (defScope s_Decoder_read) := ⟨rfl, rfl, rfl, by decide +kernel, rfl, by decide +kernel, by decide +kernel⟩
theorem ok_Decoder_read (D : MethIn K AD.c_Decoder "Decoder.read" "read" s_Decoder_read ["self", "context"]) (T : Txt K mg AD) (c__check_context : Cal P w K mg base 1 "_check_context" (sp__check_context K AD)) (c_Decoder__decide : MetC P w K mg base 2 AD.c_Decoder "_decide" (sp_Decoder__decide K AD)) (c__adapted : Cal P w K mg base 1 "_adapted" (sp__adapted K AD)) : MetC P w K mg base 3 AD.c_Decoder "read" (sp_Decoder_read K AD) := by
  refine D.ok T.cl_Decoder sc_Decoder_read (fun vs H Q E h => ?_) (fun f cdv A_ outer s H vs Q E hr h => ?_)
  · obtain ⟨p_self, dx_self, l_self_probs, l_self_octs, self_, context, rfl, _⟩ := h
    rfl
  · obtain ⟨p_self, dx_self, l_self_probs, l_self_octs, self_, context, rfl, h_self, h_self_probs, h_self_octs, ne_self_0, pre0, pre1, pre2, k⟩ := h
    refine ⟨_, (pss_cons (ps_expr (vx_call c__check_context hr (by decide) rfl (pa_cons (pv 1) pa_nil)))
      (pss_cons (ps_set (i := 2) sc_Decoder_read.nd rfl (Or.inl rfl) (pe_ix (ix_listK (K := K)) (fldK (K := K) (pv 0)) (pv 1) (fun _ _ => rfl)))
      (pss_cons (ps_set (i := 3) sc_Decoder_read.nd rfl (Or.inl rfl) (vx_meth c_Decoder__decide hr (by decide) (pv 0) (pa_cons (pv 2) pa_nil)))
      (pss_cons (ps_asg (vx_call c__adapted hr (by decide) rfl (pa_cons (pv 2) (pa_cons (pv 3) pa_nil))) (pg_sub (fldK (K := K) (pv 0)) (pv 1) set_list))
      (pss_one (ps_ret (pv 3))))))), ?_⟩
    have hM : ∀ a ∈ [p_self, l_self_probs, l_self_octs], H a ≠ none := (all_cons (some_ne h_self) (all_cons (some_ne h_self_probs) (all_cons (some_ne h_self_octs) all_nil)))
    have S0 := Sep.start [p_self, l_self_probs, l_self_octs] H hM
    have hch := pre0.chance pre1 pre2
    have hlen := pre0.len
    refine ⟨_, rfl, _, rfl, (by first | assumption | omega | decide), (by first | assumption | omega | decide), _, rfl, _, _, _, _, _, rfl, h_self, T.cl_Decoder, T.n_Decoder__probabilities, rfl, _, rfl, _, _, _, _, rfl, rfl, (SqL.of h_self_probs), (atI_map (by first | (rw [hlen]; omega) | (rw [hlen, probs_decide, hlen]; omega))), _, rfl, _, _, _, rfl, h_self, rfl, _, rfl, _, _, _, _, (self_ : DecS), _, rfl, h_self, h_self_probs, h_self_octs, ne_self_0, (by first | assumption | omega | decide), (by first | assumption | omega | decide), fun H470 s471 q472 x473 h474 h476 h477  => ?_⟩
    have S475 := S0.mut x473 (all_cons (.head _) (all_cons (.tail _ (.head _)) (all_cons (.tail _ (.tail _ (.head _))) all_nil))) (all_cons (some_ne h474) (all_cons (some_ne h476) (all_cons (some_ne h477) all_nil)))
    refine ⟨_, rfl, _, rfl, _, _, rfl, _, rfl, _, _, _, _, _, rfl, h474, T.cl_Decoder, T.n_Decoder__probabilities, rfl, _, rfl, _, _, _, _, rfl, rfl, h476, (ixN_map (by first | (rw [hlen]; omega) | (rw [q472, probs_decide, hlen]; omega))), ?_⟩
    generalize g478 : upd H470 l_self_probs _ = H479
    obtain ⟨x480, h481⟩ := gen_mut g478
    have h482 : H479 l_self_probs = some (.lst ((setL (s471.probs) (context) (adaptE ((itD (self_.probs) (context))) (decBit (self_) ((itD (self_.probs) (context))))) : (List Int)).map V.int)) := set_map h481
    have S483 := S475.mut1 x480 (.tail _ (.head _)) h482
    refine ⟨_, rfl, ?_⟩
    have h484 := (x480 _ _ h474 (ne_of h474 h476 (fun z => nomatch z)))
    have h485 := (x480 _ _ h477 (ne_self_0).symm)
    have E486 : ((⟨setL (s471.probs) (context) (adaptE ((itD (self_.probs) (context))) (decBit (self_) ((itD (self_.probs) (context))))), s471.octs, s471.place, s471.span, s471.value⟩) : DecS) = decRead self_ context := by rw [q472]; rfl
    exact eq_int (k _ _ E486 S483.base h484 h482 h485) (by rfl)

abbrev N_Decoder_read_even : List Str := ["self"]
theorem sc_Decoder_read_even : FnScope N_Decoder_read_even ["self"] (defScope s_Decoder_read_even) := ⟨rfl, rfl, rfl, by decide +kernel, rfl, by decide +kernel, by decide +kernel⟩
theorem ok_Decoder_read_even (D : MethIn K AD.c_Decoder "Decoder.read_even" "read_even" s_Decoder_read_even ["self"]) (T : Txt K mg AD) (c_Decoder__decide : MetC P w K mg base 2 AD.c_Decoder "_decide" (sp_Decoder__decide K AD)) : MetC P w K mg base 3 AD.c_Decoder "read_even" (sp_Decoder_read_even K AD) := by
  refine D.ok T.cl_Decoder sc_Decoder_read_even (fun vs H Q E h => ?_) (fun f cdv A_ outer s H vs Q E hr h => ?_)
  · obtain ⟨p_self, dx_self, l_self_probs, l_self_octs, self_, rfl, _⟩ := h
    rfl
  · obtain ⟨p_self, dx_self, l_self_probs, l_self_octs, self_, rfl, h_self, h_self_probs, h_self_octs, ne_self_0, pre0, k⟩ := h
    refine ⟨_, (pss_one (ps_ret (vx_meth c_Decoder__decide hr (by decide) (pv 0) (pa_cons (C8.pe_gc rfl T.g_EVEN) pa_nil)))), ?_⟩
    have hM : ∀ a ∈ [p_self, l_self_probs, l_self_octs], H a ≠ none := (all_cons (some_ne h_self) (all_cons (some_ne h_self_probs) (all_cons (some_ne h_self_octs) all_nil)))
    have S0 := Sep.start [p_self, l_self_probs, l_self_octs] H hM
    refine ⟨_, rfl, _, _, _, rfl, h_self, rfl, _, _, _, _, (self_ : DecS), _, rfl, h_self, h_self_probs, h_self_octs, ne_self_0, (by first | assumption | omega | decide), (by first | assumption | omega | decide), fun H487 s488 q489 x490 h491 h493 h494  => ?_⟩
    have S492 := S0.mut x490 (all_cons (.head _) (all_cons (.tail _ (.head _)) (all_cons (.tail _ (.tail _ (.head _))) all_nil))) (all_cons (some_ne h491) (all_cons (some_ne h493) (all_cons (some_ne h494) all_nil)))
    have E495 : ((⟨s488.probs, s488.octs, s488.place, s488.span, s488.value⟩) : DecS) = decDecide self_ 2048 := by exact q489
    exact eq_int (k _ _ E495 S492.base h491 h493 h494) (by rfl)

abbrev N_Decoder_probability : List Str := ["self", "context"]
theorem sc_Decoder_probability : FnScope N_Decoder_probability ["self", "context"] (defScope s_Decoder_probability) := ⟨rfl, rfl, rfl, by decide +kernel, rfl, by decide +kernel, by decide +kernel⟩
theorem ok_Decoder_probability (D : MethIn K AD.c_Decoder "Decoder.probability" "probability" s_Decoder_probability ["self", "context"]) (T : Txt K mg AD) (c__check_context : Cal P w K mg base 1 "_check_context" (sp__check_context K AD)) : MetC P w K mg base 2 AD.c_Decoder "probability" (sp_Decoder_probability K AD) := by
  refine D.ok T.cl_Decoder sc_Decoder_probability (fun vs H Q E h => ?_) (fun f cdv A_ outer s H vs Q E hr h => ?_)
  · obtain ⟨p_self, dx_self, l_self_probs, l_self_octs, self_, context, rfl, _⟩ := h
    rfl
  · obtain ⟨p_self, dx_self, l_self_probs, l_self_octs, self_, context, rfl, h_self, h_self_probs, h_self_octs, ne_self_0, pre0, pre1, pre2, k⟩ := h
    refine ⟨_, (pss_cons (ps_expr (vx_call c__check_context hr (by decide) rfl (pa_cons (pv 1) pa_nil)))
      (pss_one (ps_ret (pe_ix (ix_listK (K := K)) (fldK (K := K) (pv 0)) (pv 1) (fun _ _ => rfl))))), ?_⟩
    have S0 := Sep.start0 H
    refine ⟨_, rfl, _, rfl, (by first | assumption | omega | decide), (by first | assumption | omega | decide), _, rfl, _, _, _, _, _, rfl, (S0.sG _ _ h_self), T.cl_Decoder, T.n_Decoder__probabilities, rfl, _, rfl, _, _, _, _, rfl, rfl, (SqL.of (S0.sG _ _ h_self_probs)), (atI_map (by exact ⟨by omega, by omega⟩)), ?_⟩
    exact eq_int k (by rfl)

abbrev N__law_cell : List Str := ["script", "k"]
theorem sc__law_cell : FnScope N__law_cell ["script", "k"] (defScope s__law_cell) := ⟨rfl, rfl, rfl, by decide +kernel, rfl, by decide +kernel, by decide +kernel⟩
theorem ok__law_cell (D : DefIn K mg "_law_cell" s__law_cell ["script", "k"]) (T : Txt K mg AD)  : Cal P w K mg base 1 "_law_cell" (sp__law_cell K AD) := by
  refine D.ok sc__law_cell (fun vs H Q E h => ?_) (fun f cdv A_ outer s H vs Q E hr h => ?_)
  · obtain ⟨a_script, script, kk, rfl, _⟩ := h
    rfl
  · obtain ⟨a_script, script, kk, rfl, q_script, pre0, k⟩ := h
    refine ⟨_, (pss_cons (ps_if (pt_cmp (pc_lt (pv 1) (pe_callB (call_lenLiK (K := K)) (by rfl) T.b_len (by decide +kernel) (pa_cons (pv 0) pa_nil)))) (pss_one (ps_ret (pe_callTy call_int1 (by rfl) T.b_int (by decide +kernel) (pa_cons (pe_ix (ix_listK (K := K)) (pv 0) (pv 1) (fun _ _ => rfl)) pa_nil)))) pss_nil)
      (pss_one (ps_ret pe_int))), ?_⟩
    have S0 := Sep.start0 H
    refine ⟨_, rfl, _, rfl, _, _, rfl, (S0.b0.seq q_script), _, _, rfl, rfl, _, rfl, ?_⟩
    refine iteD (fun c496 => ?_) (fun c496 => ?_)
    · have c496 : kk < (((script) : (List Int)).length : Int) := c496
      refine ⟨_, rfl, _, rfl, _, _, _, _, rfl, rfl, (S0.b0.seq q_script), (atI_map (by exact ⟨by omega, by omega⟩)), .inl ⟨_, rfl, ?_⟩⟩
      exact eq_int k (by unfold cellI; rw [if_pos ‹_›])
    · have c496 : ¬ (kk < (((script) : (List Int)).length : Int)) := c496
      exact eq_int k (by unfold cellI; rw [if_neg ‹_›])

abbrev N__law_draws : List Str := ["cell", "limits", "found", "rest", "state", "free", "limit"]
theorem sc__law_draws : FnScope N__law_draws ["cell", "limits"] (defScope s__law_draws) := ⟨rfl, rfl, rfl, by decide +kernel, rfl, by decide +kernel, by decide +kernel⟩
theorem ok__law_draws (D : DefIn K mg "_law_draws" s__law_draws ["cell", "limits"]) (T : Txt K mg AD)  : Cal P w K mg base 1 "_law_draws" (sp__law_draws K AD) := by
  refine D.ok sc__law_draws (fun vs H Q E h => ?_) (fun f cdv A_ outer s H vs Q E hr h => ?_)
  · obtain ⟨cell, a_limits, limits, rfl, _⟩ := h
    rfl
  · obtain ⟨cell, a_limits, limits, rfl, q_limits, pre0, pre1, k⟩ := h
    refine ⟨_, (pss_cons (ps_set (i := 2) sc__law_draws.nd rfl (Or.inl rfl) (pe_lst pa_nil))
      (pss_cons (ps_set (i := 3) sc__law_draws.nd rfl (Or.inl rfl) (pe_callB call_abs (by rfl) T.b_abs (by decide +kernel) (pa_cons (pe_callTy call_int1 (by rfl) T.b_int (by decide +kernel) (pa_cons (pv 0) pa_nil)) pa_nil)))
      (pss_cons (ps_set (i := 4) sc__law_draws.nd rfl (Or.inl rfl) (pe_op op_mod (pe_callTy call_int1 (by rfl) T.b_int (by decide +kernel) (pa_cons (pv 3) pa_nil)) pe_int))
      (pss_cons (ps_set (i := 5) sc__law_draws.nd rfl (Or.inl rfl) (pe_or (pe_cmp (pc_lt (pv 0) pe_int)) (pe_one (pe_cmp (pc_ge (pv 0) (pe_op op_pow pe_int pe_int))))))
      (pss_cons (ps_for PassesOwn.never rfl (pi_listK (K := K) (pv 1)) (pg_name (i := 6) sc__law_draws.nd rfl (Or.inl rfl)) (pss_one (ps_if (PW.pt (pw_and (pt_val (pv 5)) (pw_and1 (pt_cmp (pc_gt (pv 3) pe_int))))) (pss_cons (ps_expr (pe_bm PySem.F.plainAttrs_list PySem.F.slot_list_append PySem.F.type_list_append mt_append (pv 2) (pa_cons (pe_op op_mod (pe_callTy call_int1 (by rfl) T.b_int (by decide +kernel) (pa_cons (pv 3) pa_nil)) (pv 6)) pa_nil)))
      (pss_one (ps_set (i := 3) sc__law_draws.nd rfl (Or.inl rfl) (pe_op op_fdivW (pv 3) (pv 6))))) (pss_cons (ps_set (i := 4) sc__law_draws.nd rfl (Or.inl rfl) (pe_op op_mod (pe_callTy call_int1 (by rfl) T.b_int (by decide +kernel) (pa_cons (pe_op op_add (pe_op op_mul (pv 4) pe_int) pe_int) pa_nil)) pe_int))
      (pss_cons (ps_set (i := 4) sc__law_draws.nd rfl (Or.inl rfl) (pe_op op_mod (pe_callTy call_int1 (by rfl) T.b_int (by decide +kernel) (pa_cons (pe_op op_add (pe_op op_mul (pv 4) pe_int) pe_int) pa_nil)) pe_int))
      (pss_one (ps_expr (pe_bm PySem.F.plainAttrs_list PySem.F.slot_list_append PySem.F.type_list_append mt_append (pv 2) (pa_cons (pe_op op_mod (pe_callTy call_int1 (by rfl) T.b_int (by decide +kernel) (pa_cons (pe_op op_fdivW (pv 4) pe_int) pa_nil)) (pv 6)) pa_nil)))))))))
      (pss_one (ps_ret (pv 2)))))))), ?_⟩
    have S0 := Sep.start0 H
    refine ⟨(by show 0 ≤ sizeLine; decide), fun p497 n498 => ?_⟩
    generalize g499 : upd H p497 _ = H500
    obtain ⟨e501, h502⟩ := gen_new n498 g499
    have h503 : H500 p497 = some (.lst (([] : (List Int)).map V.int)) := h502
    have fr504 := S0.free n498
    have S505 := S0.new n498 e501 h503 fr504
    refine ⟨_, rfl, .inl ⟨_, rfl, ?_⟩⟩
    refine ⟨_, rfl, _, rfl, .inl ⟨_, rfl, ?_⟩⟩
    refine ⟨_, _, rfl, rfl, (by first | omega | decide), ?_⟩
    refine (vv_or (vv_cmp (val_var rfl) val_c (fun Q q => ⟨_, _, rfl, rfl, q⟩)) (vv_cmp (val_var rfl) (val_op val_c val_c (fun Q q => ⟨_, _, rfl, rfl, (by exact ⟨by decide, by decide, by decide⟩), q⟩)) (fun Q q => ⟨_, _, rfl, rfl, q⟩))) _ ?_
    refine ⟨_, rfl, _, rfl, ⟨_, (SqL.of (S505.sG _ _ q_limits))⟩, for_list (K := K) (a := a_limits) (xs := (limits).map V.int) (fun i σ H' => ∃ (found : (List Int)) (rest : Int) (state : Int) (u_limit : Option V), σ = [some (V.int (cell)), some (V.ref a_limits), some (V.ref p497), some (V.int rest), some (V.int state), some (V.bl ((decide (cell < 0) || decide (1000000000000000000 ≤ cell)))), u_limit] ∧ Sep [] H H H H' [p497] ∧ H' p497 = some (.lst ((found).map V.int)) ∧ (found.length = i ∧ (found, rest, state) = (limits.take i).foldl (drawStep (decide (cell < 0) || decide (1000000000000000000 ≤ cell))) ([], (if cell < 0 then -cell else cell), (if cell < 0 then -cell else cell) % 2147483647))) ?_ ?_ ?_ ?_⟩
    · refine ⟨([]), _, _, _, rfl, S505, h503, ?_⟩
      exact ⟨rfl, rfl⟩
    · intro i σ H506 _ hw
      obtain ⟨found, rest, state, u_limit, rfl, S507, h508, hu⟩ := hw
      exact (SqL.of (S507.sG _ _ q_limits))
    · intro i x σ H509 hj hw
      obtain ⟨found, rest, state, u_limit, rfl, S510, h511, hu⟩ := hw
      obtain ⟨limit, hi, rfl⟩ := map_get hj
      obtain ⟨hl, hf⟩ := hu
      have hi1 := get_len hi
      have hlim := pre0 _ (List.mem_of_getElem? hi)
      refine ⟨_, rfl, _, rfl, ?_⟩
      refine iteB (fun c512 => ?_) (fun c512 => ?_)
      · refine ⟨_, rfl, _, _, rfl, rfl, _, rfl, ?_⟩
        refine iteD (fun c513 => ?_) (fun c513 => ?_)
        · have c513 : 1 < rest := c513
          refine ⟨_, rfl, (.inl ⟨rfl, _, SqL.of h511⟩), _, rfl, .inl ⟨_, rfl, ?_⟩⟩
          refine ⟨_, rfl, _, _, rfl, rfl, (by first | omega | decide), _, _, _, rfl, rfl, h511, (app_lenM (by first | omega | (simp only [List.length_map, List.length_append, List.length_take, List.length_range, List.length_cons, List.length_nil, repL_len]; omega))), ?_⟩
          generalize g514 : upd H509 p497 _ = H515
          obtain ⟨x516, h517⟩ := gen_mut g514
          have h518 : H515 p497 = some (.lst (((found) ++ [(rest % limit)] : (List Int)).map V.int)) := snoc_map h517
          have S519 := S510.mut1 x516 (.head _) h518
          refine ⟨_, rfl, _, rfl, _, _, rfl, rfl, (by exact divW_small (by omega) (by omega)), ?_⟩
          refine ⟨((found) ++ [(rest % limit)]), _, _, _, rfl, S519, h518, ?_⟩
          refine ⟨by rw [List.length_append, hl] <;> rfl, ?_⟩
          rw [take_succ_get hi, List.foldl_append, ← hf]
          clear hf
          simp only [List.foldl_cons, List.foldl_nil]
          unfold drawStep
          split <;> simp_all <;> omega
        · have c513 : ¬ (1 < rest) := c513
          refine ⟨_, rfl, _, _, rfl, rfl, (by first | exact .inr ⟨by omega, by omega⟩ | exact .inl ⟨by omega, by omega⟩), _, _, rfl, rfl, .inl ⟨_, rfl, ?_⟩⟩
          refine ⟨_, _, rfl, rfl, (by first | omega | decide), _, rfl, _, _, rfl, rfl, (by first | exact .inr ⟨by omega, by omega⟩ | exact .inl ⟨by omega, by omega⟩), _, _, rfl, rfl, .inl ⟨_, rfl, ?_⟩⟩
          refine ⟨_, _, rfl, rfl, (by first | omega | decide), _, rfl, (.inl ⟨rfl, _, SqL.of h511⟩), _, rfl, _, _, rfl, rfl, (by first | exact divW_lit (by decide) (by decide) | exact divW_small (by omega) (by omega)), .inl ⟨_, rfl, ?_⟩⟩
          refine ⟨_, rfl, _, _, rfl, rfl, (by first | omega | decide), _, _, _, rfl, rfl, h511, (app_lenM (by first | omega | (simp only [List.length_map, List.length_append, List.length_take, List.length_range, List.length_cons, List.length_nil, repL_len]; omega))), ?_⟩
          generalize g520 : upd H509 p497 _ = H521
          obtain ⟨x522, h523⟩ := gen_mut g520
          have h524 : H521 p497 = some (.lst (((found) ++ [((((((((state * 48271) + 11) % 2147483647) * 69621) + 7) % 2147483647) / 13) % limit)] : (List Int)).map V.int)) := snoc_map h523
          have S525 := S510.mut1 x522 (.head _) h524
          refine ⟨((found) ++ [((((((((state * 48271) + 11) % 2147483647) * 69621) + 7) % 2147483647) / 13) % limit)]), _, _, _, rfl, S525, h524, ?_⟩
          refine ⟨by rw [List.length_append, hl] <;> rfl, ?_⟩
          rw [take_succ_get hi, List.foldl_append, ← hf]
          clear hf
          simp only [List.foldl_cons, List.foldl_nil]
          unfold drawStep
          split <;> simp_all <;> omega
      · refine iteF ?_
        refine ⟨_, rfl, _, _, rfl, rfl, (by first | exact .inr ⟨by omega, by omega⟩ | exact .inl ⟨by omega, by omega⟩), _, _, rfl, rfl, .inl ⟨_, rfl, ?_⟩⟩
        refine ⟨_, _, rfl, rfl, (by first | omega | decide), _, rfl, _, _, rfl, rfl, (by first | exact .inr ⟨by omega, by omega⟩ | exact .inl ⟨by omega, by omega⟩), _, _, rfl, rfl, .inl ⟨_, rfl, ?_⟩⟩
        refine ⟨_, _, rfl, rfl, (by first | omega | decide), _, rfl, (.inl ⟨rfl, _, SqL.of h511⟩), _, rfl, _, _, rfl, rfl, (by first | exact divW_lit (by decide) (by decide) | exact divW_small (by omega) (by omega)), .inl ⟨_, rfl, ?_⟩⟩
        refine ⟨_, rfl, _, _, rfl, rfl, (by first | omega | decide), _, _, _, rfl, rfl, h511, (app_lenM (by first | omega | (simp only [List.length_map, List.length_append, List.length_take, List.length_range, List.length_cons, List.length_nil, repL_len]; omega))), ?_⟩
        generalize g526 : upd H509 p497 _ = H527
        obtain ⟨x528, h529⟩ := gen_mut g526
        have h530 : H527 p497 = some (.lst (((found) ++ [((((((((state * 48271) + 11) % 2147483647) * 69621) + 7) % 2147483647) / 13) % limit)] : (List Int)).map V.int)) := snoc_map h529
        have S531 := S510.mut1 x528 (.head _) h530
        refine ⟨((found) ++ [((((((((state * 48271) + 11) % 2147483647) * 69621) + 7) % 2147483647) / 13) % limit)]), _, _, _, rfl, S531, h530, ?_⟩
        refine ⟨by rw [List.length_append, hl] <;> rfl, ?_⟩
        rw [take_succ_get hi, List.foldl_append, ← hf]
        clear hf
        simp only [List.foldl_cons, List.foldl_nil]
        unfold drawStep
        split <;> simp_all <;> omega
    · intro σ H532 hw
      rw [show ((limits).map V.int).length = (limits).length from (by rw [List.length_map])] at hw
      obtain ⟨found, rest, state, u_limit, rfl, S533, h534, hu⟩ := hw
      obtain ⟨hl, hf⟩ := hu
      refine ⟨_, rfl, ?_⟩
      exact k _ _ fr504 S533.b0 (cast_map h534 (by unfold draws; rw [List.take_length] at hf; rw [← hf]))

abbrev N__law_items : List Str := ["script", "most", "items", "cell", "draws", "context", "bits", "k"]
theorem sc__law_items : FnScope N__law_items ["script", "most"] (defScope s__law_items) := ⟨rfl, rfl, rfl, by decide +kernel, rfl, by decide +kernel, by decide +kernel⟩
theorem ok__law_items (D : DefIn K mg "_law_items" s__law_items ["script", "most"]) (T : Txt K mg AD) (c__law_draws : Cal P w K mg base 1 "_law_draws" (sp__law_draws K AD)) : Cal P w K mg base 2 "_law_items" (sp__law_items K AD) := by
  refine D.ok sc__law_items (fun vs H Q E h => ?_) (fun f cdv A_ outer s H vs Q E hr h => ?_)
  · obtain ⟨G, a_script, script, most, rfl, _⟩ := h
    rfl
  · obtain ⟨G, a_script, script, most, rfl, sG, q_script, pre0, k⟩ := h
    refine ⟨_, (pss_cons (ps_set (i := 2) sc__law_items.nd rfl (Or.inl rfl) (pe_lst pa_nil))
      (pss_cons (ps_for PassesOwn.never rfl (pi_listK (K := K) (pv 0)) (pg_name (i := 3) sc__law_items.nd rfl (Or.inl rfl)) (pss_cons (ps_set (i := 4) sc__law_items.nd rfl (Or.inl rfl) (vx_call c__law_draws hr (by decide) rfl (pa_cons (pv 3) (pa_cons (pe_lst (pa_cons pe_int (pa_cons pe_int (pa_cons pe_int (pa_cons pe_int (pa_cons pe_int pa_nil)))))) pa_nil))))
      (pss_cons (ps_set (i := 5) sc__law_items.nd rfl (Or.inr rfl) (pe_ix (ix_listK (K := K)) (pe_lst (pa_cons pe_int (pa_cons pe_int (pa_cons pe_int (pa_cons pe_int (pa_cons (pe_ix (ix_listK (K := K)) (pv 4) pe_int (fun _ _ => rfl)) (pa_cons (pe_ix (ix_listK (K := K)) (pv 4) pe_int (fun _ _ => rfl)) (pa_cons (pe_ix (ix_listK (K := K)) (pv 4) pe_int (fun _ _ => rfl)) (pa_cons (pe_un un_neg pe_int) pa_nil))))))))) (pe_ix (ix_listK (K := K)) (pv 4) pe_int (fun _ _ => rfl)) (fun _ _ => rfl)))
      (pss_one (ps_if (pt_cmp (pc_lt (pe_ix (ix_listK (K := K)) (pv 4) pe_int (fun _ _ => rfl)) pe_int)) (pss_one (ps_set (i := 2) sc__law_items.nd rfl (Or.inl rfl) (pe_op op_cat (pv 2) (pe_op op_rep (pe_lst (pa_cons (pe_tup (pa_cons (pv 5) (pa_cons (pe_ix (ix_listK (K := K)) (pv 4) pe_int (fun _ _ => rfl)) pa_nil))) pa_nil)) (pe_ix (ix_listK (K := K)) (pv 4) pe_int (fun _ _ => rfl)))))) (pss_cons (ps_set (i := 6) sc__law_items.nd rfl (Or.inr rfl) (vx_call c__law_draws hr (by decide) rfl (pa_cons (pe_op op_fdivW (pe_callTy call_int1 (by rfl) T.b_int (by decide +kernel) (pa_cons (pv 3) pa_nil)) pe_int) (pa_cons (pe_op op_rep (pe_lst (pa_cons pe_int pa_nil)) (pe_ix (ix_listK (K := K)) (pv 4) pe_int (fun _ _ => rfl))) pa_nil))))
      (pss_one (ps_set (i := 2) sc__law_items.nd rfl (Or.inl rfl) (pe_op op_cat (pv 2) (pe_lc (own := [("k", 7)]) (g := gName 7) (by rfl) sc__law_items.nd (pi_range1 rfl T.b_range (pa_cons (pe_callB (call_lenLiK (K := K)) (by rfl) T.b_len (by decide +kernel) (pa_cons (pv 6) pa_nil)) pa_nil)) (blkOk_by (own := [("k", 7)]) (N := N__law_items) (sc := defScope s__law_items) (by decide +kernel)) (fun _ _ _ _ _ => (pg_name (i := 7) sc__law_items.nd rfl (Or.inl rfl))) (fun _ _ _ _ _ => pts_nil) (fun _ _ _ _ _ => (pe_tup (pa_cons (pe_op op_sub (pe_op op_mul (pe_op op_add (pv 5) pe_int) (pe_callTy call_int1 (by rfl) T.b_int (by decide +kernel) (pa_cons (pe_cmp (pc_gt (pe_op op_mod (pe_callTy call_int1 (by rfl) T.b_int (by decide +kernel) (pa_cons (pv 7) pa_nil)) pe_int) pe_int)) pa_nil))) pe_int) (pa_cons (pe_ix (ix_listK (K := K)) (pv 6) (pv 7) (fun _ _ => rfl)) pa_nil))))))))))))))
      (pss_one (ps_ret (pe_slice (sl_listK (K := K)) (pv 2) po_none (po_some (pv 1))))))), ?_⟩
    have S0 := Sep.startG sG
    refine ⟨(by show 0 ≤ sizeLine; decide), fun p535 n536 => ?_⟩
    generalize g537 : upd H p535 _ = H538
    obtain ⟨e539, h540⟩ := gen_new n536 g537
    have h541 : H538 p535 = some (.lst ([])) := h540
    have fr542 := S0.free n536
    have S543 := S0.new n536 e539 h541 fr542
    have d544 : RpAll G ([]) (([] : (List (Int × Int))).map (encT2 PyData.int PyData.int)) := RpAll.nil
    refine ⟨_, rfl, _, rfl, ⟨_, (S543.b0.seq q_script)⟩, for_list (K := K) (a := a_script) (xs := (script).map V.int) (fun i σ H' => ∃ (p_items : Addr) (items : (List (Int × Int))) (vs_items : List V) (u_cell : Option V) (u_draws : Option V) (u_context : Option V) (u_bits : Option V) (G' : Hp), σ = [some (V.ref a_script), some (V.int (most)), some (V.ref p_items), u_cell, u_draws, u_context, u_bits, none] ∧ Same G G' ∧ Sep [] H G G' H' [p_items] ∧ H' p_items = some (.lst (vs_items)) ∧ H p_items = none ∧ RpAll G' (vs_items) ((items : (List (Int × Int))).map (encT2 PyData.int PyData.int)) ∧ (items.length ≤ 40 * i ∧ items = (script.take i).foldl itemsStep [])) ?_ ?_ ?_ ?_⟩
    · refine ⟨_, ([]), _, _, _, _, _, _, rfl, (Same.refl _), S543, h541, fr542, d544, ?_⟩
      exact ⟨by simp, rfl⟩
    · intro i σ H545 _ hw
      obtain ⟨p_items, items, vs_items, u_cell, u_draws, u_context, u_bits, G550, rfl, eG551, S546, h547, fr548, d549, hu⟩ := hw
      exact (S546.b0.seq q_script)
    · intro i x σ H552 hj hw
      obtain ⟨p_items, items, vs_items, u_cell, u_draws, u_context, u_bits, G557, rfl, eG558, S553, h554, fr555, d556, hu⟩ := hw
      obtain ⟨cell, hi, rfl⟩ := map_get hj
      obtain ⟨hl, hf⟩ := hu
      have hi1 := get_len hi
      have D0 := item_draws cell
      obtain ⟨d_len, d0, d1, d2, d3, d4⟩ := D0
      refine ⟨_, rfl, (by show 5 ≤ sizeLine; decide), fun p559 n560 => ?_⟩
      generalize g561 : upd H552 p559 _ = H562
      obtain ⟨e563, h564⟩ := gen_new n560 g561
      have h565 : H562 p559 = some (.lst (([4, 8, 256, 2, 40] : (List Int)).map V.int)) := h564
      have fr566 := S553.free n560
      have S567 := S553.new n560 e563 h565 fr566
      refine ⟨_, _, _, rfl, h565, (by first | assumption | omega | decide), (by first | assumption | omega | decide), fun p570 H568 n571 e569 h572 => ?_⟩
      have h573 : H568 p570 = some (.lst ((draws (cell) ([4, 8, 256, 2, 40]) : (List Int)).map V.int)) := h572
      have fr574 := S567.free n571
      have S575 := S567.new n571 e569 h573 fr574
      refine ⟨_, rfl, _, _, _, _, rfl, rfl, (SqL.of h573), (atI_map (by omega)), _, rfl, _, _, _, _, rfl, rfl, (SqL.of h573), (atI_map (by omega)), _, rfl, _, _, _, _, rfl, rfl, (SqL.of h573), (atI_map (by omega)), _, rfl, (by show 8 ≤ sizeLine; decide), fun p576 n577 => ?_⟩
      generalize g578 : upd H568 p576 _ = H579
      obtain ⟨e580, h581⟩ := gen_new n577 g578
      have h582 : H579 p576 = some (.lst (([0, 255, 1, 128, (itD (draws (cell) ([4, 8, 256, 2, 40])) (2)), (itD (draws (cell) ([4, 8, 256, 2, 40])) (2)), (itD (draws (cell) ([4, 8, 256, 2, 40])) (2)), (-1)] : (List Int)).map V.int)) := h581
      have fr583 := S575.free n577
      have S584 := S575.new n577 e580 h582 fr583
      have h585 := (e580 _ _ h573)
      refine ⟨_, rfl, _, _, _, _, rfl, rfl, (SqL.of h585), (atI_map (by omega)), _, _, _, _, rfl, rfl, (SqL.of h582), (atI_map (by first | omega | (simp only [List.length_cons, List.length_nil]; omega))), _, rfl, _, _, _, _, rfl, rfl, (SqL.of h585), (atI_map (by omega)), _, _, rfl, rfl, _, rfl, ?_⟩
      refine iteD (fun c586 => ?_) (fun c586 => ?_)
      · have c586 : (itD (draws (cell) ([4, 8, 256, 2, 40])) (0)) < 2 := c586
        refine ⟨_, rfl, _, rfl, _, rfl, _, _, _, _, rfl, rfl, (SqL.of h585), (atI_map (by omega)), (by show 2 ≤ sizeLine; decide), fun p587 n588 => ?_⟩
        generalize g589 : upd H579 p587 _ = H590
        obtain ⟨e591, h592⟩ := gen_new n588 g589
        have h593 : H590 p587 = some (.tup [V.int ((itD ([0, 255, 1, 128, (itD (draws (cell) ([4, 8, 256, 2, 40])) (2)), (itD (draws (cell) ([4, 8, 256, 2, 40])) (2)), (itD (draws (cell) ([4, 8, 256, 2, 40])) (2)), (-1)]) ((itD (draws (cell) ([4, 8, 256, 2, 40])) (1))))), V.int ((itD (draws (cell) ([4, 8, 256, 2, 40])) (3)))]) := h592
        have fr594 := S584.free n588
        obtain ⟨G596, eG597, hg598, S595⟩ := S584.grow n588 e591 h593 fr594
        refine ⟨(by show 1 ≤ sizeLine; decide), fun p599 n600 => ?_⟩
        generalize g601 : upd H590 p599 _ = H602
        obtain ⟨e603, h604⟩ := gen_new n600 g601
        have h605 : H602 p599 = some (.lst ([V.ref p587])) := h604
        have fr606 := S595.free n600
        have S607 := S595.new n600 e603 h605 fr606
        have d608 : RpAll G596 ([V.ref p587]) (([((itD ([0, 255, 1, 128, (itD (draws (cell) ([4, 8, 256, 2, 40])) (2)), (itD (draws (cell) ([4, 8, 256, 2, 40])) (2)), (itD (draws (cell) ([4, 8, 256, 2, 40])) (2)), (-1)]) ((itD (draws (cell) ([4, 8, 256, 2, 40])) (1)))), (itD (draws (cell) ([4, 8, 256, 2, 40])) (3)))] : (List (Int × Int))).map (encT2 PyData.int PyData.int)) := (RpAll.cons (rp_mk2 hg598 (.int _) (.int _)) RpAll.nil)
        have h609 := (e603 _ _ (e591 _ _ h585))
        refine ⟨_, rfl, _, _, _, _, rfl, rfl, (SqL.of h609), (atI_map (by omega)), _, _, _, rfl, rfl, h605, (by first | omega | decide), (by first | omega | decide), (rep_len d608 (by first | omega | (simp only [List.length_map, List.length_append, List.length_take, List.length_range, List.length_cons, List.length_nil, repL_len]; omega))), fun p610 n611 => ?_⟩
        generalize g612 : upd H602 p610 _ = H613
        obtain ⟨e614, h615⟩ := gen_new n611 g612
        have h616 : H613 p610 = some (.lst ((List.replicate (Int.toNat ((itD (draws (cell) ([4, 8, 256, 2, 40])) (4)))) ([V.ref p587])).flatten)) := h615
        have fr617 := S607.free n611
        have S618 := S607.new n611 e614 h616 fr617
        have d619 : RpAll G596 ((List.replicate (Int.toNat ((itD (draws (cell) ([4, 8, 256, 2, 40])) (4)))) ([V.ref p587])).flatten) ((repL ([((itD ([0, 255, 1, 128, (itD (draws (cell) ([4, 8, 256, 2, 40])) (2)), (itD (draws (cell) ([4, 8, 256, 2, 40])) (2)), (itD (draws (cell) ([4, 8, 256, 2, 40])) (2)), (-1)]) ((itD (draws (cell) ([4, 8, 256, 2, 40])) (1)))), (itD (draws (cell) ([4, 8, 256, 2, 40])) (3)))]) ((itD (draws (cell) ([4, 8, 256, 2, 40])) (4))) : (List (Int × Int))).map (encT2 PyData.int PyData.int)) := rep_all ((itD (draws (cell) ([4, 8, 256, 2, 40])) (4))) d608
        have h620 := (e614 _ _ (e603 _ _ (e591 _ _ (e580 _ _ (e569 _ _ (e563 _ _ h554))))))
        refine ⟨_, _, _, _, rfl, rfl, h620, h616, (cat_len (RpAll.mono eG597 d556) d619 (by simp only [repL_len, List.length_cons, List.length_nil]; omega)), fun p621 n622 => ?_⟩
        generalize g623 : upd H613 p621 _ = H624
        obtain ⟨e625, h626⟩ := gen_new n622 g623
        have h627 : H624 p621 = some (.lst (vs_items ++ (List.replicate (Int.toNat ((itD (draws (cell) ([4, 8, 256, 2, 40])) (4)))) ([V.ref p587])).flatten)) := h626
        have fr628 := S618.free n622
        have S629 := S618.new n622 e625 h627 fr628
        have d630 : RpAll G596 (vs_items ++ (List.replicate (Int.toNat ((itD (draws (cell) ([4, 8, 256, 2, 40])) (4)))) ([V.ref p587])).flatten) (((items) ++ (repL ([((itD ([0, 255, 1, 128, (itD (draws (cell) ([4, 8, 256, 2, 40])) (2)), (itD (draws (cell) ([4, 8, 256, 2, 40])) (2)), (itD (draws (cell) ([4, 8, 256, 2, 40])) (2)), (-1)]) ((itD (draws (cell) ([4, 8, 256, 2, 40])) (1)))), (itD (draws (cell) ([4, 8, 256, 2, 40])) (3)))]) ((itD (draws (cell) ([4, 8, 256, 2, 40])) (4)))) : (List (Int × Int))).map (encT2 PyData.int PyData.int)) := app_map (RpAll.mono eG597 d556) d619
        refine ⟨_, ((items) ++ (repL ([((itD ([0, 255, 1, 128, (itD (draws (cell) ([4, 8, 256, 2, 40])) (2)), (itD (draws (cell) ([4, 8, 256, 2, 40])) (2)), (itD (draws (cell) ([4, 8, 256, 2, 40])) (2)), (-1)]) ((itD (draws (cell) ([4, 8, 256, 2, 40])) (1)))), (itD (draws (cell) ([4, 8, 256, 2, 40])) (3)))]) ((itD (draws (cell) ([4, 8, 256, 2, 40])) (4))))), _, _, _, _, _, _, rfl, (Same.trans eG558 eG597), (S629.sub (all_cons (.head _) all_nil)), h627, fr628, d630, ?_⟩
        refine ⟨?_, ?_⟩
        · simp only [List.length_append, repL_len, List.length_map, List.length_range, List.length_cons, List.length_nil]; omega
        · rw [take_succ_get hi, List.foldl_append, ← hf]; clear hf; simp only [List.foldl_cons, List.foldl_nil]; unfold itemsStep; first | (rw [if_pos ‹_›]; rfl) | (rw [if_neg ‹_›]; rfl)
      · have c586 : ¬ ((itD (draws (cell) ([4, 8, 256, 2, 40])) (0)) < 2) := c586
        refine ⟨_, rfl, .inl ⟨_, rfl, ?_⟩⟩
        refine ⟨_, _, rfl, rfl, (by first | exact divW_lit (by decide) (by decide) | exact divW_small (by omega) (by omega)), (by show 1 ≤ sizeLine; decide), fun p631 n632 => ?_⟩
        generalize g633 : upd H579 p631 _ = H634
        obtain ⟨e635, h636⟩ := gen_new n632 g633
        have h637 : H634 p631 = some (.lst (([2] : (List Int)).map V.int)) := h636
        have fr638 := S584.free n632
        have S639 := S584.new n632 e635 h637 fr638
        have h640 := (e635 _ _ h585)
        refine ⟨_, rfl, _, _, _, _, rfl, rfl, (SqL.of h640), (atI_map (by omega)), _, _, _, rfl, rfl, h637, (by first | omega | decide), (by first | omega | decide), (rep_lenM (by first | omega | (simp only [List.length_map, List.length_append, List.length_take, List.length_range, List.length_cons, List.length_nil, repL_len]; omega))), fun p641 n642 => ?_⟩
        generalize g643 : upd H634 p641 _ = H644
        obtain ⟨e645, h646⟩ := gen_new n642 g643
        have h647 : H644 p641 = some (.lst ((repL ([2]) ((itD (draws (cell) ([4, 8, 256, 2, 40])) (4))) : (List Int)).map V.int)) := rep_map h646
        have fr648 := S639.free n642
        have S649 := S639.new n642 e645 h647 fr648
        refine ⟨_, _, _, rfl, h647, (by first | exact lims_rep (by decide) | (rw [len_rep1]; omega)), (by first | exact lims_rep (by decide) | (rw [len_rep1]; omega)), fun p652 H650 n653 e651 h654 => ?_⟩
        have h655 : H650 p652 = some (.lst ((draws ((cell / 1000)) (repL ([2]) ((itD (draws (cell) ([4, 8, 256, 2, 40])) (4)))) : (List Int)).map V.int)) := h654
        have fr656 := S649.free n653
        have S657 := S649.new n653 e651 h655 fr656
        have hlb := bits_len cell
        refine ⟨_, rfl, _, rfl, _, _, rfl, (SqL.of h655), _, rfl, (by omega), (by omega), fun D658 n659 => lc_range (lo := 0) (n := ((((draws ((cell / 1000)) (repL ([2]) ((itD (draws (cell) ([4, 8, 256, 2, 40])) (4))))) : (List Int)).length : Int) : Int).toNat) (fun i H' => ∃ (G' : Hp) (vs : List V), Same G557 G' ∧ Sep [] H G G' H' [D658, p_items, p570, p652] ∧ H' p_items = some (.lst (vs_items)) ∧ H' p570 = some (.lst ((draws (cell) ([4, 8, 256, 2, 40])).map V.int)) ∧ H' p652 = some (.lst ((draws ((cell / 1000)) (repL ([2]) ((itD (draws (cell) ([4, 8, 256, 2, 40])) (4))))).map V.int)) ∧ H' D658 = some (.lst vs) ∧ RpAll G' vs (((List.map (fun (j : Nat) => (fun k => ((itD [0, 255, 1, 128, itD (draws cell [4, 8, 256, 2, 40]) 2, itD (draws cell [4, 8, 256, 2, 40]) 2, itD (draws cell [4, 8, 256, 2, 40]) 2, (-1)] (itD (draws cell [4, 8, 256, 2, 40]) 1) + 1) * (if 0 < k % 3 then 1 else 0) - 1, itD (draws (cell / 1000) (repL [2] (itD (draws cell [4, 8, 256, 2, 40]) 4))) k)) (0 + (j : Int))) (List.range i)) : (List (Int × Int))).map (encT2 PyData.int PyData.int))) ?_ ?_ ?_⟩
        · generalize g660 : upd H650 D658 _ = H661
          obtain ⟨e662, h663⟩ := gen_new n659 g660
          have fr664 := S657.free n659
          have S665 := S657.new n659 e662 h663 fr664
          have h666 := (e662 _ _ (e651 _ _ (e645 _ _ (e635 _ _ (e580 _ _ (e569 _ _ (e563 _ _ h554)))))))
          have h667 := (e662 _ _ (e651 _ _ (e645 _ _ h640)))
          have h668 := (e662 _ _ h655)
          exact ⟨_, [], Same.refl _, (S665.sub (all_cons (.head _) (all_cons (.tail _ (.tail _ (.tail _ (.tail _ (.tail _ (.tail _ (.tail _ (.head _)))))))) (all_cons (.tail _ (.tail _ (.tail _ (.tail _ (.tail _ (.head _)))))) (all_cons (.tail _ (.head _)) all_nil))))), h666, h667, h668, h663, RpAll.nil⟩
        · intro i H669 hi hw
          obtain ⟨G675, vs677, eG676, S670, h671, h672, h673, h674, d678⟩ := hw
          have hlb := bits_len cell
          refine ⟨rfl, ?_⟩
          refine tyes_go ?_
          refine ⟨_, rfl, _, _, rfl, rfl, _, rfl, .inl ⟨_, rfl, ?_⟩⟩
          refine ⟨_, _, rfl, rfl, (by first | omega | decide), _, _, rfl, rfl, .inr ⟨_, rfl, ?_⟩⟩
          refine ⟨_, _, rfl, rfl, (by exact .inr (by split <;> decide)), _, _, rfl, rfl, _, rfl, _, rfl, _, _, _, _, rfl, rfl, (SqL.of h673), (atI_map (by omega)), (by show 2 ≤ sizeLine; decide), fun p679 n680 => ?_⟩
          generalize g681 : upd H669 p679 _ = H682
          obtain ⟨e683, h684⟩ := gen_new n680 g681
          have h685 : H682 p679 = some (.tup [V.int (((((itD ([0, 255, 1, 128, (itD (draws (cell) ([4, 8, 256, 2, 40])) (2)), (itD (draws (cell) ([4, 8, 256, 2, 40])) (2)), (itD (draws (cell) ([4, 8, 256, 2, 40])) (2)), (-1)]) ((itD (draws (cell) ([4, 8, 256, 2, 40])) (1)))) + 1) * (if decide (0 < ((0 + (i : Int)) % 3)) = true then 1 else 0)) - 1)), V.int ((itD (draws ((cell / 1000)) (repL ([2]) ((itD (draws (cell) ([4, 8, 256, 2, 40])) (4))))) ((0 + (i : Int)))))]) := h684
          have fr686 := S670.free n680
          obtain ⟨G688, eG689, hg690, S687⟩ := S670.grow n680 e683 h685 fr686
          have h691 := (e683 _ _ h674)
          refine ⟨_, h691, (app_len (RpAll.mono eG689 d678) (by simp only [List.length_map, List.length_range]; omega)), ?_⟩
          generalize g692 : upd H682 D658 _ = H693
          obtain ⟨x694, h695⟩ := gen_mut g692
          have S696 := S687.mut1 x694 (.head _) h695
          have h697 := (x694 _ _ (e683 _ _ h671) (ne_of_none (e651 _ _ (e645 _ _ (e635 _ _ (e580 _ _ (e569 _ _ (e563 _ _ h554)))))) n659))
          have h698 := (x694 _ _ (e683 _ _ h672) (ne_of_none (e651 _ _ (e645 _ _ h640)) n659))
          have h699 := (x694 _ _ (e683 _ _ h673) (ne_of_none h655 n659))
          exact ⟨_, _, (Same.trans eG676 eG689), S696, h697, h698, h699, h695, (comp_rangeD (RpAll.mono eG689 d678) (rp_mk2 hg690 (.int _) (.int _)) (by simp))⟩
        intro H700 hw
        obtain ⟨G706, vs708, eG707, S701, h702, h703, h704, h705, d709⟩ := hw
        have fr711 := S657.free n659
        have d712 : RpAll G706 vs708 (((List.map (fun (j : Nat) => (fun k => ((itD [0, 255, 1, 128, itD (draws cell [4, 8, 256, 2, 40]) 2, itD (draws cell [4, 8, 256, 2, 40]) 2, itD (draws cell [4, 8, 256, 2, 40]) 2, (-1)] (itD (draws cell [4, 8, 256, 2, 40]) 1) + 1) * (if 0 < k % 3 then 1 else 0) - 1, itD (draws (cell / 1000) (repL [2] (itD (draws cell [4, 8, 256, 2, 40]) 4))) k)) (0 + (j : Int))) (List.range ((((draws ((cell / 1000)) (repL ([2]) ((itD (draws (cell) ([4, 8, 256, 2, 40])) (4))))) : (List Int)).length : Int) : Int).toNat)) : (List (Int × Int))).map (encT2 PyData.int PyData.int)) := d709
        refine ⟨_, _, _, _, rfl, rfl, h702, h705, (cat_len (RpAll.mono eG707 d556) d712 (by simp only [List.length_map, List.length_range]; omega)), fun p713 n714 => ?_⟩
        generalize g715 : upd H700 p713 _ = H716
        obtain ⟨e717, h718⟩ := gen_new n714 g715
        have h719 : H716 p713 = some (.lst (vs_items ++ vs708)) := h718
        have fr720 := S701.free n714
        have S721 := S701.new n714 e717 h719 fr720
        have d722 : RpAll G706 (vs_items ++ vs708) (((items) ++ ((List.map (fun (j : Nat) => (fun k => ((itD [0, 255, 1, 128, itD (draws cell [4, 8, 256, 2, 40]) 2, itD (draws cell [4, 8, 256, 2, 40]) 2, itD (draws cell [4, 8, 256, 2, 40]) 2, (-1)] (itD (draws cell [4, 8, 256, 2, 40]) 1) + 1) * (if 0 < k % 3 then 1 else 0) - 1, itD (draws (cell / 1000) (repL [2] (itD (draws cell [4, 8, 256, 2, 40]) 4))) k)) (0 + (j : Int))) (List.range ((((draws ((cell / 1000)) (repL ([2]) ((itD (draws (cell) ([4, 8, 256, 2, 40])) (4))))) : (List Int)).length : Int) : Int).toNat))) : (List (Int × Int))).map (encT2 PyData.int PyData.int)) := app_map (RpAll.mono eG707 d556) d712
        refine ⟨_, ((items) ++ ((List.map (fun (j : Nat) => (fun k => ((itD [0, 255, 1, 128, itD (draws cell [4, 8, 256, 2, 40]) 2, itD (draws cell [4, 8, 256, 2, 40]) 2, itD (draws cell [4, 8, 256, 2, 40]) 2, (-1)] (itD (draws cell [4, 8, 256, 2, 40]) 1) + 1) * (if 0 < k % 3 then 1 else 0) - 1, itD (draws (cell / 1000) (repL [2] (itD (draws cell [4, 8, 256, 2, 40]) 4))) k)) (0 + (j : Int))) (List.range ((((draws ((cell / 1000)) (repL ([2]) ((itD (draws (cell) ([4, 8, 256, 2, 40])) (4))))) : (List Int)).length : Int) : Int).toNat)))), _, _, _, _, _, _, rfl, (Same.trans eG558 eG707), (S721.sub (all_cons (.head _) all_nil)), h719, fr720, d722, ?_⟩
        refine ⟨?_, ?_⟩
        · simp only [List.length_append, repL_len, List.length_map, List.length_range, List.length_cons, List.length_nil]; omega
        · rw [take_succ_get hi, List.foldl_append, ← hf]; clear hf; simp only [List.foldl_cons, List.foldl_nil]; unfold itemsStep; first | (rw [if_pos ‹_›]; rfl) | (rw [if_neg ‹_›]; rfl)
    · intro σ H723 hw
      rw [show ((script).map V.int).length = (script).length from (by rw [List.length_map])] at hw
      obtain ⟨p_items, items, vs_items, u_cell, u_draws, u_context, u_bits, G728, rfl, eG729, S724, h725, fr726, d727, hu⟩ := hw
      obtain ⟨hl, hf⟩ := hu
      refine ⟨_, rfl, _, rfl, _, rfl, _, _, rfl, (SqL.of h725), fun p730 n731 => ?_⟩
      generalize g732 : upd H723 p730 _ = H733
      obtain ⟨e734, h735⟩ := gen_new n731 g732
      have h736 : H733 p730 = some (.lst (cutV (vs_items) none (some (most)))) := h735
      have fr737 := S724.free n731
      have S738 := S724.new n731 e734 h736 fr737
      have d739 : RpAll G728 (cutV (vs_items) none (some (most))) ((cutL (items) none (some (most)) : (List (Int × Int))).map (encT2 PyData.int PyData.int)) := cut_all none (some (most)) d727
      obtain ⟨G740, eG741, hg742, S743⟩ := Sep.freeze (O' := [p_items]) S738 (.head _) h736 fr737 ((all_cons ⟨(.tail _ (.head _)), (ne_of_none h725 n731)⟩ all_nil))
      exact k _ _ _ S743.b0 S743.g0 S743.sG S743.gn (rp_cast (rp_mk_list hg742 (RpAll.mono eG741 d739)) (by rw [List.take_length] at hf; rw [hf]; rfl))

abbrev N__law_moved : List Str := ["p", "decision"]
theorem sc__law_moved : FnScope N__law_moved ["p", "decision"] (defScope s__law_moved) := ⟨rfl, rfl, rfl, by decide +kernel, rfl, by decide +kernel, by decide +kernel⟩
theorem ok__law_moved (D : DefIn K mg "_law_moved" s__law_moved ["p", "decision"]) (T : Txt K mg AD)  : Cal P w K mg base 1 "_law_moved" (sp__law_moved K AD) := by
  refine D.ok sc__law_moved (fun vs H Q E h => ?_) (fun f cdv A_ outer s H vs Q E hr h => ?_)
  · obtain ⟨p, decision, rfl, _⟩ := h
    rfl
  · obtain ⟨p, decision, rfl, k⟩ := h
    refine ⟨_, (pss_cons (ps_if (pt_cmp (pc_eqI (pv 1) pe_int)) (pss_one (ps_ret (pe_op op_add (pv 0) (pe_op op_shr (pe_op op_sub pe_int (pv 0)) pe_int)))) pss_nil)
      (pss_one (ps_ret (pe_op op_sub (pv 0) (pe_op op_shr (pv 0) pe_int))))), ?_⟩
    have S0 := Sep.start0 H
    refine ⟨_, rfl, _, _, rfl, rfl, _, rfl, ?_⟩
    refine iteD (fun c744 => ?_) (fun c744 => ?_)
    · have c744 : (decision : Int) = 0 := c744
      refine ⟨_, rfl, _, rfl, _, _, rfl, rfl, _, _, rfl, rfl, (show (0 : Int) ≤ 5 by decide), _, _, rfl, rfl, ?_⟩
      exact eq_int k (by simp [adaptE, *])
    · have c744 : ¬ ((decision : Int) = 0) := c744
      refine ⟨_, rfl, _, rfl, _, _, rfl, rfl, (show (0 : Int) ≤ 5 by decide), _, _, rfl, rfl, ?_⟩
      exact eq_int k (by simp [adaptE, *])

abbrev N__law_code_items : List Str := ["encoder", "items", "item"]
theorem sc__law_code_items : FnScope N__law_code_items ["encoder", "items"] (defScope s__law_code_items) := ⟨rfl, rfl, rfl, by decide +kernel, rfl, by decide +kernel, by decide +kernel⟩
theorem ok__law_code_items (D : DefIn K mg "_law_code_items" s__law_code_items ["encoder", "items"]) (T : Txt K mg AD) (c_Encoder_code : MetC P w K mg base 3 AD.c_Encoder "code" (sp_Encoder_code K AD)) (c_Encoder_code_even : MetC P w K mg base 3 AD.c_Encoder "code_even" (sp_Encoder_code_even K AD)) : Cal P w K mg base 4 "_law_code_items" (sp__law_code_items K AD) := by
  refine D.ok sc__law_code_items (fun vs H Q E h => ?_) (fun f cdv A_ outer s H vs Q E hr h => ?_)
  · obtain ⟨p_encoder, dx_encoder, l_encoder_probs, l_encoder_front, enc, v_items, items, rfl, _⟩ := h
    rfl
  · obtain ⟨p_encoder, dx_encoder, l_encoder_probs, l_encoder_front, enc, v_items, items, rfl, h_encoder, h_encoder_probs, h_encoder_front, ne_encoder_0, r_items, pre0, pre1, pre2, k⟩ := h
    refine ⟨_, (pss_one (ps_for PassesOwn.never rfl (pi_listK (K := K) (pv 1)) (pg_name (i := 2) sc__law_code_items.nd rfl (Or.inl rfl)) (pss_one (ps_if (pt_cmp (pc_ge (pe_ix (ix_tupK (K := K)) (pv 2) pe_int (fun _ _ => rfl)) pe_int)) (pss_one (ps_expr (vx_meth c_Encoder_code hr (by decide) (pv 0) (pa_cons (pe_ix (ix_tupK (K := K)) (pv 2) pe_int (fun _ _ => rfl)) (pa_cons (pe_ix (ix_tupK (K := K)) (pv 2) pe_int (fun _ _ => rfl)) pa_nil))))) (pss_one (ps_expr (vx_meth c_Encoder_code_even hr (by decide) (pv 0) (pa_cons (pe_ix (ix_tupK (K := K)) (pv 2) pe_int (fun _ _ => rfl)) pa_nil)))))))), ?_⟩
    have hM : ∀ a ∈ [p_encoder, l_encoder_probs, l_encoder_front], H a ≠ none := (all_cons (some_ne h_encoder) (all_cons (some_ne h_encoder_probs) (all_cons (some_ne h_encoder_front) all_nil)))
    have S0 := Sep.start [p_encoder, l_encoder_probs, l_encoder_front] H hM
    obtain ⟨a745, vs746, rfl, h747, d748⟩ := rp_list r_items
    refine ⟨_, rfl, _, rfl, ⟨_, (SqL.of (S0.sG _ _ h747))⟩, for_list (K := K) (a := a745) (xs := vs746) (fun i σ H' => ∃ (encoder : EncS) (u_item : Option V), σ = [some (V.ref p_encoder), some (V.ref a745), u_item] ∧ Sep [p_encoder, l_encoder_probs, l_encoder_front] H (hideL [p_encoder, l_encoder_probs, l_encoder_front] H) (hideL [p_encoder, l_encoder_probs, l_encoder_front] H) H' [p_encoder, l_encoder_probs, l_encoder_front] ∧ H' p_encoder = some (.ins AD.c_Encoder dx_encoder [("_probabilities", V.ref l_encoder_probs), ("_front", V.ref l_encoder_front), ("_low", V.int (encoder.low)), ("_span", V.int (encoder.span))]) ∧ H' l_encoder_probs = some (.lst ((encoder.probs).map V.int)) ∧ H' l_encoder_front = some (.lst ((encoder.front).map V.int)) ∧ (encoder = encItems enc (items.take i) ∧ EncG encoder ∧ encoder.front.length ≤ enc.front.length + i)) ?_ ?_ ?_ ?_⟩
    · refine ⟨enc, _, rfl, S0, h_encoder, h_encoder_probs, h_encoder_front, ?_⟩
      exact ⟨rfl, pre0, Nat.le_refl _⟩
    · intro i σ H749 _ hw
      obtain ⟨encoder, u_item, rfl, S750, h751, h752, h753, hu⟩ := hw
      exact (SqL.of (S750.sG _ _ h747))
    · intro i x σ H754 hj hw
      obtain ⟨encoder, u_item, rfl, S755, h756, h757, h758, hu⟩ := hw
      obtain ⟨item, hi, r759⟩ := RpAll.get d748 hj
      obtain ⟨a760, v762, v763, rfl, h761, r764, r765⟩ := rp_tup2 r759
      obtain rfl := rp_int r764
      obtain rfl := rp_int r765
      obtain ⟨he, hg, hl⟩ := hu
      have hi1 := get_len hi
      have hit := pre1 _ (List.mem_of_getElem? hi)
      refine ⟨_, rfl, _, _, _, _, rfl, rfl, (SqT.of (S755.sG _ _ h761)), rfl, _, _, rfl, rfl, _, rfl, ?_⟩
      refine iteD (fun c766 => ?_) (fun c766 => ?_)
      · have c766 : 0 ≤ item.1 := c766
        refine ⟨_, rfl, _, _, _, rfl, h756, rfl, _, rfl, _, _, _, _, rfl, rfl, (SqT.of (S755.sG _ _ h761)), rfl, _, rfl, _, _, _, _, rfl, rfl, (SqT.of (S755.sG _ _ h761)), rfl, _, _, _, _, (encoder : EncS), _, _, rfl, h756, h757, h758, ne_encoder_0, (by first | assumption | omega | decide), (by first | assumption | omega | decide), (by first | assumption | omega | decide), (by first | assumption | omega | decide), (by first | assumption | omega | decide), (by first | assumption | omega | decide), fun H767 s768 q769 x770 h771 h773 h774  => ?_⟩
        have S772 := S755.mut x770 (all_cons (.head _) (all_cons (.tail _ (.head _)) (all_cons (.tail _ (.tail _ (.head _))) all_nil))) (all_cons (some_ne h771) (all_cons (some_ne h773) (all_cons (some_ne h774) all_nil)))
        refine ⟨s768, _, rfl, S772, h771, h773, h774, ?_⟩
        exact ⟨by rw [q769, he]; exact items_turn hi (by simp [encItem, *]), by rw [q769]; first | exact code_ok hg (by omega) (by omega) | exact even_ok hg _, by rw [q769]; first | (have := len_code encoder item.1 item.2; omega) | (have := len_narrow encoder 2048 item.2; omega)⟩
      · have c766 : ¬ (0 ≤ item.1) := c766
        refine ⟨_, rfl, _, _, _, rfl, h756, rfl, _, rfl, _, _, _, _, rfl, rfl, (SqT.of (S755.sG _ _ h761)), rfl, _, _, _, _, (encoder : EncS), _, rfl, h756, h757, h758, ne_encoder_0, (by first | assumption | omega | decide), (by first | assumption | omega | decide), (by first | assumption | omega | decide), (by first | assumption | omega | decide), fun H775 s776 q777 x778 h779 h781 h782  => ?_⟩
        have S780 := S755.mut x778 (all_cons (.head _) (all_cons (.tail _ (.head _)) (all_cons (.tail _ (.tail _ (.head _))) all_nil))) (all_cons (some_ne h779) (all_cons (some_ne h781) (all_cons (some_ne h782) all_nil)))
        refine ⟨s776, _, rfl, S780, h779, h781, h782, ?_⟩
        exact ⟨by rw [q777, he]; exact items_turn hi (by simp [encItem, *]), by rw [q777]; first | exact code_ok hg (by omega) (by omega) | exact even_ok hg _, by rw [q777]; first | (have := len_code encoder item.1 item.2; omega) | (have := len_narrow encoder 2048 item.2; omega)⟩
    · intro σ H783 hw
      rw [show (vs746).length = (items).length from (by rw [d748.len, List.length_map])] at hw
      obtain ⟨encoder, u_item, rfl, S784, h785, h786, h787, hu⟩ := hw
      obtain ⟨he, hg, hl⟩ := hu
      have E788 : ((⟨encoder.probs, encoder.front, encoder.low, encoder.span⟩) : EncS) = encItems enc items := by rw [he, List.take_length]
      exact (k _ _ E788 S784.base h785 h786 h787)

abbrev N__law_read : List Str := ["decoder", "item"]
theorem sc__law_read : FnScope N__law_read ["decoder", "item"] (defScope s__law_read) := ⟨rfl, rfl, rfl, by decide +kernel, rfl, by decide +kernel, by decide +kernel⟩
theorem ok__law_read (D : DefIn K mg "_law_read" s__law_read ["decoder", "item"]) (T : Txt K mg AD) (c_Decoder_read : MetC P w K mg base 3 AD.c_Decoder "read" (sp_Decoder_read K AD)) (c_Decoder_read_even : MetC P w K mg base 3 AD.c_Decoder "read_even" (sp_Decoder_read_even K AD)) : Cal P w K mg base 4 "_law_read" (sp__law_read K AD) := by
  refine D.ok sc__law_read (fun vs H Q E h => ?_) (fun f cdv A_ outer s H vs Q E hr h => ?_)
  · obtain ⟨p_decoder, dx_decoder, l_decoder_probs, l_decoder_octs, dec, v_item, item, rfl, _⟩ := h
    rfl
  · obtain ⟨p_decoder, dx_decoder, l_decoder_probs, l_decoder_octs, dec, v_item, item, rfl, h_decoder, h_decoder_probs, h_decoder_octs, ne_decoder_0, r_item, pre0, pre1, k⟩ := h
    refine ⟨_, (pss_cons (ps_if (pt_cmp (pc_ge (pe_ix (ix_tupK (K := K)) (pv 1) pe_int (fun _ _ => rfl)) pe_int)) (pss_one (ps_ret (vx_meth c_Decoder_read hr (by decide) (pv 0) (pa_cons (pe_ix (ix_tupK (K := K)) (pv 1) pe_int (fun _ _ => rfl)) pa_nil)))) pss_nil)
      (pss_one (ps_ret (vx_meth0 c_Decoder_read_even hr (by decide) (pv 0))))), ?_⟩
    have hM : ∀ a ∈ [p_decoder, l_decoder_probs, l_decoder_octs], H a ≠ none := (all_cons (some_ne h_decoder) (all_cons (some_ne h_decoder_probs) (all_cons (some_ne h_decoder_octs) all_nil)))
    have S0 := Sep.start [p_decoder, l_decoder_probs, l_decoder_octs] H hM
    obtain ⟨a789, v791, v792, rfl, h790, r793, r794⟩ := rp_tup2 r_item
    obtain rfl := rp_int r793
    obtain rfl := rp_int r794
    refine ⟨_, rfl, _, _, _, _, rfl, rfl, (SqT.of (S0.sG _ _ h790)), rfl, _, _, rfl, rfl, _, rfl, ?_⟩
    refine iteD (fun c795 => ?_) (fun c795 => ?_)
    · have c795 : 0 ≤ item.1 := c795
      refine ⟨_, rfl, _, _, _, rfl, h_decoder, rfl, _, rfl, _, _, _, _, rfl, rfl, (SqT.of (S0.sG _ _ h790)), rfl, _, _, _, _, (dec : DecS), _, rfl, h_decoder, h_decoder_probs, h_decoder_octs, ne_decoder_0, (by first | assumption | omega | decide), (by first | assumption | omega | decide), (by first | assumption | omega | decide), fun H796 s797 q798 x799 h800 h802 h803  => ?_⟩
      have S801 := S0.mut x799 (all_cons (.head _) (all_cons (.tail _ (.head _)) (all_cons (.tail _ (.tail _ (.head _))) all_nil))) (all_cons (some_ne h800) (all_cons (some_ne h802) (all_cons (some_ne h803) all_nil)))
      have E804 : ((⟨s797.probs, s797.octs, s797.place, s797.span, s797.value⟩) : DecS) = decItem dec item := by unfold decItem; first | (rw [if_pos ‹_›]; exact q798) | (rw [if_neg ‹_›]; exact q798)
      exact eq_int (k _ _ E804 S801.base h800 h802 h803) (by unfold decItemBit; first | (rw [if_pos ‹_›]; done) | (rw [if_neg ‹_›]; done))
    · have c795 : ¬ (0 ≤ item.1) := c795
      refine ⟨_, rfl, _, _, _, rfl, h_decoder, rfl, _, _, _, _, (dec : DecS), rfl, h_decoder, h_decoder_probs, h_decoder_octs, ne_decoder_0, (by first | assumption | omega | decide), fun H805 s806 q807 x808 h809 h811 h812  => ?_⟩
      have S810 := S0.mut x808 (all_cons (.head _) (all_cons (.tail _ (.head _)) (all_cons (.tail _ (.tail _ (.head _))) all_nil))) (all_cons (some_ne h809) (all_cons (some_ne h811) (all_cons (some_ne h812) all_nil)))
      have E813 : ((⟨s806.probs, s806.octs, s806.place, s806.span, s806.value⟩) : DecS) = decItem dec item := by unfold decItem; first | (rw [if_pos ‹_›]; exact q807) | (rw [if_neg ‹_›]; exact q807)
      exact eq_int (k _ _ E813 S810.base h809 h811 h812) (by unfold decItemBit; first | (rw [if_pos ‹_›]; done) | (rw [if_neg ‹_›]; done))

abbrev N_law : List Str := ["script", "items", "encoder", "octets", "kept", "decoder", "other", "k", "chances", "item", "actual", "context"]
theorem sc_law : FnScope N_law ["script"] (defScope s_law) := ⟨rfl, rfl, rfl, by decide +kernel, rfl, by decide +kernel, by decide +kernel⟩
theorem ok_law {f : Addr} {fd : FuncData} (F : Fun K "law" "law" s_law f fd) (T : Txt K mg AD) (c__law_items : Cal P w K mg base 2 "_law_items" (sp__law_items K AD)) (c__law_cell : Cal P w K mg base 1 "_law_cell" (sp__law_cell K AD)) (c_Encoder___init__ : MakC P w K mg base 1 "Encoder" AD.c_Encoder (sp_Encoder___init__ K AD)) (c__law_code_items : Cal P w K mg base 4 "_law_code_items" (sp__law_code_items K AD)) (c_Encoder_octets : MetC P w K mg base 1 AD.c_Encoder "octets" (sp_Encoder_octets K AD)) (c_Decoder___init__ : MakC P w K mg base 2 "Decoder" AD.c_Decoder (sp_Decoder___init__ K AD)) (c_Decoder_probability : MetC P w K mg base 2 AD.c_Decoder "probability" (sp_Decoder_probability K AD)) (c__law_read : Cal P w K mg base 4 "_law_read" (sp__law_read K AD)) (c__law_moved : Cal P w K mg base 1 "_law_moved" (sp__law_moved K AD)) (c_Encoder_probability : MetC P w K mg base 2 AD.c_Encoder "probability" (sp_Encoder_probability K AD)) : FnOk P w K mg base CX0 5 f fd ["script"] (sp_law K AD) := by
  refine F.ok sc_law (fun vs H Q E h => ?_) (fun cdv A_ outer s H vs Q E hr h => ?_)
  · obtain ⟨a_script, script, rfl, _⟩ := h
    rfl
  · obtain ⟨a_script, script, rfl, q_script, hlen, k⟩ := h
    refine ⟨_, (pss_cons (ps_set (i := 1) sc_law.nd rfl (Or.inl rfl) (vx_call c__law_items hr (by decide) rfl (pa_cons (pv 0) (pa_cons pe_int pa_nil))))
      (pss_cons (ps_if (pt_cmp (pc_eqI (pe_op op_mod (pe_callTy call_int1 (by rfl) T.b_int (by decide +kernel) (pa_cons (vx_call c__law_cell hr (by decide) rfl (pa_cons (pv 0) (pa_cons pe_int pa_nil))) pa_nil)) pe_int) pe_int)) (pss_one (ps_set (i := 1) sc_law.nd rfl (Or.inl rfl) (pe_op op_rep (pv 1) pe_int))) pss_nil)
      (pss_cons (ps_set (i := 2) sc_law.nd rfl (Or.inl rfl) (vx_make0 c_Encoder___init__ hr (by decide) rfl))
      (pss_cons (ps_expr (vx_call c__law_code_items hr (by decide) rfl (pa_cons (pv 2) (pa_cons (pv 1) pa_nil))))
      (pss_cons (ps_set (i := 3) sc_law.nd rfl (Or.inl rfl) (vx_meth0 c_Encoder_octets hr (by decide) (pv 2)))
      (pss_cons (ps_set (i := 4) sc_law.nd rfl (Or.inl rfl) (pe_callTy (call_listLK (K := K)) (by rfl) T.b_list (by decide +kernel) (pa_cons (pv 3) pa_nil)))
      (pss_cons (ps_set (i := 5) sc_law.nd rfl (Or.inl rfl) (vx_make c_Decoder___init__ hr (by decide) rfl (pa_cons (pv 3) pa_nil)))
      (pss_cons (ps_set (i := 6) sc_law.nd rfl (Or.inl rfl) (vx_make c_Decoder___init__ hr (by decide) rfl (pa_cons (pe_op op_cat (pv 4) (pe_op op_rep (pe_lst (pa_cons pe_int pa_nil)) (pe_op op_mod (pe_callTy call_int1 (by rfl) T.b_int (by decide +kernel) (pa_cons (vx_call c__law_cell hr (by decide) rfl (pa_cons (pv 0) (pa_cons pe_int pa_nil))) pa_nil)) pe_int))) pa_nil)))
      (pss_cons (ps_for PassesOwn.never rfl (pi_range1 rfl T.b_range (pa_cons (pe_callB (call_lenLiK (K := K)) (by rfl) T.b_len (by decide +kernel) (pa_cons (pv 3) pa_nil)) pa_nil)) (pg_name (i := 7) sc_law.nd rfl (Or.inl rfl)) (pss_one (ps_asg (pe_op op_sub pe_int (pe_ix (ix_listK (K := K)) (pv 3) (pv 7) (fun _ _ => rfl))) (pg_sub (pv 3) (pv 7) set_list))))
      (pss_cons (ps_expr (pe_bm PySem.F.plainAttrs_list PySem.F.slot_list_append PySem.F.type_list_append mt_append (pv 3) (pa_cons pe_int pa_nil)))
      (pss_cons (ps_set (i := 8) sc_law.nd rfl (Or.inl rfl) (pe_op op_rep (pe_lst (pa_cons pe_int pa_nil)) pe_int))
      (pss_cons (ps_for PassesOwn.never rfl (pi_listK (K := K) (pv 1)) (pg_name (i := 9) sc_law.nd rfl (Or.inl rfl)) (pss_cons (ps_if (PW.pt (pw_and (pt_cmp (pc_ge (pe_ix (ix_tupK (K := K)) (pv 9) pe_int (fun _ _ => rfl)) pe_int)) (pw_and1 (pt_cmp (pc_neI (vx_meth c_Decoder_probability hr (by decide) (pv 5) (pa_cons (pe_ix (ix_tupK (K := K)) (pv 9) pe_int (fun _ _ => rfl)) pa_nil)) (pe_ix (ix_listK (K := K)) (pv 8) (pe_ix (ix_tupK (K := K)) (pv 9) pe_int (fun _ _ => rfl)) (fun _ _ => rfl))))))) (pss_one (ps_ret pe_bl)) pss_nil)
      (pss_cons (ps_set (i := 10) sc_law.nd rfl (Or.inl rfl) (vx_call c__law_read hr (by decide) rfl (pa_cons (pv 5) (pa_cons (pv 9) pa_nil))))
      (pss_cons (ps_if (PW.pt (pw_or (pt_val (pe_callB call_isi (by rfl) T.b_isinstance (by decide +kernel) (pa_cons (pv 10) (pa_cons (pe_bltn (v := V.ty "bool") (u := Value.type "bool") (by rfl) T.b_bool (by decide +kernel) rfl) pa_nil)))) (pw_or (pt_cmp (pc_neI (pv 10) (pe_ix (ix_tupK (K := K)) (pv 9) pe_int (fun _ _ => rfl)))) (pw_or1 (pt_cmp (pc_neI (vx_call c__law_read hr (by decide) rfl (pa_cons (pv 6) (pa_cons (pv 9) pa_nil))) (pe_ix (ix_tupK (K := K)) (pv 9) pe_int (fun _ _ => rfl)))))))) (pss_one (ps_ret pe_bl)) pss_nil)
      (pss_one (ps_if (pt_cmp (pc_ge (pe_ix (ix_tupK (K := K)) (pv 9) pe_int (fun _ _ => rfl)) pe_int)) (pss_one (ps_asg (vx_call c__law_moved hr (by decide) rfl (pa_cons (pe_ix (ix_listK (K := K)) (pv 8) (pe_ix (ix_tupK (K := K)) (pv 9) pe_int (fun _ _ => rfl)) (fun _ _ => rfl)) (pa_cons (pe_ix (ix_tupK (K := K)) (pv 9) pe_int (fun _ _ => rfl)) pa_nil))) (pg_sub (pv 8) (pe_ix (ix_tupK (K := K)) (pv 9) pe_int (fun _ _ => rfl)) set_list))) pss_nil))))))
      (pss_cons (ps_for PassesOwn.never rfl (pi_range1 rfl T.b_range (pa_cons pe_int pa_nil)) (pg_name (i := 11) sc_law.nd rfl (Or.inl rfl)) (pss_one (ps_if (PW.pt (pw_or (pt_cmp (pc_neI (vx_meth c_Decoder_probability hr (by decide) (pv 5) (pa_cons (pv 11) pa_nil)) (pe_ix (ix_listK (K := K)) (pv 8) (pv 11) (fun _ _ => rfl)))) (pw_or1 (pt_cmp (pc_neI (vx_meth c_Encoder_probability hr (by decide) (pv 2) (pa_cons (pv 11) pa_nil)) (pe_ix (ix_listK (K := K)) (pv 8) (pv 11) (fun _ _ => rfl))))))) (pss_one (ps_ret pe_bl)) pss_nil)))
      (pss_one (ps_ret (pe_cmpR (op_eqT (encOk_L encOk_int) hr.units) (vx_meth0 c_Encoder_octets hr (by decide) (pv 2)) (pv 4) (nomark _))))))))))))))))), ?_⟩
    have S0 := Sep.start0 H
    refine ⟨_, rfl, H, _, _, _, rfl, S0.sG, (S0.b0.seq q_script), (by first | assumption | omega | decide), fun v816 H814 G817 e815 eG818 sG819 hn820 r821 => ?_⟩
    have S822 := S0.step e815 eG818 sG819 hn820
    obtain ⟨a823, vs824, rfl, h825, d826⟩ := rp_list r821
    have hio := itemsL_ok script 300
    have hil := itemsL_len script
    refine ⟨_, rfl, _, _, _, rfl, (S822.b0.seq q_script), (by first | assumption | omega | decide), .inl ⟨_, rfl, ?_⟩⟩
    refine ⟨_, _, rfl, rfl, (by first | omega | decide), _, _, rfl, rfl, _, rfl, ?_⟩
    refine iteD (fun c827 => ?_) (fun c827 => ?_)
    · have c827 : ((cellI (script) (0) % 8) : Int) = 5 := c827
      refine ⟨_, rfl, _, _, _, rfl, rfl, (S822.sG _ _ h825), (by first | omega | decide), (by first | omega | decide), (rep_len d826 (by exact Nat.le_trans (Nat.mul_le_mul_right _ hil) (by decide))), fun p828 n829 => ?_⟩
      generalize g830 : upd H814 p828 _ = H831
      obtain ⟨e832, h833⟩ := gen_new n829 g830
      have h834 : H831 p828 = some (.lst ((List.replicate (Int.toNat (10)) (vs824)).flatten)) := h833
      have fr835 := S822.free n829
      have S836 := S822.new n829 e832 h834 fr835
      have d837 : RpAll G817 ((List.replicate (Int.toNat (10)) (vs824)).flatten) ((repL (itemsL (script) (300)) (10) : (List (Int × Int))).map (encT2 PyData.int PyData.int)) := rep_all (10) d826
      refine fun x838 dx839 n840 n841 n842 => ?_
      generalize g843 : upd (upd H831 dx839 _) x838 _ = H844
      obtain ⟨e845, h846⟩ := gen_obj n840 n841 n842 g843
      have fr847 := S836.free n840
      have S848 := S836.new n840 e845 h846 fr847
      refine ⟨_, _, rfl, h846, fun H851 l849 l850 s852 q853 x854 n859 n860 ne861 h855 h857 h858 => ⟨rfl, ?_⟩⟩
      have fr862 := S848.free n859
      have fr863 := S848.free n860
      have S856 : Sep _ _ _ _ H851 [l849, l850, x838, p828] := Sep.init S848 x854 (.head _) h855 [l849, l850] (all_cons ⟨n859, some_ne h857, fr862⟩ (all_cons ⟨n860, some_ne h858, fr863⟩ all_nil))
      have E0 := q853
      have G0 : EncG (s852) := by
        rw [E0]
        exact init_ok
      have F0 : ((s852)).front.length = 0 := by
        rw [E0]
        rfl
      have hok : ItemsOk (repL (itemsL (script) (300)) (10)) := by first | exact hio | exact items_rep hio _
      have hle : ((repL (itemsL (script) (300)) (10))).length ≤ 3000 := by first | omega | exact items_rep_len hil
      have h864 := ((SameXs.of x854) _ _ (e845 _ _ h834) (ni1 (ne_of_none h834 n840)))
      obtain ⟨G865, eG866, hg867, S868⟩ := Sep.freeze (O' := [l849, l850, x838]) S856 (.tail _ (.tail _ (.tail _ (.head _)))) h864 fr835 ((all_cons ⟨(.head _), (ne_of_none (e845 _ _ h834) n859).symm⟩ (all_cons ⟨(.tail _ (.head _)), (ne_of_none (e845 _ _ h834) n860).symm⟩ (all_cons ⟨(.tail _ (.tail _ (.head _))), (ne_of_none h834 n840).symm⟩ all_nil))))
      refine ⟨_, rfl, _, rfl, _, _, _, _, (s852 : EncS), _, _, rfl, h855, h857, h858, ne861, (Rp.mono (S868.hid (all_cons (.tail _ (.tail _ (.head _))) (all_cons (.head _) (all_cons (.tail _ (.head _)) all_nil)))) (rp_mk_list hg867 (RpAll.mono eG866 d837))), (by first | assumption | omega | decide), (by first | assumption | omega | decide), (by first | assumption | omega | decide), fun H869 s870 q871 x872 h873 h875 h876  => ?_⟩
      have S874 := S868.mut x872 (all_cons (.tail _ (.tail _ (.head _))) (all_cons (.head _) (all_cons (.tail _ (.head _)) all_nil))) (all_cons (some_ne h873) (all_cons (some_ne h875) (all_cons (some_ne h876) all_nil)))
      have E1 := q871
      rw [E0] at E1
      have G1 : EncG (s870) := by
        rw [E1]
        exact items_ok init_ok hok
      have F1 : ((s870)).front.length ≤ 3000 := by
        rw [E1]
        exact Nat.le_trans (items_len _ _) (by rw [show encInit.front.length = 0 from rfl]; omega)
      have LE1 := G1.len
      refine ⟨_, rfl, _, _, _, rfl, h873, rfl, _, _, _, _, (s870 : EncS), rfl, h873, h875, h876, ne861, (by first | assumption | omega | decide), fun p879 H877 n880 e878 h881 => ?_⟩
      have h882 : H877 p879 = some (.lst ((encOctets (s870) : (List Int)).map V.int)) := h881
      have fr883 := S874.free n880
      have S884 := S874.new n880 e878 h882 fr883
      have hoc := code_oct_in G1.mid
      have hol := octs_len (s870)
      refine ⟨_, rfl, _, _, rfl, (SqL.of h882), fun p885 n886 => ?_⟩
      generalize g887 : upd H877 p885 _ = H888
      obtain ⟨e889, h890⟩ := gen_new n886 g887
      have h891 : H888 p885 = some (.lst ((encOctets (s870) : (List Int)).map V.int)) := h890
      have fr892 := S884.free n886
      have S893 := S884.new n886 e889 h891 fr892
      refine ⟨_, rfl, fun x894 dx895 n896 n897 n898 => ?_⟩
      generalize g899 : upd (upd H888 dx895 _) x894 _ = H900
      obtain ⟨e901, h902⟩ := gen_obj n896 n897 n898 g899
      have fr903 := S893.free n896
      have S904 := S893.new n896 e901 h902 fr903
      have h905 := (e901 _ _ (e889 _ _ h882))
      refine ⟨_, _, _, _, rfl, h902, h905, (by first | assumption | omega | decide), (by first | assumption | omega | decide), fun H908 l906 l907 s909 q910 x911 n916 n917 ne918 h912 h914 h915 => ⟨rfl, ?_⟩⟩
      have fr919 := S904.free n916
      have fr920 := S904.free n917
      have S913 : Sep _ _ _ _ H908 [l906, l907, x894, p885, p879, l849, l850, x838] := Sep.init S904 x911 (.head _) h912 [l906, l907] (all_cons ⟨n916, some_ne h914, fr919⟩ (all_cons ⟨n917, some_ne h915, fr920⟩ all_nil))
      obtain ⟨O1, hO1⟩ : ∃ o : List Int, o = (encOctets (s870)) := ⟨_, rfl⟩
      have D1 := q910
      rw [← hO1] at D1
      have ho1 : ∀ x ∈ O1, 0 ≤ x ∧ x ≤ 255 := by
        rw [hO1]
        exact hoc
      have hc1 : accO O1 ((encItems encInit (repL (itemsL (script) (300)) (10))).front.length + 4) = bigL (encItems encInit (repL (itemsL (script) (300)) (10))) := by
        rw [hO1, ← E1]
        exact acc_code0 G1.mid
      obtain ⟨O2, hO2⟩ : ∃ o : List Int, o = (encOctets (s870)) ++ repL [0] (cellI script 0 % 21) := ⟨_, rfl⟩
      have ho2 : ∀ x ∈ O2, 0 ≤ x ∧ x ≤ 255 := by
        rw [hO2]
        exact zeros_in hoc _
      have hc2 : accO O2 ((encItems encInit (repL (itemsL (script) (300)) (10))).front.length + 4) = bigL (encItems encInit (repL (itemsL (script) (300)) (10))) := by
        rw [hO2, ← E1, rep_zero]
        exact acc_code G1.mid _
      refine ⟨_, rfl, (by show 1 ≤ sizeLine; decide), fun p921 n922 => ?_⟩
      generalize g923 : upd H908 p921 _ = H924
      obtain ⟨e925, h926⟩ := gen_new n922 g923
      have h927 : H924 p921 = some (.lst (([0] : (List Int)).map V.int)) := h926
      have fr928 := S913.free n922
      have S929 := S913.new n922 e925 h927 fr928
      refine ⟨_, rfl, _, _, _, rfl, (S929.b0.seq q_script), (by first | assumption | omega | decide), .inl ⟨_, rfl, ?_⟩⟩
      refine ⟨_, _, rfl, rfl, (by first | omega | decide), _, _, _, rfl, rfl, h927, (by first | omega | decide), (by first | omega | decide), (rep_lenM (by simp only [List.length_cons, List.length_nil]; omega)), fun p930 n931 => ?_⟩
      generalize g932 : upd H924 p930 _ = H933
      obtain ⟨e934, h935⟩ := gen_new n931 g932
      have h936 : H933 p930 = some (.lst ((repL ([0]) ((cellI (script) (0) % 21)) : (List Int)).map V.int)) := rep_map h935
      have fr937 := S929.free n931
      have S938 := S929.new n931 e934 h936 fr937
      have h939 := (e934 _ _ (e925 _ _ ((SameXs.of x911) _ _ (e901 _ _ h891) (ni1 (ne_of_none h891 n896)))))
      refine ⟨_, _, _, _, rfl, rfl, h939, h936, (cat_lenM (by rw [repL_len]; simp only [List.length_cons, List.length_nil]; omega)), fun p940 n941 => ?_⟩
      generalize g942 : upd H933 p940 _ = H943
      obtain ⟨e944, h945⟩ := gen_new n941 g942
      have h946 : H943 p940 = some (.lst (((encOctets (s870)) ++ (repL ([0]) ((cellI (script) (0) % 21))) : (List Int)).map V.int)) := cat_map h945
      have fr947 := S938.free n941
      have S948 := S938.new n941 e944 h946 fr947
      refine fun x949 dx950 n951 n952 n953 => ?_
      generalize g954 : upd (upd H943 dx950 _) x949 _ = H955
      obtain ⟨e956, h957⟩ := gen_obj n951 n952 n953 g954
      have fr958 := S948.free n951
      have S959 := S948.new n951 e956 h957 fr958
      have h960 := (e956 _ _ h946)
      refine ⟨_, _, _, _, rfl, h957, h960, (by first | exact zeros_in hoc _ | (rw [List.length_append, repL_len]; simp only [List.length_cons, List.length_nil]; omega)), (by first | exact zeros_in hoc _ | (rw [List.length_append, repL_len]; simp only [List.length_cons, List.length_nil]; omega)), fun H963 l961 l962 s964 q965 x966 n971 n972 ne973 h967 h969 h970 => ⟨rfl, ?_⟩⟩
      have fr974 := S959.free n971
      have fr975 := S959.free n972
      have S968 : Sep _ _ _ _ H963 [l961, l962, x949, p940, p930, p921, l906, l907, x894, p885, p879, l849, l850, x838] := Sep.init S959 x966 (.head _) h967 [l961, l962] (all_cons ⟨n971, some_ne h969, fr974⟩ (all_cons ⟨n972, some_ne h970, fr975⟩ all_nil))
      have D2 := q965
      rw [← hO2] at D2
      have h976 := ((SameXs.of x966) _ _ (e956 _ _ (e944 _ _ (e934 _ _ (e925 _ _ ((SameXs.of x911) _ _ h905 (ni1 (ne_of_none (e889 _ _ h882) n896))))))) (ni1 (ne_of_none (e944 _ _ (e934 _ _ (e925 _ _ ((SameXs.of x911) _ _ h905 (ni1 (ne_of_none (e889 _ _ h882) n896)))))) n951)))
      refine ⟨_, rfl, _, _, rfl, (SqL.of h976), _, rfl, (by omega), (by omega), for_range (lo := 0) (n := ((((encOctets (s870)) : (List Int)).length : Int) : Int).toNat) (fun i σ H' => ∃ (octets : (List Int)) (u_k : Option V) (G' : Hp), σ = [some (V.ref a_script), some (V.ref p828), some (V.ref x838), some (V.ref p879), some (V.ref p885), some (V.ref x894), some (V.ref x949), u_k, none, none, none, none] ∧ Same G865 G' ∧ Sep [] H H G' H' [x838, l849, l850, p879, p885, x894, l906, l907, x949, l961, l962] ∧ H' x838 = some (.ins AD.c_Encoder dx839 [("_probabilities", V.ref l849), ("_front", V.ref l850), ("_low", V.int (s870.low)), ("_span", V.int (s870.span))]) ∧ H' l849 = some (.lst ((s870.probs).map V.int)) ∧ H' l850 = some (.lst ((s870.front).map V.int)) ∧ H' p879 = some (.lst ((octets).map V.int)) ∧ H' p885 = some (.lst ((encOctets (s870)).map V.int)) ∧ H' x894 = some (.ins AD.c_Decoder dx895 [("_probabilities", V.ref l906), ("_octets", V.ref l907), ("_place", V.int (s909.place)), ("_span", V.int (s909.span)), ("_value", V.int (s909.value))]) ∧ H' l906 = some (.lst ((s909.probs).map V.int)) ∧ H' l907 = some (.lst ((s909.octs).map V.int)) ∧ H' x949 = some (.ins AD.c_Decoder dx950 [("_probabilities", V.ref l961), ("_octets", V.ref l962), ("_place", V.int (s964.place)), ("_span", V.int (s964.span)), ("_value", V.int (s964.value))]) ∧ H' l961 = some (.lst ((s964.probs).map V.int)) ∧ H' l962 = some (.lst ((s964.octs).map V.int)) ∧ (octets.length = (encOctets (s870)).length)) ?_ ?_ ?_⟩
      · have h977 := ((SameXs.of x966) _ _ (e956 _ _ (e944 _ _ (e934 _ _ (e925 _ _ ((SameXs.of x911) _ _ (e901 _ _ (e889 _ _ (e878 _ _ h873))) (ni1 (ne_of_none (e889 _ _ (e878 _ _ h873)) n896))))))) (ni1 (ne_of_none (e944 _ _ (e934 _ _ (e925 _ _ ((SameXs.of x911) _ _ (e901 _ _ (e889 _ _ (e878 _ _ h873))) (ni1 (ne_of_none (e889 _ _ (e878 _ _ h873)) n896)))))) n951)))
        have h978 := ((SameXs.of x966) _ _ (e956 _ _ (e944 _ _ (e934 _ _ (e925 _ _ ((SameXs.of x911) _ _ (e901 _ _ (e889 _ _ (e878 _ _ h875))) (ni1 (ne_of_none (e889 _ _ (e878 _ _ h875)) n896))))))) (ni1 (ne_of_none (e944 _ _ (e934 _ _ (e925 _ _ ((SameXs.of x911) _ _ (e901 _ _ (e889 _ _ (e878 _ _ h875))) (ni1 (ne_of_none (e889 _ _ (e878 _ _ h875)) n896)))))) n951)))
        have h979 := ((SameXs.of x966) _ _ (e956 _ _ (e944 _ _ (e934 _ _ (e925 _ _ ((SameXs.of x911) _ _ (e901 _ _ (e889 _ _ (e878 _ _ h876))) (ni1 (ne_of_none (e889 _ _ (e878 _ _ h876)) n896))))))) (ni1 (ne_of_none (e944 _ _ (e934 _ _ (e925 _ _ ((SameXs.of x911) _ _ (e901 _ _ (e889 _ _ (e878 _ _ h876))) (ni1 (ne_of_none (e889 _ _ (e878 _ _ h876)) n896)))))) n951)))
        have h980 := ((SameXs.of x966) _ _ (e956 _ _ (e944 _ _ h939)) (ni1 (ne_of_none (e944 _ _ h939) n951)))
        have h981 := ((SameXs.of x966) _ _ (e956 _ _ (e944 _ _ (e934 _ _ (e925 _ _ h912)))) (ni1 (ne_of_none (e944 _ _ (e934 _ _ (e925 _ _ h912))) n951)))
        have h982 := ((SameXs.of x966) _ _ (e956 _ _ (e944 _ _ (e934 _ _ (e925 _ _ h914)))) (ni1 (ne_of_none (e944 _ _ (e934 _ _ (e925 _ _ h914))) n951)))
        have h983 := ((SameXs.of x966) _ _ (e956 _ _ (e944 _ _ (e934 _ _ (e925 _ _ h915)))) (ni1 (ne_of_none (e944 _ _ (e934 _ _ (e925 _ _ h915))) n951)))
        refine ⟨(encOctets (s870)), _, _, rfl, (Same.refl _), (S968.sub (all_cons (.tail _ (.tail _ (.tail _ (.tail _ (.tail _ (.tail _ (.tail _ (.tail _ (.tail _ (.tail _ (.tail _ (.tail _ (.tail _ (.head _)))))))))))))) (all_cons (.tail _ (.tail _ (.tail _ (.tail _ (.tail _ (.tail _ (.tail _ (.tail _ (.tail _ (.tail _ (.tail _ (.head _)))))))))))) (all_cons (.tail _ (.tail _ (.tail _ (.tail _ (.tail _ (.tail _ (.tail _ (.tail _ (.tail _ (.tail _ (.tail _ (.tail _ (.head _))))))))))))) (all_cons (.tail _ (.tail _ (.tail _ (.tail _ (.tail _ (.tail _ (.tail _ (.tail _ (.tail _ (.tail _ (.head _))))))))))) (all_cons (.tail _ (.tail _ (.tail _ (.tail _ (.tail _ (.tail _ (.tail _ (.tail _ (.tail _ (.head _)))))))))) (all_cons (.tail _ (.tail _ (.tail _ (.tail _ (.tail _ (.tail _ (.tail _ (.tail _ (.head _))))))))) (all_cons (.tail _ (.tail _ (.tail _ (.tail _ (.tail _ (.tail _ (.head _))))))) (all_cons (.tail _ (.tail _ (.tail _ (.tail _ (.tail _ (.tail _ (.tail _ (.head _)))))))) (all_cons (.tail _ (.tail _ (.head _))) (all_cons (.head _) (all_cons (.tail _ (.head _)) all_nil)))))))))))), h977, h978, h979, h976, h980, h981, h982, h983, h967, h969, h970, ?_⟩
        rfl
      · intro i σ H984 hi hw
        obtain ⟨octets, u_k, G997, rfl, eG998, S985, h986, h987, h988, h989, h990, h991, h992, h993, h994, h995, h996, hu⟩ := hw
        refine ⟨_, rfl, _, rfl, _, _, _, _, rfl, rfl, (SqL.of h989), (atI_map (by first | omega | (simp only [List.length_cons, List.length_nil]; omega))), _, _, rfl, rfl, _, rfl, _, rfl, _, _, _, _, rfl, rfl, h989, (ixN_map (by first | omega | (simp only [List.length_cons, List.length_nil]; omega))), ?_⟩
        generalize g999 : upd H984 p879 _ = H1000
        obtain ⟨x1001, h1002⟩ := gen_mut g999
        have h1003 : H1000 p879 = some (.lst ((setL (octets) ((0 + (i : Int))) ((255 - (itD (octets) ((0 + (i : Int)))))) : (List Int)).map V.int)) := set_map h1002
        have S1004 := S985.mut1 x1001 (.tail _ (.tail _ (.tail _ (.head _)))) h1003
        have h1005 := (x1001 _ _ h986 (ne_of_none h873 n880))
        have h1006 := (x1001 _ _ h987 (ne_of_none h875 n880))
        have h1007 := (x1001 _ _ h988 (ne_of_none h876 n880))
        have h1008 := (x1001 _ _ h990 (ne_of_none h882 n886).symm)
        have h1009 := (x1001 _ _ h991 (ne_of_none (e889 _ _ h882) n896).symm)
        have h1010 := (x1001 _ _ h992 (ne_of_none h905 n916).symm)
        have h1011 := (x1001 _ _ h993 (ne_of_none h905 n917).symm)
        have h1012 := (x1001 _ _ h994 (ne_of_none (e944 _ _ (e934 _ _ (e925 _ _ ((SameXs.of x911) _ _ h905 (ni1 (ne_of_none (e889 _ _ h882) n896)))))) n951).symm)
        have h1013 := (x1001 _ _ h995 (ne_of_none (e956 _ _ (e944 _ _ (e934 _ _ (e925 _ _ ((SameXs.of x911) _ _ h905 (ni1 (ne_of_none (e889 _ _ h882) n896))))))) n971).symm)
        have h1014 := (x1001 _ _ h996 (ne_of_none (e956 _ _ (e944 _ _ (e934 _ _ (e925 _ _ ((SameXs.of x911) _ _ h905 (ni1 (ne_of_none (e889 _ _ h882) n896))))))) n972).symm)
        refine ⟨(setL (octets) ((0 + (i : Int))) ((255 - (itD (octets) ((0 + (i : Int))))))), _, _, rfl, eG998, S1004, h1005, h1006, h1007, h1003, h1008, h1009, h1010, h1011, h1012, h1013, h1014, ?_⟩
        rw [setL_len]; exact hu
      · intro σ H1015 hw
        obtain ⟨octets, u_k, G1028, rfl, eG1029, S1016, h1017, h1018, h1019, h1020, h1021, h1022, h1023, h1024, h1025, h1026, h1027, hu⟩ := hw
        refine ⟨_, rfl, (.inl ⟨rfl, _, SqL.of h1020⟩), _, _, _, rfl, rfl, h1020, (app_lenM (by first | omega | (simp only [List.length_map, List.length_append, List.length_take, List.length_range, List.length_cons, List.length_nil, repL_len]; omega))), ?_⟩
        generalize g1030 : upd H1015 p879 _ = H1031
        obtain ⟨x1032, h1033⟩ := gen_mut g1030
        have h1034 : H1031 p879 = some (.lst (((octets) ++ [255] : (List Int)).map V.int)) := snoc_map h1033
        have S1035 := S1016.mut1 x1032 (.tail _ (.tail _ (.tail _ (.head _)))) h1034
        refine ⟨(by show 1 ≤ sizeLine; decide), fun p1036 n1037 => ?_⟩
        generalize g1038 : upd H1031 p1036 _ = H1039
        obtain ⟨e1040, h1041⟩ := gen_new n1037 g1038
        have h1042 : H1039 p1036 = some (.lst (([2048] : (List Int)).map V.int)) := h1041
        have fr1043 := S1035.free n1037
        have S1044 := S1035.new n1037 e1040 h1042 fr1043
        refine ⟨_, _, _, rfl, rfl, h1042, (by first | omega | decide), (by first | omega | decide), (rep_lenM (by first | omega | (simp only [List.length_map, List.length_append, List.length_take, List.length_range, List.length_cons, List.length_nil, repL_len]; omega))), fun p1045 n1046 => ?_⟩
        generalize g1047 : upd H1039 p1045 _ = H1048
        obtain ⟨e1049, h1050⟩ := gen_new n1046 g1047
        have h1051 : H1048 p1045 = some (.lst ((repL ([2048]) (256) : (List Int)).map V.int)) := rep_map h1050
        have fr1052 := S1044.free n1046
        have S1053 := S1044.new n1046 e1049 h1051 fr1052
        refine ⟨_, rfl, _, rfl, ⟨_, (SqL.of (S1053.sG _ _ (eG1029 _ _ hg867)))⟩, for_list (K := K) (a := p828) (xs := (List.replicate (Int.toNat (10)) (vs824)).flatten) (fun i σ H' => ∃ (decoder : DecS) (other : DecS) (chances : (List Int)) (u_item : Option V) (u_actual : Option V) (G' : Hp), σ = [some (V.ref a_script), some (V.ref p828), some (V.ref x838), some (V.ref p879), some (V.ref p885), some (V.ref x894), some (V.ref x949), u_k, some (V.ref p1045), u_item, u_actual, none] ∧ Same G1028 G' ∧ Sep [] H H G' H' [x838, l849, l850, p879, p885, x894, l906, l907, x949, l961, l962, p1045] ∧ H' x838 = some (.ins AD.c_Encoder dx839 [("_probabilities", V.ref l849), ("_front", V.ref l850), ("_low", V.int (s870.low)), ("_span", V.int (s870.span))]) ∧ H' l849 = some (.lst ((s870.probs).map V.int)) ∧ H' l850 = some (.lst ((s870.front).map V.int)) ∧ H' p879 = some (.lst (((octets) ++ [255]).map V.int)) ∧ H' p885 = some (.lst ((encOctets (s870)).map V.int)) ∧ H' x894 = some (.ins AD.c_Decoder dx895 [("_probabilities", V.ref l906), ("_octets", V.ref l907), ("_place", V.int (decoder.place)), ("_span", V.int (decoder.span)), ("_value", V.int (decoder.value))]) ∧ H' l906 = some (.lst ((decoder.probs).map V.int)) ∧ H' l907 = some (.lst ((decoder.octs).map V.int)) ∧ H' x949 = some (.ins AD.c_Decoder dx950 [("_probabilities", V.ref l961), ("_octets", V.ref l962), ("_place", V.int (other.place)), ("_span", V.int (other.span)), ("_value", V.int (other.value))]) ∧ H' l961 = some (.lst ((other.probs).map V.int)) ∧ H' l962 = some (.lst ((other.octs).map V.int)) ∧ H' p1045 = some (.lst ((chances).map V.int)) ∧ (Rel O1 (encItems encInit ((repL (itemsL (script) (300)) (10)).take i)) decoder ∧ Rel O2 (encItems encInit ((repL (itemsL (script) (300)) (10)).take i)) other ∧ chances = (encItems encInit ((repL (itemsL (script) (300)) (10)).take i)).probs)) ?_ ?_ ?_ ?_⟩
        · have h1054 := (e1049 _ _ (e1040 _ _ (x1032 _ _ h1017 (ne_of_none h873 n880))))
          have h1055 := (e1049 _ _ (e1040 _ _ (x1032 _ _ h1018 (ne_of_none h875 n880))))
          have h1056 := (e1049 _ _ (e1040 _ _ (x1032 _ _ h1019 (ne_of_none h876 n880))))
          have h1057 := (e1049 _ _ (e1040 _ _ h1034))
          have h1058 := (e1049 _ _ (e1040 _ _ (x1032 _ _ h1021 (ne_of_none h882 n886).symm)))
          have h1059 := (e1049 _ _ (e1040 _ _ (x1032 _ _ h1022 (ne_of_none (e889 _ _ h882) n896).symm)))
          have h1060 := (e1049 _ _ (e1040 _ _ (x1032 _ _ h1023 (ne_of_none h905 n916).symm)))
          have h1061 := (e1049 _ _ (e1040 _ _ (x1032 _ _ h1024 (ne_of_none h905 n917).symm)))
          have h1062 := (e1049 _ _ (e1040 _ _ (x1032 _ _ h1025 (ne_of_none (e944 _ _ (e934 _ _ (e925 _ _ ((SameXs.of x911) _ _ h905 (ni1 (ne_of_none (e889 _ _ h882) n896)))))) n951).symm)))
          have h1063 := (e1049 _ _ (e1040 _ _ (x1032 _ _ h1026 (ne_of_none (e956 _ _ (e944 _ _ (e934 _ _ (e925 _ _ ((SameXs.of x911) _ _ h905 (ni1 (ne_of_none (e889 _ _ h882) n896))))))) n971).symm)))
          have h1064 := (e1049 _ _ (e1040 _ _ (x1032 _ _ h1027 (ne_of_none (e956 _ _ (e944 _ _ (e934 _ _ (e925 _ _ ((SameXs.of x911) _ _ h905 (ni1 (ne_of_none (e889 _ _ h882) n896))))))) n972).symm)))
          refine ⟨s909, s964, (repL ([2048]) (256)), _, _, _, rfl, (Same.refl _), (S1053.sub (all_cons (.tail _ (.tail _ (.head _))) (all_cons (.tail _ (.tail _ (.tail _ (.head _)))) (all_cons (.tail _ (.tail _ (.tail _ (.tail _ (.head _))))) (all_cons (.tail _ (.tail _ (.tail _ (.tail _ (.tail _ (.head _)))))) (all_cons (.tail _ (.tail _ (.tail _ (.tail _ (.tail _ (.tail _ (.head _))))))) (all_cons (.tail _ (.tail _ (.tail _ (.tail _ (.tail _ (.tail _ (.tail _ (.head _)))))))) (all_cons (.tail _ (.tail _ (.tail _ (.tail _ (.tail _ (.tail _ (.tail _ (.tail _ (.head _))))))))) (all_cons (.tail _ (.tail _ (.tail _ (.tail _ (.tail _ (.tail _ (.tail _ (.tail _ (.tail _ (.head _)))))))))) (all_cons (.tail _ (.tail _ (.tail _ (.tail _ (.tail _ (.tail _ (.tail _ (.tail _ (.tail _ (.tail _ (.head _))))))))))) (all_cons (.tail _ (.tail _ (.tail _ (.tail _ (.tail _ (.tail _ (.tail _ (.tail _ (.tail _ (.tail _ (.tail _ (.head _)))))))))))) (all_cons (.tail _ (.tail _ (.tail _ (.tail _ (.tail _ (.tail _ (.tail _ (.tail _ (.tail _ (.tail _ (.tail _ (.tail _ (.head _))))))))))))) (all_cons (.head _) all_nil))))))))))))), h1054, h1055, h1056, h1057, h1058, h1059, h1060, h1061, h1062, h1063, h1064, h1051, ?_⟩
          refine ⟨?_, ?_, rfl⟩
          · rw [D1]
            exact rel_start hok ho1 hc1
          · rw [D2]
            exact rel_start hok ho2 hc2
        · intro i σ H1065 _ hw
          obtain ⟨decoder, other, chances, u_item, u_actual, G1079, rfl, eG1080, S1066, h1067, h1068, h1069, h1070, h1071, h1072, h1073, h1074, h1075, h1076, h1077, h1078, hu⟩ := hw
          exact (SqL.of (S1066.sG _ _ (eG1080 _ _ (eG1029 _ _ hg867))))
        · intro i x σ H1081 hj hw
          obtain ⟨decoder, other, chances, u_item, u_actual, G1095, rfl, eG1096, S1082, h1083, h1084, h1085, h1086, h1087, h1088, h1089, h1090, h1091, h1092, h1093, h1094, hu⟩ := hw
          obtain ⟨item, hi, r1097⟩ := RpAll.get (RpAll.mono eG1096 (RpAll.mono eG1029 (RpAll.mono eG866 d837))) hj
          obtain ⟨a1098, v1100, v1101, rfl, h1099, r1102, r1103⟩ := rp_tup2 r1097
          obtain rfl := rp_int r1102
          obtain rfl := rp_int r1103
          obtain ⟨hr1, hr2, hch⟩ := hu
          have hlt := get_len hi
          have hit := hok _ (List.mem_of_getElem? hi)
          have hpl := hr1.g.len
          have hcl : chances.length = 256 := by
            rw [hch]
            exact (items_ok init_ok (fun x hx => hok x (List.mem_of_mem_take hx))).len
          refine ⟨_, rfl, _, _, _, _, rfl, rfl, (SqT.of (S1082.sG _ _ h1099)), rfl, _, _, rfl, rfl, _, rfl, ?_⟩
          refine iteD (fun c1104 => ?_) (fun c1104 => ?_)
          · have c1104 : 0 ≤ item.1 := c1104
            refine ⟨_, rfl, _, _, _, rfl, h1088, rfl, _, rfl, _, _, _, _, rfl, rfl, (SqT.of (S1082.sG _ _ h1099)), rfl, _, _, _, _, (decoder : DecS), _, rfl, h1088, h1089, h1090, ne918, (by first | assumption | omega | decide), (by first | assumption | omega | decide), (by first | assumption | omega | decide), _, rfl, _, rfl, _, _, _, _, rfl, rfl, (SqT.of (S1082.sG _ _ h1099)), rfl, _, _, _, _, rfl, rfl, (SqL.of h1094), (atI_map (by rw [hcl]; omega)), _, _, rfl, rfl, _, rfl, ?_⟩
            refine iteNF (show (itD (decoder).probs (item.1) : Int) = (itD (chances) (item.1)) from by rw [hr1.probs, hch]) ?_
            refine ⟨_, rfl, _, rfl, _, _, _, _, (decoder : DecS), _, _, rfl, h1088, h1089, h1090, ne918, (Rp.mono (S1082.hid (all_cons (.tail _ (.tail _ (.tail _ (.tail _ (.tail _ (.head _)))))) (all_cons (.tail _ (.tail _ (.tail _ (.tail _ (.tail _ (.tail _ (.head _))))))) (all_cons (.tail _ (.tail _ (.tail _ (.tail _ (.tail _ (.tail _ (.tail _ (.head _)))))))) all_nil)))) (rp_mk2 h1099 (.int _) (.int _))), (by first | exact hr1.g | exact hit.1), (by first | exact hr1.g | exact hit.1), fun H1105 s1106 q1107 x1108 h1109 h1111 h1112  => ?_⟩
            have S1110 := S1082.mut x1108 (all_cons (.tail _ (.tail _ (.tail _ (.tail _ (.tail _ (.head _)))))) (all_cons (.tail _ (.tail _ (.tail _ (.tail _ (.tail _ (.tail _ (.head _))))))) (all_cons (.tail _ (.tail _ (.tail _ (.tail _ (.tail _ (.tail _ (.tail _ (.head _)))))))) all_nil))) (all_cons (some_ne h1109) (all_cons (some_ne h1111) (all_cons (some_ne h1112) all_nil)))
            have R1 := rel_turn hi hok ho1 hc1 hr1
            have R2 := rel_turn hi hok ho2 hc2 hr2
            have X1 := q1107
            refine ⟨_, rfl, _, _, _, _, _, rfl, (.ty _), (.base (.int _)), rfl, _, rfl, ?_⟩
            refine iteF ?_
            refine ⟨_, rfl, _, rfl, _, _, _, _, rfl, rfl, (SqT.of (S1110.sG _ _ h1099)), rfl, _, _, rfl, rfl, _, rfl, ?_⟩
            refine iteNF (show (decItemBit (decoder) (item) : Int) = item.2 from by exact R1.1) ?_
            have h1113 := (x1108 _ _ h1091 (ni3 (ne_of_none (e944 _ _ (e934 _ _ (e925 _ _ h912))) n951).symm (ne_of_none (e944 _ _ (e934 _ _ (e925 _ _ h914))) n951).symm (ne_of_none (e944 _ _ (e934 _ _ (e925 _ _ h915))) n951).symm))
            have h1114 := (x1108 _ _ h1092 (ni3 (ne_of_none (e956 _ _ (e944 _ _ (e934 _ _ (e925 _ _ h912)))) n971).symm (ne_of_none (e956 _ _ (e944 _ _ (e934 _ _ (e925 _ _ h914)))) n971).symm (ne_of_none (e956 _ _ (e944 _ _ (e934 _ _ (e925 _ _ h915)))) n971).symm))
            have h1115 := (x1108 _ _ h1093 (ni3 (ne_of_none (e956 _ _ (e944 _ _ (e934 _ _ (e925 _ _ h912)))) n972).symm (ne_of_none (e956 _ _ (e944 _ _ (e934 _ _ (e925 _ _ h914)))) n972).symm (ne_of_none (e956 _ _ (e944 _ _ (e934 _ _ (e925 _ _ h915)))) n972).symm))
            refine ⟨_, rfl, _, rfl, _, _, _, _, (other : DecS), _, _, rfl, h1113, h1114, h1115, ne973, (Rp.mono (S1110.hid (all_cons (.tail _ (.tail _ (.tail _ (.tail _ (.tail _ (.tail _ (.tail _ (.tail _ (.head _))))))))) (all_cons (.tail _ (.tail _ (.tail _ (.tail _ (.tail _ (.tail _ (.tail _ (.tail _ (.tail _ (.head _)))))))))) (all_cons (.tail _ (.tail _ (.tail _ (.tail _ (.tail _ (.tail _ (.tail _ (.tail _ (.tail _ (.tail _ (.head _))))))))))) all_nil)))) (rp_mk2 h1099 (.int _) (.int _))), (by first | exact hr2.g | exact hit.1), (by first | exact hr2.g | exact hit.1), fun H1116 s1117 q1118 x1119 h1120 h1122 h1123  => ?_⟩
            have S1121 := S1110.mut x1119 (all_cons (.tail _ (.tail _ (.tail _ (.tail _ (.tail _ (.tail _ (.tail _ (.tail _ (.head _))))))))) (all_cons (.tail _ (.tail _ (.tail _ (.tail _ (.tail _ (.tail _ (.tail _ (.tail _ (.tail _ (.head _)))))))))) (all_cons (.tail _ (.tail _ (.tail _ (.tail _ (.tail _ (.tail _ (.tail _ (.tail _ (.tail _ (.tail _ (.head _))))))))))) all_nil))) (all_cons (some_ne h1120) (all_cons (some_ne h1122) (all_cons (some_ne h1123) all_nil)))
            refine ⟨_, rfl, _, _, _, _, rfl, rfl, (SqT.of (S1121.sG _ _ h1099)), rfl, _, _, rfl, rfl, _, rfl, ?_⟩
            refine iteNF (show (decItemBit (other) (item) : Int) = item.2 from by exact R2.1) ?_
            refine ⟨_, rfl, _, _, _, _, rfl, rfl, (SqT.of (S1121.sG _ _ h1099)), rfl, _, _, rfl, rfl, _, rfl, ?_⟩
            refine iteD (fun c1124 => ?_) (fun c1124 => ?_)
            · have c1124 : 0 ≤ item.1 := c1124
              have h1125 := (x1119 _ _ (x1108 _ _ h1094 (ni3 (ne_of_none (e1040 _ _ (x1032 _ _ h1022 (ne_of_none (e889 _ _ h882) n896).symm)) n1046).symm (ne_of_none (e1040 _ _ (x1032 _ _ h1023 (ne_of_none h905 n916).symm)) n1046).symm (ne_of_none (e1040 _ _ (x1032 _ _ h1024 (ne_of_none h905 n917).symm)) n1046).symm)) (ni3 (ne_of_none (e1040 _ _ (x1032 _ _ h1025 (ne_of_none (e944 _ _ (e934 _ _ (e925 _ _ ((SameXs.of x911) _ _ h905 (ni1 (ne_of_none (e889 _ _ h882) n896)))))) n951).symm)) n1046).symm (ne_of_none (e1040 _ _ (x1032 _ _ h1026 (ne_of_none (e956 _ _ (e944 _ _ (e934 _ _ (e925 _ _ ((SameXs.of x911) _ _ h905 (ni1 (ne_of_none (e889 _ _ h882) n896))))))) n971).symm)) n1046).symm (ne_of_none (e1040 _ _ (x1032 _ _ h1027 (ne_of_none (e956 _ _ (e944 _ _ (e934 _ _ (e925 _ _ ((SameXs.of x911) _ _ h905 (ni1 (ne_of_none (e889 _ _ h882) n896))))))) n972).symm)) n1046).symm))
              refine ⟨_, rfl, _, rfl, _, _, _, _, rfl, rfl, (SqT.of (S1121.sG _ _ h1099)), rfl, _, _, _, _, rfl, rfl, (SqL.of h1125), (atI_map (by rw [hcl]; omega)), _, rfl, _, _, _, _, rfl, rfl, (SqT.of (S1121.sG _ _ h1099)), rfl, _, _, rfl, _, rfl, _, rfl, _, _, _, _, rfl, rfl, (SqT.of (S1121.sG _ _ h1099)), rfl, _, _, _, _, rfl, rfl, h1125, (ixN_map (by rw [hcl]; omega)), ?_⟩
              generalize g1126 : upd H1116 p1045 _ = H1127
              obtain ⟨x1128, h1129⟩ := gen_mut g1126
              have h1130 : H1127 p1045 = some (.lst ((setL (chances) (item.1) (adaptE ((itD (chances) (item.1))) (item.2)) : (List Int)).map V.int)) := set_map h1129
              have S1131 := S1121.mut1 x1128 (.tail _ (.tail _ (.tail _ (.tail _ (.tail _ (.tail _ (.tail _ (.tail _ (.tail _ (.tail _ (.tail _ (.head _)))))))))))) h1130
              have h1132 := (x1128 _ _ (x1119 _ _ (x1108 _ _ h1083 (ni3 (ne_of_none (e889 _ _ (e878 _ _ h873)) n896) (ne_of_none (e901 _ _ (e889 _ _ (e878 _ _ h873))) n916) (ne_of_none (e901 _ _ (e889 _ _ (e878 _ _ h873))) n917))) (ni3 (ne_of_none (e944 _ _ (e934 _ _ (e925 _ _ ((SameXs.of x911) _ _ (e901 _ _ (e889 _ _ (e878 _ _ h873))) (ni1 (ne_of_none (e889 _ _ (e878 _ _ h873)) n896)))))) n951) (ne_of_none (e956 _ _ (e944 _ _ (e934 _ _ (e925 _ _ ((SameXs.of x911) _ _ (e901 _ _ (e889 _ _ (e878 _ _ h873))) (ni1 (ne_of_none (e889 _ _ (e878 _ _ h873)) n896))))))) n971) (ne_of_none (e956 _ _ (e944 _ _ (e934 _ _ (e925 _ _ ((SameXs.of x911) _ _ (e901 _ _ (e889 _ _ (e878 _ _ h873))) (ni1 (ne_of_none (e889 _ _ (e878 _ _ h873)) n896))))))) n972))) (ne_of_none (e1040 _ _ (x1032 _ _ h1017 (ne_of_none h873 n880))) n1046))
              have h1133 := (x1128 _ _ (x1119 _ _ (x1108 _ _ h1084 (ni3 (ne_of_none (e889 _ _ (e878 _ _ h875)) n896) (ne_of_none (e901 _ _ (e889 _ _ (e878 _ _ h875))) n916) (ne_of_none (e901 _ _ (e889 _ _ (e878 _ _ h875))) n917))) (ni3 (ne_of_none (e944 _ _ (e934 _ _ (e925 _ _ ((SameXs.of x911) _ _ (e901 _ _ (e889 _ _ (e878 _ _ h875))) (ni1 (ne_of_none (e889 _ _ (e878 _ _ h875)) n896)))))) n951) (ne_of_none (e956 _ _ (e944 _ _ (e934 _ _ (e925 _ _ ((SameXs.of x911) _ _ (e901 _ _ (e889 _ _ (e878 _ _ h875))) (ni1 (ne_of_none (e889 _ _ (e878 _ _ h875)) n896))))))) n971) (ne_of_none (e956 _ _ (e944 _ _ (e934 _ _ (e925 _ _ ((SameXs.of x911) _ _ (e901 _ _ (e889 _ _ (e878 _ _ h875))) (ni1 (ne_of_none (e889 _ _ (e878 _ _ h875)) n896))))))) n972))) (ne_of_none (e1040 _ _ (x1032 _ _ h1018 (ne_of_none h875 n880))) n1046))
              have h1134 := (x1128 _ _ (x1119 _ _ (x1108 _ _ h1085 (ni3 (ne_of_none (e889 _ _ (e878 _ _ h876)) n896) (ne_of_none (e901 _ _ (e889 _ _ (e878 _ _ h876))) n916) (ne_of_none (e901 _ _ (e889 _ _ (e878 _ _ h876))) n917))) (ni3 (ne_of_none (e944 _ _ (e934 _ _ (e925 _ _ ((SameXs.of x911) _ _ (e901 _ _ (e889 _ _ (e878 _ _ h876))) (ni1 (ne_of_none (e889 _ _ (e878 _ _ h876)) n896)))))) n951) (ne_of_none (e956 _ _ (e944 _ _ (e934 _ _ (e925 _ _ ((SameXs.of x911) _ _ (e901 _ _ (e889 _ _ (e878 _ _ h876))) (ni1 (ne_of_none (e889 _ _ (e878 _ _ h876)) n896))))))) n971) (ne_of_none (e956 _ _ (e944 _ _ (e934 _ _ (e925 _ _ ((SameXs.of x911) _ _ (e901 _ _ (e889 _ _ (e878 _ _ h876))) (ni1 (ne_of_none (e889 _ _ (e878 _ _ h876)) n896))))))) n972))) (ne_of_none (e1040 _ _ (x1032 _ _ h1019 (ne_of_none h876 n880))) n1046))
              have h1135 := (x1128 _ _ (x1119 _ _ (x1108 _ _ h1086 (ni3 (ne_of_none (e889 _ _ h882) n896) (ne_of_none h905 n916) (ne_of_none h905 n917))) (ni3 (ne_of_none (e944 _ _ (e934 _ _ (e925 _ _ ((SameXs.of x911) _ _ h905 (ni1 (ne_of_none (e889 _ _ h882) n896)))))) n951) (ne_of_none (e956 _ _ (e944 _ _ (e934 _ _ (e925 _ _ ((SameXs.of x911) _ _ h905 (ni1 (ne_of_none (e889 _ _ h882) n896))))))) n971) (ne_of_none (e956 _ _ (e944 _ _ (e934 _ _ (e925 _ _ ((SameXs.of x911) _ _ h905 (ni1 (ne_of_none (e889 _ _ h882) n896))))))) n972))) (ne_of_none (e1040 _ _ h1034) n1046))
              have h1136 := (x1128 _ _ (x1119 _ _ (x1108 _ _ h1087 (ni3 (ne_of_none h891 n896) (ne_of_none (e901 _ _ h891) n916) (ne_of_none (e901 _ _ h891) n917))) (ni3 (ne_of_none (e944 _ _ h939) n951) (ne_of_none (e956 _ _ (e944 _ _ h939)) n971) (ne_of_none (e956 _ _ (e944 _ _ h939)) n972))) (ne_of_none (e1040 _ _ (x1032 _ _ h1021 (ne_of_none h882 n886).symm)) n1046))
              have h1137 := (x1128 _ _ (x1119 _ _ h1109 (ni3 (ne_of_none (e944 _ _ (e934 _ _ (e925 _ _ h912))) n951) (ne_of_none (e956 _ _ (e944 _ _ (e934 _ _ (e925 _ _ h912)))) n971) (ne_of_none (e956 _ _ (e944 _ _ (e934 _ _ (e925 _ _ h912)))) n972))) (ne_of_none (e1040 _ _ (x1032 _ _ h1022 (ne_of_none (e889 _ _ h882) n896).symm)) n1046))
              have h1138 := (x1128 _ _ (x1119 _ _ h1111 (ni3 (ne_of_none (e944 _ _ (e934 _ _ (e925 _ _ h914))) n951) (ne_of_none (e956 _ _ (e944 _ _ (e934 _ _ (e925 _ _ h914)))) n971) (ne_of_none (e956 _ _ (e944 _ _ (e934 _ _ (e925 _ _ h914)))) n972))) (ne_of_none (e1040 _ _ (x1032 _ _ h1023 (ne_of_none h905 n916).symm)) n1046))
              have h1139 := (x1128 _ _ (x1119 _ _ h1112 (ni3 (ne_of_none (e944 _ _ (e934 _ _ (e925 _ _ h915))) n951) (ne_of_none (e956 _ _ (e944 _ _ (e934 _ _ (e925 _ _ h915)))) n971) (ne_of_none (e956 _ _ (e944 _ _ (e934 _ _ (e925 _ _ h915)))) n972))) (ne_of_none (e1040 _ _ (x1032 _ _ h1024 (ne_of_none h905 n917).symm)) n1046))
              have h1140 := (x1128 _ _ h1120 (ne_of_none (e1040 _ _ (x1032 _ _ h1025 (ne_of_none (e944 _ _ (e934 _ _ (e925 _ _ ((SameXs.of x911) _ _ h905 (ni1 (ne_of_none (e889 _ _ h882) n896)))))) n951).symm)) n1046))
              have h1141 := (x1128 _ _ h1122 (ne_of_none (e1040 _ _ (x1032 _ _ h1026 (ne_of_none (e956 _ _ (e944 _ _ (e934 _ _ (e925 _ _ ((SameXs.of x911) _ _ h905 (ni1 (ne_of_none (e889 _ _ h882) n896))))))) n971).symm)) n1046))
              have h1142 := (x1128 _ _ h1123 (ne_of_none (e1040 _ _ (x1032 _ _ h1027 (ne_of_none (e956 _ _ (e944 _ _ (e934 _ _ (e925 _ _ ((SameXs.of x911) _ _ h905 (ni1 (ne_of_none (e889 _ _ h882) n896))))))) n972).symm)) n1046))
              refine ⟨s1106, s1117, (setL (chances) (item.1) (adaptE ((itD (chances) (item.1))) (item.2))), _, _, _, rfl, eG1096, S1131, h1132, h1133, h1134, h1135, h1136, h1137, h1138, h1139, h1140, h1141, h1142, h1130, ?_⟩
              refine ⟨?_, ?_, ?_⟩
              · rw [X1]
                exact R1.2
              · rw [q1118]
                exact R2.2
              · exact chances_turn hi hch (by unfold codeChances; first | (rw [if_pos ‹_›]; done) | (rw [if_neg ‹_›]; done))
            · have c1124 : ¬ (0 ≤ item.1) := c1124
              have h1143 := (x1119 _ _ (x1108 _ _ h1083 (ni3 (ne_of_none (e889 _ _ (e878 _ _ h873)) n896) (ne_of_none (e901 _ _ (e889 _ _ (e878 _ _ h873))) n916) (ne_of_none (e901 _ _ (e889 _ _ (e878 _ _ h873))) n917))) (ni3 (ne_of_none (e944 _ _ (e934 _ _ (e925 _ _ ((SameXs.of x911) _ _ (e901 _ _ (e889 _ _ (e878 _ _ h873))) (ni1 (ne_of_none (e889 _ _ (e878 _ _ h873)) n896)))))) n951) (ne_of_none (e956 _ _ (e944 _ _ (e934 _ _ (e925 _ _ ((SameXs.of x911) _ _ (e901 _ _ (e889 _ _ (e878 _ _ h873))) (ni1 (ne_of_none (e889 _ _ (e878 _ _ h873)) n896))))))) n971) (ne_of_none (e956 _ _ (e944 _ _ (e934 _ _ (e925 _ _ ((SameXs.of x911) _ _ (e901 _ _ (e889 _ _ (e878 _ _ h873))) (ni1 (ne_of_none (e889 _ _ (e878 _ _ h873)) n896))))))) n972)))
              have h1144 := (x1119 _ _ (x1108 _ _ h1084 (ni3 (ne_of_none (e889 _ _ (e878 _ _ h875)) n896) (ne_of_none (e901 _ _ (e889 _ _ (e878 _ _ h875))) n916) (ne_of_none (e901 _ _ (e889 _ _ (e878 _ _ h875))) n917))) (ni3 (ne_of_none (e944 _ _ (e934 _ _ (e925 _ _ ((SameXs.of x911) _ _ (e901 _ _ (e889 _ _ (e878 _ _ h875))) (ni1 (ne_of_none (e889 _ _ (e878 _ _ h875)) n896)))))) n951) (ne_of_none (e956 _ _ (e944 _ _ (e934 _ _ (e925 _ _ ((SameXs.of x911) _ _ (e901 _ _ (e889 _ _ (e878 _ _ h875))) (ni1 (ne_of_none (e889 _ _ (e878 _ _ h875)) n896))))))) n971) (ne_of_none (e956 _ _ (e944 _ _ (e934 _ _ (e925 _ _ ((SameXs.of x911) _ _ (e901 _ _ (e889 _ _ (e878 _ _ h875))) (ni1 (ne_of_none (e889 _ _ (e878 _ _ h875)) n896))))))) n972)))
              have h1145 := (x1119 _ _ (x1108 _ _ h1085 (ni3 (ne_of_none (e889 _ _ (e878 _ _ h876)) n896) (ne_of_none (e901 _ _ (e889 _ _ (e878 _ _ h876))) n916) (ne_of_none (e901 _ _ (e889 _ _ (e878 _ _ h876))) n917))) (ni3 (ne_of_none (e944 _ _ (e934 _ _ (e925 _ _ ((SameXs.of x911) _ _ (e901 _ _ (e889 _ _ (e878 _ _ h876))) (ni1 (ne_of_none (e889 _ _ (e878 _ _ h876)) n896)))))) n951) (ne_of_none (e956 _ _ (e944 _ _ (e934 _ _ (e925 _ _ ((SameXs.of x911) _ _ (e901 _ _ (e889 _ _ (e878 _ _ h876))) (ni1 (ne_of_none (e889 _ _ (e878 _ _ h876)) n896))))))) n971) (ne_of_none (e956 _ _ (e944 _ _ (e934 _ _ (e925 _ _ ((SameXs.of x911) _ _ (e901 _ _ (e889 _ _ (e878 _ _ h876))) (ni1 (ne_of_none (e889 _ _ (e878 _ _ h876)) n896))))))) n972)))
              have h1146 := (x1119 _ _ (x1108 _ _ h1086 (ni3 (ne_of_none (e889 _ _ h882) n896) (ne_of_none h905 n916) (ne_of_none h905 n917))) (ni3 (ne_of_none (e944 _ _ (e934 _ _ (e925 _ _ ((SameXs.of x911) _ _ h905 (ni1 (ne_of_none (e889 _ _ h882) n896)))))) n951) (ne_of_none (e956 _ _ (e944 _ _ (e934 _ _ (e925 _ _ ((SameXs.of x911) _ _ h905 (ni1 (ne_of_none (e889 _ _ h882) n896))))))) n971) (ne_of_none (e956 _ _ (e944 _ _ (e934 _ _ (e925 _ _ ((SameXs.of x911) _ _ h905 (ni1 (ne_of_none (e889 _ _ h882) n896))))))) n972)))
              have h1147 := (x1119 _ _ (x1108 _ _ h1087 (ni3 (ne_of_none h891 n896) (ne_of_none (e901 _ _ h891) n916) (ne_of_none (e901 _ _ h891) n917))) (ni3 (ne_of_none (e944 _ _ h939) n951) (ne_of_none (e956 _ _ (e944 _ _ h939)) n971) (ne_of_none (e956 _ _ (e944 _ _ h939)) n972)))
              have h1148 := (x1119 _ _ h1109 (ni3 (ne_of_none (e944 _ _ (e934 _ _ (e925 _ _ h912))) n951) (ne_of_none (e956 _ _ (e944 _ _ (e934 _ _ (e925 _ _ h912)))) n971) (ne_of_none (e956 _ _ (e944 _ _ (e934 _ _ (e925 _ _ h912)))) n972)))
              have h1149 := (x1119 _ _ h1111 (ni3 (ne_of_none (e944 _ _ (e934 _ _ (e925 _ _ h914))) n951) (ne_of_none (e956 _ _ (e944 _ _ (e934 _ _ (e925 _ _ h914)))) n971) (ne_of_none (e956 _ _ (e944 _ _ (e934 _ _ (e925 _ _ h914)))) n972)))
              have h1150 := (x1119 _ _ h1112 (ni3 (ne_of_none (e944 _ _ (e934 _ _ (e925 _ _ h915))) n951) (ne_of_none (e956 _ _ (e944 _ _ (e934 _ _ (e925 _ _ h915)))) n971) (ne_of_none (e956 _ _ (e944 _ _ (e934 _ _ (e925 _ _ h915)))) n972)))
              have h1151 := (x1119 _ _ (x1108 _ _ h1094 (ni3 (ne_of_none (e1040 _ _ (x1032 _ _ h1022 (ne_of_none (e889 _ _ h882) n896).symm)) n1046).symm (ne_of_none (e1040 _ _ (x1032 _ _ h1023 (ne_of_none h905 n916).symm)) n1046).symm (ne_of_none (e1040 _ _ (x1032 _ _ h1024 (ne_of_none h905 n917).symm)) n1046).symm)) (ni3 (ne_of_none (e1040 _ _ (x1032 _ _ h1025 (ne_of_none (e944 _ _ (e934 _ _ (e925 _ _ ((SameXs.of x911) _ _ h905 (ni1 (ne_of_none (e889 _ _ h882) n896)))))) n951).symm)) n1046).symm (ne_of_none (e1040 _ _ (x1032 _ _ h1026 (ne_of_none (e956 _ _ (e944 _ _ (e934 _ _ (e925 _ _ ((SameXs.of x911) _ _ h905 (ni1 (ne_of_none (e889 _ _ h882) n896))))))) n971).symm)) n1046).symm (ne_of_none (e1040 _ _ (x1032 _ _ h1027 (ne_of_none (e956 _ _ (e944 _ _ (e934 _ _ (e925 _ _ ((SameXs.of x911) _ _ h905 (ni1 (ne_of_none (e889 _ _ h882) n896))))))) n972).symm)) n1046).symm))
              refine ⟨s1106, s1117, (chances), _, _, _, rfl, eG1096, S1121, h1143, h1144, h1145, h1146, h1147, h1148, h1149, h1150, h1120, h1122, h1123, h1151, ?_⟩
              refine ⟨?_, ?_, ?_⟩
              · rw [X1]
                exact R1.2
              · rw [q1118]
                exact R2.2
              · exact chances_turn hi hch (by unfold codeChances; first | (rw [if_pos ‹_›]; done) | (rw [if_neg ‹_›]; done))
          · have c1104 : ¬ (0 ≤ item.1) := c1104
            refine iteF ?_
            refine ⟨_, rfl, _, rfl, _, _, _, _, (decoder : DecS), _, _, rfl, h1088, h1089, h1090, ne918, (Rp.mono (S1082.hid (all_cons (.tail _ (.tail _ (.tail _ (.tail _ (.tail _ (.head _)))))) (all_cons (.tail _ (.tail _ (.tail _ (.tail _ (.tail _ (.tail _ (.head _))))))) (all_cons (.tail _ (.tail _ (.tail _ (.tail _ (.tail _ (.tail _ (.tail _ (.head _)))))))) all_nil)))) (rp_mk2 h1099 (.int _) (.int _))), (by first | exact hr1.g | exact hit.1), (by first | exact hr1.g | exact hit.1), fun H1152 s1153 q1154 x1155 h1156 h1158 h1159  => ?_⟩
            have S1157 := S1082.mut x1155 (all_cons (.tail _ (.tail _ (.tail _ (.tail _ (.tail _ (.head _)))))) (all_cons (.tail _ (.tail _ (.tail _ (.tail _ (.tail _ (.tail _ (.head _))))))) (all_cons (.tail _ (.tail _ (.tail _ (.tail _ (.tail _ (.tail _ (.tail _ (.head _)))))))) all_nil))) (all_cons (some_ne h1156) (all_cons (some_ne h1158) (all_cons (some_ne h1159) all_nil)))
            have R1 := rel_turn hi hok ho1 hc1 hr1
            have R2 := rel_turn hi hok ho2 hc2 hr2
            have X1 := q1154
            refine ⟨_, rfl, _, _, _, _, _, rfl, (.ty _), (.base (.int _)), rfl, _, rfl, ?_⟩
            refine iteF ?_
            refine ⟨_, rfl, _, rfl, _, _, _, _, rfl, rfl, (SqT.of (S1157.sG _ _ h1099)), rfl, _, _, rfl, rfl, _, rfl, ?_⟩
            refine iteNF (show (decItemBit (decoder) (item) : Int) = item.2 from by exact R1.1) ?_
            have h1160 := (x1155 _ _ h1091 (ni3 (ne_of_none (e944 _ _ (e934 _ _ (e925 _ _ h912))) n951).symm (ne_of_none (e944 _ _ (e934 _ _ (e925 _ _ h914))) n951).symm (ne_of_none (e944 _ _ (e934 _ _ (e925 _ _ h915))) n951).symm))
            have h1161 := (x1155 _ _ h1092 (ni3 (ne_of_none (e956 _ _ (e944 _ _ (e934 _ _ (e925 _ _ h912)))) n971).symm (ne_of_none (e956 _ _ (e944 _ _ (e934 _ _ (e925 _ _ h914)))) n971).symm (ne_of_none (e956 _ _ (e944 _ _ (e934 _ _ (e925 _ _ h915)))) n971).symm))
            have h1162 := (x1155 _ _ h1093 (ni3 (ne_of_none (e956 _ _ (e944 _ _ (e934 _ _ (e925 _ _ h912)))) n972).symm (ne_of_none (e956 _ _ (e944 _ _ (e934 _ _ (e925 _ _ h914)))) n972).symm (ne_of_none (e956 _ _ (e944 _ _ (e934 _ _ (e925 _ _ h915)))) n972).symm))
            refine ⟨_, rfl, _, rfl, _, _, _, _, (other : DecS), _, _, rfl, h1160, h1161, h1162, ne973, (Rp.mono (S1157.hid (all_cons (.tail _ (.tail _ (.tail _ (.tail _ (.tail _ (.tail _ (.tail _ (.tail _ (.head _))))))))) (all_cons (.tail _ (.tail _ (.tail _ (.tail _ (.tail _ (.tail _ (.tail _ (.tail _ (.tail _ (.head _)))))))))) (all_cons (.tail _ (.tail _ (.tail _ (.tail _ (.tail _ (.tail _ (.tail _ (.tail _ (.tail _ (.tail _ (.head _))))))))))) all_nil)))) (rp_mk2 h1099 (.int _) (.int _))), (by first | exact hr2.g | exact hit.1), (by first | exact hr2.g | exact hit.1), fun H1163 s1164 q1165 x1166 h1167 h1169 h1170  => ?_⟩
            have S1168 := S1157.mut x1166 (all_cons (.tail _ (.tail _ (.tail _ (.tail _ (.tail _ (.tail _ (.tail _ (.tail _ (.head _))))))))) (all_cons (.tail _ (.tail _ (.tail _ (.tail _ (.tail _ (.tail _ (.tail _ (.tail _ (.tail _ (.head _)))))))))) (all_cons (.tail _ (.tail _ (.tail _ (.tail _ (.tail _ (.tail _ (.tail _ (.tail _ (.tail _ (.tail _ (.head _))))))))))) all_nil))) (all_cons (some_ne h1167) (all_cons (some_ne h1169) (all_cons (some_ne h1170) all_nil)))
            refine ⟨_, rfl, _, _, _, _, rfl, rfl, (SqT.of (S1168.sG _ _ h1099)), rfl, _, _, rfl, rfl, _, rfl, ?_⟩
            refine iteNF (show (decItemBit (other) (item) : Int) = item.2 from by exact R2.1) ?_
            refine ⟨_, rfl, _, _, _, _, rfl, rfl, (SqT.of (S1168.sG _ _ h1099)), rfl, _, _, rfl, rfl, _, rfl, ?_⟩
            refine iteD (fun c1171 => ?_) (fun c1171 => ?_)
            · have c1171 : 0 ≤ item.1 := c1171
              have h1172 := (x1166 _ _ (x1155 _ _ h1094 (ni3 (ne_of_none (e1040 _ _ (x1032 _ _ h1022 (ne_of_none (e889 _ _ h882) n896).symm)) n1046).symm (ne_of_none (e1040 _ _ (x1032 _ _ h1023 (ne_of_none h905 n916).symm)) n1046).symm (ne_of_none (e1040 _ _ (x1032 _ _ h1024 (ne_of_none h905 n917).symm)) n1046).symm)) (ni3 (ne_of_none (e1040 _ _ (x1032 _ _ h1025 (ne_of_none (e944 _ _ (e934 _ _ (e925 _ _ ((SameXs.of x911) _ _ h905 (ni1 (ne_of_none (e889 _ _ h882) n896)))))) n951).symm)) n1046).symm (ne_of_none (e1040 _ _ (x1032 _ _ h1026 (ne_of_none (e956 _ _ (e944 _ _ (e934 _ _ (e925 _ _ ((SameXs.of x911) _ _ h905 (ni1 (ne_of_none (e889 _ _ h882) n896))))))) n971).symm)) n1046).symm (ne_of_none (e1040 _ _ (x1032 _ _ h1027 (ne_of_none (e956 _ _ (e944 _ _ (e934 _ _ (e925 _ _ ((SameXs.of x911) _ _ h905 (ni1 (ne_of_none (e889 _ _ h882) n896))))))) n972).symm)) n1046).symm))
              refine ⟨_, rfl, _, rfl, _, _, _, _, rfl, rfl, (SqT.of (S1168.sG _ _ h1099)), rfl, _, _, _, _, rfl, rfl, (SqL.of h1172), (atI_map (by rw [hcl]; omega)), _, rfl, _, _, _, _, rfl, rfl, (SqT.of (S1168.sG _ _ h1099)), rfl, _, _, rfl, _, rfl, _, rfl, _, _, _, _, rfl, rfl, (SqT.of (S1168.sG _ _ h1099)), rfl, _, _, _, _, rfl, rfl, h1172, (ixN_map (by rw [hcl]; omega)), ?_⟩
              generalize g1173 : upd H1163 p1045 _ = H1174
              obtain ⟨x1175, h1176⟩ := gen_mut g1173
              have h1177 : H1174 p1045 = some (.lst ((setL (chances) (item.1) (adaptE ((itD (chances) (item.1))) (item.2)) : (List Int)).map V.int)) := set_map h1176
              have S1178 := S1168.mut1 x1175 (.tail _ (.tail _ (.tail _ (.tail _ (.tail _ (.tail _ (.tail _ (.tail _ (.tail _ (.tail _ (.tail _ (.head _)))))))))))) h1177
              have h1179 := (x1175 _ _ (x1166 _ _ (x1155 _ _ h1083 (ni3 (ne_of_none (e889 _ _ (e878 _ _ h873)) n896) (ne_of_none (e901 _ _ (e889 _ _ (e878 _ _ h873))) n916) (ne_of_none (e901 _ _ (e889 _ _ (e878 _ _ h873))) n917))) (ni3 (ne_of_none (e944 _ _ (e934 _ _ (e925 _ _ ((SameXs.of x911) _ _ (e901 _ _ (e889 _ _ (e878 _ _ h873))) (ni1 (ne_of_none (e889 _ _ (e878 _ _ h873)) n896)))))) n951) (ne_of_none (e956 _ _ (e944 _ _ (e934 _ _ (e925 _ _ ((SameXs.of x911) _ _ (e901 _ _ (e889 _ _ (e878 _ _ h873))) (ni1 (ne_of_none (e889 _ _ (e878 _ _ h873)) n896))))))) n971) (ne_of_none (e956 _ _ (e944 _ _ (e934 _ _ (e925 _ _ ((SameXs.of x911) _ _ (e901 _ _ (e889 _ _ (e878 _ _ h873))) (ni1 (ne_of_none (e889 _ _ (e878 _ _ h873)) n896))))))) n972))) (ne_of_none (e1040 _ _ (x1032 _ _ h1017 (ne_of_none h873 n880))) n1046))
              have h1180 := (x1175 _ _ (x1166 _ _ (x1155 _ _ h1084 (ni3 (ne_of_none (e889 _ _ (e878 _ _ h875)) n896) (ne_of_none (e901 _ _ (e889 _ _ (e878 _ _ h875))) n916) (ne_of_none (e901 _ _ (e889 _ _ (e878 _ _ h875))) n917))) (ni3 (ne_of_none (e944 _ _ (e934 _ _ (e925 _ _ ((SameXs.of x911) _ _ (e901 _ _ (e889 _ _ (e878 _ _ h875))) (ni1 (ne_of_none (e889 _ _ (e878 _ _ h875)) n896)))))) n951) (ne_of_none (e956 _ _ (e944 _ _ (e934 _ _ (e925 _ _ ((SameXs.of x911) _ _ (e901 _ _ (e889 _ _ (e878 _ _ h875))) (ni1 (ne_of_none (e889 _ _ (e878 _ _ h875)) n896))))))) n971) (ne_of_none (e956 _ _ (e944 _ _ (e934 _ _ (e925 _ _ ((SameXs.of x911) _ _ (e901 _ _ (e889 _ _ (e878 _ _ h875))) (ni1 (ne_of_none (e889 _ _ (e878 _ _ h875)) n896))))))) n972))) (ne_of_none (e1040 _ _ (x1032 _ _ h1018 (ne_of_none h875 n880))) n1046))
              have h1181 := (x1175 _ _ (x1166 _ _ (x1155 _ _ h1085 (ni3 (ne_of_none (e889 _ _ (e878 _ _ h876)) n896) (ne_of_none (e901 _ _ (e889 _ _ (e878 _ _ h876))) n916) (ne_of_none (e901 _ _ (e889 _ _ (e878 _ _ h876))) n917))) (ni3 (ne_of_none (e944 _ _ (e934 _ _ (e925 _ _ ((SameXs.of x911) _ _ (e901 _ _ (e889 _ _ (e878 _ _ h876))) (ni1 (ne_of_none (e889 _ _ (e878 _ _ h876)) n896)))))) n951) (ne_of_none (e956 _ _ (e944 _ _ (e934 _ _ (e925 _ _ ((SameXs.of x911) _ _ (e901 _ _ (e889 _ _ (e878 _ _ h876))) (ni1 (ne_of_none (e889 _ _ (e878 _ _ h876)) n896))))))) n971) (ne_of_none (e956 _ _ (e944 _ _ (e934 _ _ (e925 _ _ ((SameXs.of x911) _ _ (e901 _ _ (e889 _ _ (e878 _ _ h876))) (ni1 (ne_of_none (e889 _ _ (e878 _ _ h876)) n896))))))) n972))) (ne_of_none (e1040 _ _ (x1032 _ _ h1019 (ne_of_none h876 n880))) n1046))
              have h1182 := (x1175 _ _ (x1166 _ _ (x1155 _ _ h1086 (ni3 (ne_of_none (e889 _ _ h882) n896) (ne_of_none h905 n916) (ne_of_none h905 n917))) (ni3 (ne_of_none (e944 _ _ (e934 _ _ (e925 _ _ ((SameXs.of x911) _ _ h905 (ni1 (ne_of_none (e889 _ _ h882) n896)))))) n951) (ne_of_none (e956 _ _ (e944 _ _ (e934 _ _ (e925 _ _ ((SameXs.of x911) _ _ h905 (ni1 (ne_of_none (e889 _ _ h882) n896))))))) n971) (ne_of_none (e956 _ _ (e944 _ _ (e934 _ _ (e925 _ _ ((SameXs.of x911) _ _ h905 (ni1 (ne_of_none (e889 _ _ h882) n896))))))) n972))) (ne_of_none (e1040 _ _ h1034) n1046))
              have h1183 := (x1175 _ _ (x1166 _ _ (x1155 _ _ h1087 (ni3 (ne_of_none h891 n896) (ne_of_none (e901 _ _ h891) n916) (ne_of_none (e901 _ _ h891) n917))) (ni3 (ne_of_none (e944 _ _ h939) n951) (ne_of_none (e956 _ _ (e944 _ _ h939)) n971) (ne_of_none (e956 _ _ (e944 _ _ h939)) n972))) (ne_of_none (e1040 _ _ (x1032 _ _ h1021 (ne_of_none h882 n886).symm)) n1046))
              have h1184 := (x1175 _ _ (x1166 _ _ h1156 (ni3 (ne_of_none (e944 _ _ (e934 _ _ (e925 _ _ h912))) n951) (ne_of_none (e956 _ _ (e944 _ _ (e934 _ _ (e925 _ _ h912)))) n971) (ne_of_none (e956 _ _ (e944 _ _ (e934 _ _ (e925 _ _ h912)))) n972))) (ne_of_none (e1040 _ _ (x1032 _ _ h1022 (ne_of_none (e889 _ _ h882) n896).symm)) n1046))
              have h1185 := (x1175 _ _ (x1166 _ _ h1158 (ni3 (ne_of_none (e944 _ _ (e934 _ _ (e925 _ _ h914))) n951) (ne_of_none (e956 _ _ (e944 _ _ (e934 _ _ (e925 _ _ h914)))) n971) (ne_of_none (e956 _ _ (e944 _ _ (e934 _ _ (e925 _ _ h914)))) n972))) (ne_of_none (e1040 _ _ (x1032 _ _ h1023 (ne_of_none h905 n916).symm)) n1046))
              have h1186 := (x1175 _ _ (x1166 _ _ h1159 (ni3 (ne_of_none (e944 _ _ (e934 _ _ (e925 _ _ h915))) n951) (ne_of_none (e956 _ _ (e944 _ _ (e934 _ _ (e925 _ _ h915)))) n971) (ne_of_none (e956 _ _ (e944 _ _ (e934 _ _ (e925 _ _ h915)))) n972))) (ne_of_none (e1040 _ _ (x1032 _ _ h1024 (ne_of_none h905 n917).symm)) n1046))
              have h1187 := (x1175 _ _ h1167 (ne_of_none (e1040 _ _ (x1032 _ _ h1025 (ne_of_none (e944 _ _ (e934 _ _ (e925 _ _ ((SameXs.of x911) _ _ h905 (ni1 (ne_of_none (e889 _ _ h882) n896)))))) n951).symm)) n1046))
              have h1188 := (x1175 _ _ h1169 (ne_of_none (e1040 _ _ (x1032 _ _ h1026 (ne_of_none (e956 _ _ (e944 _ _ (e934 _ _ (e925 _ _ ((SameXs.of x911) _ _ h905 (ni1 (ne_of_none (e889 _ _ h882) n896))))))) n971).symm)) n1046))
              have h1189 := (x1175 _ _ h1170 (ne_of_none (e1040 _ _ (x1032 _ _ h1027 (ne_of_none (e956 _ _ (e944 _ _ (e934 _ _ (e925 _ _ ((SameXs.of x911) _ _ h905 (ni1 (ne_of_none (e889 _ _ h882) n896))))))) n972).symm)) n1046))
              refine ⟨s1153, s1164, (setL (chances) (item.1) (adaptE ((itD (chances) (item.1))) (item.2))), _, _, _, rfl, eG1096, S1178, h1179, h1180, h1181, h1182, h1183, h1184, h1185, h1186, h1187, h1188, h1189, h1177, ?_⟩
              refine ⟨?_, ?_, ?_⟩
              · rw [X1]
                exact R1.2
              · rw [q1165]
                exact R2.2
              · exact chances_turn hi hch (by unfold codeChances; first | (rw [if_pos ‹_›]; done) | (rw [if_neg ‹_›]; done))
            · have c1171 : ¬ (0 ≤ item.1) := c1171
              have h1190 := (x1166 _ _ (x1155 _ _ h1083 (ni3 (ne_of_none (e889 _ _ (e878 _ _ h873)) n896) (ne_of_none (e901 _ _ (e889 _ _ (e878 _ _ h873))) n916) (ne_of_none (e901 _ _ (e889 _ _ (e878 _ _ h873))) n917))) (ni3 (ne_of_none (e944 _ _ (e934 _ _ (e925 _ _ ((SameXs.of x911) _ _ (e901 _ _ (e889 _ _ (e878 _ _ h873))) (ni1 (ne_of_none (e889 _ _ (e878 _ _ h873)) n896)))))) n951) (ne_of_none (e956 _ _ (e944 _ _ (e934 _ _ (e925 _ _ ((SameXs.of x911) _ _ (e901 _ _ (e889 _ _ (e878 _ _ h873))) (ni1 (ne_of_none (e889 _ _ (e878 _ _ h873)) n896))))))) n971) (ne_of_none (e956 _ _ (e944 _ _ (e934 _ _ (e925 _ _ ((SameXs.of x911) _ _ (e901 _ _ (e889 _ _ (e878 _ _ h873))) (ni1 (ne_of_none (e889 _ _ (e878 _ _ h873)) n896))))))) n972)))
              have h1191 := (x1166 _ _ (x1155 _ _ h1084 (ni3 (ne_of_none (e889 _ _ (e878 _ _ h875)) n896) (ne_of_none (e901 _ _ (e889 _ _ (e878 _ _ h875))) n916) (ne_of_none (e901 _ _ (e889 _ _ (e878 _ _ h875))) n917))) (ni3 (ne_of_none (e944 _ _ (e934 _ _ (e925 _ _ ((SameXs.of x911) _ _ (e901 _ _ (e889 _ _ (e878 _ _ h875))) (ni1 (ne_of_none (e889 _ _ (e878 _ _ h875)) n896)))))) n951) (ne_of_none (e956 _ _ (e944 _ _ (e934 _ _ (e925 _ _ ((SameXs.of x911) _ _ (e901 _ _ (e889 _ _ (e878 _ _ h875))) (ni1 (ne_of_none (e889 _ _ (e878 _ _ h875)) n896))))))) n971) (ne_of_none (e956 _ _ (e944 _ _ (e934 _ _ (e925 _ _ ((SameXs.of x911) _ _ (e901 _ _ (e889 _ _ (e878 _ _ h875))) (ni1 (ne_of_none (e889 _ _ (e878 _ _ h875)) n896))))))) n972)))
              have h1192 := (x1166 _ _ (x1155 _ _ h1085 (ni3 (ne_of_none (e889 _ _ (e878 _ _ h876)) n896) (ne_of_none (e901 _ _ (e889 _ _ (e878 _ _ h876))) n916) (ne_of_none (e901 _ _ (e889 _ _ (e878 _ _ h876))) n917))) (ni3 (ne_of_none (e944 _ _ (e934 _ _ (e925 _ _ ((SameXs.of x911) _ _ (e901 _ _ (e889 _ _ (e878 _ _ h876))) (ni1 (ne_of_none (e889 _ _ (e878 _ _ h876)) n896)))))) n951) (ne_of_none (e956 _ _ (e944 _ _ (e934 _ _ (e925 _ _ ((SameXs.of x911) _ _ (e901 _ _ (e889 _ _ (e878 _ _ h876))) (ni1 (ne_of_none (e889 _ _ (e878 _ _ h876)) n896))))))) n971) (ne_of_none (e956 _ _ (e944 _ _ (e934 _ _ (e925 _ _ ((SameXs.of x911) _ _ (e901 _ _ (e889 _ _ (e878 _ _ h876))) (ni1 (ne_of_none (e889 _ _ (e878 _ _ h876)) n896))))))) n972)))
              have h1193 := (x1166 _ _ (x1155 _ _ h1086 (ni3 (ne_of_none (e889 _ _ h882) n896) (ne_of_none h905 n916) (ne_of_none h905 n917))) (ni3 (ne_of_none (e944 _ _ (e934 _ _ (e925 _ _ ((SameXs.of x911) _ _ h905 (ni1 (ne_of_none (e889 _ _ h882) n896)))))) n951) (ne_of_none (e956 _ _ (e944 _ _ (e934 _ _ (e925 _ _ ((SameXs.of x911) _ _ h905 (ni1 (ne_of_none (e889 _ _ h882) n896))))))) n971) (ne_of_none (e956 _ _ (e944 _ _ (e934 _ _ (e925 _ _ ((SameXs.of x911) _ _ h905 (ni1 (ne_of_none (e889 _ _ h882) n896))))))) n972)))
              have h1194 := (x1166 _ _ (x1155 _ _ h1087 (ni3 (ne_of_none h891 n896) (ne_of_none (e901 _ _ h891) n916) (ne_of_none (e901 _ _ h891) n917))) (ni3 (ne_of_none (e944 _ _ h939) n951) (ne_of_none (e956 _ _ (e944 _ _ h939)) n971) (ne_of_none (e956 _ _ (e944 _ _ h939)) n972)))
              have h1195 := (x1166 _ _ h1156 (ni3 (ne_of_none (e944 _ _ (e934 _ _ (e925 _ _ h912))) n951) (ne_of_none (e956 _ _ (e944 _ _ (e934 _ _ (e925 _ _ h912)))) n971) (ne_of_none (e956 _ _ (e944 _ _ (e934 _ _ (e925 _ _ h912)))) n972)))
              have h1196 := (x1166 _ _ h1158 (ni3 (ne_of_none (e944 _ _ (e934 _ _ (e925 _ _ h914))) n951) (ne_of_none (e956 _ _ (e944 _ _ (e934 _ _ (e925 _ _ h914)))) n971) (ne_of_none (e956 _ _ (e944 _ _ (e934 _ _ (e925 _ _ h914)))) n972)))
              have h1197 := (x1166 _ _ h1159 (ni3 (ne_of_none (e944 _ _ (e934 _ _ (e925 _ _ h915))) n951) (ne_of_none (e956 _ _ (e944 _ _ (e934 _ _ (e925 _ _ h915)))) n971) (ne_of_none (e956 _ _ (e944 _ _ (e934 _ _ (e925 _ _ h915)))) n972)))
              have h1198 := (x1166 _ _ (x1155 _ _ h1094 (ni3 (ne_of_none (e1040 _ _ (x1032 _ _ h1022 (ne_of_none (e889 _ _ h882) n896).symm)) n1046).symm (ne_of_none (e1040 _ _ (x1032 _ _ h1023 (ne_of_none h905 n916).symm)) n1046).symm (ne_of_none (e1040 _ _ (x1032 _ _ h1024 (ne_of_none h905 n917).symm)) n1046).symm)) (ni3 (ne_of_none (e1040 _ _ (x1032 _ _ h1025 (ne_of_none (e944 _ _ (e934 _ _ (e925 _ _ ((SameXs.of x911) _ _ h905 (ni1 (ne_of_none (e889 _ _ h882) n896)))))) n951).symm)) n1046).symm (ne_of_none (e1040 _ _ (x1032 _ _ h1026 (ne_of_none (e956 _ _ (e944 _ _ (e934 _ _ (e925 _ _ ((SameXs.of x911) _ _ h905 (ni1 (ne_of_none (e889 _ _ h882) n896))))))) n971).symm)) n1046).symm (ne_of_none (e1040 _ _ (x1032 _ _ h1027 (ne_of_none (e956 _ _ (e944 _ _ (e934 _ _ (e925 _ _ ((SameXs.of x911) _ _ h905 (ni1 (ne_of_none (e889 _ _ h882) n896))))))) n972).symm)) n1046).symm))
              refine ⟨s1153, s1164, (chances), _, _, _, rfl, eG1096, S1168, h1190, h1191, h1192, h1193, h1194, h1195, h1196, h1197, h1167, h1169, h1170, h1198, ?_⟩
              refine ⟨?_, ?_, ?_⟩
              · rw [X1]
                exact R1.2
              · rw [q1165]
                exact R2.2
              · exact chances_turn hi hch (by unfold codeChances; first | (rw [if_pos ‹_›]; done) | (rw [if_neg ‹_›]; done))
        · intro σ H1199 hw
          rw [show ((List.replicate (Int.toNat (10)) (vs824)).flatten).length = (repL (itemsL (script) (300)) (10)).length from (by rw [(RpAll.mono eG1029 (RpAll.mono eG866 d837)).len, List.length_map])] at hw
          obtain ⟨decoder, other, chances, u_item, u_actual, G1213, rfl, eG1214, S1200, h1201, h1202, h1203, h1204, h1205, h1206, h1207, h1208, h1209, h1210, h1211, h1212, hu⟩ := hw
          obtain ⟨hr1, hr2, hch⟩ := hu
          rw [List.take_length] at hr1 hr2 hch
          have hpl := hr1.g.len
          have hcl : chances.length = 256 := by
            rw [hch]
            exact (items_ok init_ok hok).len
          refine ⟨_, rfl, (by omega), (by omega), for_range (lo := 0) (n := (256 : Int).toNat) (fun i σ H' => ∃ (u_context : Option V) (G' : Hp), σ = [some (V.ref a_script), some (V.ref p828), some (V.ref x838), some (V.ref p879), some (V.ref p885), some (V.ref x894), some (V.ref x949), u_k, some (V.ref p1045), u_item, u_actual, u_context] ∧ Same G1213 G' ∧ Sep [] H H G' H' [x838, l849, l850, p879, p885, x894, l906, l907, x949, l961, l962, p1045] ∧ H' x838 = some (.ins AD.c_Encoder dx839 [("_probabilities", V.ref l849), ("_front", V.ref l850), ("_low", V.int (s870.low)), ("_span", V.int (s870.span))]) ∧ H' l849 = some (.lst ((s870.probs).map V.int)) ∧ H' l850 = some (.lst ((s870.front).map V.int)) ∧ H' p879 = some (.lst (((octets) ++ [255]).map V.int)) ∧ H' p885 = some (.lst ((encOctets (s870)).map V.int)) ∧ H' x894 = some (.ins AD.c_Decoder dx895 [("_probabilities", V.ref l906), ("_octets", V.ref l907), ("_place", V.int (decoder.place)), ("_span", V.int (decoder.span)), ("_value", V.int (decoder.value))]) ∧ H' l906 = some (.lst ((decoder.probs).map V.int)) ∧ H' l907 = some (.lst ((decoder.octs).map V.int)) ∧ H' x949 = some (.ins AD.c_Decoder dx950 [("_probabilities", V.ref l961), ("_octets", V.ref l962), ("_place", V.int (other.place)), ("_span", V.int (other.span)), ("_value", V.int (other.value))]) ∧ H' l961 = some (.lst ((other.probs).map V.int)) ∧ H' l962 = some (.lst ((other.octs).map V.int)) ∧ H' p1045 = some (.lst ((chances).map V.int)) ∧ (True)) ?_ ?_ ?_⟩
          · refine ⟨_, _, rfl, (Same.refl _), S1200, h1201, h1202, h1203, h1204, h1205, h1206, h1207, h1208, h1209, h1210, h1211, h1212, ?_⟩
            trivial
          · intro i σ H1215 hi hw
            obtain ⟨u_context, G1229, rfl, eG1230, S1216, h1217, h1218, h1219, h1220, h1221, h1222, h1223, h1224, h1225, h1226, h1227, h1228, hu⟩ := hw
            refine ⟨_, rfl, _, _, _, rfl, h1222, rfl, _, rfl, _, _, _, _, (decoder : DecS), _, rfl, h1222, h1223, h1224, ne918, (by first | assumption | omega | decide), (by first | assumption | omega | decide), (by first | assumption | omega | decide), _, rfl, _, rfl, _, _, _, _, rfl, rfl, (SqL.of h1228), (atI_map (by rw [hcl]; omega)), _, _, rfl, rfl, _, rfl, ?_⟩
            refine iteNF (show (itD (decoder).probs ((0 + (i : Int))) : Int) = (itD (chances) ((0 + (i : Int)))) from by rw [hr1.probs, hch]) ?_
            refine ⟨_, rfl, _, _, _, rfl, h1217, rfl, _, rfl, _, _, _, _, (s870 : EncS), _, rfl, h1217, h1218, h1219, ne861, (by first | assumption | omega | decide), (by first | assumption | omega | decide), (by first | assumption | omega | decide), _, rfl, _, rfl, _, _, _, _, rfl, rfl, (SqL.of h1228), (atI_map (by rw [hcl]; omega)), _, _, rfl, rfl, _, rfl, ?_⟩
            refine iteNF (show (itD (s870).probs ((0 + (i : Int))) : Int) = (itD (chances) ((0 + (i : Int)))) from by rw [hch, E1]) ?_
            refine ⟨_, _, rfl, eG1230, S1216, h1217, h1218, h1219, h1220, h1221, h1222, h1223, h1224, h1225, h1226, h1227, h1228, ?_⟩
            trivial
          · intro σ H1231 hw
            obtain ⟨u_context, G1245, rfl, eG1246, S1232, h1233, h1234, h1235, h1236, h1237, h1238, h1239, h1240, h1241, h1242, h1243, h1244, hu⟩ := hw
            refine ⟨_, rfl, _, _, _, rfl, h1233, rfl, _, _, _, _, (s870 : EncS), rfl, h1233, h1234, h1235, ne861, (by first | assumption | omega | decide), fun p1249 H1247 n1250 e1248 h1251 => ?_⟩
            have h1252 : H1247 p1249 = some (.lst ((encOctets (s870) : (List Int)).map V.int)) := h1251
            have fr1253 := S1232.free n1250
            have S1254 := S1232.new n1250 e1248 h1252 fr1253
            have h1255 := (e1248 _ _ h1237)
            refine ⟨_, rfl, _, _, (rp_mk_ints h1252), (rp_mk_ints h1255), ?_⟩
            exact eq_bl (k _) (by exact (decide_eq_true rfl).symm)
    · have c827 : ¬ (((cellI (script) (0) % 8) : Int) = 5) := c827
      refine fun x1256 dx1257 n1258 n1259 n1260 => ?_
      generalize g1261 : upd (upd H814 dx1257 _) x1256 _ = H1262
      obtain ⟨e1263, h1264⟩ := gen_obj n1258 n1259 n1260 g1261
      have fr1265 := S822.free n1258
      have S1266 := S822.new n1258 e1263 h1264 fr1265
      refine ⟨_, _, rfl, h1264, fun H1269 l1267 l1268 s1270 q1271 x1272 n1277 n1278 ne1279 h1273 h1275 h1276 => ⟨rfl, ?_⟩⟩
      have fr1280 := S1266.free n1277
      have fr1281 := S1266.free n1278
      have S1274 : Sep _ _ _ _ H1269 [l1267, l1268, x1256] := Sep.init S1266 x1272 (.head _) h1273 [l1267, l1268] (all_cons ⟨n1277, some_ne h1275, fr1280⟩ (all_cons ⟨n1278, some_ne h1276, fr1281⟩ all_nil))
      have E0 := q1271
      have G0 : EncG (s1270) := by
        rw [E0]
        exact init_ok
      have F0 : ((s1270)).front.length = 0 := by
        rw [E0]
        rfl
      have hok : ItemsOk (itemsL (script) (300)) := by first | exact hio | exact items_rep hio _
      have hle : ((itemsL (script) (300))).length ≤ 3000 := by first | omega | exact items_rep_len hil
      refine ⟨_, rfl, _, rfl, _, _, _, _, (s1270 : EncS), _, _, rfl, h1273, h1275, h1276, ne1279, (Rp.mono (S1274.hid (all_cons (.tail _ (.tail _ (.head _))) (all_cons (.head _) (all_cons (.tail _ (.head _)) all_nil)))) (rp_mk_list h825 d826)), (by first | assumption | omega | decide), (by first | assumption | omega | decide), (by first | assumption | omega | decide), fun H1282 s1283 q1284 x1285 h1286 h1288 h1289  => ?_⟩
      have S1287 := S1274.mut x1285 (all_cons (.tail _ (.tail _ (.head _))) (all_cons (.head _) (all_cons (.tail _ (.head _)) all_nil))) (all_cons (some_ne h1286) (all_cons (some_ne h1288) (all_cons (some_ne h1289) all_nil)))
      have E1 := q1284
      rw [E0] at E1
      have G1 : EncG (s1283) := by
        rw [E1]
        exact items_ok init_ok hok
      have F1 : ((s1283)).front.length ≤ 3000 := by
        rw [E1]
        exact Nat.le_trans (items_len _ _) (by rw [show encInit.front.length = 0 from rfl]; omega)
      have LE1 := G1.len
      refine ⟨_, rfl, _, _, _, rfl, h1286, rfl, _, _, _, _, (s1283 : EncS), rfl, h1286, h1288, h1289, ne1279, (by first | assumption | omega | decide), fun p1292 H1290 n1293 e1291 h1294 => ?_⟩
      have h1295 : H1290 p1292 = some (.lst ((encOctets (s1283) : (List Int)).map V.int)) := h1294
      have fr1296 := S1287.free n1293
      have S1297 := S1287.new n1293 e1291 h1295 fr1296
      have hoc := code_oct_in G1.mid
      have hol := octs_len (s1283)
      refine ⟨_, rfl, _, _, rfl, (SqL.of h1295), fun p1298 n1299 => ?_⟩
      generalize g1300 : upd H1290 p1298 _ = H1301
      obtain ⟨e1302, h1303⟩ := gen_new n1299 g1300
      have h1304 : H1301 p1298 = some (.lst ((encOctets (s1283) : (List Int)).map V.int)) := h1303
      have fr1305 := S1297.free n1299
      have S1306 := S1297.new n1299 e1302 h1304 fr1305
      refine ⟨_, rfl, fun x1307 dx1308 n1309 n1310 n1311 => ?_⟩
      generalize g1312 : upd (upd H1301 dx1308 _) x1307 _ = H1313
      obtain ⟨e1314, h1315⟩ := gen_obj n1309 n1310 n1311 g1312
      have fr1316 := S1306.free n1309
      have S1317 := S1306.new n1309 e1314 h1315 fr1316
      have h1318 := (e1314 _ _ (e1302 _ _ h1295))
      refine ⟨_, _, _, _, rfl, h1315, h1318, (by first | assumption | omega | decide), (by first | assumption | omega | decide), fun H1321 l1319 l1320 s1322 q1323 x1324 n1329 n1330 ne1331 h1325 h1327 h1328 => ⟨rfl, ?_⟩⟩
      have fr1332 := S1317.free n1329
      have fr1333 := S1317.free n1330
      have S1326 : Sep _ _ _ _ H1321 [l1319, l1320, x1307, p1298, p1292, l1267, l1268, x1256] := Sep.init S1317 x1324 (.head _) h1325 [l1319, l1320] (all_cons ⟨n1329, some_ne h1327, fr1332⟩ (all_cons ⟨n1330, some_ne h1328, fr1333⟩ all_nil))
      obtain ⟨O1, hO1⟩ : ∃ o : List Int, o = (encOctets (s1283)) := ⟨_, rfl⟩
      have D1 := q1323
      rw [← hO1] at D1
      have ho1 : ∀ x ∈ O1, 0 ≤ x ∧ x ≤ 255 := by
        rw [hO1]
        exact hoc
      have hc1 : accO O1 ((encItems encInit (itemsL (script) (300))).front.length + 4) = bigL (encItems encInit (itemsL (script) (300))) := by
        rw [hO1, ← E1]
        exact acc_code0 G1.mid
      obtain ⟨O2, hO2⟩ : ∃ o : List Int, o = (encOctets (s1283)) ++ repL [0] (cellI script 0 % 21) := ⟨_, rfl⟩
      have ho2 : ∀ x ∈ O2, 0 ≤ x ∧ x ≤ 255 := by
        rw [hO2]
        exact zeros_in hoc _
      have hc2 : accO O2 ((encItems encInit (itemsL (script) (300))).front.length + 4) = bigL (encItems encInit (itemsL (script) (300))) := by
        rw [hO2, ← E1, rep_zero]
        exact acc_code G1.mid _
      refine ⟨_, rfl, (by show 1 ≤ sizeLine; decide), fun p1334 n1335 => ?_⟩
      generalize g1336 : upd H1321 p1334 _ = H1337
      obtain ⟨e1338, h1339⟩ := gen_new n1335 g1336
      have h1340 : H1337 p1334 = some (.lst (([0] : (List Int)).map V.int)) := h1339
      have fr1341 := S1326.free n1335
      have S1342 := S1326.new n1335 e1338 h1340 fr1341
      refine ⟨_, rfl, _, _, _, rfl, (S1342.b0.seq q_script), (by first | assumption | omega | decide), .inl ⟨_, rfl, ?_⟩⟩
      refine ⟨_, _, rfl, rfl, (by first | omega | decide), _, _, _, rfl, rfl, h1340, (by first | omega | decide), (by first | omega | decide), (rep_lenM (by simp only [List.length_cons, List.length_nil]; omega)), fun p1343 n1344 => ?_⟩
      generalize g1345 : upd H1337 p1343 _ = H1346
      obtain ⟨e1347, h1348⟩ := gen_new n1344 g1345
      have h1349 : H1346 p1343 = some (.lst ((repL ([0]) ((cellI (script) (0) % 21)) : (List Int)).map V.int)) := rep_map h1348
      have fr1350 := S1342.free n1344
      have S1351 := S1342.new n1344 e1347 h1349 fr1350
      have h1352 := (e1347 _ _ (e1338 _ _ ((SameXs.of x1324) _ _ (e1314 _ _ h1304) (ni1 (ne_of_none h1304 n1309)))))
      refine ⟨_, _, _, _, rfl, rfl, h1352, h1349, (cat_lenM (by rw [repL_len]; simp only [List.length_cons, List.length_nil]; omega)), fun p1353 n1354 => ?_⟩
      generalize g1355 : upd H1346 p1353 _ = H1356
      obtain ⟨e1357, h1358⟩ := gen_new n1354 g1355
      have h1359 : H1356 p1353 = some (.lst (((encOctets (s1283)) ++ (repL ([0]) ((cellI (script) (0) % 21))) : (List Int)).map V.int)) := cat_map h1358
      have fr1360 := S1351.free n1354
      have S1361 := S1351.new n1354 e1357 h1359 fr1360
      refine fun x1362 dx1363 n1364 n1365 n1366 => ?_
      generalize g1367 : upd (upd H1356 dx1363 _) x1362 _ = H1368
      obtain ⟨e1369, h1370⟩ := gen_obj n1364 n1365 n1366 g1367
      have fr1371 := S1361.free n1364
      have S1372 := S1361.new n1364 e1369 h1370 fr1371
      have h1373 := (e1369 _ _ h1359)
      refine ⟨_, _, _, _, rfl, h1370, h1373, (by first | exact zeros_in hoc _ | (rw [List.length_append, repL_len]; simp only [List.length_cons, List.length_nil]; omega)), (by first | exact zeros_in hoc _ | (rw [List.length_append, repL_len]; simp only [List.length_cons, List.length_nil]; omega)), fun H1376 l1374 l1375 s1377 q1378 x1379 n1384 n1385 ne1386 h1380 h1382 h1383 => ⟨rfl, ?_⟩⟩
      have fr1387 := S1372.free n1384
      have fr1388 := S1372.free n1385
      have S1381 : Sep _ _ _ _ H1376 [l1374, l1375, x1362, p1353, p1343, p1334, l1319, l1320, x1307, p1298, p1292, l1267, l1268, x1256] := Sep.init S1372 x1379 (.head _) h1380 [l1374, l1375] (all_cons ⟨n1384, some_ne h1382, fr1387⟩ (all_cons ⟨n1385, some_ne h1383, fr1388⟩ all_nil))
      have D2 := q1378
      rw [← hO2] at D2
      have h1389 := ((SameXs.of x1379) _ _ (e1369 _ _ (e1357 _ _ (e1347 _ _ (e1338 _ _ ((SameXs.of x1324) _ _ h1318 (ni1 (ne_of_none (e1302 _ _ h1295) n1309))))))) (ni1 (ne_of_none (e1357 _ _ (e1347 _ _ (e1338 _ _ ((SameXs.of x1324) _ _ h1318 (ni1 (ne_of_none (e1302 _ _ h1295) n1309)))))) n1364)))
      refine ⟨_, rfl, _, _, rfl, (SqL.of h1389), _, rfl, (by omega), (by omega), for_range (lo := 0) (n := ((((encOctets (s1283)) : (List Int)).length : Int) : Int).toNat) (fun i σ H' => ∃ (octets : (List Int)) (u_k : Option V) (G' : Hp), σ = [some (V.ref a_script), some (V.ref a823), some (V.ref x1256), some (V.ref p1292), some (V.ref p1298), some (V.ref x1307), some (V.ref x1362), u_k, none, none, none, none] ∧ Same G817 G' ∧ Sep [] H H G' H' [x1256, l1267, l1268, p1292, p1298, x1307, l1319, l1320, x1362, l1374, l1375] ∧ H' x1256 = some (.ins AD.c_Encoder dx1257 [("_probabilities", V.ref l1267), ("_front", V.ref l1268), ("_low", V.int (s1283.low)), ("_span", V.int (s1283.span))]) ∧ H' l1267 = some (.lst ((s1283.probs).map V.int)) ∧ H' l1268 = some (.lst ((s1283.front).map V.int)) ∧ H' p1292 = some (.lst ((octets).map V.int)) ∧ H' p1298 = some (.lst ((encOctets (s1283)).map V.int)) ∧ H' x1307 = some (.ins AD.c_Decoder dx1308 [("_probabilities", V.ref l1319), ("_octets", V.ref l1320), ("_place", V.int (s1322.place)), ("_span", V.int (s1322.span)), ("_value", V.int (s1322.value))]) ∧ H' l1319 = some (.lst ((s1322.probs).map V.int)) ∧ H' l1320 = some (.lst ((s1322.octs).map V.int)) ∧ H' x1362 = some (.ins AD.c_Decoder dx1363 [("_probabilities", V.ref l1374), ("_octets", V.ref l1375), ("_place", V.int (s1377.place)), ("_span", V.int (s1377.span)), ("_value", V.int (s1377.value))]) ∧ H' l1374 = some (.lst ((s1377.probs).map V.int)) ∧ H' l1375 = some (.lst ((s1377.octs).map V.int)) ∧ (octets.length = (encOctets (s1283)).length)) ?_ ?_ ?_⟩
      · have h1390 := ((SameXs.of x1379) _ _ (e1369 _ _ (e1357 _ _ (e1347 _ _ (e1338 _ _ ((SameXs.of x1324) _ _ (e1314 _ _ (e1302 _ _ (e1291 _ _ h1286))) (ni1 (ne_of_none (e1302 _ _ (e1291 _ _ h1286)) n1309))))))) (ni1 (ne_of_none (e1357 _ _ (e1347 _ _ (e1338 _ _ ((SameXs.of x1324) _ _ (e1314 _ _ (e1302 _ _ (e1291 _ _ h1286))) (ni1 (ne_of_none (e1302 _ _ (e1291 _ _ h1286)) n1309)))))) n1364)))
        have h1391 := ((SameXs.of x1379) _ _ (e1369 _ _ (e1357 _ _ (e1347 _ _ (e1338 _ _ ((SameXs.of x1324) _ _ (e1314 _ _ (e1302 _ _ (e1291 _ _ h1288))) (ni1 (ne_of_none (e1302 _ _ (e1291 _ _ h1288)) n1309))))))) (ni1 (ne_of_none (e1357 _ _ (e1347 _ _ (e1338 _ _ ((SameXs.of x1324) _ _ (e1314 _ _ (e1302 _ _ (e1291 _ _ h1288))) (ni1 (ne_of_none (e1302 _ _ (e1291 _ _ h1288)) n1309)))))) n1364)))
        have h1392 := ((SameXs.of x1379) _ _ (e1369 _ _ (e1357 _ _ (e1347 _ _ (e1338 _ _ ((SameXs.of x1324) _ _ (e1314 _ _ (e1302 _ _ (e1291 _ _ h1289))) (ni1 (ne_of_none (e1302 _ _ (e1291 _ _ h1289)) n1309))))))) (ni1 (ne_of_none (e1357 _ _ (e1347 _ _ (e1338 _ _ ((SameXs.of x1324) _ _ (e1314 _ _ (e1302 _ _ (e1291 _ _ h1289))) (ni1 (ne_of_none (e1302 _ _ (e1291 _ _ h1289)) n1309)))))) n1364)))
        have h1393 := ((SameXs.of x1379) _ _ (e1369 _ _ (e1357 _ _ h1352)) (ni1 (ne_of_none (e1357 _ _ h1352) n1364)))
        have h1394 := ((SameXs.of x1379) _ _ (e1369 _ _ (e1357 _ _ (e1347 _ _ (e1338 _ _ h1325)))) (ni1 (ne_of_none (e1357 _ _ (e1347 _ _ (e1338 _ _ h1325))) n1364)))
        have h1395 := ((SameXs.of x1379) _ _ (e1369 _ _ (e1357 _ _ (e1347 _ _ (e1338 _ _ h1327)))) (ni1 (ne_of_none (e1357 _ _ (e1347 _ _ (e1338 _ _ h1327))) n1364)))
        have h1396 := ((SameXs.of x1379) _ _ (e1369 _ _ (e1357 _ _ (e1347 _ _ (e1338 _ _ h1328)))) (ni1 (ne_of_none (e1357 _ _ (e1347 _ _ (e1338 _ _ h1328))) n1364)))
        refine ⟨(encOctets (s1283)), _, _, rfl, (Same.refl _), (S1381.sub (all_cons (.tail _ (.tail _ (.tail _ (.tail _ (.tail _ (.tail _ (.tail _ (.tail _ (.tail _ (.tail _ (.tail _ (.tail _ (.tail _ (.head _)))))))))))))) (all_cons (.tail _ (.tail _ (.tail _ (.tail _ (.tail _ (.tail _ (.tail _ (.tail _ (.tail _ (.tail _ (.tail _ (.head _)))))))))))) (all_cons (.tail _ (.tail _ (.tail _ (.tail _ (.tail _ (.tail _ (.tail _ (.tail _ (.tail _ (.tail _ (.tail _ (.tail _ (.head _))))))))))))) (all_cons (.tail _ (.tail _ (.tail _ (.tail _ (.tail _ (.tail _ (.tail _ (.tail _ (.tail _ (.tail _ (.head _))))))))))) (all_cons (.tail _ (.tail _ (.tail _ (.tail _ (.tail _ (.tail _ (.tail _ (.tail _ (.tail _ (.head _)))))))))) (all_cons (.tail _ (.tail _ (.tail _ (.tail _ (.tail _ (.tail _ (.tail _ (.tail _ (.head _))))))))) (all_cons (.tail _ (.tail _ (.tail _ (.tail _ (.tail _ (.tail _ (.head _))))))) (all_cons (.tail _ (.tail _ (.tail _ (.tail _ (.tail _ (.tail _ (.tail _ (.head _)))))))) (all_cons (.tail _ (.tail _ (.head _))) (all_cons (.head _) (all_cons (.tail _ (.head _)) all_nil)))))))))))), h1390, h1391, h1392, h1389, h1393, h1394, h1395, h1396, h1380, h1382, h1383, ?_⟩
        rfl
      · intro i σ H1397 hi hw
        obtain ⟨octets, u_k, G1410, rfl, eG1411, S1398, h1399, h1400, h1401, h1402, h1403, h1404, h1405, h1406, h1407, h1408, h1409, hu⟩ := hw
        refine ⟨_, rfl, _, rfl, _, _, _, _, rfl, rfl, (SqL.of h1402), (atI_map (by first | omega | (simp only [List.length_cons, List.length_nil]; omega))), _, _, rfl, rfl, _, rfl, _, rfl, _, _, _, _, rfl, rfl, h1402, (ixN_map (by first | omega | (simp only [List.length_cons, List.length_nil]; omega))), ?_⟩
        generalize g1412 : upd H1397 p1292 _ = H1413
        obtain ⟨x1414, h1415⟩ := gen_mut g1412
        have h1416 : H1413 p1292 = some (.lst ((setL (octets) ((0 + (i : Int))) ((255 - (itD (octets) ((0 + (i : Int)))))) : (List Int)).map V.int)) := set_map h1415
        have S1417 := S1398.mut1 x1414 (.tail _ (.tail _ (.tail _ (.head _)))) h1416
        have h1418 := (x1414 _ _ h1399 (ne_of_none h1286 n1293))
        have h1419 := (x1414 _ _ h1400 (ne_of_none h1288 n1293))
        have h1420 := (x1414 _ _ h1401 (ne_of_none h1289 n1293))
        have h1421 := (x1414 _ _ h1403 (ne_of_none h1295 n1299).symm)
        have h1422 := (x1414 _ _ h1404 (ne_of_none (e1302 _ _ h1295) n1309).symm)
        have h1423 := (x1414 _ _ h1405 (ne_of_none h1318 n1329).symm)
        have h1424 := (x1414 _ _ h1406 (ne_of_none h1318 n1330).symm)
        have h1425 := (x1414 _ _ h1407 (ne_of_none (e1357 _ _ (e1347 _ _ (e1338 _ _ ((SameXs.of x1324) _ _ h1318 (ni1 (ne_of_none (e1302 _ _ h1295) n1309)))))) n1364).symm)
        have h1426 := (x1414 _ _ h1408 (ne_of_none (e1369 _ _ (e1357 _ _ (e1347 _ _ (e1338 _ _ ((SameXs.of x1324) _ _ h1318 (ni1 (ne_of_none (e1302 _ _ h1295) n1309))))))) n1384).symm)
        have h1427 := (x1414 _ _ h1409 (ne_of_none (e1369 _ _ (e1357 _ _ (e1347 _ _ (e1338 _ _ ((SameXs.of x1324) _ _ h1318 (ni1 (ne_of_none (e1302 _ _ h1295) n1309))))))) n1385).symm)
        refine ⟨(setL (octets) ((0 + (i : Int))) ((255 - (itD (octets) ((0 + (i : Int))))))), _, _, rfl, eG1411, S1417, h1418, h1419, h1420, h1416, h1421, h1422, h1423, h1424, h1425, h1426, h1427, ?_⟩
        rw [setL_len]; exact hu
      · intro σ H1428 hw
        obtain ⟨octets, u_k, G1441, rfl, eG1442, S1429, h1430, h1431, h1432, h1433, h1434, h1435, h1436, h1437, h1438, h1439, h1440, hu⟩ := hw
        refine ⟨_, rfl, (.inl ⟨rfl, _, SqL.of h1433⟩), _, _, _, rfl, rfl, h1433, (app_lenM (by first | omega | (simp only [List.length_map, List.length_append, List.length_take, List.length_range, List.length_cons, List.length_nil, repL_len]; omega))), ?_⟩
        generalize g1443 : upd H1428 p1292 _ = H1444
        obtain ⟨x1445, h1446⟩ := gen_mut g1443
        have h1447 : H1444 p1292 = some (.lst (((octets) ++ [255] : (List Int)).map V.int)) := snoc_map h1446
        have S1448 := S1429.mut1 x1445 (.tail _ (.tail _ (.tail _ (.head _)))) h1447
        refine ⟨(by show 1 ≤ sizeLine; decide), fun p1449 n1450 => ?_⟩
        generalize g1451 : upd H1444 p1449 _ = H1452
        obtain ⟨e1453, h1454⟩ := gen_new n1450 g1451
        have h1455 : H1452 p1449 = some (.lst (([2048] : (List Int)).map V.int)) := h1454
        have fr1456 := S1448.free n1450
        have S1457 := S1448.new n1450 e1453 h1455 fr1456
        refine ⟨_, _, _, rfl, rfl, h1455, (by first | omega | decide), (by first | omega | decide), (rep_lenM (by first | omega | (simp only [List.length_map, List.length_append, List.length_take, List.length_range, List.length_cons, List.length_nil, repL_len]; omega))), fun p1458 n1459 => ?_⟩
        generalize g1460 : upd H1452 p1458 _ = H1461
        obtain ⟨e1462, h1463⟩ := gen_new n1459 g1460
        have h1464 : H1461 p1458 = some (.lst ((repL ([2048]) (256) : (List Int)).map V.int)) := rep_map h1463
        have fr1465 := S1457.free n1459
        have S1466 := S1457.new n1459 e1462 h1464 fr1465
        refine ⟨_, rfl, _, rfl, ⟨_, (SqL.of (S1466.sG _ _ (eG1442 _ _ h825)))⟩, for_list (K := K) (a := a823) (xs := vs824) (fun i σ H' => ∃ (decoder : DecS) (other : DecS) (chances : (List Int)) (u_item : Option V) (u_actual : Option V) (G' : Hp), σ = [some (V.ref a_script), some (V.ref a823), some (V.ref x1256), some (V.ref p1292), some (V.ref p1298), some (V.ref x1307), some (V.ref x1362), u_k, some (V.ref p1458), u_item, u_actual, none] ∧ Same G1441 G' ∧ Sep [] H H G' H' [x1256, l1267, l1268, p1292, p1298, x1307, l1319, l1320, x1362, l1374, l1375, p1458] ∧ H' x1256 = some (.ins AD.c_Encoder dx1257 [("_probabilities", V.ref l1267), ("_front", V.ref l1268), ("_low", V.int (s1283.low)), ("_span", V.int (s1283.span))]) ∧ H' l1267 = some (.lst ((s1283.probs).map V.int)) ∧ H' l1268 = some (.lst ((s1283.front).map V.int)) ∧ H' p1292 = some (.lst (((octets) ++ [255]).map V.int)) ∧ H' p1298 = some (.lst ((encOctets (s1283)).map V.int)) ∧ H' x1307 = some (.ins AD.c_Decoder dx1308 [("_probabilities", V.ref l1319), ("_octets", V.ref l1320), ("_place", V.int (decoder.place)), ("_span", V.int (decoder.span)), ("_value", V.int (decoder.value))]) ∧ H' l1319 = some (.lst ((decoder.probs).map V.int)) ∧ H' l1320 = some (.lst ((decoder.octs).map V.int)) ∧ H' x1362 = some (.ins AD.c_Decoder dx1363 [("_probabilities", V.ref l1374), ("_octets", V.ref l1375), ("_place", V.int (other.place)), ("_span", V.int (other.span)), ("_value", V.int (other.value))]) ∧ H' l1374 = some (.lst ((other.probs).map V.int)) ∧ H' l1375 = some (.lst ((other.octs).map V.int)) ∧ H' p1458 = some (.lst ((chances).map V.int)) ∧ (Rel O1 (encItems encInit ((itemsL (script) (300)).take i)) decoder ∧ Rel O2 (encItems encInit ((itemsL (script) (300)).take i)) other ∧ chances = (encItems encInit ((itemsL (script) (300)).take i)).probs)) ?_ ?_ ?_ ?_⟩
        · have h1467 := (e1462 _ _ (e1453 _ _ (x1445 _ _ h1430 (ne_of_none h1286 n1293))))
          have h1468 := (e1462 _ _ (e1453 _ _ (x1445 _ _ h1431 (ne_of_none h1288 n1293))))
          have h1469 := (e1462 _ _ (e1453 _ _ (x1445 _ _ h1432 (ne_of_none h1289 n1293))))
          have h1470 := (e1462 _ _ (e1453 _ _ h1447))
          have h1471 := (e1462 _ _ (e1453 _ _ (x1445 _ _ h1434 (ne_of_none h1295 n1299).symm)))
          have h1472 := (e1462 _ _ (e1453 _ _ (x1445 _ _ h1435 (ne_of_none (e1302 _ _ h1295) n1309).symm)))
          have h1473 := (e1462 _ _ (e1453 _ _ (x1445 _ _ h1436 (ne_of_none h1318 n1329).symm)))
          have h1474 := (e1462 _ _ (e1453 _ _ (x1445 _ _ h1437 (ne_of_none h1318 n1330).symm)))
          have h1475 := (e1462 _ _ (e1453 _ _ (x1445 _ _ h1438 (ne_of_none (e1357 _ _ (e1347 _ _ (e1338 _ _ ((SameXs.of x1324) _ _ h1318 (ni1 (ne_of_none (e1302 _ _ h1295) n1309)))))) n1364).symm)))
          have h1476 := (e1462 _ _ (e1453 _ _ (x1445 _ _ h1439 (ne_of_none (e1369 _ _ (e1357 _ _ (e1347 _ _ (e1338 _ _ ((SameXs.of x1324) _ _ h1318 (ni1 (ne_of_none (e1302 _ _ h1295) n1309))))))) n1384).symm)))
          have h1477 := (e1462 _ _ (e1453 _ _ (x1445 _ _ h1440 (ne_of_none (e1369 _ _ (e1357 _ _ (e1347 _ _ (e1338 _ _ ((SameXs.of x1324) _ _ h1318 (ni1 (ne_of_none (e1302 _ _ h1295) n1309))))))) n1385).symm)))
          refine ⟨s1322, s1377, (repL ([2048]) (256)), _, _, _, rfl, (Same.refl _), (S1466.sub (all_cons (.tail _ (.tail _ (.head _))) (all_cons (.tail _ (.tail _ (.tail _ (.head _)))) (all_cons (.tail _ (.tail _ (.tail _ (.tail _ (.head _))))) (all_cons (.tail _ (.tail _ (.tail _ (.tail _ (.tail _ (.head _)))))) (all_cons (.tail _ (.tail _ (.tail _ (.tail _ (.tail _ (.tail _ (.head _))))))) (all_cons (.tail _ (.tail _ (.tail _ (.tail _ (.tail _ (.tail _ (.tail _ (.head _)))))))) (all_cons (.tail _ (.tail _ (.tail _ (.tail _ (.tail _ (.tail _ (.tail _ (.tail _ (.head _))))))))) (all_cons (.tail _ (.tail _ (.tail _ (.tail _ (.tail _ (.tail _ (.tail _ (.tail _ (.tail _ (.head _)))))))))) (all_cons (.tail _ (.tail _ (.tail _ (.tail _ (.tail _ (.tail _ (.tail _ (.tail _ (.tail _ (.tail _ (.head _))))))))))) (all_cons (.tail _ (.tail _ (.tail _ (.tail _ (.tail _ (.tail _ (.tail _ (.tail _ (.tail _ (.tail _ (.tail _ (.head _)))))))))))) (all_cons (.tail _ (.tail _ (.tail _ (.tail _ (.tail _ (.tail _ (.tail _ (.tail _ (.tail _ (.tail _ (.tail _ (.tail _ (.head _))))))))))))) (all_cons (.head _) all_nil))))))))))))), h1467, h1468, h1469, h1470, h1471, h1472, h1473, h1474, h1475, h1476, h1477, h1464, ?_⟩
          refine ⟨?_, ?_, rfl⟩
          · rw [D1]
            exact rel_start hok ho1 hc1
          · rw [D2]
            exact rel_start hok ho2 hc2
        · intro i σ H1478 _ hw
          obtain ⟨decoder, other, chances, u_item, u_actual, G1492, rfl, eG1493, S1479, h1480, h1481, h1482, h1483, h1484, h1485, h1486, h1487, h1488, h1489, h1490, h1491, hu⟩ := hw
          exact (SqL.of (S1479.sG _ _ (eG1493 _ _ (eG1442 _ _ h825))))
        · intro i x σ H1494 hj hw
          obtain ⟨decoder, other, chances, u_item, u_actual, G1508, rfl, eG1509, S1495, h1496, h1497, h1498, h1499, h1500, h1501, h1502, h1503, h1504, h1505, h1506, h1507, hu⟩ := hw
          obtain ⟨item, hi, r1510⟩ := RpAll.get (RpAll.mono eG1509 (RpAll.mono eG1442 d826)) hj
          obtain ⟨a1511, v1513, v1514, rfl, h1512, r1515, r1516⟩ := rp_tup2 r1510
          obtain rfl := rp_int r1515
          obtain rfl := rp_int r1516
          obtain ⟨hr1, hr2, hch⟩ := hu
          have hlt := get_len hi
          have hit := hok _ (List.mem_of_getElem? hi)
          have hpl := hr1.g.len
          have hcl : chances.length = 256 := by
            rw [hch]
            exact (items_ok init_ok (fun x hx => hok x (List.mem_of_mem_take hx))).len
          refine ⟨_, rfl, _, _, _, _, rfl, rfl, (SqT.of (S1495.sG _ _ h1512)), rfl, _, _, rfl, rfl, _, rfl, ?_⟩
          refine iteD (fun c1517 => ?_) (fun c1517 => ?_)
          · have c1517 : 0 ≤ item.1 := c1517
            refine ⟨_, rfl, _, _, _, rfl, h1501, rfl, _, rfl, _, _, _, _, rfl, rfl, (SqT.of (S1495.sG _ _ h1512)), rfl, _, _, _, _, (decoder : DecS), _, rfl, h1501, h1502, h1503, ne1331, (by first | assumption | omega | decide), (by first | assumption | omega | decide), (by first | assumption | omega | decide), _, rfl, _, rfl, _, _, _, _, rfl, rfl, (SqT.of (S1495.sG _ _ h1512)), rfl, _, _, _, _, rfl, rfl, (SqL.of h1507), (atI_map (by rw [hcl]; omega)), _, _, rfl, rfl, _, rfl, ?_⟩
            refine iteNF (show (itD (decoder).probs (item.1) : Int) = (itD (chances) (item.1)) from by rw [hr1.probs, hch]) ?_
            refine ⟨_, rfl, _, rfl, _, _, _, _, (decoder : DecS), _, _, rfl, h1501, h1502, h1503, ne1331, (Rp.mono (S1495.hid (all_cons (.tail _ (.tail _ (.tail _ (.tail _ (.tail _ (.head _)))))) (all_cons (.tail _ (.tail _ (.tail _ (.tail _ (.tail _ (.tail _ (.head _))))))) (all_cons (.tail _ (.tail _ (.tail _ (.tail _ (.tail _ (.tail _ (.tail _ (.head _)))))))) all_nil)))) (rp_mk2 h1512 (.int _) (.int _))), (by first | exact hr1.g | exact hit.1), (by first | exact hr1.g | exact hit.1), fun H1518 s1519 q1520 x1521 h1522 h1524 h1525  => ?_⟩
            have S1523 := S1495.mut x1521 (all_cons (.tail _ (.tail _ (.tail _ (.tail _ (.tail _ (.head _)))))) (all_cons (.tail _ (.tail _ (.tail _ (.tail _ (.tail _ (.tail _ (.head _))))))) (all_cons (.tail _ (.tail _ (.tail _ (.tail _ (.tail _ (.tail _ (.tail _ (.head _)))))))) all_nil))) (all_cons (some_ne h1522) (all_cons (some_ne h1524) (all_cons (some_ne h1525) all_nil)))
            have R1 := rel_turn hi hok ho1 hc1 hr1
            have R2 := rel_turn hi hok ho2 hc2 hr2
            have X1 := q1520
            refine ⟨_, rfl, _, _, _, _, _, rfl, (.ty _), (.base (.int _)), rfl, _, rfl, ?_⟩
            refine iteF ?_
            refine ⟨_, rfl, _, rfl, _, _, _, _, rfl, rfl, (SqT.of (S1523.sG _ _ h1512)), rfl, _, _, rfl, rfl, _, rfl, ?_⟩
            refine iteNF (show (decItemBit (decoder) (item) : Int) = item.2 from by exact R1.1) ?_
            have h1526 := (x1521 _ _ h1504 (ni3 (ne_of_none (e1357 _ _ (e1347 _ _ (e1338 _ _ h1325))) n1364).symm (ne_of_none (e1357 _ _ (e1347 _ _ (e1338 _ _ h1327))) n1364).symm (ne_of_none (e1357 _ _ (e1347 _ _ (e1338 _ _ h1328))) n1364).symm))
            have h1527 := (x1521 _ _ h1505 (ni3 (ne_of_none (e1369 _ _ (e1357 _ _ (e1347 _ _ (e1338 _ _ h1325)))) n1384).symm (ne_of_none (e1369 _ _ (e1357 _ _ (e1347 _ _ (e1338 _ _ h1327)))) n1384).symm (ne_of_none (e1369 _ _ (e1357 _ _ (e1347 _ _ (e1338 _ _ h1328)))) n1384).symm))
            have h1528 := (x1521 _ _ h1506 (ni3 (ne_of_none (e1369 _ _ (e1357 _ _ (e1347 _ _ (e1338 _ _ h1325)))) n1385).symm (ne_of_none (e1369 _ _ (e1357 _ _ (e1347 _ _ (e1338 _ _ h1327)))) n1385).symm (ne_of_none (e1369 _ _ (e1357 _ _ (e1347 _ _ (e1338 _ _ h1328)))) n1385).symm))
            refine ⟨_, rfl, _, rfl, _, _, _, _, (other : DecS), _, _, rfl, h1526, h1527, h1528, ne1386, (Rp.mono (S1523.hid (all_cons (.tail _ (.tail _ (.tail _ (.tail _ (.tail _ (.tail _ (.tail _ (.tail _ (.head _))))))))) (all_cons (.tail _ (.tail _ (.tail _ (.tail _ (.tail _ (.tail _ (.tail _ (.tail _ (.tail _ (.head _)))))))))) (all_cons (.tail _ (.tail _ (.tail _ (.tail _ (.tail _ (.tail _ (.tail _ (.tail _ (.tail _ (.tail _ (.head _))))))))))) all_nil)))) (rp_mk2 h1512 (.int _) (.int _))), (by first | exact hr2.g | exact hit.1), (by first | exact hr2.g | exact hit.1), fun H1529 s1530 q1531 x1532 h1533 h1535 h1536  => ?_⟩
            have S1534 := S1523.mut x1532 (all_cons (.tail _ (.tail _ (.tail _ (.tail _ (.tail _ (.tail _ (.tail _ (.tail _ (.head _))))))))) (all_cons (.tail _ (.tail _ (.tail _ (.tail _ (.tail _ (.tail _ (.tail _ (.tail _ (.tail _ (.head _)))))))))) (all_cons (.tail _ (.tail _ (.tail _ (.tail _ (.tail _ (.tail _ (.tail _ (.tail _ (.tail _ (.tail _ (.head _))))))))))) all_nil))) (all_cons (some_ne h1533) (all_cons (some_ne h1535) (all_cons (some_ne h1536) all_nil)))
            refine ⟨_, rfl, _, _, _, _, rfl, rfl, (SqT.of (S1534.sG _ _ h1512)), rfl, _, _, rfl, rfl, _, rfl, ?_⟩
            refine iteNF (show (decItemBit (other) (item) : Int) = item.2 from by exact R2.1) ?_
            refine ⟨_, rfl, _, _, _, _, rfl, rfl, (SqT.of (S1534.sG _ _ h1512)), rfl, _, _, rfl, rfl, _, rfl, ?_⟩
            refine iteD (fun c1537 => ?_) (fun c1537 => ?_)
            · have c1537 : 0 ≤ item.1 := c1537
              have h1538 := (x1532 _ _ (x1521 _ _ h1507 (ni3 (ne_of_none (e1453 _ _ (x1445 _ _ h1435 (ne_of_none (e1302 _ _ h1295) n1309).symm)) n1459).symm (ne_of_none (e1453 _ _ (x1445 _ _ h1436 (ne_of_none h1318 n1329).symm)) n1459).symm (ne_of_none (e1453 _ _ (x1445 _ _ h1437 (ne_of_none h1318 n1330).symm)) n1459).symm)) (ni3 (ne_of_none (e1453 _ _ (x1445 _ _ h1438 (ne_of_none (e1357 _ _ (e1347 _ _ (e1338 _ _ ((SameXs.of x1324) _ _ h1318 (ni1 (ne_of_none (e1302 _ _ h1295) n1309)))))) n1364).symm)) n1459).symm (ne_of_none (e1453 _ _ (x1445 _ _ h1439 (ne_of_none (e1369 _ _ (e1357 _ _ (e1347 _ _ (e1338 _ _ ((SameXs.of x1324) _ _ h1318 (ni1 (ne_of_none (e1302 _ _ h1295) n1309))))))) n1384).symm)) n1459).symm (ne_of_none (e1453 _ _ (x1445 _ _ h1440 (ne_of_none (e1369 _ _ (e1357 _ _ (e1347 _ _ (e1338 _ _ ((SameXs.of x1324) _ _ h1318 (ni1 (ne_of_none (e1302 _ _ h1295) n1309))))))) n1385).symm)) n1459).symm))
              refine ⟨_, rfl, _, rfl, _, _, _, _, rfl, rfl, (SqT.of (S1534.sG _ _ h1512)), rfl, _, _, _, _, rfl, rfl, (SqL.of h1538), (atI_map (by rw [hcl]; omega)), _, rfl, _, _, _, _, rfl, rfl, (SqT.of (S1534.sG _ _ h1512)), rfl, _, _, rfl, _, rfl, _, rfl, _, _, _, _, rfl, rfl, (SqT.of (S1534.sG _ _ h1512)), rfl, _, _, _, _, rfl, rfl, h1538, (ixN_map (by rw [hcl]; omega)), ?_⟩
              generalize g1539 : upd H1529 p1458 _ = H1540
              obtain ⟨x1541, h1542⟩ := gen_mut g1539
              have h1543 : H1540 p1458 = some (.lst ((setL (chances) (item.1) (adaptE ((itD (chances) (item.1))) (item.2)) : (List Int)).map V.int)) := set_map h1542
              have S1544 := S1534.mut1 x1541 (.tail _ (.tail _ (.tail _ (.tail _ (.tail _ (.tail _ (.tail _ (.tail _ (.tail _ (.tail _ (.tail _ (.head _)))))))))))) h1543
              have h1545 := (x1541 _ _ (x1532 _ _ (x1521 _ _ h1496 (ni3 (ne_of_none (e1302 _ _ (e1291 _ _ h1286)) n1309) (ne_of_none (e1314 _ _ (e1302 _ _ (e1291 _ _ h1286))) n1329) (ne_of_none (e1314 _ _ (e1302 _ _ (e1291 _ _ h1286))) n1330))) (ni3 (ne_of_none (e1357 _ _ (e1347 _ _ (e1338 _ _ ((SameXs.of x1324) _ _ (e1314 _ _ (e1302 _ _ (e1291 _ _ h1286))) (ni1 (ne_of_none (e1302 _ _ (e1291 _ _ h1286)) n1309)))))) n1364) (ne_of_none (e1369 _ _ (e1357 _ _ (e1347 _ _ (e1338 _ _ ((SameXs.of x1324) _ _ (e1314 _ _ (e1302 _ _ (e1291 _ _ h1286))) (ni1 (ne_of_none (e1302 _ _ (e1291 _ _ h1286)) n1309))))))) n1384) (ne_of_none (e1369 _ _ (e1357 _ _ (e1347 _ _ (e1338 _ _ ((SameXs.of x1324) _ _ (e1314 _ _ (e1302 _ _ (e1291 _ _ h1286))) (ni1 (ne_of_none (e1302 _ _ (e1291 _ _ h1286)) n1309))))))) n1385))) (ne_of_none (e1453 _ _ (x1445 _ _ h1430 (ne_of_none h1286 n1293))) n1459))
              have h1546 := (x1541 _ _ (x1532 _ _ (x1521 _ _ h1497 (ni3 (ne_of_none (e1302 _ _ (e1291 _ _ h1288)) n1309) (ne_of_none (e1314 _ _ (e1302 _ _ (e1291 _ _ h1288))) n1329) (ne_of_none (e1314 _ _ (e1302 _ _ (e1291 _ _ h1288))) n1330))) (ni3 (ne_of_none (e1357 _ _ (e1347 _ _ (e1338 _ _ ((SameXs.of x1324) _ _ (e1314 _ _ (e1302 _ _ (e1291 _ _ h1288))) (ni1 (ne_of_none (e1302 _ _ (e1291 _ _ h1288)) n1309)))))) n1364) (ne_of_none (e1369 _ _ (e1357 _ _ (e1347 _ _ (e1338 _ _ ((SameXs.of x1324) _ _ (e1314 _ _ (e1302 _ _ (e1291 _ _ h1288))) (ni1 (ne_of_none (e1302 _ _ (e1291 _ _ h1288)) n1309))))))) n1384) (ne_of_none (e1369 _ _ (e1357 _ _ (e1347 _ _ (e1338 _ _ ((SameXs.of x1324) _ _ (e1314 _ _ (e1302 _ _ (e1291 _ _ h1288))) (ni1 (ne_of_none (e1302 _ _ (e1291 _ _ h1288)) n1309))))))) n1385))) (ne_of_none (e1453 _ _ (x1445 _ _ h1431 (ne_of_none h1288 n1293))) n1459))
              have h1547 := (x1541 _ _ (x1532 _ _ (x1521 _ _ h1498 (ni3 (ne_of_none (e1302 _ _ (e1291 _ _ h1289)) n1309) (ne_of_none (e1314 _ _ (e1302 _ _ (e1291 _ _ h1289))) n1329) (ne_of_none (e1314 _ _ (e1302 _ _ (e1291 _ _ h1289))) n1330))) (ni3 (ne_of_none (e1357 _ _ (e1347 _ _ (e1338 _ _ ((SameXs.of x1324) _ _ (e1314 _ _ (e1302 _ _ (e1291 _ _ h1289))) (ni1 (ne_of_none (e1302 _ _ (e1291 _ _ h1289)) n1309)))))) n1364) (ne_of_none (e1369 _ _ (e1357 _ _ (e1347 _ _ (e1338 _ _ ((SameXs.of x1324) _ _ (e1314 _ _ (e1302 _ _ (e1291 _ _ h1289))) (ni1 (ne_of_none (e1302 _ _ (e1291 _ _ h1289)) n1309))))))) n1384) (ne_of_none (e1369 _ _ (e1357 _ _ (e1347 _ _ (e1338 _ _ ((SameXs.of x1324) _ _ (e1314 _ _ (e1302 _ _ (e1291 _ _ h1289))) (ni1 (ne_of_none (e1302 _ _ (e1291 _ _ h1289)) n1309))))))) n1385))) (ne_of_none (e1453 _ _ (x1445 _ _ h1432 (ne_of_none h1289 n1293))) n1459))
              have h1548 := (x1541 _ _ (x1532 _ _ (x1521 _ _ h1499 (ni3 (ne_of_none (e1302 _ _ h1295) n1309) (ne_of_none h1318 n1329) (ne_of_none h1318 n1330))) (ni3 (ne_of_none (e1357 _ _ (e1347 _ _ (e1338 _ _ ((SameXs.of x1324) _ _ h1318 (ni1 (ne_of_none (e1302 _ _ h1295) n1309)))))) n1364) (ne_of_none (e1369 _ _ (e1357 _ _ (e1347 _ _ (e1338 _ _ ((SameXs.of x1324) _ _ h1318 (ni1 (ne_of_none (e1302 _ _ h1295) n1309))))))) n1384) (ne_of_none (e1369 _ _ (e1357 _ _ (e1347 _ _ (e1338 _ _ ((SameXs.of x1324) _ _ h1318 (ni1 (ne_of_none (e1302 _ _ h1295) n1309))))))) n1385))) (ne_of_none (e1453 _ _ h1447) n1459))
              have h1549 := (x1541 _ _ (x1532 _ _ (x1521 _ _ h1500 (ni3 (ne_of_none h1304 n1309) (ne_of_none (e1314 _ _ h1304) n1329) (ne_of_none (e1314 _ _ h1304) n1330))) (ni3 (ne_of_none (e1357 _ _ h1352) n1364) (ne_of_none (e1369 _ _ (e1357 _ _ h1352)) n1384) (ne_of_none (e1369 _ _ (e1357 _ _ h1352)) n1385))) (ne_of_none (e1453 _ _ (x1445 _ _ h1434 (ne_of_none h1295 n1299).symm)) n1459))
              have h1550 := (x1541 _ _ (x1532 _ _ h1522 (ni3 (ne_of_none (e1357 _ _ (e1347 _ _ (e1338 _ _ h1325))) n1364) (ne_of_none (e1369 _ _ (e1357 _ _ (e1347 _ _ (e1338 _ _ h1325)))) n1384) (ne_of_none (e1369 _ _ (e1357 _ _ (e1347 _ _ (e1338 _ _ h1325)))) n1385))) (ne_of_none (e1453 _ _ (x1445 _ _ h1435 (ne_of_none (e1302 _ _ h1295) n1309).symm)) n1459))
              have h1551 := (x1541 _ _ (x1532 _ _ h1524 (ni3 (ne_of_none (e1357 _ _ (e1347 _ _ (e1338 _ _ h1327))) n1364) (ne_of_none (e1369 _ _ (e1357 _ _ (e1347 _ _ (e1338 _ _ h1327)))) n1384) (ne_of_none (e1369 _ _ (e1357 _ _ (e1347 _ _ (e1338 _ _ h1327)))) n1385))) (ne_of_none (e1453 _ _ (x1445 _ _ h1436 (ne_of_none h1318 n1329).symm)) n1459))
              have h1552 := (x1541 _ _ (x1532 _ _ h1525 (ni3 (ne_of_none (e1357 _ _ (e1347 _ _ (e1338 _ _ h1328))) n1364) (ne_of_none (e1369 _ _ (e1357 _ _ (e1347 _ _ (e1338 _ _ h1328)))) n1384) (ne_of_none (e1369 _ _ (e1357 _ _ (e1347 _ _ (e1338 _ _ h1328)))) n1385))) (ne_of_none (e1453 _ _ (x1445 _ _ h1437 (ne_of_none h1318 n1330).symm)) n1459))
              have h1553 := (x1541 _ _ h1533 (ne_of_none (e1453 _ _ (x1445 _ _ h1438 (ne_of_none (e1357 _ _ (e1347 _ _ (e1338 _ _ ((SameXs.of x1324) _ _ h1318 (ni1 (ne_of_none (e1302 _ _ h1295) n1309)))))) n1364).symm)) n1459))
              have h1554 := (x1541 _ _ h1535 (ne_of_none (e1453 _ _ (x1445 _ _ h1439 (ne_of_none (e1369 _ _ (e1357 _ _ (e1347 _ _ (e1338 _ _ ((SameXs.of x1324) _ _ h1318 (ni1 (ne_of_none (e1302 _ _ h1295) n1309))))))) n1384).symm)) n1459))
              have h1555 := (x1541 _ _ h1536 (ne_of_none (e1453 _ _ (x1445 _ _ h1440 (ne_of_none (e1369 _ _ (e1357 _ _ (e1347 _ _ (e1338 _ _ ((SameXs.of x1324) _ _ h1318 (ni1 (ne_of_none (e1302 _ _ h1295) n1309))))))) n1385).symm)) n1459))
              refine ⟨s1519, s1530, (setL (chances) (item.1) (adaptE ((itD (chances) (item.1))) (item.2))), _, _, _, rfl, eG1509, S1544, h1545, h1546, h1547, h1548, h1549, h1550, h1551, h1552, h1553, h1554, h1555, h1543, ?_⟩
              refine ⟨?_, ?_, ?_⟩
              · rw [X1]
                exact R1.2
              · rw [q1531]
                exact R2.2
              · exact chances_turn hi hch (by unfold codeChances; first | (rw [if_pos ‹_›]; done) | (rw [if_neg ‹_›]; done))
            · have c1537 : ¬ (0 ≤ item.1) := c1537
              have h1556 := (x1532 _ _ (x1521 _ _ h1496 (ni3 (ne_of_none (e1302 _ _ (e1291 _ _ h1286)) n1309) (ne_of_none (e1314 _ _ (e1302 _ _ (e1291 _ _ h1286))) n1329) (ne_of_none (e1314 _ _ (e1302 _ _ (e1291 _ _ h1286))) n1330))) (ni3 (ne_of_none (e1357 _ _ (e1347 _ _ (e1338 _ _ ((SameXs.of x1324) _ _ (e1314 _ _ (e1302 _ _ (e1291 _ _ h1286))) (ni1 (ne_of_none (e1302 _ _ (e1291 _ _ h1286)) n1309)))))) n1364) (ne_of_none (e1369 _ _ (e1357 _ _ (e1347 _ _ (e1338 _ _ ((SameXs.of x1324) _ _ (e1314 _ _ (e1302 _ _ (e1291 _ _ h1286))) (ni1 (ne_of_none (e1302 _ _ (e1291 _ _ h1286)) n1309))))))) n1384) (ne_of_none (e1369 _ _ (e1357 _ _ (e1347 _ _ (e1338 _ _ ((SameXs.of x1324) _ _ (e1314 _ _ (e1302 _ _ (e1291 _ _ h1286))) (ni1 (ne_of_none (e1302 _ _ (e1291 _ _ h1286)) n1309))))))) n1385)))
              have h1557 := (x1532 _ _ (x1521 _ _ h1497 (ni3 (ne_of_none (e1302 _ _ (e1291 _ _ h1288)) n1309) (ne_of_none (e1314 _ _ (e1302 _ _ (e1291 _ _ h1288))) n1329) (ne_of_none (e1314 _ _ (e1302 _ _ (e1291 _ _ h1288))) n1330))) (ni3 (ne_of_none (e1357 _ _ (e1347 _ _ (e1338 _ _ ((SameXs.of x1324) _ _ (e1314 _ _ (e1302 _ _ (e1291 _ _ h1288))) (ni1 (ne_of_none (e1302 _ _ (e1291 _ _ h1288)) n1309)))))) n1364) (ne_of_none (e1369 _ _ (e1357 _ _ (e1347 _ _ (e1338 _ _ ((SameXs.of x1324) _ _ (e1314 _ _ (e1302 _ _ (e1291 _ _ h1288))) (ni1 (ne_of_none (e1302 _ _ (e1291 _ _ h1288)) n1309))))))) n1384) (ne_of_none (e1369 _ _ (e1357 _ _ (e1347 _ _ (e1338 _ _ ((SameXs.of x1324) _ _ (e1314 _ _ (e1302 _ _ (e1291 _ _ h1288))) (ni1 (ne_of_none (e1302 _ _ (e1291 _ _ h1288)) n1309))))))) n1385)))
              have h1558 := (x1532 _ _ (x1521 _ _ h1498 (ni3 (ne_of_none (e1302 _ _ (e1291 _ _ h1289)) n1309) (ne_of_none (e1314 _ _ (e1302 _ _ (e1291 _ _ h1289))) n1329) (ne_of_none (e1314 _ _ (e1302 _ _ (e1291 _ _ h1289))) n1330))) (ni3 (ne_of_none (e1357 _ _ (e1347 _ _ (e1338 _ _ ((SameXs.of x1324) _ _ (e1314 _ _ (e1302 _ _ (e1291 _ _ h1289))) (ni1 (ne_of_none (e1302 _ _ (e1291 _ _ h1289)) n1309)))))) n1364) (ne_of_none (e1369 _ _ (e1357 _ _ (e1347 _ _ (e1338 _ _ ((SameXs.of x1324) _ _ (e1314 _ _ (e1302 _ _ (e1291 _ _ h1289))) (ni1 (ne_of_none (e1302 _ _ (e1291 _ _ h1289)) n1309))))))) n1384) (ne_of_none (e1369 _ _ (e1357 _ _ (e1347 _ _ (e1338 _ _ ((SameXs.of x1324) _ _ (e1314 _ _ (e1302 _ _ (e1291 _ _ h1289))) (ni1 (ne_of_none (e1302 _ _ (e1291 _ _ h1289)) n1309))))))) n1385)))
              have h1559 := (x1532 _ _ (x1521 _ _ h1499 (ni3 (ne_of_none (e1302 _ _ h1295) n1309) (ne_of_none h1318 n1329) (ne_of_none h1318 n1330))) (ni3 (ne_of_none (e1357 _ _ (e1347 _ _ (e1338 _ _ ((SameXs.of x1324) _ _ h1318 (ni1 (ne_of_none (e1302 _ _ h1295) n1309)))))) n1364) (ne_of_none (e1369 _ _ (e1357 _ _ (e1347 _ _ (e1338 _ _ ((SameXs.of x1324) _ _ h1318 (ni1 (ne_of_none (e1302 _ _ h1295) n1309))))))) n1384) (ne_of_none (e1369 _ _ (e1357 _ _ (e1347 _ _ (e1338 _ _ ((SameXs.of x1324) _ _ h1318 (ni1 (ne_of_none (e1302 _ _ h1295) n1309))))))) n1385)))
              have h1560 := (x1532 _ _ (x1521 _ _ h1500 (ni3 (ne_of_none h1304 n1309) (ne_of_none (e1314 _ _ h1304) n1329) (ne_of_none (e1314 _ _ h1304) n1330))) (ni3 (ne_of_none (e1357 _ _ h1352) n1364) (ne_of_none (e1369 _ _ (e1357 _ _ h1352)) n1384) (ne_of_none (e1369 _ _ (e1357 _ _ h1352)) n1385)))
              have h1561 := (x1532 _ _ h1522 (ni3 (ne_of_none (e1357 _ _ (e1347 _ _ (e1338 _ _ h1325))) n1364) (ne_of_none (e1369 _ _ (e1357 _ _ (e1347 _ _ (e1338 _ _ h1325)))) n1384) (ne_of_none (e1369 _ _ (e1357 _ _ (e1347 _ _ (e1338 _ _ h1325)))) n1385)))
              have h1562 := (x1532 _ _ h1524 (ni3 (ne_of_none (e1357 _ _ (e1347 _ _ (e1338 _ _ h1327))) n1364) (ne_of_none (e1369 _ _ (e1357 _ _ (e1347 _ _ (e1338 _ _ h1327)))) n1384) (ne_of_none (e1369 _ _ (e1357 _ _ (e1347 _ _ (e1338 _ _ h1327)))) n1385)))
              have h1563 := (x1532 _ _ h1525 (ni3 (ne_of_none (e1357 _ _ (e1347 _ _ (e1338 _ _ h1328))) n1364) (ne_of_none (e1369 _ _ (e1357 _ _ (e1347 _ _ (e1338 _ _ h1328)))) n1384) (ne_of_none (e1369 _ _ (e1357 _ _ (e1347 _ _ (e1338 _ _ h1328)))) n1385)))
              have h1564 := (x1532 _ _ (x1521 _ _ h1507 (ni3 (ne_of_none (e1453 _ _ (x1445 _ _ h1435 (ne_of_none (e1302 _ _ h1295) n1309).symm)) n1459).symm (ne_of_none (e1453 _ _ (x1445 _ _ h1436 (ne_of_none h1318 n1329).symm)) n1459).symm (ne_of_none (e1453 _ _ (x1445 _ _ h1437 (ne_of_none h1318 n1330).symm)) n1459).symm)) (ni3 (ne_of_none (e1453 _ _ (x1445 _ _ h1438 (ne_of_none (e1357 _ _ (e1347 _ _ (e1338 _ _ ((SameXs.of x1324) _ _ h1318 (ni1 (ne_of_none (e1302 _ _ h1295) n1309)))))) n1364).symm)) n1459).symm (ne_of_none (e1453 _ _ (x1445 _ _ h1439 (ne_of_none (e1369 _ _ (e1357 _ _ (e1347 _ _ (e1338 _ _ ((SameXs.of x1324) _ _ h1318 (ni1 (ne_of_none (e1302 _ _ h1295) n1309))))))) n1384).symm)) n1459).symm (ne_of_none (e1453 _ _ (x1445 _ _ h1440 (ne_of_none (e1369 _ _ (e1357 _ _ (e1347 _ _ (e1338 _ _ ((SameXs.of x1324) _ _ h1318 (ni1 (ne_of_none (e1302 _ _ h1295) n1309))))))) n1385).symm)) n1459).symm))
              refine ⟨s1519, s1530, (chances), _, _, _, rfl, eG1509, S1534, h1556, h1557, h1558, h1559, h1560, h1561, h1562, h1563, h1533, h1535, h1536, h1564, ?_⟩
              refine ⟨?_, ?_, ?_⟩
              · rw [X1]
                exact R1.2
              · rw [q1531]
                exact R2.2
              · exact chances_turn hi hch (by unfold codeChances; first | (rw [if_pos ‹_›]; done) | (rw [if_neg ‹_›]; done))
          · have c1517 : ¬ (0 ≤ item.1) := c1517
            refine iteF ?_
            refine ⟨_, rfl, _, rfl, _, _, _, _, (decoder : DecS), _, _, rfl, h1501, h1502, h1503, ne1331, (Rp.mono (S1495.hid (all_cons (.tail _ (.tail _ (.tail _ (.tail _ (.tail _ (.head _)))))) (all_cons (.tail _ (.tail _ (.tail _ (.tail _ (.tail _ (.tail _ (.head _))))))) (all_cons (.tail _ (.tail _ (.tail _ (.tail _ (.tail _ (.tail _ (.tail _ (.head _)))))))) all_nil)))) (rp_mk2 h1512 (.int _) (.int _))), (by first | exact hr1.g | exact hit.1), (by first | exact hr1.g | exact hit.1), fun H1565 s1566 q1567 x1568 h1569 h1571 h1572  => ?_⟩
            have S1570 := S1495.mut x1568 (all_cons (.tail _ (.tail _ (.tail _ (.tail _ (.tail _ (.head _)))))) (all_cons (.tail _ (.tail _ (.tail _ (.tail _ (.tail _ (.tail _ (.head _))))))) (all_cons (.tail _ (.tail _ (.tail _ (.tail _ (.tail _ (.tail _ (.tail _ (.head _)))))))) all_nil))) (all_cons (some_ne h1569) (all_cons (some_ne h1571) (all_cons (some_ne h1572) all_nil)))
            have R1 := rel_turn hi hok ho1 hc1 hr1
            have R2 := rel_turn hi hok ho2 hc2 hr2
            have X1 := q1567
            refine ⟨_, rfl, _, _, _, _, _, rfl, (.ty _), (.base (.int _)), rfl, _, rfl, ?_⟩
            refine iteF ?_
            refine ⟨_, rfl, _, rfl, _, _, _, _, rfl, rfl, (SqT.of (S1570.sG _ _ h1512)), rfl, _, _, rfl, rfl, _, rfl, ?_⟩
            refine iteNF (show (decItemBit (decoder) (item) : Int) = item.2 from by exact R1.1) ?_
            have h1573 := (x1568 _ _ h1504 (ni3 (ne_of_none (e1357 _ _ (e1347 _ _ (e1338 _ _ h1325))) n1364).symm (ne_of_none (e1357 _ _ (e1347 _ _ (e1338 _ _ h1327))) n1364).symm (ne_of_none (e1357 _ _ (e1347 _ _ (e1338 _ _ h1328))) n1364).symm))
            have h1574 := (x1568 _ _ h1505 (ni3 (ne_of_none (e1369 _ _ (e1357 _ _ (e1347 _ _ (e1338 _ _ h1325)))) n1384).symm (ne_of_none (e1369 _ _ (e1357 _ _ (e1347 _ _ (e1338 _ _ h1327)))) n1384).symm (ne_of_none (e1369 _ _ (e1357 _ _ (e1347 _ _ (e1338 _ _ h1328)))) n1384).symm))
            have h1575 := (x1568 _ _ h1506 (ni3 (ne_of_none (e1369 _ _ (e1357 _ _ (e1347 _ _ (e1338 _ _ h1325)))) n1385).symm (ne_of_none (e1369 _ _ (e1357 _ _ (e1347 _ _ (e1338 _ _ h1327)))) n1385).symm (ne_of_none (e1369 _ _ (e1357 _ _ (e1347 _ _ (e1338 _ _ h1328)))) n1385).symm))
            refine ⟨_, rfl, _, rfl, _, _, _, _, (other : DecS), _, _, rfl, h1573, h1574, h1575, ne1386, (Rp.mono (S1570.hid (all_cons (.tail _ (.tail _ (.tail _ (.tail _ (.tail _ (.tail _ (.tail _ (.tail _ (.head _))))))))) (all_cons (.tail _ (.tail _ (.tail _ (.tail _ (.tail _ (.tail _ (.tail _ (.tail _ (.tail _ (.head _)))))))))) (all_cons (.tail _ (.tail _ (.tail _ (.tail _ (.tail _ (.tail _ (.tail _ (.tail _ (.tail _ (.tail _ (.head _))))))))))) all_nil)))) (rp_mk2 h1512 (.int _) (.int _))), (by first | exact hr2.g | exact hit.1), (by first | exact hr2.g | exact hit.1), fun H1576 s1577 q1578 x1579 h1580 h1582 h1583  => ?_⟩
            have S1581 := S1570.mut x1579 (all_cons (.tail _ (.tail _ (.tail _ (.tail _ (.tail _ (.tail _ (.tail _ (.tail _ (.head _))))))))) (all_cons (.tail _ (.tail _ (.tail _ (.tail _ (.tail _ (.tail _ (.tail _ (.tail _ (.tail _ (.head _)))))))))) (all_cons (.tail _ (.tail _ (.tail _ (.tail _ (.tail _ (.tail _ (.tail _ (.tail _ (.tail _ (.tail _ (.head _))))))))))) all_nil))) (all_cons (some_ne h1580) (all_cons (some_ne h1582) (all_cons (some_ne h1583) all_nil)))
            refine ⟨_, rfl, _, _, _, _, rfl, rfl, (SqT.of (S1581.sG _ _ h1512)), rfl, _, _, rfl, rfl, _, rfl, ?_⟩
            refine iteNF (show (decItemBit (other) (item) : Int) = item.2 from by exact R2.1) ?_
            refine ⟨_, rfl, _, _, _, _, rfl, rfl, (SqT.of (S1581.sG _ _ h1512)), rfl, _, _, rfl, rfl, _, rfl, ?_⟩
            refine iteD (fun c1584 => ?_) (fun c1584 => ?_)
            · have c1584 : 0 ≤ item.1 := c1584
              have h1585 := (x1579 _ _ (x1568 _ _ h1507 (ni3 (ne_of_none (e1453 _ _ (x1445 _ _ h1435 (ne_of_none (e1302 _ _ h1295) n1309).symm)) n1459).symm (ne_of_none (e1453 _ _ (x1445 _ _ h1436 (ne_of_none h1318 n1329).symm)) n1459).symm (ne_of_none (e1453 _ _ (x1445 _ _ h1437 (ne_of_none h1318 n1330).symm)) n1459).symm)) (ni3 (ne_of_none (e1453 _ _ (x1445 _ _ h1438 (ne_of_none (e1357 _ _ (e1347 _ _ (e1338 _ _ ((SameXs.of x1324) _ _ h1318 (ni1 (ne_of_none (e1302 _ _ h1295) n1309)))))) n1364).symm)) n1459).symm (ne_of_none (e1453 _ _ (x1445 _ _ h1439 (ne_of_none (e1369 _ _ (e1357 _ _ (e1347 _ _ (e1338 _ _ ((SameXs.of x1324) _ _ h1318 (ni1 (ne_of_none (e1302 _ _ h1295) n1309))))))) n1384).symm)) n1459).symm (ne_of_none (e1453 _ _ (x1445 _ _ h1440 (ne_of_none (e1369 _ _ (e1357 _ _ (e1347 _ _ (e1338 _ _ ((SameXs.of x1324) _ _ h1318 (ni1 (ne_of_none (e1302 _ _ h1295) n1309))))))) n1385).symm)) n1459).symm))
              refine ⟨_, rfl, _, rfl, _, _, _, _, rfl, rfl, (SqT.of (S1581.sG _ _ h1512)), rfl, _, _, _, _, rfl, rfl, (SqL.of h1585), (atI_map (by rw [hcl]; omega)), _, rfl, _, _, _, _, rfl, rfl, (SqT.of (S1581.sG _ _ h1512)), rfl, _, _, rfl, _, rfl, _, rfl, _, _, _, _, rfl, rfl, (SqT.of (S1581.sG _ _ h1512)), rfl, _, _, _, _, rfl, rfl, h1585, (ixN_map (by rw [hcl]; omega)), ?_⟩
              generalize g1586 : upd H1576 p1458 _ = H1587
              obtain ⟨x1588, h1589⟩ := gen_mut g1586
              have h1590 : H1587 p1458 = some (.lst ((setL (chances) (item.1) (adaptE ((itD (chances) (item.1))) (item.2)) : (List Int)).map V.int)) := set_map h1589
              have S1591 := S1581.mut1 x1588 (.tail _ (.tail _ (.tail _ (.tail _ (.tail _ (.tail _ (.tail _ (.tail _ (.tail _ (.tail _ (.tail _ (.head _)))))))))))) h1590
              have h1592 := (x1588 _ _ (x1579 _ _ (x1568 _ _ h1496 (ni3 (ne_of_none (e1302 _ _ (e1291 _ _ h1286)) n1309) (ne_of_none (e1314 _ _ (e1302 _ _ (e1291 _ _ h1286))) n1329) (ne_of_none (e1314 _ _ (e1302 _ _ (e1291 _ _ h1286))) n1330))) (ni3 (ne_of_none (e1357 _ _ (e1347 _ _ (e1338 _ _ ((SameXs.of x1324) _ _ (e1314 _ _ (e1302 _ _ (e1291 _ _ h1286))) (ni1 (ne_of_none (e1302 _ _ (e1291 _ _ h1286)) n1309)))))) n1364) (ne_of_none (e1369 _ _ (e1357 _ _ (e1347 _ _ (e1338 _ _ ((SameXs.of x1324) _ _ (e1314 _ _ (e1302 _ _ (e1291 _ _ h1286))) (ni1 (ne_of_none (e1302 _ _ (e1291 _ _ h1286)) n1309))))))) n1384) (ne_of_none (e1369 _ _ (e1357 _ _ (e1347 _ _ (e1338 _ _ ((SameXs.of x1324) _ _ (e1314 _ _ (e1302 _ _ (e1291 _ _ h1286))) (ni1 (ne_of_none (e1302 _ _ (e1291 _ _ h1286)) n1309))))))) n1385))) (ne_of_none (e1453 _ _ (x1445 _ _ h1430 (ne_of_none h1286 n1293))) n1459))
              have h1593 := (x1588 _ _ (x1579 _ _ (x1568 _ _ h1497 (ni3 (ne_of_none (e1302 _ _ (e1291 _ _ h1288)) n1309) (ne_of_none (e1314 _ _ (e1302 _ _ (e1291 _ _ h1288))) n1329) (ne_of_none (e1314 _ _ (e1302 _ _ (e1291 _ _ h1288))) n1330))) (ni3 (ne_of_none (e1357 _ _ (e1347 _ _ (e1338 _ _ ((SameXs.of x1324) _ _ (e1314 _ _ (e1302 _ _ (e1291 _ _ h1288))) (ni1 (ne_of_none (e1302 _ _ (e1291 _ _ h1288)) n1309)))))) n1364) (ne_of_none (e1369 _ _ (e1357 _ _ (e1347 _ _ (e1338 _ _ ((SameXs.of x1324) _ _ (e1314 _ _ (e1302 _ _ (e1291 _ _ h1288))) (ni1 (ne_of_none (e1302 _ _ (e1291 _ _ h1288)) n1309))))))) n1384) (ne_of_none (e1369 _ _ (e1357 _ _ (e1347 _ _ (e1338 _ _ ((SameXs.of x1324) _ _ (e1314 _ _ (e1302 _ _ (e1291 _ _ h1288))) (ni1 (ne_of_none (e1302 _ _ (e1291 _ _ h1288)) n1309))))))) n1385))) (ne_of_none (e1453 _ _ (x1445 _ _ h1431 (ne_of_none h1288 n1293))) n1459))
              have h1594 := (x1588 _ _ (x1579 _ _ (x1568 _ _ h1498 (ni3 (ne_of_none (e1302 _ _ (e1291 _ _ h1289)) n1309) (ne_of_none (e1314 _ _ (e1302 _ _ (e1291 _ _ h1289))) n1329) (ne_of_none (e1314 _ _ (e1302 _ _ (e1291 _ _ h1289))) n1330))) (ni3 (ne_of_none (e1357 _ _ (e1347 _ _ (e1338 _ _ ((SameXs.of x1324) _ _ (e1314 _ _ (e1302 _ _ (e1291 _ _ h1289))) (ni1 (ne_of_none (e1302 _ _ (e1291 _ _ h1289)) n1309)))))) n1364) (ne_of_none (e1369 _ _ (e1357 _ _ (e1347 _ _ (e1338 _ _ ((SameXs.of x1324) _ _ (e1314 _ _ (e1302 _ _ (e1291 _ _ h1289))) (ni1 (ne_of_none (e1302 _ _ (e1291 _ _ h1289)) n1309))))))) n1384) (ne_of_none (e1369 _ _ (e1357 _ _ (e1347 _ _ (e1338 _ _ ((SameXs.of x1324) _ _ (e1314 _ _ (e1302 _ _ (e1291 _ _ h1289))) (ni1 (ne_of_none (e1302 _ _ (e1291 _ _ h1289)) n1309))))))) n1385))) (ne_of_none (e1453 _ _ (x1445 _ _ h1432 (ne_of_none h1289 n1293))) n1459))
              have h1595 := (x1588 _ _ (x1579 _ _ (x1568 _ _ h1499 (ni3 (ne_of_none (e1302 _ _ h1295) n1309) (ne_of_none h1318 n1329) (ne_of_none h1318 n1330))) (ni3 (ne_of_none (e1357 _ _ (e1347 _ _ (e1338 _ _ ((SameXs.of x1324) _ _ h1318 (ni1 (ne_of_none (e1302 _ _ h1295) n1309)))))) n1364) (ne_of_none (e1369 _ _ (e1357 _ _ (e1347 _ _ (e1338 _ _ ((SameXs.of x1324) _ _ h1318 (ni1 (ne_of_none (e1302 _ _ h1295) n1309))))))) n1384) (ne_of_none (e1369 _ _ (e1357 _ _ (e1347 _ _ (e1338 _ _ ((SameXs.of x1324) _ _ h1318 (ni1 (ne_of_none (e1302 _ _ h1295) n1309))))))) n1385))) (ne_of_none (e1453 _ _ h1447) n1459))
              have h1596 := (x1588 _ _ (x1579 _ _ (x1568 _ _ h1500 (ni3 (ne_of_none h1304 n1309) (ne_of_none (e1314 _ _ h1304) n1329) (ne_of_none (e1314 _ _ h1304) n1330))) (ni3 (ne_of_none (e1357 _ _ h1352) n1364) (ne_of_none (e1369 _ _ (e1357 _ _ h1352)) n1384) (ne_of_none (e1369 _ _ (e1357 _ _ h1352)) n1385))) (ne_of_none (e1453 _ _ (x1445 _ _ h1434 (ne_of_none h1295 n1299).symm)) n1459))
              have h1597 := (x1588 _ _ (x1579 _ _ h1569 (ni3 (ne_of_none (e1357 _ _ (e1347 _ _ (e1338 _ _ h1325))) n1364) (ne_of_none (e1369 _ _ (e1357 _ _ (e1347 _ _ (e1338 _ _ h1325)))) n1384) (ne_of_none (e1369 _ _ (e1357 _ _ (e1347 _ _ (e1338 _ _ h1325)))) n1385))) (ne_of_none (e1453 _ _ (x1445 _ _ h1435 (ne_of_none (e1302 _ _ h1295) n1309).symm)) n1459))
              have h1598 := (x1588 _ _ (x1579 _ _ h1571 (ni3 (ne_of_none (e1357 _ _ (e1347 _ _ (e1338 _ _ h1327))) n1364) (ne_of_none (e1369 _ _ (e1357 _ _ (e1347 _ _ (e1338 _ _ h1327)))) n1384) (ne_of_none (e1369 _ _ (e1357 _ _ (e1347 _ _ (e1338 _ _ h1327)))) n1385))) (ne_of_none (e1453 _ _ (x1445 _ _ h1436 (ne_of_none h1318 n1329).symm)) n1459))
              have h1599 := (x1588 _ _ (x1579 _ _ h1572 (ni3 (ne_of_none (e1357 _ _ (e1347 _ _ (e1338 _ _ h1328))) n1364) (ne_of_none (e1369 _ _ (e1357 _ _ (e1347 _ _ (e1338 _ _ h1328)))) n1384) (ne_of_none (e1369 _ _ (e1357 _ _ (e1347 _ _ (e1338 _ _ h1328)))) n1385))) (ne_of_none (e1453 _ _ (x1445 _ _ h1437 (ne_of_none h1318 n1330).symm)) n1459))
              have h1600 := (x1588 _ _ h1580 (ne_of_none (e1453 _ _ (x1445 _ _ h1438 (ne_of_none (e1357 _ _ (e1347 _ _ (e1338 _ _ ((SameXs.of x1324) _ _ h1318 (ni1 (ne_of_none (e1302 _ _ h1295) n1309)))))) n1364).symm)) n1459))
              have h1601 := (x1588 _ _ h1582 (ne_of_none (e1453 _ _ (x1445 _ _ h1439 (ne_of_none (e1369 _ _ (e1357 _ _ (e1347 _ _ (e1338 _ _ ((SameXs.of x1324) _ _ h1318 (ni1 (ne_of_none (e1302 _ _ h1295) n1309))))))) n1384).symm)) n1459))
              have h1602 := (x1588 _ _ h1583 (ne_of_none (e1453 _ _ (x1445 _ _ h1440 (ne_of_none (e1369 _ _ (e1357 _ _ (e1347 _ _ (e1338 _ _ ((SameXs.of x1324) _ _ h1318 (ni1 (ne_of_none (e1302 _ _ h1295) n1309))))))) n1385).symm)) n1459))
              refine ⟨s1566, s1577, (setL (chances) (item.1) (adaptE ((itD (chances) (item.1))) (item.2))), _, _, _, rfl, eG1509, S1591, h1592, h1593, h1594, h1595, h1596, h1597, h1598, h1599, h1600, h1601, h1602, h1590, ?_⟩
              refine ⟨?_, ?_, ?_⟩
              · rw [X1]
                exact R1.2
              · rw [q1578]
                exact R2.2
              · exact chances_turn hi hch (by unfold codeChances; first | (rw [if_pos ‹_›]; done) | (rw [if_neg ‹_›]; done))
            · have c1584 : ¬ (0 ≤ item.1) := c1584
              have h1603 := (x1579 _ _ (x1568 _ _ h1496 (ni3 (ne_of_none (e1302 _ _ (e1291 _ _ h1286)) n1309) (ne_of_none (e1314 _ _ (e1302 _ _ (e1291 _ _ h1286))) n1329) (ne_of_none (e1314 _ _ (e1302 _ _ (e1291 _ _ h1286))) n1330))) (ni3 (ne_of_none (e1357 _ _ (e1347 _ _ (e1338 _ _ ((SameXs.of x1324) _ _ (e1314 _ _ (e1302 _ _ (e1291 _ _ h1286))) (ni1 (ne_of_none (e1302 _ _ (e1291 _ _ h1286)) n1309)))))) n1364) (ne_of_none (e1369 _ _ (e1357 _ _ (e1347 _ _ (e1338 _ _ ((SameXs.of x1324) _ _ (e1314 _ _ (e1302 _ _ (e1291 _ _ h1286))) (ni1 (ne_of_none (e1302 _ _ (e1291 _ _ h1286)) n1309))))))) n1384) (ne_of_none (e1369 _ _ (e1357 _ _ (e1347 _ _ (e1338 _ _ ((SameXs.of x1324) _ _ (e1314 _ _ (e1302 _ _ (e1291 _ _ h1286))) (ni1 (ne_of_none (e1302 _ _ (e1291 _ _ h1286)) n1309))))))) n1385)))
              have h1604 := (x1579 _ _ (x1568 _ _ h1497 (ni3 (ne_of_none (e1302 _ _ (e1291 _ _ h1288)) n1309) (ne_of_none (e1314 _ _ (e1302 _ _ (e1291 _ _ h1288))) n1329) (ne_of_none (e1314 _ _ (e1302 _ _ (e1291 _ _ h1288))) n1330))) (ni3 (ne_of_none (e1357 _ _ (e1347 _ _ (e1338 _ _ ((SameXs.of x1324) _ _ (e1314 _ _ (e1302 _ _ (e1291 _ _ h1288))) (ni1 (ne_of_none (e1302 _ _ (e1291 _ _ h1288)) n1309)))))) n1364) (ne_of_none (e1369 _ _ (e1357 _ _ (e1347 _ _ (e1338 _ _ ((SameXs.of x1324) _ _ (e1314 _ _ (e1302 _ _ (e1291 _ _ h1288))) (ni1 (ne_of_none (e1302 _ _ (e1291 _ _ h1288)) n1309))))))) n1384) (ne_of_none (e1369 _ _ (e1357 _ _ (e1347 _ _ (e1338 _ _ ((SameXs.of x1324) _ _ (e1314 _ _ (e1302 _ _ (e1291 _ _ h1288))) (ni1 (ne_of_none (e1302 _ _ (e1291 _ _ h1288)) n1309))))))) n1385)))
              have h1605 := (x1579 _ _ (x1568 _ _ h1498 (ni3 (ne_of_none (e1302 _ _ (e1291 _ _ h1289)) n1309) (ne_of_none (e1314 _ _ (e1302 _ _ (e1291 _ _ h1289))) n1329) (ne_of_none (e1314 _ _ (e1302 _ _ (e1291 _ _ h1289))) n1330))) (ni3 (ne_of_none (e1357 _ _ (e1347 _ _ (e1338 _ _ ((SameXs.of x1324) _ _ (e1314 _ _ (e1302 _ _ (e1291 _ _ h1289))) (ni1 (ne_of_none (e1302 _ _ (e1291 _ _ h1289)) n1309)))))) n1364) (ne_of_none (e1369 _ _ (e1357 _ _ (e1347 _ _ (e1338 _ _ ((SameXs.of x1324) _ _ (e1314 _ _ (e1302 _ _ (e1291 _ _ h1289))) (ni1 (ne_of_none (e1302 _ _ (e1291 _ _ h1289)) n1309))))))) n1384) (ne_of_none (e1369 _ _ (e1357 _ _ (e1347 _ _ (e1338 _ _ ((SameXs.of x1324) _ _ (e1314 _ _ (e1302 _ _ (e1291 _ _ h1289))) (ni1 (ne_of_none (e1302 _ _ (e1291 _ _ h1289)) n1309))))))) n1385)))
              have h1606 := (x1579 _ _ (x1568 _ _ h1499 (ni3 (ne_of_none (e1302 _ _ h1295) n1309) (ne_of_none h1318 n1329) (ne_of_none h1318 n1330))) (ni3 (ne_of_none (e1357 _ _ (e1347 _ _ (e1338 _ _ ((SameXs.of x1324) _ _ h1318 (ni1 (ne_of_none (e1302 _ _ h1295) n1309)))))) n1364) (ne_of_none (e1369 _ _ (e1357 _ _ (e1347 _ _ (e1338 _ _ ((SameXs.of x1324) _ _ h1318 (ni1 (ne_of_none (e1302 _ _ h1295) n1309))))))) n1384) (ne_of_none (e1369 _ _ (e1357 _ _ (e1347 _ _ (e1338 _ _ ((SameXs.of x1324) _ _ h1318 (ni1 (ne_of_none (e1302 _ _ h1295) n1309))))))) n1385)))
              have h1607 := (x1579 _ _ (x1568 _ _ h1500 (ni3 (ne_of_none h1304 n1309) (ne_of_none (e1314 _ _ h1304) n1329) (ne_of_none (e1314 _ _ h1304) n1330))) (ni3 (ne_of_none (e1357 _ _ h1352) n1364) (ne_of_none (e1369 _ _ (e1357 _ _ h1352)) n1384) (ne_of_none (e1369 _ _ (e1357 _ _ h1352)) n1385)))
              have h1608 := (x1579 _ _ h1569 (ni3 (ne_of_none (e1357 _ _ (e1347 _ _ (e1338 _ _ h1325))) n1364) (ne_of_none (e1369 _ _ (e1357 _ _ (e1347 _ _ (e1338 _ _ h1325)))) n1384) (ne_of_none (e1369 _ _ (e1357 _ _ (e1347 _ _ (e1338 _ _ h1325)))) n1385)))
              have h1609 := (x1579 _ _ h1571 (ni3 (ne_of_none (e1357 _ _ (e1347 _ _ (e1338 _ _ h1327))) n1364) (ne_of_none (e1369 _ _ (e1357 _ _ (e1347 _ _ (e1338 _ _ h1327)))) n1384) (ne_of_none (e1369 _ _ (e1357 _ _ (e1347 _ _ (e1338 _ _ h1327)))) n1385)))
              have h1610 := (x1579 _ _ h1572 (ni3 (ne_of_none (e1357 _ _ (e1347 _ _ (e1338 _ _ h1328))) n1364) (ne_of_none (e1369 _ _ (e1357 _ _ (e1347 _ _ (e1338 _ _ h1328)))) n1384) (ne_of_none (e1369 _ _ (e1357 _ _ (e1347 _ _ (e1338 _ _ h1328)))) n1385)))
              have h1611 := (x1579 _ _ (x1568 _ _ h1507 (ni3 (ne_of_none (e1453 _ _ (x1445 _ _ h1435 (ne_of_none (e1302 _ _ h1295) n1309).symm)) n1459).symm (ne_of_none (e1453 _ _ (x1445 _ _ h1436 (ne_of_none h1318 n1329).symm)) n1459).symm (ne_of_none (e1453 _ _ (x1445 _ _ h1437 (ne_of_none h1318 n1330).symm)) n1459).symm)) (ni3 (ne_of_none (e1453 _ _ (x1445 _ _ h1438 (ne_of_none (e1357 _ _ (e1347 _ _ (e1338 _ _ ((SameXs.of x1324) _ _ h1318 (ni1 (ne_of_none (e1302 _ _ h1295) n1309)))))) n1364).symm)) n1459).symm (ne_of_none (e1453 _ _ (x1445 _ _ h1439 (ne_of_none (e1369 _ _ (e1357 _ _ (e1347 _ _ (e1338 _ _ ((SameXs.of x1324) _ _ h1318 (ni1 (ne_of_none (e1302 _ _ h1295) n1309))))))) n1384).symm)) n1459).symm (ne_of_none (e1453 _ _ (x1445 _ _ h1440 (ne_of_none (e1369 _ _ (e1357 _ _ (e1347 _ _ (e1338 _ _ ((SameXs.of x1324) _ _ h1318 (ni1 (ne_of_none (e1302 _ _ h1295) n1309))))))) n1385).symm)) n1459).symm))
              refine ⟨s1566, s1577, (chances), _, _, _, rfl, eG1509, S1581, h1603, h1604, h1605, h1606, h1607, h1608, h1609, h1610, h1580, h1582, h1583, h1611, ?_⟩
              refine ⟨?_, ?_, ?_⟩
              · rw [X1]
                exact R1.2
              · rw [q1578]
                exact R2.2
              · exact chances_turn hi hch (by unfold codeChances; first | (rw [if_pos ‹_›]; done) | (rw [if_neg ‹_›]; done))
        · intro σ H1612 hw
          rw [show (vs824).length = (itemsL (script) (300)).length from (by rw [(RpAll.mono eG1442 d826).len, List.length_map])] at hw
          obtain ⟨decoder, other, chances, u_item, u_actual, G1626, rfl, eG1627, S1613, h1614, h1615, h1616, h1617, h1618, h1619, h1620, h1621, h1622, h1623, h1624, h1625, hu⟩ := hw
          obtain ⟨hr1, hr2, hch⟩ := hu
          rw [List.take_length] at hr1 hr2 hch
          have hpl := hr1.g.len
          have hcl : chances.length = 256 := by
            rw [hch]
            exact (items_ok init_ok hok).len
          refine ⟨_, rfl, (by omega), (by omega), for_range (lo := 0) (n := (256 : Int).toNat) (fun i σ H' => ∃ (u_context : Option V) (G' : Hp), σ = [some (V.ref a_script), some (V.ref a823), some (V.ref x1256), some (V.ref p1292), some (V.ref p1298), some (V.ref x1307), some (V.ref x1362), u_k, some (V.ref p1458), u_item, u_actual, u_context] ∧ Same G1626 G' ∧ Sep [] H H G' H' [x1256, l1267, l1268, p1292, p1298, x1307, l1319, l1320, x1362, l1374, l1375, p1458] ∧ H' x1256 = some (.ins AD.c_Encoder dx1257 [("_probabilities", V.ref l1267), ("_front", V.ref l1268), ("_low", V.int (s1283.low)), ("_span", V.int (s1283.span))]) ∧ H' l1267 = some (.lst ((s1283.probs).map V.int)) ∧ H' l1268 = some (.lst ((s1283.front).map V.int)) ∧ H' p1292 = some (.lst (((octets) ++ [255]).map V.int)) ∧ H' p1298 = some (.lst ((encOctets (s1283)).map V.int)) ∧ H' x1307 = some (.ins AD.c_Decoder dx1308 [("_probabilities", V.ref l1319), ("_octets", V.ref l1320), ("_place", V.int (decoder.place)), ("_span", V.int (decoder.span)), ("_value", V.int (decoder.value))]) ∧ H' l1319 = some (.lst ((decoder.probs).map V.int)) ∧ H' l1320 = some (.lst ((decoder.octs).map V.int)) ∧ H' x1362 = some (.ins AD.c_Decoder dx1363 [("_probabilities", V.ref l1374), ("_octets", V.ref l1375), ("_place", V.int (other.place)), ("_span", V.int (other.span)), ("_value", V.int (other.value))]) ∧ H' l1374 = some (.lst ((other.probs).map V.int)) ∧ H' l1375 = some (.lst ((other.octs).map V.int)) ∧ H' p1458 = some (.lst ((chances).map V.int)) ∧ (True)) ?_ ?_ ?_⟩
          · refine ⟨_, _, rfl, (Same.refl _), S1613, h1614, h1615, h1616, h1617, h1618, h1619, h1620, h1621, h1622, h1623, h1624, h1625, ?_⟩
            trivial
          · intro i σ H1628 hi hw
            obtain ⟨u_context, G1642, rfl, eG1643, S1629, h1630, h1631, h1632, h1633, h1634, h1635, h1636, h1637, h1638, h1639, h1640, h1641, hu⟩ := hw
            refine ⟨_, rfl, _, _, _, rfl, h1635, rfl, _, rfl, _, _, _, _, (decoder : DecS), _, rfl, h1635, h1636, h1637, ne1331, (by first | assumption | omega | decide), (by first | assumption | omega | decide), (by first | assumption | omega | decide), _, rfl, _, rfl, _, _, _, _, rfl, rfl, (SqL.of h1641), (atI_map (by rw [hcl]; omega)), _, _, rfl, rfl, _, rfl, ?_⟩
            refine iteNF (show (itD (decoder).probs ((0 + (i : Int))) : Int) = (itD (chances) ((0 + (i : Int)))) from by rw [hr1.probs, hch]) ?_
            refine ⟨_, rfl, _, _, _, rfl, h1630, rfl, _, rfl, _, _, _, _, (s1283 : EncS), _, rfl, h1630, h1631, h1632, ne1279, (by first | assumption | omega | decide), (by first | assumption | omega | decide), (by first | assumption | omega | decide), _, rfl, _, rfl, _, _, _, _, rfl, rfl, (SqL.of h1641), (atI_map (by rw [hcl]; omega)), _, _, rfl, rfl, _, rfl, ?_⟩
            refine iteNF (show (itD (s1283).probs ((0 + (i : Int))) : Int) = (itD (chances) ((0 + (i : Int)))) from by rw [hch, E1]) ?_
            refine ⟨_, _, rfl, eG1643, S1629, h1630, h1631, h1632, h1633, h1634, h1635, h1636, h1637, h1638, h1639, h1640, h1641, ?_⟩
            trivial
          · intro σ H1644 hw
            obtain ⟨u_context, G1658, rfl, eG1659, S1645, h1646, h1647, h1648, h1649, h1650, h1651, h1652, h1653, h1654, h1655, h1656, h1657, hu⟩ := hw
            refine ⟨_, rfl, _, _, _, rfl, h1646, rfl, _, _, _, _, (s1283 : EncS), rfl, h1646, h1647, h1648, ne1279, (by first | assumption | omega | decide), fun p1662 H1660 n1663 e1661 h1664 => ?_⟩
            have h1665 : H1660 p1662 = some (.lst ((encOctets (s1283) : (List Int)).map V.int)) := h1664
            have fr1666 := S1645.free n1663
            have S1667 := S1645.new n1663 e1661 h1665 fr1666
            have h1668 := (e1661 _ _ h1650)
            refine ⟨_, rfl, _, _, (rp_mk_ints h1665), (rp_mk_ints h1668), ?_⟩
            exact eq_bl (k _) (by exact (decide_eq_true rfl).symm)
end
def spL (K : PySem.W.Frag) : Sp := fun vs H Q _ => ∃ (a_script : Addr) (script : List Int), vs = [.ref a_script] ∧ SqL K H a_script (script.map V.int) ∧ script.length ≤ 63 ∧ ∀ H', Q (.bl true) H'
theorem all_mk {l : PySem.W.OpenLaw} {w : World} {K : PySem.W.Frag} {h : Heap} {mg : Str → Option Value} {fa : Addr} (X : K.In h) (G : h.Ns mainGlobals mg) (hfa : mg "law" = some (.ref fa))
    {f0 f1 f2 f3 f4 f5 f6 f7 f8 f9 f10 f11 f12 f13 f14 f15 f16 f17 f18 f19 f20 f21 f22 CEncoder CDecoder : Addr} {od0 an0 od1 an1 od2 an2 od3 an3 od4 an4 od5 an5 od6 an6 od7 an7 od8 an8 od9 an9 od10 an10 od11 an11 od12 an12 od13 an13 od14 an14 od15 an15 od16 an16 od17 an17 od18 an18 od19 an19 od20 an20 od21 an21 od22 an22 : Option Addr} {sl0 sl1 sl2 sl3 sl4 sl5 sl6 sl7 sl8 sl9 sl10 sl11 sl12 sl13 sl14 sl15 sl16 sl17 sl18 sl19 sl20 sl21 sl22 : Array (Option Value)} {oc0 kV0 dc0 pm0 cd0 ct0 oc1 kV1 dc1 pm1 cd1 ct1 oc2 kV2 dc2 pm2 cd2 ct2 oc3 kV3 dc3 pm3 cd3 ct3 oc4 kV4 dc4 pm4 cd4 ct4 oc5 kV5 dc5 pm5 cd5 ct5 oc6 kV6 dc6 pm6 cd6 ct6 oc7 kV7 dc7 pm7 cd7 ct7 oc8 kV8 dc8 pm8 cd8 ct8 oc9 kV9 dc9 pm9 cd9 ct9 oc10 kV10 dc10 pm10 cd10 ct10 oc11 kV11 dc11 pm11 cd11 ct11 oc12 kV12 dc12 pm12 cd12 ct12 oc13 kV13 dc13 pm13 cd13 ct13 oc14 kV14 dc14 pm14 cd14 ct14 oc15 kV15 dc15 pm15 cd15 ct15 oc16 kV16 dc16 pm16 cd16 ct16 oc17 kV17 dc17 pm17 cd17 ct17 oc18 kV18 dc18 pm18 cd18 ct18 oc19 kV19 dc19 pm19 cd19 ct19 oc20 kV20 dc20 pm20 cd20 ct20 oc21 kV21 dc21 pm21 cd21 ct21 oc22 kV22 dc22 pm22 cd22 ct22 : Value} {tk0 tk1 tk2 tk3 tk4 tk6 tk7 : Tok}
    (wEncoder : PySem.W.nsIn K mainGlobals "Encoder" = some (some (.ref CEncoder))) (wDecoder : PySem.W.nsIn K mainGlobals "Decoder" = some (some (.ref CDecoder))) (a0 : PySem.W.nsIn K mainGlobals "_check_context" = some (some (.ref f0))) (l0 : K.lookup f0 = some ⟨oc0, od0, .func (PySem.W.fnOf "_check_context" "_check_context" (defArgs s__check_context) (defBody s__check_context) (defScope s__check_context) .none kV0 dc0 pm0 an0 cd0 ct0), sl0⟩) (c0 : PySem.W.codeIn K cd0 "_check_context" = true) (k0 : PySem.W.keepIn K (.ref f0) = true) (a1 : PySem.W.nsIn K mainGlobals "_check_decision" = some (some (.ref f1))) (l1 : K.lookup f1 = some ⟨oc1, od1, .func (PySem.W.fnOf "_check_decision" "_check_decision" (defArgs s__check_decision) (defBody s__check_decision) (defScope s__check_decision) .none kV1 dc1 pm1 an1 cd1 ct1), sl1⟩) (c1 : PySem.W.codeIn K cd1 "_check_decision" = true) (k1 : PySem.W.keepIn K (.ref f1) = true) (a2 : PySem.W.nsIn K mainGlobals "_adapted" = some (some (.ref f2))) (l2 : K.lookup f2 = some ⟨oc2, od2, .func (PySem.W.fnOf "_adapted" "_adapted" (defArgs s__adapted) (defBody s__adapted) (defScope s__adapted) .none kV2 dc2 pm2 an2 cd2 ct2), sl2⟩) (c2 : PySem.W.codeIn K cd2 "_adapted" = true) (k2 : PySem.W.keepIn K (.ref f2) = true) (a3 : PySem.W.findIn K (.ref CEncoder) "__init__" = some (some (.ref f3))) (b3 : PySem.W.isFn K (.ref f3) = true) (d3 : PySem.W.makesIn K CEncoder = true) (e3 : PySem.W.keepIn K (.ref CEncoder) = true) (l3 : K.lookup f3 = some ⟨oc3, od3, .func (PySem.W.fnOf "__init__" "Encoder.__init__" (defArgs s_Encoder___init__) (defBody s_Encoder___init__) (defScope s_Encoder___init__) .none kV3 dc3 pm3 an3 cd3 ct3), sl3⟩) (c3 : PySem.W.codeIn K cd3 "Encoder.__init__" = true) (k3 : PySem.W.keepIn K (.ref f3) = true) (a4 : PySem.W.findIn K (.ref CEncoder) "_carry" = some (some (.ref f4))) (b4 : PySem.W.isFn K (.ref f4) = true) (l4 : K.lookup f4 = some ⟨oc4, od4, .func (PySem.W.fnOf "_carry" "Encoder._carry" (defArgs s_Encoder__carry) (defBody s_Encoder__carry) (defScope s_Encoder__carry) .none kV4 dc4 pm4 an4 cd4 ct4), sl4⟩) (c4 : PySem.W.codeIn K cd4 "Encoder._carry" = true) (k4 : PySem.W.keepIn K (.ref f4) = true) (a5 : PySem.W.findIn K (.ref CEncoder) "_narrow" = some (some (.ref f5))) (b5 : PySem.W.isFn K (.ref f5) = true) (l5 : K.lookup f5 = some ⟨oc5, od5, .func (PySem.W.fnOf "_narrow" "Encoder._narrow" (defArgs s_Encoder__narrow) (defBody s_Encoder__narrow) (defScope s_Encoder__narrow) .none kV5 dc5 pm5 an5 cd5 ct5), sl5⟩) (c5 : PySem.W.codeIn K cd5 "Encoder._narrow" = true) (k5 : PySem.W.keepIn K (.ref f5) = true) (a6 : PySem.W.findIn K (.ref CEncoder) "code" = some (some (.ref f6))) (b6 : PySem.W.isFn K (.ref f6) = true) (l6 : K.lookup f6 = some ⟨oc6, od6, .func (PySem.W.fnOf "code" "Encoder.code" (defArgs s_Encoder_code) (defBody s_Encoder_code) (defScope s_Encoder_code) .none kV6 dc6 pm6 an6 cd6 ct6), sl6⟩) (c6 : PySem.W.codeIn K cd6 "Encoder.code" = true) (k6 : PySem.W.keepIn K (.ref f6) = true) (a7 : PySem.W.findIn K (.ref CEncoder) "code_even" = some (some (.ref f7))) (b7 : PySem.W.isFn K (.ref f7) = true) (l7 : K.lookup f7 = some ⟨oc7, od7, .func (PySem.W.fnOf "code_even" "Encoder.code_even" (defArgs s_Encoder_code_even) (defBody s_Encoder_code_even) (defScope s_Encoder_code_even) .none kV7 dc7 pm7 an7 cd7 ct7), sl7⟩) (c7 : PySem.W.codeIn K cd7 "Encoder.code_even" = true) (k7 : PySem.W.keepIn K (.ref f7) = true) (a8 : PySem.W.findIn K (.ref CEncoder) "octets" = some (some (.ref f8))) (b8 : PySem.W.isFn K (.ref f8) = true) (l8 : K.lookup f8 = some ⟨oc8, od8, .func (PySem.W.fnOf "octets" "Encoder.octets" (defArgs s_Encoder_octets) (defBody s_Encoder_octets) (defScope s_Encoder_octets) .none kV8 dc8 pm8 an8 cd8 ct8), sl8⟩) (c8 : PySem.W.codeIn K cd8 "Encoder.octets" = true) (k8 : PySem.W.keepIn K (.ref f8) = true) (a9 : PySem.W.findIn K (.ref CEncoder) "probability" = some (some (.ref f9))) (b9 : PySem.W.isFn K (.ref f9) = true) (l9 : K.lookup f9 = some ⟨oc9, od9, .func (PySem.W.fnOf "probability" "Encoder.probability" (defArgs s_Encoder_probability) (defBody s_Encoder_probability) (defScope s_Encoder_probability) .none kV9 dc9 pm9 an9 cd9 ct9), sl9⟩) (c9 : PySem.W.codeIn K cd9 "Encoder.probability" = true) (k9 : PySem.W.keepIn K (.ref f9) = true) (a10 : PySem.W.findIn K (.ref CDecoder) "_shift" = some (some (.ref f10))) (b10 : PySem.W.isFn K (.ref f10) = true) (l10 : K.lookup f10 = some ⟨oc10, od10, .func (PySem.W.fnOf "_shift" "Decoder._shift" (defArgs s_Decoder__shift) (defBody s_Decoder__shift) (defScope s_Decoder__shift) .none kV10 dc10 pm10 an10 cd10 ct10), sl10⟩) (c10 : PySem.W.codeIn K cd10 "Decoder._shift" = true) (k10 : PySem.W.keepIn K (.ref f10) = true) (a11 : PySem.W.findIn K (.ref CDecoder) "_decide" = some (some (.ref f11))) (b11 : PySem.W.isFn K (.ref f11) = true) (l11 : K.lookup f11 = some ⟨oc11, od11, .func (PySem.W.fnOf "_decide" "Decoder._decide" (defArgs s_Decoder__decide) (defBody s_Decoder__decide) (defScope s_Decoder__decide) .none kV11 dc11 pm11 an11 cd11 ct11), sl11⟩) (c11 : PySem.W.codeIn K cd11 "Decoder._decide" = true) (k11 : PySem.W.keepIn K (.ref f11) = true) (a12 : PySem.W.findIn K (.ref CDecoder) "__init__" = some (some (.ref f12))) (b12 : PySem.W.isFn K (.ref f12) = true) (d12 : PySem.W.makesIn K CDecoder = true) (e12 : PySem.W.keepIn K (.ref CDecoder) = true) (l12 : K.lookup f12 = some ⟨oc12, od12, .func (PySem.W.fnOf "__init__" "Decoder.__init__" (defArgs s_Decoder___init__) (defBody s_Decoder___init__) (defScope s_Decoder___init__) .none kV12 dc12 pm12 an12 cd12 ct12), sl12⟩) (c12 : PySem.W.codeIn K cd12 "Decoder.__init__" = true) (k12 : PySem.W.keepIn K (.ref f12) = true) (a13 : PySem.W.findIn K (.ref CDecoder) "read" = some (some (.ref f13))) (b13 : PySem.W.isFn K (.ref f13) = true) (l13 : K.lookup f13 = some ⟨oc13, od13, .func (PySem.W.fnOf "read" "Decoder.read" (defArgs s_Decoder_read) (defBody s_Decoder_read) (defScope s_Decoder_read) .none kV13 dc13 pm13 an13 cd13 ct13), sl13⟩) (c13 : PySem.W.codeIn K cd13 "Decoder.read" = true) (k13 : PySem.W.keepIn K (.ref f13) = true) (a14 : PySem.W.findIn K (.ref CDecoder) "read_even" = some (some (.ref f14))) (b14 : PySem.W.isFn K (.ref f14) = true) (l14 : K.lookup f14 = some ⟨oc14, od14, .func (PySem.W.fnOf "read_even" "Decoder.read_even" (defArgs s_Decoder_read_even) (defBody s_Decoder_read_even) (defScope s_Decoder_read_even) .none kV14 dc14 pm14 an14 cd14 ct14), sl14⟩) (c14 : PySem.W.codeIn K cd14 "Decoder.read_even" = true) (k14 : PySem.W.keepIn K (.ref f14) = true) (a15 : PySem.W.findIn K (.ref CDecoder) "probability" = some (some (.ref f15))) (b15 : PySem.W.isFn K (.ref f15) = true) (l15 : K.lookup f15 = some ⟨oc15, od15, .func (PySem.W.fnOf "probability" "Decoder.probability" (defArgs s_Decoder_probability) (defBody s_Decoder_probability) (defScope s_Decoder_probability) .none kV15 dc15 pm15 an15 cd15 ct15), sl15⟩) (c15 : PySem.W.codeIn K cd15 "Decoder.probability" = true) (k15 : PySem.W.keepIn K (.ref f15) = true) (a16 : PySem.W.nsIn K mainGlobals "_law_cell" = some (some (.ref f16))) (l16 : K.lookup f16 = some ⟨oc16, od16, .func (PySem.W.fnOf "_law_cell" "_law_cell" (defArgs s__law_cell) (defBody s__law_cell) (defScope s__law_cell) .none kV16 dc16 pm16 an16 cd16 ct16), sl16⟩) (c16 : PySem.W.codeIn K cd16 "_law_cell" = true) (k16 : PySem.W.keepIn K (.ref f16) = true) (a17 : PySem.W.nsIn K mainGlobals "_law_draws" = some (some (.ref f17))) (l17 : K.lookup f17 = some ⟨oc17, od17, .func (PySem.W.fnOf "_law_draws" "_law_draws" (defArgs s__law_draws) (defBody s__law_draws) (defScope s__law_draws) .none kV17 dc17 pm17 an17 cd17 ct17), sl17⟩) (c17 : PySem.W.codeIn K cd17 "_law_draws" = true) (k17 : PySem.W.keepIn K (.ref f17) = true) (a18 : PySem.W.nsIn K mainGlobals "_law_items" = some (some (.ref f18))) (l18 : K.lookup f18 = some ⟨oc18, od18, .func (PySem.W.fnOf "_law_items" "_law_items" (defArgs s__law_items) (defBody s__law_items) (defScope s__law_items) .none kV18 dc18 pm18 an18 cd18 ct18), sl18⟩) (c18 : PySem.W.codeIn K cd18 "_law_items" = true) (k18 : PySem.W.keepIn K (.ref f18) = true) (a19 : PySem.W.nsIn K mainGlobals "_law_moved" = some (some (.ref f19))) (l19 : K.lookup f19 = some ⟨oc19, od19, .func (PySem.W.fnOf "_law_moved" "_law_moved" (defArgs s__law_moved) (defBody s__law_moved) (defScope s__law_moved) .none kV19 dc19 pm19 an19 cd19 ct19), sl19⟩) (c19 : PySem.W.codeIn K cd19 "_law_moved" = true) (k19 : PySem.W.keepIn K (.ref f19) = true) (a20 : PySem.W.nsIn K mainGlobals "_law_code_items" = some (some (.ref f20))) (l20 : K.lookup f20 = some ⟨oc20, od20, .func (PySem.W.fnOf "_law_code_items" "_law_code_items" (defArgs s__law_code_items) (defBody s__law_code_items) (defScope s__law_code_items) .none kV20 dc20 pm20 an20 cd20 ct20), sl20⟩) (c20 : PySem.W.codeIn K cd20 "_law_code_items" = true) (k20 : PySem.W.keepIn K (.ref f20) = true) (a21 : PySem.W.nsIn K mainGlobals "_law_read" = some (some (.ref f21))) (l21 : K.lookup f21 = some ⟨oc21, od21, .func (PySem.W.fnOf "_law_read" "_law_read" (defArgs s__law_read) (defBody s__law_read) (defScope s__law_read) .none kV21 dc21 pm21 an21 cd21 ct21), sl21⟩) (c21 : PySem.W.codeIn K cd21 "_law_read" = true) (k21 : PySem.W.keepIn K (.ref f21) = true) (a22 : PySem.W.nsIn K mainGlobals "law" = some (some (.ref f22))) (l22 : K.lookup f22 = some ⟨oc22, od22, .func (PySem.W.fnOf "law" "law" (defArgs s_law) (defBody s_law) (defScope s_law) .none kV22 dc22 pm22 an22 cd22 ct22), sl22⟩) (c22 : PySem.W.codeIn K cd22 "law" = true) (k22 : PySem.W.keepIn K (.ref f22) = true)
    (z0 : PySem.W.nsIn K mainGlobals "CONTEXTS" = some (some (.int 256 tk0))) (z1 : PySem.W.nsIn K mainGlobals "SCALE" = some (some (.int 4096 tk1))) (z2 : PySem.W.nsIn K mainGlobals "RATE" = some (some (.int 5 tk2))) (z3 : PySem.W.nsIn K mainGlobals "EVEN" = some (some (.int 2048 tk3))) (z4 : PySem.W.nsIn K mainGlobals "WORD" = some (some (.int 4294967296 tk4))) (z5 : PySem.W.nsIn K mainGlobals "len" = some none) (z6 : PySem.W.nsIn K mainGlobals "SCALE_BITS" = some (some (.int 12 tk6))) (z7 : PySem.W.nsIn K mainGlobals "LEAST_SPAN" = some (some (.int 16777216 tk7))) (z8 : PySem.W.nsIn K mainGlobals "list" = some none) (z9 : PySem.W.nsIn K mainGlobals "range" = some none) (z10 : PySem.W.nsIn K mainGlobals "min" = some none) (z11 : PySem.W.nsIn K mainGlobals "int" = some none) (z12 : PySem.W.nsIn K mainGlobals "abs" = some none) (z13 : PySem.W.nsIn K mainGlobals "isinstance" = some none) (z14 : PySem.W.nsIn K mainGlobals "bool" = some none) (yEncoder0 : PySem.W.plainGet K CEncoder Str.empty = true) (yEncoder1 : PySem.W.hasDictIn K CEncoder = true) (yEncoder2 : PySem.W.plainOver K CEncoder = true) (yEncoder3 : PySem.W.findIn K (.ref CEncoder) "__setattr__" = some (some (.builtin "object.__setattr__"))) (xEncoder0 : PySem.W.findIn K (.ref CEncoder) "_probabilities" = some none) (xEncoder1 : PySem.W.findIn K (.ref CEncoder) "_front" = some none) (xEncoder2 : PySem.W.findIn K (.ref CEncoder) "_low" = some none) (xEncoder3 : PySem.W.findIn K (.ref CEncoder) "_span" = some none) (yDecoder0 : PySem.W.plainGet K CDecoder Str.empty = true) (yDecoder1 : PySem.W.hasDictIn K CDecoder = true) (yDecoder2 : PySem.W.plainOver K CDecoder = true) (yDecoder3 : PySem.W.findIn K (.ref CDecoder) "__setattr__" = some (some (.builtin "object.__setattr__"))) (xDecoder0 : PySem.W.findIn K (.ref CDecoder) "_probabilities" = some none) (xDecoder1 : PySem.W.findIn K (.ref CDecoder) "_octets" = some none) (xDecoder2 : PySem.W.findIn K (.ref CDecoder) "_place" = some none) (xDecoder3 : PySem.W.findIn K (.ref CDecoder) "_span" = some none) (xDecoder4 : PySem.W.findIn K (.ref CDecoder) "_value" = some none) :
    ∃ fd : FuncData, (∀ (s : Shared) (v : Value), BindsTo s fd ⟨[v], []⟩ [("script", v)]) ∧ ∀ base : Heap, K.In base → base.Ns mainGlobals mg → FnOk l.prog w K mg base CX0 5 fa fd ["script"] (spL K) := by
  have e := hfa.symm.trans (PySem.W.mg_of X G a22)
  cases e
  have T : Txt K mg ⟨CEncoder, CDecoder⟩ := ⟨⟨_, PySem.W.mg_of X G z0, ⟨_, rfl⟩⟩, ⟨_, PySem.W.mg_of X G z1, ⟨_, rfl⟩⟩, ⟨_, PySem.W.mg_of X G z2, ⟨_, rfl⟩⟩, ⟨_, PySem.W.mg_of X G z3, ⟨_, rfl⟩⟩, ⟨_, PySem.W.mg_of X G z4, ⟨_, rfl⟩⟩, PySem.W.mg_none_of X G z5, ⟨_, PySem.W.mg_of X G z6, ⟨_, rfl⟩⟩, ⟨_, PySem.W.mg_of X G z7, ⟨_, rfl⟩⟩, PySem.W.mg_none_of X G z8, PySem.W.mg_none_of X G z9, PySem.W.mg_none_of X G z10, PySem.W.mg_none_of X G z11, PySem.W.mg_none_of X G z12, PySem.W.mg_none_of X G z13, PySem.W.mg_none_of X G z14, ⟨yEncoder0, yEncoder1, yEncoder2, yEncoder3⟩, xEncoder0, xEncoder1, xEncoder2, xEncoder3, ⟨yDecoder0, yDecoder1, yDecoder2, yDecoder3⟩, xDecoder0, xDecoder1, xDecoder2, xDecoder3, xDecoder4⟩
  have F0 := fun_mk (st := s__check_context) l0 c0 k0
  have bd0 := F0.binds (ps := ["context"]) fun _ _ _ _ _ _ us hl => match us, hl with | [_], _ => rfl
  have D0 : DefIn K mg "_check_context" s__check_context ["context"] := ⟨_, _, F0, PySem.W.mg_of X G a0, bd0⟩
  have F1 := fun_mk (st := s__check_decision) l1 c1 k1
  have bd1 := F1.binds (ps := ["decision"]) fun _ _ _ _ _ _ us hl => match us, hl with | [_], _ => rfl
  have D1 : DefIn K mg "_check_decision" s__check_decision ["decision"] := ⟨_, _, F1, PySem.W.mg_of X G a1, bd1⟩
  have F2 := fun_mk (st := s__adapted) l2 c2 k2
  have bd2 := F2.binds (ps := ["chance", "decision"]) fun _ _ _ _ _ _ us hl => match us, hl with | [_, _], _ => rfl
  have D2 : DefIn K mg "_adapted" s__adapted ["chance", "decision"] := ⟨_, _, F2, PySem.W.mg_of X G a2, bd2⟩
  have F3 := fun_mk (st := s_Encoder___init__) l3 c3 k3
  have bd3 := F3.binds (ps := ["self"]) fun _ _ _ _ _ _ us hl => match us, hl with | [_], _ => rfl
  have D3 : InitIn K mg CEncoder "Encoder" "Encoder.__init__" s_Encoder___init__ ["self"] := ⟨_, _, F3, ⟨d3, a3, b3, e3⟩, PySem.W.mg_of X G wEncoder, bd3⟩
  have F4 := fun_mk (st := s_Encoder__carry) l4 c4 k4
  have bd4 := F4.binds (ps := ["self"]) fun _ _ _ _ _ _ us hl => match us, hl with | [_], _ => rfl
  have D4 : MethIn K CEncoder "Encoder._carry" "_carry" s_Encoder__carry ["self"] := ⟨_, _, F4, ⟨a4, b4, k4⟩, bd4⟩
  have F5 := fun_mk (st := s_Encoder__narrow) l5 c5 k5
  have bd5 := F5.binds (ps := ["self", "chance", "decision"]) fun _ _ _ _ _ _ us hl => match us, hl with | [_, _, _], _ => rfl
  have D5 : MethIn K CEncoder "Encoder._narrow" "_narrow" s_Encoder__narrow ["self", "chance", "decision"] := ⟨_, _, F5, ⟨a5, b5, k5⟩, bd5⟩
  have F6 := fun_mk (st := s_Encoder_code) l6 c6 k6
  have bd6 := F6.binds (ps := ["self", "context", "decision"]) fun _ _ _ _ _ _ us hl => match us, hl with | [_, _, _], _ => rfl
  have D6 : MethIn K CEncoder "Encoder.code" "code" s_Encoder_code ["self", "context", "decision"] := ⟨_, _, F6, ⟨a6, b6, k6⟩, bd6⟩
  have F7 := fun_mk (st := s_Encoder_code_even) l7 c7 k7
  have bd7 := F7.binds (ps := ["self", "decision"]) fun _ _ _ _ _ _ us hl => match us, hl with | [_, _], _ => rfl
  have D7 : MethIn K CEncoder "Encoder.code_even" "code_even" s_Encoder_code_even ["self", "decision"] := ⟨_, _, F7, ⟨a7, b7, k7⟩, bd7⟩
  have F8 := fun_mk (st := s_Encoder_octets) l8 c8 k8
  have bd8 := F8.binds (ps := ["self"]) fun _ _ _ _ _ _ us hl => match us, hl with | [_], _ => rfl
  have D8 : MethIn K CEncoder "Encoder.octets" "octets" s_Encoder_octets ["self"] := ⟨_, _, F8, ⟨a8, b8, k8⟩, bd8⟩
  have F9 := fun_mk (st := s_Encoder_probability) l9 c9 k9
  have bd9 := F9.binds (ps := ["self", "context"]) fun _ _ _ _ _ _ us hl => match us, hl with | [_, _], _ => rfl
  have D9 : MethIn K CEncoder "Encoder.probability" "probability" s_Encoder_probability ["self", "context"] := ⟨_, _, F9, ⟨a9, b9, k9⟩, bd9⟩
  have F10 := fun_mk (st := s_Decoder__shift) l10 c10 k10
  have bd10 := F10.binds (ps := ["self"]) fun _ _ _ _ _ _ us hl => match us, hl with | [_], _ => rfl
  have D10 : MethIn K CDecoder "Decoder._shift" "_shift" s_Decoder__shift ["self"] := ⟨_, _, F10, ⟨a10, b10, k10⟩, bd10⟩
  have F11 := fun_mk (st := s_Decoder__decide) l11 c11 k11
  have bd11 := F11.binds (ps := ["self", "chance"]) fun _ _ _ _ _ _ us hl => match us, hl with | [_, _], _ => rfl
  have D11 : MethIn K CDecoder "Decoder._decide" "_decide" s_Decoder__decide ["self", "chance"] := ⟨_, _, F11, ⟨a11, b11, k11⟩, bd11⟩
  have F12 := fun_mk (st := s_Decoder___init__) l12 c12 k12
  have bd12 := F12.binds (ps := ["self", "octets"]) fun _ _ _ _ _ _ us hl => match us, hl with | [_, _], _ => rfl
  have D12 : InitIn K mg CDecoder "Decoder" "Decoder.__init__" s_Decoder___init__ ["self", "octets"] := ⟨_, _, F12, ⟨d12, a12, b12, e12⟩, PySem.W.mg_of X G wDecoder, bd12⟩
  have F13 := fun_mk (st := s_Decoder_read) l13 c13 k13
  have bd13 := F13.binds (ps := ["self", "context"]) fun _ _ _ _ _ _ us hl => match us, hl with | [_, _], _ => rfl
  have D13 : MethIn K CDecoder "Decoder.read" "read" s_Decoder_read ["self", "context"] := ⟨_, _, F13, ⟨a13, b13, k13⟩, bd13⟩
  have F14 := fun_mk (st := s_Decoder_read_even) l14 c14 k14
  have bd14 := F14.binds (ps := ["self"]) fun _ _ _ _ _ _ us hl => match us, hl with | [_], _ => rfl
  have D14 : MethIn K CDecoder "Decoder.read_even" "read_even" s_Decoder_read_even ["self"] := ⟨_, _, F14, ⟨a14, b14, k14⟩, bd14⟩
  have F15 := fun_mk (st := s_Decoder_probability) l15 c15 k15
  have bd15 := F15.binds (ps := ["self", "context"]) fun _ _ _ _ _ _ us hl => match us, hl with | [_, _], _ => rfl
  have D15 : MethIn K CDecoder "Decoder.probability" "probability" s_Decoder_probability ["self", "context"] := ⟨_, _, F15, ⟨a15, b15, k15⟩, bd15⟩
  have F16 := fun_mk (st := s__law_cell) l16 c16 k16
  have bd16 := F16.binds (ps := ["script", "k"]) fun _ _ _ _ _ _ us hl => match us, hl with | [_, _], _ => rfl
  have D16 : DefIn K mg "_law_cell" s__law_cell ["script", "k"] := ⟨_, _, F16, PySem.W.mg_of X G a16, bd16⟩
  have F17 := fun_mk (st := s__law_draws) l17 c17 k17
  have bd17 := F17.binds (ps := ["cell", "limits"]) fun _ _ _ _ _ _ us hl => match us, hl with | [_, _], _ => rfl
  have D17 : DefIn K mg "_law_draws" s__law_draws ["cell", "limits"] := ⟨_, _, F17, PySem.W.mg_of X G a17, bd17⟩
  have F18 := fun_mk (st := s__law_items) l18 c18 k18
  have bd18 := F18.binds (ps := ["script", "most"]) fun _ _ _ _ _ _ us hl => match us, hl with | [_, _], _ => rfl
  have D18 : DefIn K mg "_law_items" s__law_items ["script", "most"] := ⟨_, _, F18, PySem.W.mg_of X G a18, bd18⟩
  have F19 := fun_mk (st := s__law_moved) l19 c19 k19
  have bd19 := F19.binds (ps := ["p", "decision"]) fun _ _ _ _ _ _ us hl => match us, hl with | [_, _], _ => rfl
  have D19 : DefIn K mg "_law_moved" s__law_moved ["p", "decision"] := ⟨_, _, F19, PySem.W.mg_of X G a19, bd19⟩
  have F20 := fun_mk (st := s__law_code_items) l20 c20 k20
  have bd20 := F20.binds (ps := ["encoder", "items"]) fun _ _ _ _ _ _ us hl => match us, hl with | [_, _], _ => rfl
  have D20 : DefIn K mg "_law_code_items" s__law_code_items ["encoder", "items"] := ⟨_, _, F20, PySem.W.mg_of X G a20, bd20⟩
  have F21 := fun_mk (st := s__law_read) l21 c21 k21
  have bd21 := F21.binds (ps := ["decoder", "item"]) fun _ _ _ _ _ _ us hl => match us, hl with | [_, _], _ => rfl
  have D21 : DefIn K mg "_law_read" s__law_read ["decoder", "item"] := ⟨_, _, F21, PySem.W.mg_of X G a21, bd21⟩
  have F22 := fun_mk (st := s_law) l22 c22 k22
  have bd22 := F22.binds (ps := ["script"]) fun _ _ _ _ _ _ us hl => match us, hl with | [_], _ => rfl
  have D22 : DefIn K mg "law" s_law ["script"] := ⟨_, _, F22, PySem.W.mg_of X G a22, bd22⟩
  have R__check_context : ∀ base : Heap, Cal l.prog w K mg base 1 "_check_context" (sp__check_context K ⟨CEncoder, CDecoder⟩) := fun base => ok__check_context D0 T 
  have R__check_decision : ∀ base : Heap, Cal l.prog w K mg base 1 "_check_decision" (sp__check_decision K ⟨CEncoder, CDecoder⟩) := fun base => ok__check_decision D1 T 
  have R__adapted : ∀ base : Heap, Cal l.prog w K mg base 1 "_adapted" (sp__adapted K ⟨CEncoder, CDecoder⟩) := fun base => ok__adapted D2 T 
  have R_Encoder___init__ : ∀ base : Heap, MakC l.prog w K mg base 1 "Encoder" (⟨CEncoder, CDecoder⟩ : Ads).c_Encoder (sp_Encoder___init__ K ⟨CEncoder, CDecoder⟩) := fun base => ok_Encoder___init__ D3 T 
  have R_Encoder__carry : ∀ base : Heap, MetC l.prog w K mg base 1 (⟨CEncoder, CDecoder⟩ : Ads).c_Encoder "_carry" (sp_Encoder__carry K ⟨CEncoder, CDecoder⟩) := fun base => ok_Encoder__carry D4 T 
  have R_Encoder__narrow : ∀ base : Heap, MetC l.prog w K mg base 2 (⟨CEncoder, CDecoder⟩ : Ads).c_Encoder "_narrow" (sp_Encoder__narrow K ⟨CEncoder, CDecoder⟩) := fun base => ok_Encoder__narrow D5 T (R_Encoder__carry base)
  have R_Encoder_code : ∀ base : Heap, MetC l.prog w K mg base 3 (⟨CEncoder, CDecoder⟩ : Ads).c_Encoder "code" (sp_Encoder_code K ⟨CEncoder, CDecoder⟩) := fun base => ok_Encoder_code D6 T (R__check_context base) (R__check_decision base) (R_Encoder__narrow base) (R__adapted base)
  have R_Encoder_code_even : ∀ base : Heap, MetC l.prog w K mg base 3 (⟨CEncoder, CDecoder⟩ : Ads).c_Encoder "code_even" (sp_Encoder_code_even K ⟨CEncoder, CDecoder⟩) := fun base => ok_Encoder_code_even D7 T (R__check_decision base) (R_Encoder__narrow base)
  have R_Encoder_octets : ∀ base : Heap, MetC l.prog w K mg base 1 (⟨CEncoder, CDecoder⟩ : Ads).c_Encoder "octets" (sp_Encoder_octets K ⟨CEncoder, CDecoder⟩) := fun base => ok_Encoder_octets D8 T 
  have R_Encoder_probability : ∀ base : Heap, MetC l.prog w K mg base 2 (⟨CEncoder, CDecoder⟩ : Ads).c_Encoder "probability" (sp_Encoder_probability K ⟨CEncoder, CDecoder⟩) := fun base => ok_Encoder_probability D9 T (R__check_context base)
  have R_Decoder__shift : ∀ base : Heap, MetC l.prog w K mg base 1 (⟨CEncoder, CDecoder⟩ : Ads).c_Decoder "_shift" (sp_Decoder__shift K ⟨CEncoder, CDecoder⟩) := fun base => ok_Decoder__shift D10 T 
  have R_Decoder__decide : ∀ base : Heap, MetC l.prog w K mg base 2 (⟨CEncoder, CDecoder⟩ : Ads).c_Decoder "_decide" (sp_Decoder__decide K ⟨CEncoder, CDecoder⟩) := fun base => ok_Decoder__decide D11 T (R_Decoder__shift base)
  have R_Decoder___init__ : ∀ base : Heap, MakC l.prog w K mg base 2 "Decoder" (⟨CEncoder, CDecoder⟩ : Ads).c_Decoder (sp_Decoder___init__ K ⟨CEncoder, CDecoder⟩) := fun base => ok_Decoder___init__ D12 T (R_Decoder__shift base)
  have R_Decoder_read : ∀ base : Heap, MetC l.prog w K mg base 3 (⟨CEncoder, CDecoder⟩ : Ads).c_Decoder "read" (sp_Decoder_read K ⟨CEncoder, CDecoder⟩) := fun base => ok_Decoder_read D13 T (R__check_context base) (R_Decoder__decide base) (R__adapted base)
  have R_Decoder_read_even : ∀ base : Heap, MetC l.prog w K mg base 3 (⟨CEncoder, CDecoder⟩ : Ads).c_Decoder "read_even" (sp_Decoder_read_even K ⟨CEncoder, CDecoder⟩) := fun base => ok_Decoder_read_even D14 T (R_Decoder__decide base)
  have R_Decoder_probability : ∀ base : Heap, MetC l.prog w K mg base 2 (⟨CEncoder, CDecoder⟩ : Ads).c_Decoder "probability" (sp_Decoder_probability K ⟨CEncoder, CDecoder⟩) := fun base => ok_Decoder_probability D15 T (R__check_context base)
  have R__law_cell : ∀ base : Heap, Cal l.prog w K mg base 1 "_law_cell" (sp__law_cell K ⟨CEncoder, CDecoder⟩) := fun base => ok__law_cell D16 T 
  have R__law_draws : ∀ base : Heap, Cal l.prog w K mg base 1 "_law_draws" (sp__law_draws K ⟨CEncoder, CDecoder⟩) := fun base => ok__law_draws D17 T 
  have R__law_items : ∀ base : Heap, Cal l.prog w K mg base 2 "_law_items" (sp__law_items K ⟨CEncoder, CDecoder⟩) := fun base => ok__law_items D18 T (R__law_draws base)
  have R__law_moved : ∀ base : Heap, Cal l.prog w K mg base 1 "_law_moved" (sp__law_moved K ⟨CEncoder, CDecoder⟩) := fun base => ok__law_moved D19 T 
  have R__law_code_items : ∀ base : Heap, Cal l.prog w K mg base 4 "_law_code_items" (sp__law_code_items K ⟨CEncoder, CDecoder⟩) := fun base => ok__law_code_items D20 T (R_Encoder_code base) (R_Encoder_code_even base)
  have R__law_read : ∀ base : Heap, Cal l.prog w K mg base 4 "_law_read" (sp__law_read K ⟨CEncoder, CDecoder⟩) := fun base => ok__law_read D21 T (R_Decoder_read base) (R_Decoder_read_even base)

  exact ⟨PySem.W.fnOf "law" "law" (defArgs s_law) (defBody s_law) (defScope s_law) .none kV22 dc22 pm22 an22 cd22 ct22, fun s v => .of_eq rfl, fun base _ _ => ok_law (AD := ⟨CEncoder, CDecoder⟩) F22 T (R__law_items base) (R__law_cell base) (R_Encoder___init__ base) (R__law_code_items base) (R_Encoder_octets base) (R_Decoder___init__ base) (R_Decoder_probability base) (R__law_read base) (R__law_moved base) (R_Encoder_probability base)⟩
theorem walk {l : PySem.W.OpenLaw} {q : Program} {loose : List Str} {XP : (Str → Option Value) → Heap → Prop} {YP : World → Heap → Prop} {d : DefRec} {K : Params → PySem.W.Frag} (hn : l.most = some 63) (hdf : d.params.defaults = [])
    (hY : ∀ (w : World) (h : Heap), YP w h → (K w.params).In h)
    (F : ∀ (w : World) (mg : Str → Option Value) (fa : Addr) (h : Heap), (K w.params).In h → h.Ns mainGlobals mg → mg d.name = some (.ref fa) →
      ∃ fd : FuncData, (∀ (s : Shared) (u : Value), BindsTo s fd ⟨[u], []⟩ [("script", u)]) ∧ ∀ base : Heap, (K w.params).In base → base.Ns mainGlobals mg → FnOk l.prog w (K w.params) mg base CX0 5 fa fd ["script"] (spL (K w.params))) :
    PySem.W.WalkO q loose XP YP l.row.toRowW d [] (fun f vs => PySem.call f vs) :=
  L2.walk_of (n := 63) (k := 5) (x := "script") (CX := fun _ => CX0) (sp := fun w => spL (K w.params)) hn (by decide) hdf ⟨rfl, by decide, by decide⟩ hY F (fun _ _ a ns hl _ hS => ⟨a, ns, rfl, hS, hl, fun _ => rfl⟩) fun _ _ _ _ _ z => z
end Vx
open PySem PySem.W PyProof.Rows
set_option maxRecDepth 100000 in
set_option maxHeartbeats 0 in
theorem PySem.Challenge.cw_thaumatrope_k13_whole_decisions_read_bac_holds : PySem.Challenge.rw_thaumatrope_k13_whole_decisions_read_bac.Holds := by
  w_on; o_law; k_head; (case hw => w_witness2)
  k_fill
  refine Vx.walk (l := PySem.Challenge.rw_thaumatrope_k13_whole_decisions_read_bac) rfl rfl (fun w h Y => PySem.W.kIn_of Y) ?F
  case F =>
    intro w mg fa h KX G hmg
    refine' Vx.all_mk KX G hmg ?wEncoder ?wDecoder ?a0 ?l0 ?c0 ?k0 ?a1 ?l1 ?c1 ?k1 ?a2 ?l2 ?c2 ?k2 ?a3 ?b3 ?d3 ?e3 ?l3 ?c3 ?k3 ?a4 ?b4 ?l4 ?c4 ?k4 ?a5 ?b5 ?l5 ?c5 ?k5 ?a6 ?b6 ?l6 ?c6 ?k6 ?a7 ?b7 ?l7 ?c7 ?k7 ?a8 ?b8 ?l8 ?c8 ?k8 ?a9 ?b9 ?l9 ?c9 ?k9 ?a10 ?b10 ?l10 ?c10 ?k10 ?a11 ?b11 ?l11 ?c11 ?k11 ?a12 ?b12 ?d12 ?e12 ?l12 ?c12 ?k12 ?a13 ?b13 ?l13 ?c13 ?k13 ?a14 ?b14 ?l14 ?c14 ?k14 ?a15 ?b15 ?l15 ?c15 ?k15 ?a16 ?l16 ?c16 ?k16 ?a17 ?l17 ?c17 ?k17 ?a18 ?l18 ?c18 ?k18 ?a19 ?l19 ?c19 ?k19 ?a20 ?l20 ?c20 ?k20 ?a21 ?l21 ?c21 ?k21 ?a22 ?l22 ?c22 ?k22 ?z0 ?z1 ?z2 ?z3 ?z4 ?z5 ?z6 ?z7 ?z8 ?z9 ?z10 ?z11 ?z12 ?z13 ?z14 ?yEncoder0 ?yEncoder1 ?yEncoder2 ?yEncoder3 ?xEncoder0 ?xEncoder1 ?xEncoder2 ?xEncoder3 ?yDecoder0 ?yDecoder1 ?yDecoder2 ?yDecoder3 ?xDecoder0 ?xDecoder1 ?xDecoder2 ?xDecoder3 ?xDecoder4
    (case wEncoder => k_is)
    (case wDecoder => k_is)
    (case a0 => k_is)
    (case l0 => k_is)
    (case c0 => k_is)
    (case k0 => k_is)
    (case a1 => k_is)
    (case l1 => k_is)
    (case c1 => k_is)
    (case k1 => k_is)
    (case a2 => k_is)
    (case l2 => k_is)
    (case c2 => k_is)
    (case k2 => k_is)
    (case a3 => k_is)
    (case b3 => k_is)
    (case d3 => k_is)
    (case e3 => k_is)
    (case l3 => k_is)
    (case c3 => k_is)
    (case k3 => k_is)
    (case a4 => k_is)
    (case b4 => k_is)
    (case l4 => k_is)
    (case c4 => k_is)
    (case k4 => k_is)
    (case a5 => k_is)
    (case b5 => k_is)
    (case l5 => k_is)
    (case c5 => k_is)
    (case k5 => k_is)
    (case a6 => k_is)
    (case b6 => k_is)
    (case l6 => k_is)
    (case c6 => k_is)
    (case k6 => k_is)
    (case a7 => k_is)
    (case b7 => k_is)
    (case l7 => k_is)
    (case c7 => k_is)
    (case k7 => k_is)
    (case a8 => k_is)
    (case b8 => k_is)
    (case l8 => k_is)
    (case c8 => k_is)
    (case k8 => k_is)
    (case a9 => k_is)
    (case b9 => k_is)
    (case l9 => k_is)
    (case c9 => k_is)
    (case k9 => k_is)
    (case a10 => k_is)
    (case b10 => k_is)
    (case l10 => k_is)
    (case c10 => k_is)
    (case k10 => k_is)
    (case a11 => k_is)
    (case b11 => k_is)
    (case l11 => k_is)
    (case c11 => k_is)
    (case k11 => k_is)
    (case a12 => k_is)
    (case b12 => k_is)
    (case d12 => k_is)
    (case e12 => k_is)
    (case l12 => k_is)
    (case c12 => k_is)
    (case k12 => k_is)
    (case a13 => k_is)
    (case b13 => k_is)
    (case l13 => k_is)
    (case c13 => k_is)
    (case k13 => k_is)
    (case a14 => k_is)
    (case b14 => k_is)
    (case l14 => k_is)
    (case c14 => k_is)
    (case k14 => k_is)
    (case a15 => k_is)
    (case b15 => k_is)
    (case l15 => k_is)
    (case c15 => k_is)
    (case k15 => k_is)
    (case a16 => k_is)
    (case l16 => k_is)
    (case c16 => k_is)
    (case k16 => k_is)
    (case a17 => k_is)
    (case l17 => k_is)
    (case c17 => k_is)
    (case k17 => k_is)
    (case a18 => k_is)
    (case l18 => k_is)
    (case c18 => k_is)
    (case k18 => k_is)
    (case a19 => k_is)
    (case l19 => k_is)
    (case c19 => k_is)
    (case k19 => k_is)
    (case a20 => k_is)
    (case l20 => k_is)
    (case c20 => k_is)
    (case k20 => k_is)
    (case a21 => k_is)
    (case l21 => k_is)
    (case c21 => k_is)
    (case k21 => k_is)
    (case a22 => k_is)
    (case l22 => k_is)
    (case c22 => k_is)
    (case k22 => k_is)
    (case z0 => k_is)
    (case z1 => k_is)
    (case z2 => k_is)
    (case z3 => k_is)
    (case z4 => k_is)
    (case z5 => k_is)
    (case z6 => k_is)
    (case z7 => k_is)
    (case z8 => k_is)
    (case z9 => k_is)
    (case z10 => k_is)
    (case z11 => k_is)
    (case z12 => k_is)
    (case z13 => k_is)
    (case z14 => k_is)
    (case yEncoder0 => k_is)
    (case yEncoder1 => k_is)
    (case yEncoder2 => k_is)
    (case yEncoder3 => k_is)
    (case xEncoder0 => k_is)
    (case xEncoder1 => k_is)
    (case xEncoder2 => k_is)
    (case xEncoder3 => k_is)
    (case yDecoder0 => k_is)
    (case yDecoder1 => k_is)
    (case yDecoder2 => k_is)
    (case yDecoder3 => k_is)
    (case xDecoder0 => k_is)
    (case xDecoder1 => k_is)
    (case xDecoder2 => k_is)
    (case xDecoder3 => k_is)
    (case xDecoder4 => k_is)
