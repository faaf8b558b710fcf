import PyProof.Rows.All
import Wide.All
import OpenK.AllK
import Wide.FinOn
import HandS.ForMost
import HandS.Codes
import HandS.Steps
import HandS.IsInst
import HandS.Property
import HandS.Wide
import HandS.WideBits
import PySem.Challenge.RW_thaumatrope_k08_octets_escaped
set_option Elab.async false
set_option linter.all false
set_option maxRecDepth 100000
set_option maxHeartbeats 8000000
namespace Vx
open PySem PySem.Spec PyProof.Rows L2

/-! ### heaps -/
def SameX (m : Addr) (H H' : Hp) : Prop := ∀ b o, H b = some o → b ≠ m → H' b = some o
theorem gen_new {H H' : Hp} {p : Addr} {o : HO} (n : H p = none) (h : upd H p o = H') : Same H H' ∧ H' p = some o := by
  subst h
  exact ⟨fun b u e => by rw [upd_ne (ne_of_none e n)]; exact e, upd_same⟩
theorem gen_mut {H H' : Hp} {m : Addr} {o : HO} (h : upd H m o = H') : SameX m H H' ∧ H' m = some o := by
  subst h
  exact ⟨fun b u e n => by rw [upd_ne n]; exact e, upd_same⟩
theorem same_mut {H0 H H' : Hp} {m : Addr} (B : Same H0 H) (x : SameX m H H') (f : H0 m = none) : Same H0 H' :=
  fun b o e => x b o (B b o e) (ne_of_none e f)
theorem map_get {xs : List Int} {i : Nat} {x : V} (h : (xs.map V.int)[i]? = some x) : ∃ o, xs[i]? = some o ∧ x = .int o := by
  rw [List.getElem?_map] at h
  cases e : xs[i]? with
  | none => rw [e] at h; cases h
  | some z => rw [e] at h; exact ⟨z, rfl, (Option.some.inj h).symm⟩
theorem get_len {α : Type} {xs : List α} {i : Nat} {x : α} (h : xs[i]? = some x) : i < xs.length := (List.getElem?_eq_some_iff.mp h).1
theorem eq_int {Q : VK} {H : Hp} {a b : Int} (h : Q (.int a) H) (e : a = b) : Q (.int b) H := e ▸ h
theorem eq_bl {Q : VK} {H : Hp} {a b : Bool} (h : Q (.bl a) H) (e : a = b) : Q (.bl b) H := e ▸ h
theorem small {n : Nat} (h : n ≤ 1000000) : n < sizeLine := Nat.lt_of_le_of_lt h (by decide)
theorem smallE {n : Nat} (h : n ≤ 1000000) : n ≤ sizeLine := Nat.le_of_lt (small h)
theorem snoc_int {xs : List Int} {y : Int} {H : Hp} {p : Addr} (h : H p = some (.lst (xs.map V.int ++ [V.int y]))) : H p = some (.lst ((xs ++ [y]).map V.int)) := by
  rw [List.map_append]; exact h
theorem cat_int {xs ys : List Int} {H : Hp} {p : Addr} (h : H p = some (.lst (xs.map V.int ++ ys.map V.int))) : H p = some (.lst ((xs ++ ys).map V.int)) := by
  rw [List.map_append]; exact h
theorem cast_lst {xs ys : List Int} {H : Hp} {p : Addr} (h : H p = some (.lst (xs.map V.int))) (e : xs = ys) : H p = some (.lst (ys.map V.int)) := e ▸ h

/-! ### tests -/
theorem dT {p : Prop} [Decidable p] (h : decide p = true) : p := of_decide_eq_true h
theorem dF {p : Prop} [Decidable p] (h : ¬ decide p = true) : ¬ p := fun x => h (decide_eq_true x)
theorem iteD {p A B : Prop} [Decidable p] (h1 : p → A) (h2 : ¬ p → B) : if decide p = true then A else B := by
  by_cases h : p
  · rw [if_pos (decide_eq_true h)]; exact h1 h
  · rw [if_neg (fun x => h (of_decide_eq_true x))]; exact h2 h
theorem iteN {p A B : Prop} [Decidable p] (h1 : ¬ p → A) (h2 : p → B) : if (!decide p) = true then A else B := by
  by_cases h : p
  · rw [decide_eq_true h]; exact iteF (h2 h)
  · rw [decide_eq_false h]; exact iteT (h1 h)
theorem iteB {b : Bool} {A B : Prop} (h1 : b = true → A) (h2 : b = false → B) : if b = true then A else B := by
  cases b with
  | true => exact iteT (h1 rfl)
  | false => exact iteF (h2 rfl)
theorem iteBN {b : Bool} {A B : Prop} (h1 : b = false → A) (h2 : b = true → B) : if (!b) = true then A else B := by
  cases b with
  | true => exact iteF (h2 rfl)
  | false => exact iteT (h1 rfl)
theorem iteDT {p A B : Prop} [Decidable p] (h : p) (k : A) : if decide p = true then A else B := by
  rw [if_pos (decide_eq_true h)]; exact k
theorem iteDF {p A B : Prop} [Decidable p] (h : ¬ p) (k : B) : if decide p = true then A else B := by
  rw [if_neg (fun x => h (of_decide_eq_true x))]; exact k
theorem iteNT {p A B : Prop} [Decidable p] (h : ¬ p) (k : A) : if (!decide p) = true then A else B := iteN (fun _ => k) (fun x => (h x).elim)
theorem iteNF {p A B : Prop} [Decidable p] (h : p) (k : B) : if (!decide p) = true then A else B := iteN (fun x => (x h).elim) (fun _ => k)

/-! ### equality of lists of ints -/
theorem eqvAll_ints : ∀ xs ys : List Int, PyData.eqvAll (xs.map PyData.int) (ys.map PyData.int) = decide (xs = ys)
  | [], [] => by simp [PyData.eqvAll]
  | [], y :: ys => by simp [PyData.eqvAll]
  | x :: xs, [] => by simp [PyData.eqvAll]
  | x :: xs, y :: ys => by
    have ih := eqvAll_ints xs ys
    simp only [List.map_cons, PyData.eqvAll, PyData.eqv, ih]
    by_cases h : x = y <;> by_cases h2 : xs = ys <;> simp [h, h2]
end Vx

namespace Vx
open PySem PySem.Spec PyProof.Rows L2
section
variable {X : Cx}
def rEqLi (K : PySem.W.Frag) : R2 := fun x y H Q => ∃ (a b : Addr) (xs ys : List Int), x = .ref a ∧ y = .ref b ∧ SqL K H a (xs.map V.int) ∧ SqL K H b (ys.map V.int) ∧ Q (.bl (decide (xs = ys))) H
def rNeLi (K : PySem.W.Frag) : R2 := fun x y H Q => ∃ (a b : Addr) (xs ys : List Int), x = .ref a ∧ y = .ref b ∧ SqL K H a (xs.map V.int) ∧ SqL K H b (ys.map V.int) ∧ Q (.bl (!decide (xs = ys))) H
theorem dpAll_ints {K : PySem.W.Frag} {H : Hp} : ∀ xs : List Int, DpAll K H (xs.map V.int) (xs.map PyData.int)
  | [] => .nil
  | x :: xs => .cons (.int x) (dpAll_ints xs)
theorem dp_ints {K : PySem.W.Frag} {H : Hp} {a : Addr} {xs : List Int} (h : SqL K H a (xs.map V.int)) : Dp K H (.ref a) (.list (xs.map PyData.int)) := .lst h (dpAll_ints xs)
theorem canLay_ints : ∀ xs : List Int, PyData.canLayAll0 (xs.map PyData.int) = true
  | [] => by simp [PyData.canLayAll0]
  | x :: xs => by simp [PyData.canLayAll0, PyData.canLay0, canLay_ints xs]
theorem depth_ints : ∀ xs : List Int, PyData.depthAll (xs.map PyData.int) = 0
  | [] => by simp [PyData.depthAll]
  | x :: xs => by simp [PyData.depthAll, PyData.depth, depth_ints xs]
theorem shaped_ints (xs : List Int) : SeqAt.shaped (.list (xs.map PyData.int)) = true := by
  unfold SeqAt.shaped
  simp [PyData.canLay0, canLay_ints, PyData.depth, depth_ints]
theorem eqv_ints (xs ys : List Int) : PyData.eqv (.list (xs.map PyData.int)) (.list (ys.map PyData.int)) = decide (xs = ys) := by
  simp only [PyData.eqv]
  exact eqvAll_ints xs ys
theorem op_eqLi (hu : X.A.units + 64 < cLine) : OpR X (compareOp .Eq) (rEqLi X.K) := by
  intro pins s σ H x y v u Q I rx ry h
  obtain ⟨a, b, xs, ys, rfl, rfl, h1, h2, q⟩ := h
  exact op_eqD hu pins s σ H _ _ v u Q I rx ry ⟨_, _, dp_ints h1, dp_ints h2, shaped_ints xs, shaped_ints ys, by rw [eqv_ints]; exact q⟩
theorem op_neLi (hu : X.A.units + 64 < cLine) : OpR X (compareOp .NotEq) (rNeLi X.K) := by
  intro pins s σ H x y v u Q I rx ry h
  obtain ⟨a, b, xs, ys, rfl, rfl, h1, h2, q⟩ := h
  exact op_neD hu pins s σ H _ _ v u Q I rx ry ⟨_, _, dp_ints h1, dp_ints h2, shaped_ints xs, shaped_ints ys, by rw [eqv_ints]; exact q⟩

/-! ### items, slices, repetition, comprehensions of ints -/
def itI (xs : List Int) (i : Int) : Int := (atI xs i).getD 0
theorem atI_int {xs : List Int} {i : Int} (h : -(xs.length : Int) ≤ i ∧ i < xs.length) : atI (xs.map V.int) i = some (.int (itI xs i)) := by
  unfold itI atI
  rw [List.length_map]
  have hk : ∃ j, ixN xs.length i = some j ∧ j < xs.length := by
    unfold ixN
    by_cases h0 : 0 ≤ i
    · refine ⟨i.toNat, ?_, by omega⟩
      rw [if_pos h0, if_pos h.2]
    · refine ⟨(i + xs.length).toNat, ?_, by omega⟩
      rw [if_neg h0, if_pos h.1]
  obtain ⟨j, e, hj⟩ := hk
  rw [e]
  show (xs.map V.int)[j]? = some (V.int ((xs[j]?).getD 0))
  rw [List.getElem?_map, List.getElem?_eq_getElem hj] <;> rfl
def cutI (xs : List Int) (lo hi : Option Int) : List Int := (xs.drop (HT.sIx xs.length 0 lo)).take (HT.sIx xs.length xs.length hi - HT.sIx xs.length 0 lo)
theorem cut_int {xs : List Int} {lo hi : Option Int} {H : Hp} {p : Addr} (h : H p = some (.lst (cutV (xs.map V.int) lo hi))) : H p = some (.lst ((cutI xs lo hi).map V.int)) := by
  rw [h]
  unfold cutV cutI
  rw [List.length_map, List.map_take, List.map_drop]
def rep (xs : List Int) (k : Int) : List Int := (List.replicate k.toNat xs).flatten
theorem rep_int {xs : List Int} {k : Int} {H : Hp} {p : Addr} (h : H p = some (.lst (List.replicate k.toNat (xs.map V.int)).flatten)) : H p = some (.lst ((rep xs k).map V.int)) := by
  rw [h]
  unfold rep
  rw [List.map_flatten, List.map_replicate]
theorem divW_lit {i j : Int} (h : 0 < j) (h2 : j.natAbs.log2 < 9000) : CDivW i j := ⟨h, h2⟩
theorem divW_small {i j : Int} (h : 0 < j) (h2 : j < 2 ^ 128) : CDivW i j := wide_div h (show j.natAbs < 2 ^ 128 by omega) (by decide) (by decide)
theorem comp_list {xs : List Int} {i : Nat} {x y : Int} {f : Int → Int} {H : Hp} {D : Addr} (hi : xs[i]? = some x) (h : H D = some (.lst (((xs.take i).map f).map V.int ++ [V.int y]))) (e : f x = y) : H D = some (.lst (((xs.take (i + 1)).map f).map V.int)) := by
  rw [h, ← e, List.take_succ, hi, List.map_append, List.map_append] <;> rfl
theorem comp_done {xs : List Int} {f : Int → Int} {H : Hp} {D : Addr} (h : H D = some (.lst (((xs.take (xs.map V.int).length).map f).map V.int))) : H D = some (.lst ((xs.map f).map V.int)) := by
  rw [List.length_map, List.take_length] at h
  exact h
theorem comp_range {i : Nat} {y : Int} {f : Nat → Int} {H : Hp} {D : Addr} (h : H D = some (.lst (((List.range i).map f).map V.int ++ [V.int y]))) (e : f i = y) : H D = some (.lst (((List.range (i + 1)).map f).map V.int)) := by
  rw [h, ← e, List.range_succ, List.map_append, List.map_append] <;> rfl
theorem iteBT {b : Bool} {A B : Prop} (h : b = true) (k : A) : if b = true then A else B := by rw [if_pos h]; exact k
theorem iteBF {b : Bool} {A B : Prop} (h : b = false) (k : B) : if b = true then A else B := by rw [if_neg (by rw [h]; decide)]; exact k
theorem take_succ_get {α : Type} {xs : List α} {i : Nat} {x : α} (hi : xs[i]? = some x) : xs.take (i + 1) = xs.take i ++ [x] := by rw [List.take_succ, hi] <;> rfl
end

/-! ### defs of the module, as callers see them -/
section
variable {P : Program} {w : World} {K : PySem.W.Frag} {mg : Str → Option Value} {base : Heap}
structure DefIn (K : PySem.W.Frag) (mg : Str → Option Value) (x : Str) (st : Stmt) (ps : List Str) : Prop where
  ex : ∃ (f : Addr) (fd : FuncData), Fun K x x st f fd ∧ mg x = some (.ref f) ∧ Binds K fd ps []
structure Cal (P : Program) (w : World) (K : PySem.W.Frag) (mg : Str → Option Value) (base : Heap) (k : Nat) (x : Str) (sp : Sp) : Prop where
  ex : ∃ (f : Addr) (fd : FuncData) (ps : List Str), FnOk P w K mg base CX0 k f fd ps sp ∧ mg x = some (.ref f) ∧ PySem.W.keepIn K (.ref f) = true ∧ Binds K fd ps []
theorem DefIn.ok {x : Str} {st : Stmt} {N ps : List Str} {k : Nat} {sp : Sp} (D : DefIn K mg x st ps) (S : FnScope N ps (defScope st)) (len : ∀ vs H Q E, sp vs H Q E → vs.length = ps.length)
    (hbody : ∀ (f : Addr) (cdv : Value) (A : Around) (outer : List Env) (s : Shared) (H : Hp) (vs : List V) (Q : VK) (E : XK), Room k (A.deeper (envOfC x (defScope st) s.heap.objs.size f cdv)) → sp vs H Q E →
      ∃ t, PSs (cxOf CX0 P w K mg base N x (defScope st) f cdv A outer s H E).nox (defBody st) t ∧ t { nx := fun _ H' => Q .non H', rt := Q } (start N vs) H) : Cal P w K mg base (k + 1) x sp := by
  obtain ⟨f, fd, F, hm, b⟩ := D.ex
  exact ⟨f, fd, ps, F.ok S len (fun cdv A outer s H vs Q E hr h => hbody f cdv A outer s H vs Q E hr h), hm, F.kp, b⟩
end
section
variable {X : Cx} {k j : Nat} {x : Str} {sp : Sp} {p pos : Pos} {e : Expr} {es : List Expr} {t : TA}
theorem vx_call (c : Cal X.prog X.w X.K X.mg X.base k x sp) (hr : Room j X.A) (hk : k ≤ j) (hg : Gl X x) (ha : PA X (e :: es) t)
    (hdb : (x == ("__debug__" : Str)) = false := by decide) (he : starEach (e :: es) X.env = (false, eval e X.env) :: starEach es X.env := by rfl) (hpl : (backTo pos (starEach es X.env)).any (·.1) = false := by rfl) :
    PE X (.Call (.Name x p) (e :: es) [] pos) (tCall sp [] E0 t) := by
  obtain ⟨f, fd, ps, F, hm, kp, b⟩ := c.ex
  exact pe_call F (hr.mono hk) hg hm kp b .nil pass0 ha hdb he hpl
end
end Vx

namespace Vx
open PySem PySem.Spec PyProof.Rows L2
section
variable {σ : L2.St} {H : Hp} {ta tb : TE} {x y z : V} {t : TT}
theorem vv_and {a b : Bool} (h1 : Val ta σ H (.bl a)) (h2 : Val tb σ H (.bl b)) : Val (tAndV ta tb) σ H (.bl (a && b)) := fun Q q => h1 _ ⟨a, rfl, by
  cases a with
  | true => exact iteT (h2 Q q)
  | false => exact iteF q⟩
theorem vv_or {a b : Bool} (h1 : Val ta σ H (.bl a)) (h2 : Val tb σ H (.bl b)) : Val (tOrV ta tb) σ H (.bl (a || b)) := fun Q q => h1 _ ⟨a, rfl, by
  cases a with
  | true => exact iteT q
  | false => exact iteF (h2 Q q)⟩
theorem vv_not {a : Bool} (h1 : Val ta σ H (.bl a)) : Val (tNotV ta) σ H (.bl (!a)) := fun Q q => h1 _ ⟨a, rfl, q⟩
theorem vv_un {r : V → Hp → VK → Prop} (ha : Val ta σ H x) (hr : ∀ Q : VK, Q z H → r x H Q) : Val (tUn r ta) σ H z := fun Q q => ha _ (hr Q q)
theorem vv_cmp {p : Int → Int → Bool} (ha : Val ta σ H x) (hb : Val tb σ H y) (hr : ∀ Q : VK, Q z H → ∃ i j, x = .int i ∧ y = .int j ∧ Q (.bl (p i j)) H) : Val (tCmp p ta tb) σ H z := fun Q q => ha _ (hb _ (hr Q q))
theorem vv_call1 {r : List V → Hp → VK → Prop} (ha : Val ta σ H x) (hr : ∀ Q : VK, Q z H → r [x] H Q) : Val (tCB r (tCons ta tNil)) σ H z := fun Q q => ha _ (hr Q q)
theorem vt_cmp {b : Bool} (h : Val ta σ H (.bl b)) : Ans (tB ta) σ H b := fun Q q => h _ ⟨b, rfl, q⟩
theorem vt_val {b : Bool} (h : Val ta σ H (.bl b)) : Ans (tB ta) σ H b := fun Q q => h _ ⟨b, rfl, q⟩
theorem vt_int {i : Int} {K : PySem.W.Frag} (h : Val ta σ H (.int i)) : Ans (fun σ H Q => ta σ H fun x H' => ∃ k, TruV K x H' k ∧ Q k H') σ H (i != 0) := fun Q q => h _ ⟨_, rfl, q⟩
theorem vv_if {p : Prop} [Decidable p] {a b : Int} (ht : Ans t σ H (decide p)) (hx : Val ta σ H (.int a)) (hy : Val tb σ H (.int b)) : Val (tIf t ta tb) σ H (.int (if p then a else b)) := fun Q q => ht _ (by
  by_cases h : p
  · rw [if_pos h] at q; exact iteDT h (hx Q q)
  · rw [if_neg h] at q; exact iteDF h (hy Q q))
theorem vv_ifb {c : Bool} {a b : Int} (ht : Ans t σ H c) (hx : Val ta σ H (.int a)) (hy : Val tb σ H (.int b)) : Val (tIf t ta tb) σ H (.int (if c = true then a else b)) := fun Q q => ht _ (by
  cases c with
  | true => exact iteT (hx Q q)
  | false => exact iteF (hy Q q))
end
end Vx

namespace Vx
open PySem PySem.Spec PyProof.Rows L2
def rLenLi (K : PySem.W.Frag) : List V → Hp → VK → Prop := fun xs H Q => ∃ (p : Addr) (ns : List Int), xs = [.ref p] ∧ SqL K H p (ns.map V.int) ∧ Q (.int (ns.length : Int)) H
theorem call_lenLi {X : Cx} : CallR X (.builtin "len") (rLenLi X.K) := by
  intro pins s σ H xs us Q I r h
  obtain ⟨p, ns, rfl, hs, q⟩ := h
  exact call_len_seq pins s σ H _ us Q I r ⟨p, _, rfl, Or.inl hs, by rw [List.length_map]; exact q⟩
end Vx

namespace Vx
open PySem PySem.Spec PyProof.Rows L2
section
variable {X : Cx} {K : PySem.W.Frag}
theorem ix_listK (hK : X.K = K := by rfl) : IxR X (rIxL K) := hK ▸ ix_list
theorem sl_listK (hK : X.K = K := by rfl) : SlR X (rSlL K) := hK ▸ sl_list
theorem call_lenLiK (hK : X.K = K := by rfl) : CallR X (.builtin "len") (rLenLi K) := hK ▸ call_lenLi
theorem op_eqLiK (hu : X.A.units + 64 < cLine) (hK : X.K = K := by rfl) : OpR X (compareOp .Eq) (rEqLi K) := hK ▸ op_eqLi hu
theorem op_neLiK (hu : X.A.units + 64 < cLine) (hK : X.K = K := by rfl) : OpR X (compareOp .NotEq) (rNeLi K) := hK ▸ op_neLi hu
theorem pi_listK {tg l : Expr} {tl : TE} (hl : PE X l tl) (hK : X.K = K := by rfl) : PI X tg l (iList K tl) := hK ▸ pi_list hl
theorem cr_sumK (hc : X.calm = true) (hK : X.K = K := by rfl) : CallR X (.builtin "sum") (rSum K) := hK ▸ cr_sum hc
theorem cr_maxK (hc : X.calm = true) (hK : X.K = K := by rfl) : CallR X (.builtin "max") (rMax K) := hK ▸ cr_max hc
theorem cr_minK (hc : X.calm = true) (hK : X.K = K := by rfl) : CallR X (.builtin "min") (rMin K) := hK ▸ cr_min hc
end
end Vx

namespace Vx
open PySem PySem.Spec PyProof.Rows L2
theorem tyes_go {σ : L2.St} {H : Hp} {f g : Hp → Prop} (h : f H) : tYes σ H (fun b H3 => if b = true then f H3 else g H3) := by
  show if true = true then f H else g H
  exact iteT h
end Vx

/-! # second part: data of any depth, the stable heap G, the owned addresses O -/
namespace Vx
open PySem PySem.Spec PyProof.Rows L2
mutual
inductive Rp (H : Hp) : V → PyData → Prop
  | non : Rp H .non .none
  | bl (b : Bool) : Rp H (.bl b) (.bool b)
  | int (i : Int) : Rp H (.int i) (.int i)
  | str (x : Str) : Rp H (.str x) (.str x)
  | lst {a : Addr} {xs : List V} {ds : List PyData} : H a = some (.lst xs) → RpAll H xs ds → Rp H (.ref a) (.list ds)
  | tup {a : Addr} {xs : List V} {ds : List PyData} : H a = some (.tup xs) → RpAll H xs ds → Rp H (.ref a) (.tuple ds)
inductive RpAll (H : Hp) : List V → List PyData → Prop
  | nil : RpAll H [] []
  | cons {v : V} {vs : List V} {d : PyData} {ds : List PyData} : Rp H v d → RpAll H vs ds → RpAll H (v :: vs) (d :: ds)
end
mutual
theorem Rp.mono {H H' : Hp} (e : Same H H') : ∀ {v : V} {d : PyData}, Rp H v d → Rp H' v d
  | _, _, .non => .non
  | _, _, .bl b => .bl b
  | _, _, .int i => .int i
  | _, _, .str x => .str x
  | _, _, .lst h r => .lst (e _ _ h) (RpAll.mono e r)
  | _, _, .tup h r => .tup (e _ _ h) (RpAll.mono e r)
theorem RpAll.mono {H H' : Hp} (e : Same H H') : ∀ {vs : List V} {ds : List PyData}, RpAll H vs ds → RpAll H' vs ds
  | _, _, .nil => .nil
  | _, _, .cons a b => .cons (Rp.mono e a) (RpAll.mono e b)
end
mutual
theorem Rp.dp {K : PySem.W.Frag} {H : Hp} : ∀ {v : V} {d : PyData}, Rp H v d → Dp K H v d
  | _, _, .non => .non
  | _, _, .bl b => .bl b
  | _, _, .int i => .int i
  | _, _, .str x => .str x
  | _, _, .lst h r => .lst (SqL.of h) (RpAll.dp r)
  | _, _, .tup h r => .tup (SqT.of h) (RpAll.dp r)
theorem RpAll.dp {K : PySem.W.Frag} {H : Hp} : ∀ {vs : List V} {ds : List PyData}, RpAll H vs ds → DpAll K H vs ds
  | _, _, .nil => .nil
  | _, _, .cons a b => .cons (Rp.dp a) (RpAll.dp b)
end
theorem RpAll.append {H : Hp} : ∀ {xs ys : List V} {ds es : List PyData}, RpAll H xs ds → RpAll H ys es → RpAll H (xs ++ ys) (ds ++ es)
  | _, _, _, _, .nil, s => s
  | _, _, _, _, .cons r t, s => .cons r (RpAll.append t s)
theorem RpAll.ints {H : Hp} : ∀ xs : List Int, RpAll H (xs.map V.int) (xs.map PyData.int)
  | [] => .nil
  | x :: xs => .cons (.int x) (RpAll.ints xs)
theorem RpAll.bls {H : Hp} : ∀ xs : List Bool, RpAll H (xs.map V.bl) (xs.map PyData.bool)
  | [] => .nil
  | x :: xs => .cons (.bl x) (RpAll.bls xs)
theorem RpAll.one {H : Hp} {v : V} {d : PyData} (h : Rp H v d) : RpAll H [v] [d] := .cons h .nil
theorem RpAll.len {H : Hp} : ∀ {vs : List V} {ds : List PyData}, RpAll H vs ds → vs.length = ds.length
  | _, _, .nil => rfl
  | _, _, .cons _ t => by rw [List.length_cons, List.length_cons, RpAll.len t]
theorem RpAll.at {H : Hp} : ∀ {vs : List V} {ds : List PyData} {i : Nat} {v : V}, RpAll H vs ds → vs[i]? = some v → ∃ d, ds[i]? = some d ∧ Rp H v d
  | _, _, _, _, .nil, h => by simp at h
  | _, _, 0, _, .cons r _, h => by
    simp at h
    subst h
    exact ⟨_, rfl, r⟩
  | _, _, i + 1, _, .cons _ t, h => by
    obtain ⟨d, h1, h2⟩ := RpAll.at (i := i) t (by simpa using h)
    exact ⟨d, by simpa using h1, h2⟩
theorem RpAll.at' {H : Hp} : ∀ {vs : List V} {ds : List PyData} {i : Nat} {d : PyData}, RpAll H vs ds → ds[i]? = some d → ∃ v, vs[i]? = some v ∧ Rp H v d
  | _, _, _, _, .nil, h => by simp at h
  | _, _, 0, _, .cons r _, h => by
    simp at h
    subst h
    exact ⟨_, rfl, r⟩
  | _, _, i + 1, _, .cons _ t, h => by
    obtain ⟨v, h1, h2⟩ := RpAll.at' (i := i) t (by simpa using h)
    exact ⟨v, by simpa using h1, h2⟩
theorem RpAll.take {H : Hp} : ∀ (n : Nat) {vs : List V} {ds : List PyData}, RpAll H vs ds → RpAll H (vs.take n) (ds.take n)
  | 0, _, _, _ => by simpa using RpAll.nil
  | n + 1, _, _, .nil => by simpa using RpAll.nil
  | n + 1, _, _, .cons r t => .cons r (RpAll.take n t)
theorem RpAll.drop {H : Hp} : ∀ (n : Nat) {vs : List V} {ds : List PyData}, RpAll H vs ds → RpAll H (vs.drop n) (ds.drop n)
  | 0, _, _, r => r
  | n + 1, _, _, .nil => by simpa using RpAll.nil
  | n + 1, _, _, .cons r t => RpAll.drop n t
theorem RpAll.set {H : Hp} {v : V} {d : PyData} (h : Rp H v d) : ∀ (n : Nat) {vs : List V} {ds : List PyData}, RpAll H vs ds → RpAll H (vs.set n v) (ds.set n d)
  | _, _, _, .nil => .nil
  | 0, _, _, .cons _ t => .cons h t
  | n + 1, _, _, .cons r t => .cons r (RpAll.set h n t)
theorem RpAll.rep {H : Hp} {vs : List V} {ds : List PyData} (h : RpAll H vs ds) : ∀ n : Nat, RpAll H (List.replicate n vs).flatten (List.replicate n ds).flatten
  | 0 => by simpa using RpAll.nil
  | n + 1 => by
    rw [List.replicate_succ, List.flatten_cons, List.replicate_succ, List.flatten_cons]
    exact RpAll.append h (RpAll.rep h n)
theorem RpAll.get {α : Type} {f : α → PyData} {H : Hp} {vs : List V} {xs : List α} {i : Nat} {v : V} (r : RpAll H vs (xs.map f)) (h : vs[i]? = some v) : ∃ x, xs[i]? = some x ∧ Rp H v (f x) := by
  obtain ⟨d, h1, h2⟩ := RpAll.at r h
  rw [List.getElem?_map] at h1
  cases e : xs[i]? with
  | none => rw [e] at h1; cases h1
  | some x =>
    rw [e] at h1
    have : f x = d := Option.some.inj h1
    exact ⟨x, rfl, this ▸ h2⟩
/-- the item at an index, data -/
theorem RpAll.ix {α : Type} {f : α → PyData} {H : Hp} {vs : List V} {xs : List α} {k : Int} (r : RpAll H vs (xs.map f)) (h : -(xs.length : Int) ≤ k ∧ k < xs.length) : ∃ v x, atI vs k = some v ∧ atI xs k = some x ∧ Rp H v (f x) := by
  have hl : vs.length = xs.length := by rw [r.len, List.length_map]
  have hk : ∃ j, ixN xs.length k = some j ∧ j < xs.length := by
    unfold ixN
    by_cases h0 : 0 ≤ k
    · refine ⟨k.toNat, ?_, by omega⟩
      rw [if_pos h0, if_pos h.2]
    · refine ⟨(k + xs.length).toNat, ?_, by omega⟩
      rw [if_neg h0, if_pos h.1]
  obtain ⟨j, e, hj⟩ := hk
  have hx := List.getElem?_eq_getElem hj
  obtain ⟨v, h1, h2⟩ := RpAll.at' (i := j) (d := f xs[j]) r (by rw [List.getElem?_map, hx] <;> rfl)
  refine ⟨v, xs[j], ?_, ?_, h2⟩
  · unfold atI
    rw [hl, e]
    exact h1
  · unfold atI
    rw [e]
    exact hx

/-! ### types -/
def encL {α : Type} (f : α → PyData) (xs : List α) : PyData := .list (xs.map f)
def encT2 {α β : Type} (f : α → PyData) (g : β → PyData) (p : α × β) : PyData := .tuple [f p.1, g p.2]
def encT3 {α β γ : Type} (f : α → PyData) (g : β → PyData) (h : γ → PyData) (p : α × β × γ) : PyData := .tuple [f p.1, g p.2.1, h p.2.2]
def encT4 {α β γ δ : Type} (f : α → PyData) (g : β → PyData) (h : γ → PyData) (i : δ → PyData) (p : α × β × γ × δ) : PyData := .tuple [f p.1, g p.2.1, h p.2.2.1, i p.2.2.2]
structure EncOk {α : Type} [DecidableEq α] (n : Nat) (f : α → PyData) : Prop where
  lay : ∀ x, PyData.canLay0 (f x) = true
  dep : ∀ x, PyData.depth (f x) ≤ n
  eqv : ∀ x y, PyData.eqv (f x) (f y) = decide (x = y)
theorem encOk_int : EncOk 0 PyData.int := ⟨fun _ => by simp [PyData.canLay0], fun _ => by simp [PyData.depth], fun x y => by simp [PyData.eqv]; by_cases h : x = y <;> simp [h]⟩
theorem encOk_bool : EncOk 0 PyData.bool := ⟨fun _ => by simp [PyData.canLay0], fun _ => by simp [PyData.depth], fun x y => by cases x <;> cases y <;> simp [PyData.eqv]⟩
section
variable {α β γ δ : Type} [DecidableEq α] [DecidableEq β] [DecidableEq γ] [DecidableEq δ] {n m l o : Nat} {f : α → PyData} {g : β → PyData} {h : γ → PyData} {i : δ → PyData}
theorem lay_map (ok : EncOk n f) : ∀ xs : List α, PyData.canLayAll0 (xs.map f) = true
  | [] => by simp [PyData.canLayAll0]
  | x :: xs => by simp [PyData.canLayAll0, ok.lay x, lay_map ok xs]
theorem dep_map (ok : EncOk n f) : ∀ xs : List α, PyData.depthAll (xs.map f) ≤ n
  | [] => by simp [PyData.depthAll]
  | x :: xs => by
    have h1 := ok.dep x
    have h2 := dep_map ok xs
    simp only [List.map_cons, PyData.depthAll]
    omega
theorem eqv_map (ok : EncOk n f) : ∀ xs ys : List α, PyData.eqvAll (xs.map f) (ys.map f) = decide (xs = ys)
  | [], [] => by simp [PyData.eqvAll]
  | [], y :: ys => by simp [PyData.eqvAll]
  | x :: xs, [] => by simp [PyData.eqvAll]
  | x :: xs, y :: ys => by
    have ih := eqv_map ok xs ys
    simp only [List.map_cons, PyData.eqvAll, ok.eqv, ih]
    by_cases h : x = y <;> by_cases h2 : xs = ys <;> simp [h, h2]
theorem encOk_L (ok : EncOk n f) : EncOk (n + 1) (encL f) := ⟨fun xs => by simp [encL, PyData.canLay0, lay_map ok], fun xs => by
  have := dep_map ok xs
  simp only [encL, PyData.depth]
  omega, fun xs ys => by simp only [encL, PyData.eqv]; exact eqv_map ok xs ys⟩
theorem encOk_T2 (ok : EncOk n f) (ok2 : EncOk m g) : EncOk (max n m + 1) (encT2 f g) := ⟨fun x => by simp [encT2, PyData.canLay0, PyData.canLayAll0, ok.lay, ok2.lay], fun x => by
  have h1 := ok.dep x.1
  have h2 := ok2.dep x.2
  simp only [encT2, PyData.depth, PyData.depthAll]
  omega, fun x y => by
  obtain ⟨a, b⟩ := x
  obtain ⟨c, d⟩ := y
  simp only [encT2, PyData.eqv, PyData.eqvAll, ok.eqv, ok2.eqv, Prod.mk.injEq]
  by_cases h1 : a = c <;> by_cases h2 : b = d <;> simp [h1, h2]⟩
theorem encOk_T3 (ok : EncOk n f) (ok2 : EncOk m g) (ok3 : EncOk l h) : EncOk (max n (max m l) + 1) (encT3 f g h) := ⟨fun x => by simp [encT3, PyData.canLay0, PyData.canLayAll0, ok.lay, ok2.lay, ok3.lay], fun x => by
  have h1 := ok.dep x.1
  have h2 := ok2.dep x.2.1
  have h3 := ok3.dep x.2.2
  simp only [encT3, PyData.depth, PyData.depthAll]
  omega, fun x y => by
  obtain ⟨a, b, e⟩ := x
  obtain ⟨c, d, e'⟩ := y
  simp only [encT3, PyData.eqv, PyData.eqvAll, ok.eqv, ok2.eqv, ok3.eqv, Prod.mk.injEq]
  by_cases h1 : a = c <;> by_cases h2 : b = d <;> by_cases h3 : e = e' <;> simp [h1, h2, h3]⟩
theorem encOk_T4 (ok : EncOk n f) (ok2 : EncOk m g) (ok3 : EncOk l h) (ok4 : EncOk o i) : EncOk (max n (max m (max l o)) + 1) (encT4 f g h i) := ⟨fun x => by simp [encT4, PyData.canLay0, PyData.canLayAll0, ok.lay, ok2.lay, ok3.lay, ok4.lay], fun x => by
  have h1 := ok.dep x.1
  have h2 := ok2.dep x.2.1
  have h3 := ok3.dep x.2.2.1
  have h4 := ok4.dep x.2.2.2
  simp only [encT4, PyData.depth, PyData.depthAll]
  omega, fun x y => by
  obtain ⟨a, b, e, u⟩ := x
  obtain ⟨c, d, e', u'⟩ := y
  simp only [encT4, PyData.eqv, PyData.eqvAll, ok.eqv, ok2.eqv, ok3.eqv, ok4.eqv, Prod.mk.injEq]
  by_cases h1 : a = c <;> by_cases h2 : b = d <;> by_cases h3 : e = e' <;> by_cases h4 : u = u' <;> simp [h1, h2, h3, h4]⟩
end
section
variable {X : Cx} {α : Type} [DecidableEq α] {n : Nat} {f : α → PyData}
def rEqT (f : α → PyData) : R2 := fun x y H Q => ∃ (a b : α), Rp H x (f a) ∧ Rp H y (f b) ∧ Q (.bl (decide (a = b))) H
def rNeT (f : α → PyData) : R2 := fun x y H Q => ∃ (a b : α), Rp H x (f a) ∧ Rp H y (f b) ∧ Q (.bl (!decide (a = b))) H
theorem shaped_of (ok : EncOk n f) (hn : n ≤ 64) (a : α) : SeqAt.shaped (f a) = true := by
  unfold SeqAt.shaped
  have h := ok.dep a
  rw [ok.lay]
  simp
  omega
theorem op_eqT (ok : EncOk n f) (hu : X.A.units + 64 < cLine) (hn : n ≤ 64 := by decide) : OpR X (compareOp .Eq) (rEqT f) := by
  intro pins s σ H x y v u Q I rx ry h
  obtain ⟨a, b, h1, h2, q⟩ := h
  exact op_eqD hu pins s σ H _ _ v u Q I rx ry ⟨_, _, h1.dp, h2.dp, shaped_of ok hn a, shaped_of ok hn b, by rw [ok.eqv]; exact q⟩
theorem op_neT (ok : EncOk n f) (hu : X.A.units + 64 < cLine) (hn : n ≤ 64 := by decide) : OpR X (compareOp .NotEq) (rNeT f) := by
  intro pins s σ H x y v u Q I rx ry h
  obtain ⟨a, b, h1, h2, q⟩ := h
  exact op_neD hu pins s σ H _ _ v u Q I rx ry ⟨_, _, h1.dp, h2.dp, shaped_of ok hn a, shaped_of ok hn b, by rw [ok.eqv]; exact q⟩
end
section
variable {H : Hp} {v : V} {α β γ δ : Type} {f : α → PyData} {g : β → PyData} {h : γ → PyData} {i : δ → PyData}
theorem rp_int {x : Int} (r : Rp H v (.int x)) : v = .int x := by cases r; rfl
theorem rp_bool {x : Bool} (r : Rp H v (.bool x)) : v = .bl x := by cases r; rfl
theorem rp_str {x : Str} (r : Rp H v (.str x)) : v = .str x := by cases r; rfl
theorem rp_list {xs : List α} (r : Rp H v (encL f xs)) : ∃ a vs, v = .ref a ∧ H a = some (.lst vs) ∧ RpAll H vs (xs.map f) := by
  unfold encL at r
  cases r with
  | lst h1 h2 => exact ⟨_, _, rfl, h1, h2⟩
theorem rpAll_ints : ∀ {vs : List V} {xs : List Int}, RpAll H vs (xs.map PyData.int) → vs = xs.map V.int
  | _, [], .nil => rfl
  | _, x :: xs, .cons r t => by rw [rp_int r, rpAll_ints t] <;> rfl
theorem rp_ints {xs : List Int} (r : Rp H v (encL PyData.int xs)) : ∃ a, v = .ref a ∧ H a = some (.lst (xs.map V.int)) := by
  obtain ⟨a, vs, e, h1, h2⟩ := rp_list r
  rw [rpAll_ints h2] at h1
  exact ⟨a, e, h1⟩
theorem rp_tup2 {x : α × β} (r : Rp H v (encT2 f g x)) : ∃ a v1 v2, v = .ref a ∧ H a = some (.tup [v1, v2]) ∧ Rp H v1 (f x.1) ∧ Rp H v2 (g x.2) := by
  unfold encT2 at r
  cases r with
  | tup h1 h2 =>
    cases h2 with
    | cons a b =>
      cases b with
      | cons b c =>
        cases c
        exact ⟨_, _, _, rfl, h1, a, b⟩
theorem rp_tup3 {x : α × β × γ} (r : Rp H v (encT3 f g h x)) : ∃ a v1 v2 v3, v = .ref a ∧ H a = some (.tup [v1, v2, v3]) ∧ Rp H v1 (f x.1) ∧ Rp H v2 (g x.2.1) ∧ Rp H v3 (h x.2.2) := by
  unfold encT3 at r
  cases r with
  | tup h1 h2 =>
    cases h2 with
    | cons a b =>
      cases b with
      | cons b c =>
        cases c with
        | cons c d =>
          cases d
          exact ⟨_, _, _, _, rfl, h1, a, b, c⟩
theorem rp_mk_list {a : Addr} {vs : List V} {xs : List α} (h1 : H a = some (.lst vs)) (h2 : RpAll H vs (xs.map f)) : Rp H (.ref a) (encL f xs) := .lst h1 h2
theorem rp_mk_ints {a : Addr} {xs : List Int} (h1 : H a = some (.lst (xs.map V.int))) : Rp H (.ref a) (encL PyData.int xs) := .lst h1 (RpAll.ints xs)
theorem rp_mk2 {a : Addr} {v1 v2 : V} {x : α} {y : β} (h1 : H a = some (.tup [v1, v2])) (r1 : Rp H v1 (f x)) (r2 : Rp H v2 (g y)) : Rp H (.ref a) (encT2 f g (x, y)) := .tup h1 (.cons r1 (.cons r2 .nil))
theorem rp_mk3 {a : Addr} {v1 v2 v3 : V} {x : α} {y : β} {z : γ} (h1 : H a = some (.tup [v1, v2, v3])) (r1 : Rp H v1 (f x)) (r2 : Rp H v2 (g y)) (r3 : Rp H v3 (h z)) : Rp H (.ref a) (encT3 f g h (x, y, z)) := .tup h1 (.cons r1 (.cons r2 (.cons r3 .nil)))
end

/-! ### the two heaps -/
def SameXs (L : List Addr) (H H' : Hp) : Prop := ∀ b o, H b = some o → b ∉ L → H' b = some o
theorem SameXs.of {H H' : Hp} {m : Addr} (x : SameX m H H') : SameXs [m] H H' := fun b o e n => x b o e (fun z => n (by rw [z]; exact List.mem_cons_self))
theorem ni1 {b m : Addr} (h : b ≠ m) : b ∉ [m] := by simpa using h
theorem ni2 {b m n : Addr} (h : b ≠ m) (h2 : b ≠ n) : b ∉ [m, n] := by simp [h, h2]
theorem ni3 {b m n o : Addr} (h : b ≠ m) (h2 : b ≠ n) (h3 : b ≠ o) : b ∉ [m, n, o] := by simp [h, h2, h3]
theorem ni4 {b m n o p : Addr} (h : b ≠ m) (h2 : b ≠ n) (h3 : b ≠ o) (h4 : b ≠ p) : b ∉ [m, n, o, p] := by simp [h, h2, h3, h4]
def hideL (L : List Addr) (H : Hp) : Hp := fun b => if b ∈ L then none else H b
theorem hideL_same (L : List Addr) (H : Hp) : Same (hideL L H) H := fun b o e => by
  unfold hideL at e
  split at e
  · cases e
  · exact e
theorem hideL_in {L : List Addr} {H : Hp} {b : Addr} (h : b ∈ L) : hideL L H b = none := if_pos h
theorem hideL_out {L : List Addr} {H : Hp} {b : Addr} (h : b ∉ L) : hideL L H b = H b := if_neg h
/-- M: owned from outside; H0, G0: at the entry; G: what stays as it is; O: what may change -/
structure Sep (M : List Addr) (H0 G0 G H : Hp) (O : List Addr) : Prop where
  base : SameXs M H0 H
  pm : ∀ a ∈ M, H a ≠ none
  sG : Same G H
  g0 : Same G0 G
  gn : ∀ b, H0 b ≠ none → G0 b = none → G b = none
  ow : ∀ a ∈ O, G a = none ∧ H a ≠ none ∧ (a ∈ M ∨ H0 a = none)
theorem all_nil {P : Addr → Prop} : ∀ x ∈ ([] : List Addr), P x := fun x h => by cases h
theorem all_cons {P : Addr → Prop} {a : Addr} {l : List Addr} (h : P a) (t : ∀ x ∈ l, P x) : ∀ x ∈ a :: l, P x := fun x hx => by
  cases hx with
  | head => exact h
  | tail _ hx => exact t x hx
theorem some_ne {H : Hp} {a : Addr} {o : HO} (h : H a = some o) : H a ≠ none := by
  rw [h]
  exact fun z => nomatch z
theorem same_ne {H H' : Hp} {a : Addr} (e : Same H H') (h : H a ≠ none) : H' a ≠ none := by
  cases q : H a with
  | none => exact absurd q h
  | some o => exact some_ne (e a o q)
section
variable {M : List Addr} {H0 G0 G H H' : Hp} {O : List Addr} {p m : Addr} {o : HO}
theorem Sep.start (M : List Addr) (H : Hp) (hM : ∀ a ∈ M, H a ≠ none) : Sep M H (hideL M H) (hideL M H) H M :=
  ⟨fun _ _ e _ => e, hM, hideL_same M H, Same.refl _, fun _ _ e => e, fun a ha => ⟨hideL_in ha, hM a ha, .inl ha⟩⟩
theorem Sep.startG {G H : Hp} (e : Same G H) : Sep [] H G G H [] := ⟨fun _ _ e _ => e, all_nil, e, Same.refl _, fun _ _ e => e, fun a ha => by cases ha⟩
theorem Sep.start0 (H : Hp) : Sep [] H H H H [] := Sep.startG (Same.refl H)
theorem Sep.b0 (S : Sep [] H0 G0 G H O) : Same H0 H := fun b o e => S.base b o e List.not_mem_nil
theorem Sep.free (S : Sep M H0 G0 G H O) {q : Addr} (n : H q = none) : H0 q = none := by
  cases e : H0 q with
  | none => rfl
  | some o =>
    by_cases h : q ∈ M
    · exact absurd n (S.pm q h)
    · rw [S.base q o e h] at n
      cases n
theorem Sep.same (S : Sep M H0 G0 G H O) (e : Same H H') : Sep M H0 G0 G H' O :=
  ⟨fun b o h n => e b o (S.base b o h n), fun a ha => same_ne e (S.pm a ha), S.sG.trans e, S.g0, S.gn, fun a ha => ⟨(S.ow a ha).1, same_ne e (S.ow a ha).2.1, (S.ow a ha).2.2⟩⟩
theorem Sep.gfree (S : Sep M H0 G0 G H O) {q : Addr} (n : H q = none) : G q = none := by
  cases e : G q with
  | none => rfl
  | some o => rw [S.sG q o e] at n; cases n
theorem Sep.new (S : Sep M H0 G0 G H O) (n : H p = none) (e : Same H H') (h : H' p = some o) (hm : H0 p = none) : Sep M H0 G0 G H' (p :: O) := by
  have S1 := S.same e
  refine ⟨S1.base, S1.pm, S1.sG, S1.g0, S1.gn, fun a ha => ?_⟩
  cases ha with
  | head => exact ⟨S.gfree n, some_ne h, .inr hm⟩
  | tail _ ha => exact S1.ow a ha
theorem Sep.grow (S : Sep M H0 G0 G H O) (n : H p = none) (e : Same H H') (h : H' p = some o) (hm : H0 p = none) : ∃ G', Same G G' ∧ G' p = some o ∧ Sep M H0 G0 G' H' O := by
  have S1 := S.same e
  have ng := S.gfree n
  refine ⟨upd G p o, fun b u q => by rw [upd_ne (ne_of_none q ng)]; exact q, upd_same, S1.base, S1.pm, fun b u q => ?_, fun b u q => ?_, fun b hb gb => ?_, fun a ha => ?_⟩
  · by_cases z : b = p
    · subst z
      rw [upd_same] at q
      exact q ▸ h
    · rw [upd_ne z] at q
      exact S1.sG b u q
  · have := S.g0 b u q
    rw [upd_ne (ne_of_none this ng)]
    exact this
  · by_cases z : b = p
    · subst z
      exact absurd hm hb
    · rw [upd_ne z]
      exact S.gn b hb gb
  · have hne : a ≠ p := fun z => (S.ow a ha).2.1 (by rw [z]; exact n)
    rw [upd_ne hne]
    exact S1.ow a ha
theorem Sep.mut (S : Sep M H0 G0 G H O) {L : List Addr} (x : SameXs L H H') (hL : ∀ a ∈ L, a ∈ O) (hs : ∀ a ∈ L, H' a ≠ none) : Sep M H0 G0 G H' O := by
  have keep : ∀ a, H a ≠ none → H' a ≠ none := fun a h => by
    by_cases hb : a ∈ L
    · exact hs a hb
    · cases q : H a with
      | none => exact absurd q h
      | some o => exact some_ne (x a o q hb)
  refine ⟨fun b o e n => ?_, fun a ha => keep a (S.pm a ha), fun b o e => ?_, S.g0, S.gn, fun a ha => ⟨(S.ow a ha).1, keep a (S.ow a ha).2.1, (S.ow a ha).2.2⟩⟩
  · refine x b o (S.base b o e n) fun hb => ?_
    rcases (S.ow b (hL b hb)).2.2 with z | z
    · exact n z
    · rw [e] at z; cases z
  · refine x b o (S.sG b o e) fun hb => ?_
    have := (S.ow b (hL b hb)).1
    rw [e] at this
    cases this
theorem Sep.mut1 (S : Sep M H0 G0 G H O) (x : SameX m H H') (hm : m ∈ O) (h : H' m = some o) : Sep M H0 G0 G H' O :=
  S.mut (SameXs.of x) (all_cons hm all_nil) (all_cons (some_ne h) all_nil)
theorem Sep.sub (S : Sep M H0 G0 G H O) {O' : List Addr} (h : ∀ a ∈ O', a ∈ O) : Sep M H0 G0 G H O' := ⟨S.base, S.pm, S.sG, S.g0, S.gn, fun a ha => S.ow a (h a ha)⟩
/-- what was owned and is to stay as it is from now on -/
theorem Sep.freeze (S : Sep M H0 G0 G H O) {O' : List Addr} (hp : p ∈ O) (h : H p = some o) (hm : H0 p = none) (hO : ∀ a ∈ O', a ∈ O ∧ a ≠ p) : ∃ G', Same G G' ∧ G' p = some o ∧ Sep M H0 G0 G' H O' := by
  have ng := (S.ow p hp).1
  refine ⟨upd G p o, fun b u q => by rw [upd_ne (ne_of_none q ng)]; exact q, upd_same, S.base, S.pm, fun b u q => ?_, fun b u q => ?_, fun b hb gb => ?_, fun a ha => ?_⟩
  · by_cases z : b = p
    · subst z
      rw [upd_same] at q
      exact q ▸ h
    · rw [upd_ne z] at q
      exact S.sG b u q
  · have := S.g0 b u q
    rw [upd_ne (ne_of_none this ng)]
    exact this
  · by_cases z : b = p
    · subst z
      exact absurd hm hb
    · rw [upd_ne z]
      exact S.gn b hb gb
  · rw [upd_ne (hO a ha).2]
    exact S.ow a (hO a ha).1
/-- a callee that hands on data in a stable heap of its own -/
theorem Sep.step (S : Sep M H0 G0 G H O) {G' : Hp} (e : Same H H') (eG : Same G G') (sG : Same G' H') (hn : ∀ b, H b ≠ none → G b = none → G' b = none) : Sep M H0 G0 G' H' O := by
  have S1 := S.same e
  refine ⟨S1.base, S1.pm, sG, S.g0.trans eG, fun b hb gb => ?_, fun a ha => ⟨hn a (S.ow a ha).2.1 (S.ow a ha).1, (S1.ow a ha).2⟩⟩
  refine hn b (fun z => ?_) (S.gn b hb gb)
  exact hb (S.free z)
theorem Sep.hid (S : Sep M H0 G0 G H O) {L : List Addr} (h : ∀ a ∈ L, a ∈ O) : Same G (hideL L H) := fun b o e => by
  rw [hideL_out fun z => by
    have := (S.ow b (h b z)).1
    rw [e] at this
    cases this]
  exact S.sG b o e
end
end Vx

namespace Vx
open PySem PySem.Spec PyProof.Rows L2
/-! ### lists of plain things (f : V.int, V.bl, V.str) -/
section
variable {α : Type} {f : α → V} {H : Hp} {p : Addr}
theorem cat_map {xs ys : List α} (h : H p = some (.lst (xs.map f ++ ys.map f))) : H p = some (.lst ((xs ++ ys).map f)) := by
  rw [List.map_append]; exact h
theorem snoc_map {xs : List α} {y : α} (h : H p = some (.lst (xs.map f ++ [f y]))) : H p = some (.lst ((xs ++ [y]).map f)) := by
  rw [List.map_append]; exact h
def repL (xs : List α) (k : Int) : List α := (List.replicate k.toNat xs).flatten
theorem rep_map {xs : List α} {k : Int} (h : H p = some (.lst (List.replicate k.toNat (xs.map f)).flatten)) : H p = some (.lst ((repL xs k).map f)) := by
  rw [h]
  unfold repL
  rw [List.map_flatten, List.map_replicate]
def cutL (xs : List α) (lo hi : Option Int) : List α := (xs.drop (HT.sIx xs.length 0 lo)).take (HT.sIx xs.length xs.length hi - HT.sIx xs.length 0 lo)
theorem cut_map {xs : List α} {lo hi : Option Int} (h : H p = some (.lst (cutV (xs.map f) lo hi))) : H p = some (.lst ((cutL xs lo hi).map f)) := by
  rw [h]
  unfold cutV cutL
  rw [List.length_map, List.map_take, List.map_drop]
theorem cast_map {xs ys : List α} (h : H p = some (.lst (xs.map f))) (e : xs = ys) : H p = some (.lst (ys.map f)) := e ▸ h
theorem drop_map {xs : List α} (h : H p = some (.lst (xs.map f).dropLast)) : H p = some (.lst (xs.dropLast.map f)) := by
  rw [h, List.map_dropLast]
theorem ixN_some {n : Nat} {k : Int} (h : -(n : Int) ≤ k ∧ k < n) : ∃ j, ixN n k = some j ∧ j < n := by
  unfold ixN
  by_cases h0 : 0 ≤ k
  · exact ⟨k.toNat, by rw [if_pos h0, if_pos h.2], by omega⟩
  · exact ⟨(k + n).toNat, by rw [if_neg h0, if_pos h.1], by omega⟩
def itD [Inhabited α] (xs : List α) (k : Int) : α := (atI xs k).getD default
theorem atI_map [Inhabited α] {xs : List α} {k : Int} (h : -(xs.length : Int) ≤ k ∧ k < xs.length) : atI (xs.map f) k = some (f (itD xs k)) := by
  obtain ⟨j, e, hj⟩ := ixN_some h
  unfold itD atI
  rw [List.length_map, e]
  show (xs.map f)[j]? = some (f ((xs[j]?).getD default))
  rw [List.getElem?_map, List.getElem?_eq_getElem hj] <;> rfl
def setL (xs : List α) (k : Int) (y : α) : List α := xs.set ((ixN xs.length k).getD 0) y
theorem ixN_map {xs : List α} {k : Int} (h : -(xs.length : Int) ≤ k ∧ k < xs.length) : ixN (xs.map f).length k = some ((ixN xs.length k).getD 0) := by
  obtain ⟨j, e, hj⟩ := ixN_some h
  rw [List.length_map, e] <;> rfl
theorem set_map {xs : List α} {k : Int} {y : α} (h : H p = some (.lst ((xs.map f).set ((ixN xs.length k).getD 0) (f y)))) : H p = some (.lst ((setL xs k y).map f)) := by
  rw [h]
  unfold setL
  rw [List.map_set]
def lastD [Inhabited α] (xs : List α) : α := xs.getLastD default
theorem pop_map [Inhabited α] {xs : List α} (h : xs ≠ []) : (xs.map f)[(xs.map f).length - 1]? = some (f (lastD xs)) := by
  rw [← List.getLast?_eq_getElem?, List.getLast?_map]
  unfold lastD
  cases e : xs.getLast? with
  | none => exact absurd (List.getLast?_eq_none_iff.mp e) h
  | some y =>
    rw [List.getLastD_eq_getLast?, e] <;> rfl
end
/-! ### lists of data -/
section
variable {α β : Type} {f : α → PyData} {g : β → PyData} {G : Hp} {vs ws : List V} {xs ys : List α}
theorem app_map (a : RpAll G vs (xs.map f)) (b : RpAll G ws (ys.map f)) : RpAll G (vs ++ ws) ((xs ++ ys).map f) := by
  rw [List.map_append]; exact a.append b
theorem one_map {v : V} {y : α} (a : RpAll G vs (xs.map f)) (b : Rp G v (f y)) : RpAll G (vs ++ [v]) ((xs ++ [y]).map f) := by
  rw [List.map_append]; exact a.append (.one b)
theorem rep_all (k : Int) (a : RpAll G vs (xs.map f)) : RpAll G (List.replicate k.toNat vs).flatten ((repL xs k).map f) := by
  unfold repL
  rw [List.map_flatten, List.map_replicate]
  exact a.rep _
theorem cut_all (lo hi : Option Int) (a : RpAll G vs (xs.map f)) : RpAll G (cutV vs lo hi) ((cutL xs lo hi).map f) := by
  unfold cutV cutL
  rw [a.len, List.length_map, List.map_take, List.map_drop]
  exact (a.drop _).take _
theorem rp_cast {v : V} {d e : PyData} (r : Rp G v d) (h : d = e) : Rp G v e := h ▸ r
theorem comp_listD {i : Nat} {x : α} {y : β} {v : V} {h : α → β} (hi : xs[i]? = some x) (a : RpAll G vs (((xs.take i).map h).map g)) (r : Rp G v (g y)) (e : h x = y) : RpAll G (vs ++ [v]) (((xs.take (i + 1)).map h).map g) := by
  rw [take_succ_get hi, List.map_append, List.map_append]
  exact a.append (.one (e ▸ r))
theorem comp_rangeD {i : Nat} {y : β} {v : V} {h : Nat → β} (a : RpAll G vs (((List.range i).map h).map g)) (r : Rp G v (g y)) (e : h i = y) : RpAll G (vs ++ [v]) (((List.range (i + 1)).map h).map g) := by
  rw [List.range_succ, List.map_append, List.map_append]
  exact a.append (.one (e ▸ r))
theorem comp_doneD {n : Nat} {h : List α → List β} (hl : n = xs.length) (a : RpAll G vs ((h (xs.take n)).map g)) : RpAll G vs ((h xs).map g) := by
  rw [hl, List.take_length] at a
  exact a
theorem comp_listFD {i : Nat} {x : α} {y : β} {v : V} {h : α → β} {q : α → Bool} (hi : xs[i]? = some x) (hq : q x = true) (a : RpAll G vs ((((xs.take i).filter q).map h).map g)) (r : Rp G v (g y)) (e : h x = y) : RpAll G (vs ++ [v]) ((((xs.take (i + 1)).filter q).map h).map g) := by
  rw [take_succ_get hi, List.filter_append, List.filter_cons, if_pos hq, List.map_append, List.map_append]
  exact a.append (.one (e ▸ r))
theorem skip_listD {i : Nat} {x : α} {h : α → β} {q : α → Bool} (hi : xs[i]? = some x) (hq : q x = false) (a : RpAll G vs ((((xs.take i).filter q).map h).map g)) : RpAll G vs ((((xs.take (i + 1)).filter q).map h).map g) := by
  rw [take_succ_get hi, List.filter_append, List.filter_cons, if_neg (by rw [hq]; decide), List.filter_nil, List.append_nil]
  exact a
end
section
variable {α β : Type} {f : β → V} {H : Hp} {D : Addr} {xs : List α}
theorem compM_list {i : Nat} {x : α} {y : β} {h : α → β} (hi : xs[i]? = some x) (a : H D = some (.lst (((xs.take i).map h).map f ++ [f y]))) (e : h x = y) : H D = some (.lst (((xs.take (i + 1)).map h).map f)) := by
  rw [a, ← e, take_succ_get hi, List.map_append, List.map_append] <;> rfl
theorem compM_range {i : Nat} {y : β} {h : Nat → β} (a : H D = some (.lst (((List.range i).map h).map f ++ [f y]))) (e : h i = y) : H D = some (.lst (((List.range (i + 1)).map h).map f)) := by
  rw [a, ← e, List.range_succ, List.map_append, List.map_append] <;> rfl
theorem compM_done {n : Nat} {h : List α → List β} (hl : n = xs.length) (a : H D = some (.lst ((h (xs.take n)).map f))) : H D = some (.lst ((h xs).map f)) := by
  rw [hl, List.take_length] at a
  exact a
theorem compM_listF {i : Nat} {x : α} {y : β} {h : α → β} {q : α → Bool} (hi : xs[i]? = some x) (hq : q x = true) (a : H D = some (.lst ((((xs.take i).filter q).map h).map f ++ [f y]))) (e : h x = y) : H D = some (.lst ((((xs.take (i + 1)).filter q).map h).map f)) := by
  rw [a, ← e, take_succ_get hi, List.filter_append, List.filter_cons, if_pos hq, List.map_append, List.map_append] <;> rfl
theorem skipM_list {i : Nat} {x : α} {h : α → β} {q : α → Bool} (hi : xs[i]? = some x) (hq : q x = false) (a : H D = some (.lst ((((xs.take i).filter q).map h).map f))) : H D = some (.lst ((((xs.take (i + 1)).filter q).map h).map f)) := by
  rw [a, take_succ_get hi, List.filter_append, List.filter_cons, if_neg (by rw [hq]; decide), List.filter_nil, List.append_nil]
theorem compM_rangeF {i : Nat} {y : β} {h : Nat → β} {q : Nat → Bool} (hq : q i = true) (a : H D = some (.lst ((((List.range i).filter q).map h).map f ++ [f y]))) (e : h i = y) : H D = some (.lst ((((List.range (i + 1)).filter q).map h).map f)) := by
  rw [a, ← e, List.range_succ, List.filter_append, List.filter_cons, if_pos hq, List.map_append, List.map_append] <;> rfl
theorem skipM_range {i : Nat} {h : Nat → β} {q : Nat → Bool} (hq : q i = false) (a : H D = some (.lst ((((List.range i).filter q).map h).map f))) : H D = some (.lst ((((List.range (i + 1)).filter q).map h).map f)) := by
  rw [a, List.range_succ, List.filter_append, List.filter_cons, if_neg (by rw [hq]; decide), List.filter_nil, List.append_nil]
end
/-! ### more rules -/
section
variable {X : Cx} {K : PySem.W.Frag}
theorem ix_tupK (hK : X.K = K := by rfl) : IxR X (rIxT K) := hK ▸ ix_tup
def rLenLK (K : PySem.W.Frag) : List V → Hp → VK → Prop := fun xs H Q => ∃ (p : Addr) (vs : List V) (n : Nat), xs = [.ref p] ∧ SqL K H p vs ∧ vs.length = n ∧ Q (.int (n : Int)) H
theorem call_lenLK (hK : X.K = K := by rfl) : CallR X (.builtin "len") (rLenLK K) := by
  subst hK
  intro pins s σ H xs us Q I r h
  obtain ⟨p, vs, n, rfl, hs, hn, q⟩ := h
  exact call_len_seq pins s σ H _ us Q I r ⟨p, _, rfl, Or.inl hs, by rw [hn]; exact q⟩
def rListLK (K : PySem.W.Frag) : List V → Hp → VK → Prop := fun xs H Q => ∃ (p : Addr) (vs : List V), xs = [.ref p] ∧ SqL K H p vs ∧ ∀ l, H l = none → Q (.ref l) (upd H l (.lst vs))
theorem call_listLK (hK : X.K = K := by rfl) : CallR X (.type "list") (rListLK K) := by
  subst hK
  intro pins s σ H xs us Q I r h
  obtain ⟨p, vs, rfl, hs, q⟩ := h
  exact call_list_of pins s σ H _ us Q I r ⟨p, _, rfl, Or.inl hs, q⟩
theorem cr_anyK (hc : X.calm = true) (hK : X.K = K := by rfl) : CallR X (.builtin "any") (rAny K) := hK ▸ cr_any hc
theorem cr_allK (hc : X.calm = true) (hK : X.K = K := by rfl) : CallR X (.builtin "all") (rAll K) := hK ▸ cr_all hc
theorem pi_tupK {tg l : Expr} {tl : TE} (hl : PE X l tl) (hK : X.K = K := by rfl) : PI X tg l (iTup K tl) := hK ▸ pi_tup hl
theorem pip {op : Operator} {r : R2} (h : OpR X (inplaceOp op) r) : PIp X op r := fun pins s σ H x y v u Q I rx ry q => h pins s σ H x y v u Q I rx ry q
/-- an item at a place from 0 on, by itself (ahead of o[i] op= e) -/
def rIxP (K : PySem.W.Frag) : R2 := fun x y H Q => ∃ (p : Addr) (xs : List V) (k : Int) (v : V), x = .ref p ∧ y = .int k ∧ SqL K H p xs ∧ 0 ≤ k ∧ k < 2 ^ 62 ∧ atI xs k = some v ∧ Q v H
theorem pget_list (hK : X.K = K := by rfl) : PGet X (rIxP K) := by
  subst hK
  intro pins s σ H o i ov iv Q I ro ri h
  obtain ⟨p, xs, k, v, rfl, rfl, hq, h0, h62, ha, q⟩ := h
  cases ro
  obtain ⟨t, rfl⟩ := ri
  obtain ⟨its, r, pl, hz⟩ := I.list hq
  obtain ⟨j, h1, h2, h3, h4, h5⟩ := atI_get ha
  obtain ⟨w, ew, rw'⟩ := r.get h2
  have hj : k.toNat = j := by
    rw [seqIndex_of h0 h5] at h1
    exact Option.some.inj h1
  exact getItem_listL pl.isList h0 (by omega) (by rw [hj]; simpa using ew) ⟨v, H, I, rw', q⟩
theorem tru_map {α : Type} [DecidableEq α] {f : α → V} {xs : List α} : (!decide (xs = [])) = !(xs.map f).isEmpty := by
  cases xs <;> simp
end
end Vx

namespace Vx
open PySem PySem.Spec PyProof.Rows L2
/-! ### objects -/
section
variable {M : List Addr} {H0 G0 G H H' : Hp} {O : List Addr} {p m : Addr} {o : HO}
theorem gen_obj {x dx : Addr} {o1 o2 : HO} (nx : H x = none) (nd : H dx = none) (ne : dx ≠ x) (h : upd (upd H dx o1) x o2 = H') : Same H H' ∧ H' x = some o2 := by
  subst h
  exact ⟨fun b u e => by rw [upd_ne (ne_of_none e nx), upd_ne (ne_of_none e nd)]; exact e, upd_same⟩
theorem sameX_of {m : Addr} (x : SameXs [m] H H') : SameX m H H' := fun b o e n => x b o e (by simpa using n)
theorem g_ne {a b : Addr} (h : G a = some o) (S : Sep M H0 G0 G H O) (hb : b ∈ O) : a ≠ b := fun z => by
  have := (S.ow b hb).1
  rw [← z, h] at this
  cases this
/-- an object whose making has laid some lists -/
theorem Sep.mutnew (S : Sep M H0 G0 G H O) {L : List Addr} (x : SameXs L H H') (hL : ∀ a ∈ L, a ∈ O) (hs : ∀ a ∈ L, H' a ≠ none) (hn : H p = none) (hp : H' p ≠ none) (h0 : H0 p = none) : Sep M H0 G0 G H' (p :: O) := by
  have S1 := S.mut x hL hs
  refine ⟨S1.base, S1.pm, S1.sG, S1.g0, S1.gn, all_cons ⟨S.gfree hn, hp, .inr h0⟩ S1.ow⟩
theorem Sep.init (S : Sep M H0 G0 G H O) (x : SameX m H H') (hm : m ∈ O) (h : H' m = some o) (L : List Addr) (hL : ∀ a ∈ L, H a = none ∧ H' a ≠ none ∧ H0 a = none) : Sep M H0 G0 G H' (L ++ O) := by
  have S1 := S.mut1 x hm h
  refine ⟨S1.base, S1.pm, S1.sG, S1.g0, S1.gn, fun a ha => ?_⟩
  rcases List.mem_append.mp ha with z | z
  · obtain ⟨h1, h2, h3⟩ := hL a z
    exact ⟨S.gfree h1, h2, .inr h3⟩
  · exact S1.ow a z
end
section
variable {P : Program} {w : World} {K : PySem.W.Frag} {mg : Str → Option Value} {base : Heap}
structure MethIn (K : PySem.W.Frag) (C : Addr) (q m : Str) (st : Stmt) (ps : List Str) : Prop where
  ex : ∃ (f : Addr) (fd : FuncData), Fun K m q st f fd ∧ Meth K C m f ∧ Binds K fd ps []
structure PropIn (K : PySem.W.Frag) (C : Addr) (q m : Str) (st : Stmt) (ps : List Str) : Prop where
  ex : ∃ (r f : Addr) (fd : FuncData), Fun K m q st f fd ∧ PropOf K C m r f ∧ Binds K fd ps []
structure InitIn (K : PySem.W.Frag) (mg : Str → Option Value) (C : Addr) (cn q : Str) (st : Stmt) (ps : List Str) : Prop where
  ex : ∃ (f : Addr) (fd : FuncData), Fun K "__init__" q st f fd ∧ Mk K C f ∧ mg cn = some (.ref C) ∧ Binds K fd ps []
structure MetC (P : Program) (w : World) (K : PySem.W.Frag) (mg : Str → Option Value) (base : Heap) (k : Nat) (C : Addr) (m : Str) (sp : Sp) : Prop where
  ex : ∃ (f : Addr) (fd : FuncData) (ps : List Str), Cls K C ∧ Meth K C m f ∧ FnOk P w K mg base CX0 k f fd ps sp ∧ Binds K fd ps []
structure PropC (P : Program) (w : World) (K : PySem.W.Frag) (mg : Str → Option Value) (base : Heap) (k : Nat) (C : Addr) (m : Str) (sp : Sp) : Prop where
  ex : ∃ (q f : Addr) (fd : FuncData) (ps : List Str), Cls K C ∧ PropOf K C m q f ∧ FnOk P w K mg base CX0 k f fd ps sp ∧ Binds K fd ps []
structure MakC (P : Program) (w : World) (K : PySem.W.Frag) (mg : Str → Option Value) (base : Heap) (k : Nat) (cn : Str) (C : Addr) (sp : Sp) : Prop where
  ex : ∃ (f : Addr) (fd : FuncData) (ps : List Str), Mk K C f ∧ FnOk P w K mg base CX0 k f fd ps sp ∧ mg cn = some (.ref C) ∧ Binds K fd ps []
abbrev Body (P : Program) (w : World) (K : PySem.W.Frag) (mg : Str → Option Value) (base : Heap) (x : Str) (st : Stmt) (N : List Str) (k : Nat) (sp : Sp) : Prop :=
  ∀ (f : Addr) (cdv : Value) (A : Around) (outer : List Env) (s : Shared) (H : Hp) (vs : List V) (Q : VK) (E : XK), Room k (A.deeper (envOfC x (defScope st) s.heap.objs.size f cdv)) → sp vs H Q E →
    ∃ t, PSs (cxOf CX0 P w K mg base N x (defScope st) f cdv A outer s H E).nox (defBody st) t ∧ t { nx := fun _ H' => Q .non H', rt := Q } (start N vs) H
theorem MethIn.ok {C : Addr} {q m : Str} {st : Stmt} {N ps : List Str} {k : Nat} {sp : Sp} (D : MethIn K C q m st ps) (c : Cls K C) (S : FnScope N ps (defScope st)) (len : ∀ vs H Q E, sp vs H Q E → vs.length = ps.length)
    (hbody : Body P w K mg base q st N k sp) : MetC P w K mg base (k + 1) C m sp := by
  obtain ⟨f, fd, F, me, b⟩ := D.ex
  exact ⟨f, fd, ps, c, me, F.ok S len (fun cdv A outer s H vs Q E hr h => hbody f cdv A outer s H vs Q E hr h), b⟩
theorem PropIn.ok {C : Addr} {q m : Str} {st : Stmt} {N ps : List Str} {k : Nat} {sp : Sp} (D : PropIn K C q m st ps) (c : Cls K C) (S : FnScope N ps (defScope st)) (len : ∀ vs H Q E, sp vs H Q E → vs.length = ps.length)
    (hbody : Body P w K mg base q st N k sp) : PropC P w K mg base (k + 1) C m sp := by
  obtain ⟨r, f, fd, F, me, b⟩ := D.ex
  exact ⟨r, f, fd, ps, c, me, F.ok S len (fun cdv A outer s H vs Q E hr h => hbody f cdv A outer s H vs Q E hr h), b⟩
theorem InitIn.ok {C : Addr} {cn q : Str} {st : Stmt} {N ps : List Str} {k : Nat} {sp : Sp} (D : InitIn K mg C cn q st ps) (S : FnScope N ps (defScope st)) (len : ∀ vs H Q E, sp vs H Q E → vs.length = ps.length)
    (hbody : Body P w K mg base q st N k sp) : MakC P w K mg base (k + 1) cn C sp := by
  obtain ⟨f, fd, F, me, hm, b⟩ := D.ex
  exact ⟨f, fd, ps, me, F.ok S len (fun cdv A outer s H vs Q E hr h => hbody f cdv A outer s H vs Q E hr h), hm, b⟩
end
section
variable {X : Cx} {k j : Nat} {C : Addr} {x m : Str} {sp : Sp} {p pos apos : Pos} {e o : Expr} {es : List Expr} {ta : TE} {t : TA}
theorem vx_call0 (c : Cal X.prog X.w X.K X.mg X.base k x sp) (hr : Room j X.A) (hk : k ≤ j) (hg : Gl X x) (hdb : (x == ("__debug__" : Str)) = false := by decide) : PE X (.Call (.Name x p) [] [] pos) (tCall sp [] E0 tNil) := by
  obtain ⟨f, fd, ps, F, hm, kp, b⟩ := c.ex
  exact pe_call0 F (hr.mono hk) hg hm kp b .nil pass0 hdb
theorem vx_make (c : MakC X.prog X.w X.K X.mg X.base k x C sp) (hr : Room j X.A) (hk : k + 1 ≤ j) (hg : Gl X x) (ha : PA X (e :: es) t)
    (hdb : (x == ("__debug__" : Str)) = false := by decide) (he : starEach (e :: es) X.env = (false, eval e X.env) :: starEach es X.env := by rfl) (hpl : (backTo pos (starEach es X.env)).any (·.1) = false := by rfl) :
    PE X (.Call (.Name x p) (e :: es) [] pos) (tMake C sp [] E0 t) := by
  obtain ⟨f, fd, ps, M, F, hm, b⟩ := c.ex
  exact pe_make M F (hr.mono hk) hg hm b .nil pass0 ha hdb he hpl
theorem vx_make0 (c : MakC X.prog X.w X.K X.mg X.base k x C sp) (hr : Room j X.A) (hk : k + 1 ≤ j) (hg : Gl X x) (hdb : (x == ("__debug__" : Str)) = false := by decide) :
    PE X (.Call (.Name x p) [] [] pos) (tMake C sp [] E0 tNil) := by
  obtain ⟨f, fd, ps, M, F, hm, b⟩ := c.ex
  exact pe_make0 M F (hr.mono hk) hg hm b .nil pass0 hdb
theorem vx_meth {pl : Sem Bool} (c : MetC X.prog X.w X.K X.mg X.base k C m sp) (hr : Room j X.A) (hk : k ≤ j) (he : PE X o ta) (ha : PA X (e :: es) t)
    (hst : starEach (e :: es) X.env = (false, eval e X.env) :: starEach es X.env := by rfl) (hpl : (backTo pos (starEach es X.env)).any (·.1) = false := by rfl)
    (ht : eval (.Call (.Attribute o m apos) (e :: es) [] pos) X.env = (do
      let ov ← eval o X.env
      standAt apos.atName
      let (f, first) ← holding [ov] (getMethod ov m pl)
      callWith pos f first (backTo pos (starEach (e :: es) X.env)) (backToKw pos (keywordEach [] X.env))) := by rfl) :
    PE X (.Call (.Attribute o m apos) (e :: es) [] pos) (tMeth C m sp [] E0 ta t) := by
  obtain ⟨f, fd, ps, hc, hm, F, b⟩ := c.ex
  exact pe_meth he hc hm F (hr.mono hk) b .nil pass0 ha hst hpl ht
theorem vx_meth0 {pl : Sem Bool} (c : MetC X.prog X.w X.K X.mg X.base k C m sp) (hr : Room j X.A) (hk : k ≤ j) (he : PE X o ta)
    (ht : eval (.Call (.Attribute o m apos) [] [] pos) X.env = (do
      let ov ← eval o X.env
      standAt apos.atName
      let (f, first) ← holding [ov] (getMethod ov m pl)
      callWith pos f first (backTo pos (starEach [] X.env)) (backToKw pos (keywordEach [] X.env))) := by rfl) :
    PE X (.Call (.Attribute o m apos) [] [] pos) (tMeth C m sp [] E0 ta tNil) := by
  obtain ⟨f, fd, ps, hc, hm, F, b⟩ := c.ex
  exact pe_meth0 he hc hm F (hr.mono hk) b .nil pass0 ht
theorem vx_prop (c : PropC X.prog X.w X.K X.mg X.base k C m sp) (hr : Room j X.A) (hk : k + 1 ≤ j) (he : PE X o ta) (hab : attributeBase o m X.env (eval o X.env) = eval o X.env) : PE X (.Attribute o m pos) (tProp C sp [] E0 ta) := by
  obtain ⟨q, f, fd, ps, hc, hp, F, b⟩ := c.ex
  exact pe_prop he hc hp F (hr.mono hk) b .nil pass0 hab
end
theorem iteBNT {b : Bool} {A B : Prop} (h : b = false) (k : A) : if (!b) = true then A else B := by rw [h]; exact iteT k
theorem iteNN {b : Bool} {A B : Prop} (h : if b = true then A else B) : if (!!b) = true then A else B := by rw [Bool.not_not]; exact h
theorem iteBNF {b : Bool} {A B : Prop} (h : b = true) (k : B) : if (!b) = true then A else B := by rw [h]; exact iteF k
theorem shl_side {i j : Int} (h0 : 0 ≤ j) (h1 : j ≤ 4096) (h2 : -(2 ^ 4096) < i) (h3 : i < 2 ^ 4096) : CShl i j := by
  obtain ⟨k, rfl⟩ := Int.eq_ofNat_of_zero_le h0
  exact shl_ok (n := 4096) (by omega) (by omega)
end Vx

namespace Vx
open PySem PySem.Spec PyProof.Rows L2
section
variable {X : Cx} {K : PySem.W.Frag}
theorem fldK {e : Expr} {f : Str} {pos : Pos} {ta : TE} (he : PE X e ta) (hb : attributeBase e f X.env (eval e X.env) = eval e X.env := by rfl) (hK : X.K = K := by rfl) : PE X (.Attribute e f pos) (tFld K ta f) := hK ▸ pe_fld he hb
theorem pg_tupK {es : List Expr} {k : Nat} {t : TGs} {n : Nat} {pos : Pos} (h : PGs X es t) (hc : X.calm = true := by rfl)
    (hn : (assignEach es X.env).length = n := by rfl) (hst : (assignEach es X.env).findIdx? (·.1) = none := by rfl) (hK : X.K = K := by rfl) : PG X (.Tuple es k pos) (gTup K n t) := hK ▸ pg_tup hc h hn hst
end
end Vx

namespace Vx
open PySem PySem.Spec PyProof.Rows L2
section
variable {α β : Type} {f : α → PyData} {g : β → PyData} {fv : α → V} {gv : β → V} {G : Hp} {vs ws : List V} {xs : List α} {ys : List β}
theorem big1 {n : Nat} (h : n ≤ 1000000) : n ≤ sizeLine := smallE h
theorem cat_len (a : RpAll G vs (xs.map f)) (b : RpAll G ws (ys.map g)) (h : xs.length + ys.length ≤ 1000000) : vs.length + ws.length ≤ sizeLine := by
  rw [a.len, b.len, List.length_map, List.length_map]; exact smallE h
theorem cat_lenM (h : xs.length + ys.length ≤ 1000000) : (xs.map fv).length + (ys.map gv).length ≤ sizeLine := by
  rw [List.length_map, List.length_map]; exact smallE h
theorem rep_len {k : Nat} (a : RpAll G vs (xs.map f)) (h : xs.length * k ≤ 1000000) : vs.length * k ≤ sizeLine := by
  rw [a.len, List.length_map]; exact smallE h
theorem rep_lenM {k : Nat} (h : xs.length * k ≤ 1000000) : (xs.map fv).length * k ≤ sizeLine := by
  rw [List.length_map]; exact smallE h
theorem app_len (a : RpAll G vs (xs.map f)) (h : xs.length ≤ 1000000) : vs.length < sizeLine := by
  rw [a.len, List.length_map]; exact small h
theorem app_lenM (h : xs.length ≤ 1000000) : (xs.map fv).length < sizeLine := by
  rw [List.length_map]; exact small h
theorem cutL_len {α : Type} (xs : List α) (lo hi : Option Int) : (cutL xs lo hi).length ≤ xs.length := by
  unfold cutL
  rw [List.length_take, List.length_drop]
  omega
theorem repL_len {α : Type} (xs : List α) (k : Int) : (repL xs k).length = k.toNat * xs.length := by
  unfold repL
  simp
end
end Vx
namespace Vx
open PySem PySem.Spec PyProof.Rows L2
def cellI (ns : List Int) (k : Int) : Int := if k < (ns.length : Int) then itI ns k else 0
def drawStep (free : Bool) (s : List Int × Int × Int) (l : Int) : List Int × Int × Int :=
  if free = true ∧ 1 < s.2.1 then (s.1 ++ [s.2.1 % l], s.2.1 / l, s.2.2)
  else (s.1 ++ [((s.2.2 * 48271 + 11) % 2147483647 * 69621 + 7) % 2147483647 / 13 % l], s.2.1, ((s.2.2 * 48271 + 11) % 2147483647 * 69621 + 7) % 2147483647)
def draws (cell : Int) (limits : List Int) : List Int :=
  (limits.foldl (drawStep (decide (cell < 0) || decide ((10 : Int) ^ (18 : Int).toNat ≤ cell))) ([], (if cell < 0 then -cell else cell), (if cell < 0 then -cell else cell) % 2147483647)).1
theorem draw_step_len (f : Bool) (s : List Int × Int × Int) (l : Int) : (drawStep f s l).1.length = s.1.length + 1 := by
  unfold drawStep
  split <;> simp
theorem draw_fold_len (f : Bool) : ∀ (ls : List Int) (s : List Int × Int × Int), (ls.foldl (drawStep f) s).1.length = s.1.length + ls.length
  | [], s => by simp
  | l :: ls, s => by
    rw [List.foldl_cons, draw_fold_len f ls, draw_step_len, List.length_cons]
    omega
theorem draws_len (cell : Int) (ls : List Int) : (draws cell ls).length = ls.length := by
  unfold draws
  rw [draw_fold_len]
  simp
theorem len_rep1 (a k : Int) : (rep [a] k).length = k.toNat := by
  unfold rep
  simp
theorem mem_rep1 {a k x : Int} (h : x ∈ rep [a] k) : x = a := by
  unfold rep at h
  simp at h
  exact h.2
theorem lims256 (k : Int) : ∀ l ∈ rep [256] k, 0 < l ∧ l < 2 ^ 128 := fun l h => by
  rw [mem_rep1 h]
  decide
def some1 (cell size : Int) : List Int := if cell % 4 = 1 then (draws (cell / 4) (rep [256] size)).map (fun o => o % 4) else draws (cell / 4) (rep [256] size)
def some2 (cell size : Int) : List Int := if cell % 4 = 2 then (some1 cell size).map (fun o => itI [0, 0, 0, 0, 0, 1, 3, o] (o % 8)) else some1 cell size
def someI (cell size : Int) : List Int := if cell % 4 = 3 then (some2 cell size).map (fun o => itI [0, 0, 1, 128, 1 + o / 8 % 6, 3, o, 0] (o % 8)) else some2 cell size
theorem some_len (cell size : Int) : (someI cell size).length = size.toNat := by
  unfold someI some2 some1
  repeat' split
  all_goals simp [draws_len, len_rep1]
theorem mul_bit (a : Int) (p : Prop) [Decidable p] : CMul a (if decide p = true then 1 else 0) := by
  right
  split <;> decide

def escStep (s : List Int × Int) (o : Int) : List Int × Int :=
  if s.2 = 2 ∧ o ≤ 3 then (s.1 ++ [3] ++ [o], if o = 0 then 0 + 1 else 0) else (s.1 ++ [o], if o = 0 then s.2 + 1 else 0)
def escP (xs : List Int) : List Int := (xs.foldl escStep ([], 0)).1
def escStepL (s : List Int × Int) (o : Int) : List Int × Int :=
  if 2 ≤ s.2 ∧ o ≤ 3 then (s.1 ++ [3] ++ [o], (0 + 1) * (if o = 0 then 1 else 0)) else (s.1 ++ [o], (s.2 + 1) * (if o = 0 then 1 else 0))
def escL (xs : List Int) : List Int := (xs.foldl escStepL ([], 0)).1
def uneStep (s : List Int × Int) (o : Int) : List Int × Int :=
  if 2 ≤ s.2 ∧ o = 3 then (s.1, 0) else (s.1 ++ [o], if o = 0 then s.2 + 1 else 0)
def uneP (xs : List Int) : List Int := (xs.foldl uneStep ([], 0)).1
def uneStepL (s : List Int × Int) (o : Int) : List Int × Int :=
  if 2 ≤ s.2 ∧ o = 3 then (s.1, 0) else (s.1 ++ [o], (s.2 + 1) * (if o = 0 then 1 else 0))
def uneL (xs : List Int) : List Int := (xs.foldl uneStepL ([], 0)).1
theorem une_step_eq : uneStepL = uneStep := by
  funext s o
  unfold uneStep uneStepL
  split
  · rfl
  · by_cases h : o = 0 <;> simp [h]
theorem une_eq (xs : List Int) : uneP xs = uneL xs := by
  unfold uneP uneL
  rw [une_step_eq]
theorem esc_step_eq {s : List Int × Int} {o : Int} (h0 : 0 ≤ s.2) (h2 : s.2 ≤ 2) : escStepL s o = escStep s o ∧ 0 ≤ (escStep s o).2 ∧ (escStep s o).2 ≤ 2 := by
  unfold escStep escStepL
  by_cases c : s.2 = 2 ∧ o ≤ 3
  · rw [if_pos c, if_pos (by omega)]
    refine ⟨?_, ?_, ?_⟩ <;> by_cases h : o = 0 <;> simp [h]
  · rw [if_neg c, if_neg (by omega)]
    refine ⟨?_, ?_, ?_⟩ <;> by_cases h : o = 0 <;> simp [h] <;> omega
theorem esc_fold_eq : ∀ (xs : List Int) (s : List Int × Int), 0 ≤ s.2 → s.2 ≤ 2 → xs.foldl escStepL s = xs.foldl escStep s
  | [], _, _, _ => rfl
  | o :: xs, s, h0, h2 => by
    obtain ⟨e, a, b⟩ := esc_step_eq (o := o) h0 h2
    rw [List.foldl_cons, List.foldl_cons, e]
    exact esc_fold_eq xs _ a b
theorem esc_eq (xs : List Int) : escP xs = escL xs := by
  unfold escP escL
  rw [esc_fold_eq xs _ (by decide) (by decide)]
/-- unescaping what the escaping has written so far: the octets, and the zeros at the end -/
theorem une_fold : ∀ (xs : List Int) (done e : List Int) (z : Int), 0 ≤ z → z ≤ 2 → e.foldl uneStep ([], 0) = (done, z) →
    (xs.foldl escStep (e, z)).1.foldl uneStep ([], 0) = (done ++ xs, (xs.foldl escStep (e, z)).2)
  | [], done, e, z, _, _, h => by simpa using h
  | o :: xs, done, e, z, h0, h2, h => by
    rw [List.foldl_cons]
    by_cases c : z = 2 ∧ o ≤ 3
    · have e1 : escStep (e, z) o = (e ++ [3] ++ [o], if o = 0 then 0 + 1 else 0) := by
        unfold escStep
        rw [if_pos c]
      rw [e1]
      have hu : (e ++ [3] ++ [o]).foldl uneStep ([], 0) = (done ++ [o], if o = 0 then 0 + 1 else 0) := by
        rw [List.foldl_append, List.foldl_append, h]
        have c1 := c.1
        subst c1
        simp [uneStep]
      have := une_fold xs (done ++ [o]) (e ++ [3] ++ [o]) (if o = 0 then 0 + 1 else 0) (by split <;> decide) (by split <;> decide) hu
      rw [this]
      simp
    · have e1 : escStep (e, z) o = (e ++ [o], if o = 0 then z + 1 else 0) := by
        unfold escStep
        rw [if_neg c]
      rw [e1]
      have hu : (e ++ [o]).foldl uneStep ([], 0) = (done ++ [o], if o = 0 then z + 1 else 0) := by
        rw [List.foldl_append, h]
        show uneStep (done, z) o = _
        unfold uneStep
        rw [if_neg (by show ¬ (2 ≤ z ∧ o = 3); omega)]
      have := une_fold xs (done ++ [o]) (e ++ [o]) (if o = 0 then z + 1 else 0) (by split <;> omega) (by split <;> omega) hu
      rw [this]
      simp
theorem une_esc (xs : List Int) : uneP (escP xs) = xs := by
  have := une_fold xs [] [] 0 (by decide) (by decide) rfl
  unfold uneP escP
  rw [this]
  simp
def escR : List Int → Int → List Int
  | [], _ => []
  | o :: xs, z => if z = 2 ∧ o ≤ 3 then 3 :: o :: escR xs (if o = 0 then 0 + 1 else 0) else o :: escR xs (if o = 0 then z + 1 else 0)
theorem esc_fold_R : ∀ (xs e : List Int) (z : Int), (xs.foldl escStep (e, z)).1 = e ++ escR xs z
  | [], e, z => by simp [escR]
  | o :: xs, e, z => by
    rw [List.foldl_cons]
    by_cases c : z = 2 ∧ o ≤ 3
    · have e1 : escStep (e, z) o = (e ++ [3] ++ [o], if o = 0 then 0 + 1 else 0) := by
        unfold escStep
        rw [if_pos c]
      rw [e1, esc_fold_R xs, escR, if_pos c]
      simp
    · have e1 : escStep (e, z) o = (e ++ [o], if o = 0 then z + 1 else 0) := by
        unfold escStep
        rw [if_neg c]
      rw [e1, esc_fold_R xs, escR, if_neg c]
      simp
def okZ : Int → List Int → Prop
  | _, [] => True
  | z, x :: r => (z = 2 → 2 < x) ∧ okZ (if x = 0 then (if z = 2 then 2 else z + 1) else 0) r
theorem ok_escR : ∀ (xs : List Int) (z : Int), 0 ≤ z → z ≤ 2 → okZ z (escR xs z)
  | [], _, _, _ => trivial
  | o :: xs, z, h0, h2 => by
    unfold escR
    by_cases c : z = 2 ∧ o ≤ 3
    · rw [if_pos c]
      refine ⟨fun _ => by decide, ?_⟩
      rw [if_neg (by decide)]
      refine ⟨fun h => absurd h (by decide), ?_⟩
      rw [if_neg (show ¬ (0 : Int) = 2 by decide)]
      exact ok_escR xs _ (by split <;> decide) (by split <;> decide)
    · rw [if_neg c]
      refine ⟨fun h => by omega, ?_⟩
      by_cases h : o = 0
      · rw [if_pos h, if_pos h, if_neg (by omega)]
        exact ok_escR xs _ (by omega) (by omega)
      · rw [if_neg h, if_neg h]
        exact ok_escR xs _ (by decide) (by decide)
theorem okZ_at : ∀ (e : List Int) (z : Int), 0 ≤ z → z ≤ 2 → okZ z e → ∀ k : Nat, e[k]? = some 0 → e[k + 1]? = some 0 → ∀ x, e[k + 2]? = some x → 2 < x
  | [], _, _, _, _, k, h, _, _, _ => by simp at h
  | y :: r, z, h0, h2, ok, k + 1, a, b, x, c => okZ_at r _ (by split <;> (try split) <;> omega) (by split <;> (try split) <;> omega) ok.2 k (by simpa using a) (by simpa using b) x (by simpa using c)
  | [y], z, _, _, ok, 0, a, b, x, c => by simp at b
  | [y, u], z, _, _, ok, 0, a, b, x, c => by simp at c
  | y :: u :: t :: r, z, h0, h2, ok, 0, a, b, x, c => by
    simp at a b c
    subst a b c
    obtain ⟨_, _, h3, _⟩ := ok
    refine h3 ?_
    simp only [if_true]
    split <;> split <;> omega
theorem sIx_in {n d k : Nat} (h : k ≤ n) : HT.sIx n d (some (k : Int)) = k := by
  rw [HT.sIx_nat]
  omega
theorem cut_two {e : List Int} {i : Nat} {a b : Int} (hi : i + 2 ≤ e.length) (h : cutI e (some (0 + (i : Int))) (some (0 + (i : Int) + 2)) = [a, b]) : e[i]? = some a ∧ e[i + 1]? = some b := by
  have e1 : (0 + (i : Int)) = ((i : Nat) : Int) := by omega
  have e2 : (0 + (i : Int) + 2) = ((i + 2 : Nat) : Int) := by omega
  unfold cutI at h
  rw [e2, e1, sIx_in (k := i + 2) hi, sIx_in (k := i) (by omega), show i + 2 - i = 2 by omega] at h
  have g0 : ((e.drop i).take 2)[0]? = some a := by rw [h]; rfl
  have g1 : ((e.drop i).take 2)[1]? = some b := by rw [h]; rfl
  constructor
  · simpa using g0
  · simpa using g1
theorem itI_nat {e : List Int} {k : Nat} {x : Int} (h : e[k]? = some x) : itI e (k : Int) = x := by
  unfold itI atI ixN
  have hk := (List.getElem?_eq_some_iff.mp h).1
  rw [if_pos (by omega), if_pos (by omega)]
  simp [h]
theorem no_bad {xs : List Int} {i : Nat} (c : cutI (escP xs) (some (0 + (i : Int))) (some (0 + (i : Int) + 2)) = [0, 0]) (hi : i < ((escP xs).length - 2 : Int).toNat) : ¬ (itI (escP xs) (0 + (i : Int) + 2) ≤ 2) := by
  obtain ⟨a, b⟩ := cut_two (by omega) c
  have hk : i + 2 < (escP xs).length := by omega
  have e3 := List.getElem?_eq_getElem hk
  have h := okZ_at (escP xs) 0 (by decide) (by decide) (by
    unfold escP
    rw [esc_fold_R]
    exact ok_escR xs 0 (by decide) (by decide)) i a b _ e3
  rw [show (0 + (i : Int) + 2) = ((i + 2 : Nat) : Int) by omega, itI_nat e3]
  omega
theorem some_le (c s : Int) : (someI c (s % 61)).length ≤ 61 := by
  rw [some_len]
  omega
theorem escR_len : ∀ (xs : List Int) (z : Int), (escR xs z).length ≤ 2 * xs.length
  | [], _ => by simp [escR]
  | o :: xs, z => by
    unfold escR
    split
    · have := escR_len xs (if o = 0 then 0 + 1 else 0)
      simp only [List.length_cons]
      omega
    · have := escR_len xs (if o = 0 then z + 1 else 0)
      simp only [List.length_cons]
      omega
theorem escP_len (xs : List Int) : (escP xs).length ≤ 2 * xs.length := by
  unfold escP
  rw [esc_fold_R]
  simpa using escR_len xs 0

end Vx
namespace Vx
open PySem PySem.Spec PyProof.Rows L2
def topS (i : Nat) : Stmt := PySem.Challenge.pw_thaumatrope_k08_octets_escaped.main.body.getD i (.Pass ⟨0, 0, 0, 0⟩)
abbrev s_escape : Stmt := topS 2
abbrev s_unescape : Stmt := topS 3
abbrev s__law_cell : Stmt := topS 5
abbrev s__law_draws : Stmt := topS 6
abbrev s__law_escape : Stmt := topS 7
abbrev s__law_unescape : Stmt := topS 8
abbrev s__law_some : Stmt := topS 9
abbrev s_law : Stmt := topS 10
structure Txt (K : PySem.W.Frag) (mg : Str → Option Value) : Prop where
  g_ESCAPE : ∃ u, mg "ESCAPE" = some u ∧ RelV (V.int 3) u
  b_len : mg "len" = none
  b_int : mg "int" = none
  b_abs : mg "abs" = none
  b_list : mg "list" = none
  b_isinstance : mg "isinstance" = none
  b_range : mg "range" = none
def sp_escape (K : PySem.W.Frag) : Sp := fun vs H Q _ => ∃ (a_octets : Addr) (octets : List Int), vs = [.ref a_octets] ∧ SqL K H a_octets (octets.map V.int) ∧ (octets.length ≤ 100000) ∧ ∀ p H', H p = none → Same H H' → H' p = some (.lst ((escP octets : List Int).map V.int)) → Q (.ref p) H'
def sp_unescape (K : PySem.W.Frag) : Sp := fun vs H Q _ => ∃ (a_octets : Addr) (octets : List Int), vs = [.ref a_octets] ∧ SqL K H a_octets (octets.map V.int) ∧ (octets.length ≤ 200000) ∧ ∀ p H', H p = none → Same H H' → H' p = some (.lst ((uneP octets : List Int).map V.int)) → Q (.ref p) H'
def sp__law_cell (K : PySem.W.Frag) : Sp := fun vs H Q _ => ∃ (a_script : Addr) (script : List Int) (k : Int), vs = [.ref a_script, .int k] ∧ SqL K H a_script (script.map V.int) ∧ (0 ≤ k) ∧ Q (.int (cellI script k)) H
def sp__law_draws (K : PySem.W.Frag) : Sp := fun vs H Q _ => ∃ (cell : Int) (a_limits : Addr) (limits : List Int), vs = [.int cell, .ref a_limits] ∧ SqL K H a_limits (limits.map V.int) ∧ (∀ l ∈ limits, 0 < l ∧ l < 2 ^ 128) ∧ (limits.length ≤ 100000) ∧ ∀ p H', H p = none → Same H H' → H' p = some (.lst ((draws cell limits : List Int).map V.int)) → Q (.ref p) H'
def sp__law_escape (K : PySem.W.Frag) : Sp := fun vs H Q _ => ∃ (a_octets : Addr) (octets : List Int), vs = [.ref a_octets] ∧ SqL K H a_octets (octets.map V.int) ∧ (octets.length ≤ 100000) ∧ ∀ p H', H p = none → Same H H' → H' p = some (.lst ((escL octets : List Int).map V.int)) → Q (.ref p) H'
def sp__law_unescape (K : PySem.W.Frag) : Sp := fun vs H Q _ => ∃ (a_octets : Addr) (octets : List Int), vs = [.ref a_octets] ∧ SqL K H a_octets (octets.map V.int) ∧ (octets.length ≤ 200000) ∧ ∀ p H', H p = none → Same H H' → H' p = some (.lst ((uneL octets : List Int).map V.int)) → Q (.ref p) H'
def sp__law_some (K : PySem.W.Frag) : Sp := fun vs H Q _ => ∃ (cell : Int) (size : Int), vs = [.int cell, .int size] ∧ (0 ≤ size) ∧ (size ≤ 1000) ∧ ∀ p H', H p = none → Same H H' → H' p = some (.lst ((someI cell size : List Int).map V.int)) → Q (.ref p) H'
def sp_law (K : PySem.W.Frag) : Sp := fun vs H Q _ => ∃ (a_script : Addr) (script : List Int), vs = [.ref a_script] ∧ SqL K H a_script (script.map V.int) ∧ script.length ≤ 63 ∧ ∀ H', Q (.bl true) H'
section
variable {P : Program} {w : World} {K : PySem.W.Frag} {mg : Str → Option Value} {base : Heap}
abbrev N_escape : List Str := ["octets", "escaped", "zeros", "octet"]
theorem sc_escape : FnScope N_escape ["octets"] (defScope s_escape) := ⟨rfl, rfl, rfl, by decide +kernel, rfl, by decide +kernel, by decide +kernel⟩
theorem ok_escape (D : DefIn K mg "escape" s_escape ["octets"]) (T : Txt K mg)  : Cal P w K mg base 1 "escape" (sp_escape K) := by
  refine D.ok sc_escape (fun vs H Q E h => ?_) (fun f cdv A outer s H vs Q E hr h => ?_)
  · obtain ⟨a_octets, octets, rfl, _⟩ := h
    rfl
  · obtain ⟨a_octets, octets, rfl, q_octets, pre0, k⟩ := h
    refine ⟨_, (pss_cons (ps_set (i := 1) (sc_escape).nd rfl (Or.inl rfl) (pe_lst pa_nil))
      (pss_cons (ps_set (i := 2) (sc_escape).nd rfl (Or.inl rfl) pe_int)
      (pss_cons (ps_for PassesOwn.never rfl (pi_listK (K := K) (pv 0)) (pg_name (i := 3) (sc_escape).nd rfl (Or.inl rfl)) (pss_cons (ps_if (PW.pt (pw_and (pt_cmp (pc_eqI (pv 2) pe_int)) (pw_and1 (pt_cmp (pc_le (pv 3) (C8.pe_gc rfl T.g_ESCAPE)))))) (pss_cons (ps_expr (pe_bm PySem.F.plainAttrs_list PySem.F.slot_list_append PySem.F.type_list_append mt_append (pv 1) (pa_cons (C8.pe_gc rfl T.g_ESCAPE) pa_nil)))
      (pss_one (ps_set (i := 2) (sc_escape).nd rfl (Or.inl rfl) pe_int))) pss_nil)
      (pss_cons (ps_expr (pe_bm PySem.F.plainAttrs_list PySem.F.slot_list_append PySem.F.type_list_append mt_append (pv 1) (pa_cons (pv 3) pa_nil)))
      (pss_one (ps_set (i := 2) (sc_escape).nd rfl (Or.inl rfl) (pe_ifExp (pt_cmp (pc_eqI (pv 3) pe_int)) (pe_op op_add (pv 2) pe_int) pe_int))))))
      (pss_one (ps_ret (pv 1)))))), ?_⟩
    refine ⟨(by show 0 ≤ sizeLine; decide), fun p1 n2 => ?_⟩
    generalize g3 : upd H p1 _ = H4
    obtain ⟨e6, h5⟩ := gen_new n2 g3
    have fr7 := (Same.refl H).free n2
    have B8 := (Same.refl H).trans e6
    have h9 : H4 p1 = some (.lst (([] : List Int).map V.int)) := h5
    refine ⟨_, rfl, _, rfl, ⟨_, (B8.seq q_octets)⟩, for_list (K := K) (a := a_octets) (xs := (octets).map V.int) (fun i σ H' => ∃ (escaped : List Int) (zeros : Int) (u_octet : Option V), σ = [some (V.ref a_octets), some (V.ref p1), some (V.int zeros), u_octet] ∧ Same H H' ∧ H' p1 = some (.lst ((escaped : List Int).map V.int)) ∧ (escaped.length ≤ 2 * i ∧ (escaped, zeros) = (octets.take i).foldl escStep ([], 0))) ?_ ?_ ?_ ?_⟩
    · refine ⟨_, _, _, rfl, B8, h9, ?_⟩
      exact ⟨by simp, rfl⟩
    · intro i σ H10 _ hw
      obtain ⟨escaped, zeros, u_octet, rfl, B11, h12, hu⟩ := hw
      exact (B11.seq q_octets)
    · intro i x σ H13 hj hw
      obtain ⟨escaped, zeros, u_octet, rfl, B14, h15, hu⟩ := hw
      obtain ⟨octet, hi, rfl⟩ := map_get hj
      obtain ⟨hl, hf⟩ := hu; have hi1 := get_len hi
      refine ⟨_, rfl, _, _, rfl, rfl, _, rfl, ?_⟩
      refine iteD (fun c16 => ?_) (fun c16 => ?_)
      · refine ⟨_, rfl, _, _, rfl, rfl, _, rfl, ?_⟩
        refine iteD (fun c17 => ?_) (fun c17 => ?_)
        · refine ⟨_, rfl, (.inl ⟨rfl, _, SqL.of h15⟩), _, _, _, rfl, rfl, h15, (by first | exact small (by simp only [List.length_map, List.length_append, List.length_take, List.length_cons, List.length_nil]; omega) | exact smallE (by simp only [List.length_map, List.length_append, List.length_take, List.length_cons, List.length_nil]; omega)), ?_⟩
          generalize g19 : upd H13 p1 _ = H20
          obtain ⟨x18, h21⟩ := gen_mut g19
          have B23 := same_mut B14 x18 fr7
          have h22 : H20 p1 = some (.lst (((escaped) ++ [3] : List Int).map V.int)) := snoc_int h21
          refine ⟨_, rfl, (.inl ⟨rfl, _, SqL.of h22⟩), _, rfl, _, _, _, rfl, rfl, h22, (by first | exact small (by simp only [List.length_map, List.length_append, List.length_take, List.length_cons, List.length_nil]; omega) | exact smallE (by simp only [List.length_map, List.length_append, List.length_take, List.length_cons, List.length_nil]; omega)), ?_⟩
          generalize g25 : upd H20 p1 _ = H26
          obtain ⟨x24, h27⟩ := gen_mut g25
          have B29 := same_mut B23 x24 fr7
          have h28 : H26 p1 = some (.lst ((((escaped) ++ [3]) ++ [octet] : List Int).map V.int)) := snoc_int h27
          refine vv_if (vt_cmp (vv_cmp (val_var rfl) val_c (fun Q q => ⟨_, _, rfl, rfl, q⟩))) (val_op (val_var rfl) val_c (fun Q q => ⟨_, _, rfl, rfl, q⟩)) val_c _ ?_
          refine ⟨_, _, _, rfl, B29, h28, ?_⟩
          refine ⟨by simp only [List.length_append, List.length_cons, List.length_nil]; omega, ?_⟩; rw [take_succ_get hi, List.foldl_append, ← hf]; clear hf; simp [escStep, *]
        · refine ⟨_, rfl, (.inl ⟨rfl, _, SqL.of h15⟩), _, rfl, _, _, _, rfl, rfl, h15, (by first | exact small (by simp only [List.length_map, List.length_append, List.length_take, List.length_cons, List.length_nil]; omega) | exact smallE (by simp only [List.length_map, List.length_append, List.length_take, List.length_cons, List.length_nil]; omega)), ?_⟩
          generalize g31 : upd H13 p1 _ = H32
          obtain ⟨x30, h33⟩ := gen_mut g31
          have B35 := same_mut B14 x30 fr7
          have h34 : H32 p1 = some (.lst (((escaped) ++ [octet] : List Int).map V.int)) := snoc_int h33
          refine vv_if (vt_cmp (vv_cmp (val_var rfl) val_c (fun Q q => ⟨_, _, rfl, rfl, q⟩))) (val_op (val_var rfl) val_c (fun Q q => ⟨_, _, rfl, rfl, q⟩)) val_c _ ?_
          refine ⟨_, _, _, rfl, B35, h34, ?_⟩
          refine ⟨by simp only [List.length_append, List.length_cons, List.length_nil]; omega, ?_⟩; rw [take_succ_get hi, List.foldl_append, ← hf]; clear hf; simp [escStep, *]
      · refine iteF ?_
        refine ⟨_, rfl, (.inl ⟨rfl, _, SqL.of h15⟩), _, rfl, _, _, _, rfl, rfl, h15, (by first | exact small (by simp only [List.length_map, List.length_append, List.length_take, List.length_cons, List.length_nil]; omega) | exact smallE (by simp only [List.length_map, List.length_append, List.length_take, List.length_cons, List.length_nil]; omega)), ?_⟩
        generalize g37 : upd H13 p1 _ = H38
        obtain ⟨x36, h39⟩ := gen_mut g37
        have B41 := same_mut B14 x36 fr7
        have h40 : H38 p1 = some (.lst (((escaped) ++ [octet] : List Int).map V.int)) := snoc_int h39
        refine vv_if (vt_cmp (vv_cmp (val_var rfl) val_c (fun Q q => ⟨_, _, rfl, rfl, q⟩))) (val_op (val_var rfl) val_c (fun Q q => ⟨_, _, rfl, rfl, q⟩)) val_c _ ?_
        refine ⟨_, _, _, rfl, B41, h40, ?_⟩
        refine ⟨by simp only [List.length_append, List.length_cons, List.length_nil]; omega, ?_⟩; rw [take_succ_get hi, List.foldl_append, ← hf]; clear hf; simp [escStep, *]
    · intro σ H42 hw
      obtain ⟨escaped, zeros, u_octet, rfl, B43, h44, hu⟩ := hw
      obtain ⟨hl, hf⟩ := hu
      refine ⟨_, rfl, ?_⟩
      exact k _ _ fr7 B43 (cast_lst h44 (by unfold escP; rw [List.length_map, List.take_length] at hf; rw [← hf]))

abbrev N_unescape : List Str := ["octets", "kept", "zeros", "octet"]
theorem sc_unescape : FnScope N_unescape ["octets"] (defScope s_unescape) := ⟨rfl, rfl, rfl, by decide +kernel, rfl, by decide +kernel, by decide +kernel⟩
theorem ok_unescape (D : DefIn K mg "unescape" s_unescape ["octets"]) (T : Txt K mg)  : Cal P w K mg base 1 "unescape" (sp_unescape K) := by
  refine D.ok sc_unescape (fun vs H Q E h => ?_) (fun f cdv A outer s H vs Q E hr h => ?_)
  · obtain ⟨a_octets, octets, rfl, _⟩ := h
    rfl
  · obtain ⟨a_octets, octets, rfl, q_octets, pre0, k⟩ := h
    refine ⟨_, (pss_cons (ps_set (i := 1) (sc_unescape).nd rfl (Or.inl rfl) (pe_lst pa_nil))
      (pss_cons (ps_set (i := 2) (sc_unescape).nd rfl (Or.inl rfl) pe_int)
      (pss_cons (ps_for PassesOwn.never rfl (pi_listK (K := K) (pv 0)) (pg_name (i := 3) (sc_unescape).nd rfl (Or.inl rfl)) (pss_one (ps_if (PW.pt (pw_and (pt_cmp (pc_ge (pv 2) pe_int)) (pw_and1 (pt_cmp (pc_eqI (pv 3) (C8.pe_gc rfl T.g_ESCAPE)))))) (pss_one (ps_set (i := 2) (sc_unescape).nd rfl (Or.inl rfl) pe_int)) (pss_cons (ps_expr (pe_bm PySem.F.plainAttrs_list PySem.F.slot_list_append PySem.F.type_list_append mt_append (pv 1) (pa_cons (pv 3) pa_nil)))
      (pss_one (ps_set (i := 2) (sc_unescape).nd rfl (Or.inl rfl) (pe_ifExp (pt_cmp (pc_eqI (pv 3) pe_int)) (pe_op op_add (pv 2) pe_int) pe_int)))))))
      (pss_one (ps_ret (pv 1)))))), ?_⟩
    refine ⟨(by show 0 ≤ sizeLine; decide), fun p45 n46 => ?_⟩
    generalize g47 : upd H p45 _ = H48
    obtain ⟨e50, h49⟩ := gen_new n46 g47
    have fr51 := (Same.refl H).free n46
    have B52 := (Same.refl H).trans e50
    have h53 : H48 p45 = some (.lst (([] : List Int).map V.int)) := h49
    refine ⟨_, rfl, _, rfl, ⟨_, (B52.seq q_octets)⟩, for_list (K := K) (a := a_octets) (xs := (octets).map V.int) (fun i σ H' => ∃ (kept : List Int) (zeros : Int) (u_octet : Option V), σ = [some (V.ref a_octets), some (V.ref p45), some (V.int zeros), u_octet] ∧ Same H H' ∧ H' p45 = some (.lst ((kept : List Int).map V.int)) ∧ (kept.length ≤ i ∧ (kept, zeros) = (octets.take i).foldl uneStep ([], 0))) ?_ ?_ ?_ ?_⟩
    · refine ⟨_, _, _, rfl, B52, h53, ?_⟩
      exact ⟨by simp, rfl⟩
    · intro i σ H54 _ hw
      obtain ⟨kept, zeros, u_octet, rfl, B55, h56, hu⟩ := hw
      exact (B55.seq q_octets)
    · intro i x σ H57 hj hw
      obtain ⟨kept, zeros, u_octet, rfl, B58, h59, hu⟩ := hw
      obtain ⟨octet, hi, rfl⟩ := map_get hj
      obtain ⟨hl, hf⟩ := hu; have hi1 := get_len hi
      refine ⟨_, rfl, _, _, rfl, rfl, _, rfl, ?_⟩
      refine iteD (fun c60 => ?_) (fun c60 => ?_)
      · refine ⟨_, rfl, _, _, rfl, rfl, _, rfl, ?_⟩
        refine iteD (fun c61 => ?_) (fun c61 => ?_)
        · refine ⟨_, _, _, rfl, B58, h59, ?_⟩
          refine ⟨by (try simp only [List.length_append, List.length_cons, List.length_nil]); omega, ?_⟩; rw [take_succ_get hi, List.foldl_append, ← hf]; clear hf; simp [uneStep, *]
        · refine ⟨_, rfl, (.inl ⟨rfl, _, SqL.of h59⟩), _, rfl, _, _, _, rfl, rfl, h59, (by first | exact small (by simp only [List.length_map, List.length_append, List.length_take, List.length_cons, List.length_nil]; omega) | exact smallE (by simp only [List.length_map, List.length_append, List.length_take, List.length_cons, List.length_nil]; omega)), ?_⟩
          generalize g63 : upd H57 p45 _ = H64
          obtain ⟨x62, h65⟩ := gen_mut g63
          have B67 := same_mut B58 x62 fr51
          have h66 : H64 p45 = some (.lst (((kept) ++ [octet] : List Int).map V.int)) := snoc_int h65
          refine vv_if (vt_cmp (vv_cmp (val_var rfl) val_c (fun Q q => ⟨_, _, rfl, rfl, q⟩))) (val_op (val_var rfl) val_c (fun Q q => ⟨_, _, rfl, rfl, q⟩)) val_c _ ?_
          refine ⟨_, _, _, rfl, B67, h66, ?_⟩
          refine ⟨by (try simp only [List.length_append, List.length_cons, List.length_nil]); omega, ?_⟩; rw [take_succ_get hi, List.foldl_append, ← hf]; clear hf; simp [uneStep, *]
      · refine iteF ?_
        refine ⟨_, rfl, (.inl ⟨rfl, _, SqL.of h59⟩), _, rfl, _, _, _, rfl, rfl, h59, (by first | exact small (by simp only [List.length_map, List.length_append, List.length_take, List.length_cons, List.length_nil]; omega) | exact smallE (by simp only [List.length_map, List.length_append, List.length_take, List.length_cons, List.length_nil]; omega)), ?_⟩
        generalize g69 : upd H57 p45 _ = H70
        obtain ⟨x68, h71⟩ := gen_mut g69
        have B73 := same_mut B58 x68 fr51
        have h72 : H70 p45 = some (.lst (((kept) ++ [octet] : List Int).map V.int)) := snoc_int h71
        refine vv_if (vt_cmp (vv_cmp (val_var rfl) val_c (fun Q q => ⟨_, _, rfl, rfl, q⟩))) (val_op (val_var rfl) val_c (fun Q q => ⟨_, _, rfl, rfl, q⟩)) val_c _ ?_
        refine ⟨_, _, _, rfl, B73, h72, ?_⟩
        refine ⟨by (try simp only [List.length_append, List.length_cons, List.length_nil]); omega, ?_⟩; rw [take_succ_get hi, List.foldl_append, ← hf]; clear hf; simp [uneStep, *]
    · intro σ H74 hw
      obtain ⟨kept, zeros, u_octet, rfl, B75, h76, hu⟩ := hw
      obtain ⟨hl, hf⟩ := hu
      refine ⟨_, rfl, ?_⟩
      exact k _ _ fr51 B75 (cast_lst h76 (by unfold uneP; rw [List.length_map, List.take_length] at hf; rw [← hf]))

abbrev N__law_cell : List Str := ["script", "k"]
theorem sc__law_cell : FnScope N__law_cell ["script", "k"] (defScope s__law_cell) := ⟨rfl, rfl, rfl, by decide +kernel, rfl, by decide +kernel, by decide +kernel⟩
theorem ok__law_cell (D : DefIn K mg "_law_cell" s__law_cell ["script", "k"]) (T : Txt K mg)  : Cal P w K mg base 1 "_law_cell" (sp__law_cell K) := by
  refine D.ok sc__law_cell (fun vs H Q E h => ?_) (fun f cdv A outer s H vs Q E hr h => ?_)
  · obtain ⟨a_script, script, k, rfl, _⟩ := h
    rfl
  · obtain ⟨a_script, script, k, rfl, q_script, pre0, k⟩ := h
    refine ⟨_, (pss_cons (ps_if (pt_cmp (pc_lt (pv 1) (pe_callB (call_lenLiK (K := K)) (by rfl) T.b_len (by decide +kernel) (pa_cons (pv 0) pa_nil)))) (pss_one (ps_ret (pe_callTy call_int1 (by rfl) T.b_int (by decide +kernel) (pa_cons (pe_ix (ix_listK (K := K)) (pv 0) (pv 1) (fun _ _ => rfl)) pa_nil)))) pss_nil)
      (pss_one (ps_ret pe_int))), ?_⟩
    refine ⟨_, rfl, _, rfl, _, _, rfl, ((Same.refl H).seq q_script), _, _, rfl, rfl, _, rfl, ?_⟩
    refine iteD (fun c77 => ?_) (fun c77 => ?_)
    · refine ⟨_, rfl, _, rfl, _, _, _, _, rfl, rfl, ((Same.refl H).seq q_script), (atI_int (by omega)), .inl ⟨_, rfl, ?_⟩⟩
      exact eq_int k (by unfold cellI; rw [if_pos ‹_›])
    · exact eq_int k (by unfold cellI; rw [if_neg ‹_›])

abbrev N__law_draws : List Str := ["cell", "limits", "found", "rest", "state", "free", "limit"]
theorem sc__law_draws : FnScope N__law_draws ["cell", "limits"] (defScope s__law_draws) := ⟨rfl, rfl, rfl, by decide +kernel, rfl, by decide +kernel, by decide +kernel⟩
theorem ok__law_draws (D : DefIn K mg "_law_draws" s__law_draws ["cell", "limits"]) (T : Txt K mg)  : Cal P w K mg base 1 "_law_draws" (sp__law_draws K) := by
  refine D.ok sc__law_draws (fun vs H Q E h => ?_) (fun f cdv A outer s H vs Q E hr h => ?_)
  · obtain ⟨cell, a_limits, limits, rfl, _⟩ := h
    rfl
  · obtain ⟨cell, a_limits, limits, rfl, q_limits, pre0, pre1, k⟩ := h
    refine ⟨_, (pss_cons (ps_set (i := 2) (sc__law_draws).nd rfl (Or.inl rfl) (pe_lst pa_nil))
      (pss_cons (ps_set (i := 3) (sc__law_draws).nd rfl (Or.inl rfl) (pe_callB call_abs (by rfl) T.b_abs (by decide +kernel) (pa_cons (pe_callTy call_int1 (by rfl) T.b_int (by decide +kernel) (pa_cons (pv 0) pa_nil)) pa_nil)))
      (pss_cons (ps_set (i := 4) (sc__law_draws).nd rfl (Or.inl rfl) (pe_op op_mod (pe_callTy call_int1 (by rfl) T.b_int (by decide +kernel) (pa_cons (pv 3) pa_nil)) pe_int))
      (pss_cons (ps_set (i := 5) (sc__law_draws).nd rfl (Or.inl rfl) (pe_or (pe_cmp (pc_lt (pv 0) pe_int)) (pe_one (pe_cmp (pc_ge (pv 0) (pe_op op_pow pe_int pe_int))))))
      (pss_cons (ps_for PassesOwn.never rfl (pi_listK (K := K) (pv 1)) (pg_name (i := 6) (sc__law_draws).nd rfl (Or.inl rfl)) (pss_one (ps_if (PW.pt (pw_and (pt_val (pv 5)) (pw_and1 (pt_cmp (pc_gt (pv 3) pe_int))))) (pss_cons (ps_expr (pe_bm PySem.F.plainAttrs_list PySem.F.slot_list_append PySem.F.type_list_append mt_append (pv 2) (pa_cons (pe_op op_mod (pe_callTy call_int1 (by rfl) T.b_int (by decide +kernel) (pa_cons (pv 3) pa_nil)) (pv 6)) pa_nil)))
      (pss_one (ps_set (i := 3) (sc__law_draws).nd rfl (Or.inl rfl) (pe_op op_fdivW (pv 3) (pv 6))))) (pss_cons (ps_set (i := 4) (sc__law_draws).nd rfl (Or.inl rfl) (pe_op op_mod (pe_callTy call_int1 (by rfl) T.b_int (by decide +kernel) (pa_cons (pe_op op_add (pe_op op_mul (pv 4) pe_int) pe_int) pa_nil)) pe_int))
      (pss_cons (ps_set (i := 4) (sc__law_draws).nd rfl (Or.inl rfl) (pe_op op_mod (pe_callTy call_int1 (by rfl) T.b_int (by decide +kernel) (pa_cons (pe_op op_add (pe_op op_mul (pv 4) pe_int) pe_int) pa_nil)) pe_int))
      (pss_one (ps_expr (pe_bm PySem.F.plainAttrs_list PySem.F.slot_list_append PySem.F.type_list_append mt_append (pv 2) (pa_cons (pe_op op_mod (pe_callTy call_int1 (by rfl) T.b_int (by decide +kernel) (pa_cons (pe_op op_fdivW (pv 4) pe_int) pa_nil)) (pv 6)) pa_nil)))))))))
      (pss_one (ps_ret (pv 2)))))))), ?_⟩
    refine ⟨(by show 0 ≤ sizeLine; decide), fun p78 n79 => ?_⟩
    generalize g80 : upd H p78 _ = H81
    obtain ⟨e83, h82⟩ := gen_new n79 g80
    have fr84 := (Same.refl H).free n79
    have B85 := (Same.refl H).trans e83
    have h86 : H81 p78 = some (.lst (([] : List Int).map V.int)) := h82
    refine ⟨_, rfl, .inl ⟨_, rfl, ?_⟩⟩
    refine ⟨_, rfl, _, rfl, .inl ⟨_, rfl, ?_⟩⟩
    refine ⟨_, _, rfl, rfl, (by first | omega | decide), ?_⟩
    refine (vv_or (vv_cmp (val_var rfl) val_c (fun Q q => ⟨_, _, rfl, rfl, q⟩)) (vv_cmp (val_var rfl) (val_op val_c val_c (fun Q q => ⟨_, _, rfl, rfl, (by exact ⟨by decide, by decide, by decide⟩), q⟩)) (fun Q q => ⟨_, _, rfl, rfl, q⟩))) _ ?_
    refine ⟨_, rfl, _, rfl, ⟨_, (B85.seq q_limits)⟩, for_list (K := K) (a := a_limits) (xs := (limits).map V.int) (fun i σ H' => ∃ (found : List Int) (rest : Int) (state : Int) (u_limit : Option V), σ = [some (V.int (cell)), some (V.ref a_limits), some (V.ref p78), some (V.int rest), some (V.int state), some (V.bl ((decide (cell < 0) || decide (((10 : Int) ^ (18 : Int).toNat) ≤ cell)))), u_limit] ∧ Same H H' ∧ H' p78 = some (.lst ((found : List Int).map V.int)) ∧ (found.length = i ∧ (found, rest, state) = (limits.take i).foldl (drawStep (decide (cell < 0) || decide ((10 : Int) ^ (18 : Int).toNat ≤ cell))) ([], (if cell < 0 then -cell else cell), (if cell < 0 then -cell else cell) % 2147483647))) ?_ ?_ ?_ ?_⟩
    · refine ⟨_, _, _, _, rfl, B85, h86, ?_⟩
      exact ⟨rfl, rfl⟩
    · intro i σ H87 _ hw
      obtain ⟨found, rest, state, u_limit, rfl, B88, h89, hu⟩ := hw
      exact (B88.seq q_limits)
    · intro i x σ H90 hj hw
      obtain ⟨found, rest, state, u_limit, rfl, B91, h92, hu⟩ := hw
      obtain ⟨limit, hi, rfl⟩ := map_get hj
      obtain ⟨hl, hf⟩ := hu; have hi1 := get_len hi; have hlim := pre0 _ (List.mem_of_getElem? hi)
      refine ⟨_, rfl, _, rfl, ?_⟩
      refine iteB (fun c93 => ?_) (fun c93 => ?_)
      · refine ⟨_, rfl, _, _, rfl, rfl, _, rfl, ?_⟩
        refine iteD (fun c94 => ?_) (fun c94 => ?_)
        · refine ⟨_, rfl, (.inl ⟨rfl, _, SqL.of h92⟩), _, rfl, .inl ⟨_, rfl, ?_⟩⟩
          refine ⟨_, rfl, _, _, rfl, rfl, (by first | omega | decide), _, _, _, rfl, rfl, h92, (by first | exact small (by simp only [List.length_map, List.length_append, List.length_take, List.length_cons, List.length_nil]; omega) | exact smallE (by simp only [List.length_map, List.length_append, List.length_take, List.length_cons, List.length_nil]; omega)), ?_⟩
          generalize g96 : upd H90 p78 _ = H97
          obtain ⟨x95, h98⟩ := gen_mut g96
          have B100 := same_mut B91 x95 fr84
          have h99 : H97 p78 = some (.lst (((found) ++ [(rest % limit)] : List Int).map V.int)) := snoc_int h98
          refine ⟨_, rfl, _, rfl, _, _, rfl, rfl, (by exact divW_small (by omega) (by omega)), ?_⟩
          refine ⟨_, _, _, _, rfl, B100, h99, ?_⟩
          refine ⟨by rw [List.length_append, hl] <;> rfl, ?_⟩; rw [take_succ_get hi, List.foldl_append, ← hf]; clear hf; simp only [List.foldl_cons, List.foldl_nil]; unfold drawStep; split <;> simp_all <;> omega
        · refine ⟨_, rfl, _, _, rfl, rfl, (by first | exact .inr ⟨by omega, by omega⟩ | exact .inl ⟨by omega, by omega⟩), _, _, rfl, rfl, .inl ⟨_, rfl, ?_⟩⟩
          refine ⟨_, _, rfl, rfl, (by first | omega | decide), _, rfl, _, _, rfl, rfl, (by first | exact .inr ⟨by omega, by omega⟩ | exact .inl ⟨by omega, by omega⟩), _, _, rfl, rfl, .inl ⟨_, rfl, ?_⟩⟩
          refine ⟨_, _, rfl, rfl, (by first | omega | decide), _, rfl, (.inl ⟨rfl, _, SqL.of h92⟩), _, rfl, _, _, rfl, rfl, (by first | exact divW_lit (by decide) (by decide) | exact divW_small (by omega) (by omega)), .inl ⟨_, rfl, ?_⟩⟩
          refine ⟨_, rfl, _, _, rfl, rfl, (by first | omega | decide), _, _, _, rfl, rfl, h92, (by first | exact small (by simp only [List.length_map, List.length_append, List.length_take, List.length_cons, List.length_nil]; omega) | exact smallE (by simp only [List.length_map, List.length_append, List.length_take, List.length_cons, List.length_nil]; omega)), ?_⟩
          generalize g102 : upd H90 p78 _ = H103
          obtain ⟨x101, h104⟩ := gen_mut g102
          have B106 := same_mut B91 x101 fr84
          have h105 : H103 p78 = some (.lst (((found) ++ [((((((((state * 48271) + 11) % 2147483647) * 69621) + 7) % 2147483647) / 13) % limit)] : List Int).map V.int)) := snoc_int h104
          refine ⟨_, _, _, _, rfl, B106, h105, ?_⟩
          refine ⟨by rw [List.length_append, hl] <;> rfl, ?_⟩; rw [take_succ_get hi, List.foldl_append, ← hf]; clear hf; simp only [List.foldl_cons, List.foldl_nil]; unfold drawStep; split <;> simp_all <;> omega
      · refine iteF ?_
        refine ⟨_, rfl, _, _, rfl, rfl, (by first | exact .inr ⟨by omega, by omega⟩ | exact .inl ⟨by omega, by omega⟩), _, _, rfl, rfl, .inl ⟨_, rfl, ?_⟩⟩
        refine ⟨_, _, rfl, rfl, (by first | omega | decide), _, rfl, _, _, rfl, rfl, (by first | exact .inr ⟨by omega, by omega⟩ | exact .inl ⟨by omega, by omega⟩), _, _, rfl, rfl, .inl ⟨_, rfl, ?_⟩⟩
        refine ⟨_, _, rfl, rfl, (by first | omega | decide), _, rfl, (.inl ⟨rfl, _, SqL.of h92⟩), _, rfl, _, _, rfl, rfl, (by first | exact divW_lit (by decide) (by decide) | exact divW_small (by omega) (by omega)), .inl ⟨_, rfl, ?_⟩⟩
        refine ⟨_, rfl, _, _, rfl, rfl, (by first | omega | decide), _, _, _, rfl, rfl, h92, (by first | exact small (by simp only [List.length_map, List.length_append, List.length_take, List.length_cons, List.length_nil]; omega) | exact smallE (by simp only [List.length_map, List.length_append, List.length_take, List.length_cons, List.length_nil]; omega)), ?_⟩
        generalize g108 : upd H90 p78 _ = H109
        obtain ⟨x107, h110⟩ := gen_mut g108
        have B112 := same_mut B91 x107 fr84
        have h111 : H109 p78 = some (.lst (((found) ++ [((((((((state * 48271) + 11) % 2147483647) * 69621) + 7) % 2147483647) / 13) % limit)] : List Int).map V.int)) := snoc_int h110
        refine ⟨_, _, _, _, rfl, B112, h111, ?_⟩
        refine ⟨by rw [List.length_append, hl] <;> rfl, ?_⟩; rw [take_succ_get hi, List.foldl_append, ← hf]; clear hf; simp only [List.foldl_cons, List.foldl_nil]; unfold drawStep; split <;> simp_all <;> omega
    · intro σ H113 hw
      obtain ⟨found, rest, state, u_limit, rfl, B114, h115, hu⟩ := hw
      obtain ⟨hl, hf⟩ := hu
      refine ⟨_, rfl, ?_⟩
      exact k _ _ fr84 B114 (cast_lst h115 (by unfold draws; rw [List.length_map, List.take_length] at hf; rw [← hf]))

abbrev N__law_escape : List Str := ["octets", "found", "zeros", "octet"]
theorem sc__law_escape : FnScope N__law_escape ["octets"] (defScope s__law_escape) := ⟨rfl, rfl, rfl, by decide +kernel, rfl, by decide +kernel, by decide +kernel⟩
theorem ok__law_escape (D : DefIn K mg "_law_escape" s__law_escape ["octets"]) (T : Txt K mg)  : Cal P w K mg base 1 "_law_escape" (sp__law_escape K) := by
  refine D.ok sc__law_escape (fun vs H Q E h => ?_) (fun f cdv A outer s H vs Q E hr h => ?_)
  · obtain ⟨a_octets, octets, rfl, _⟩ := h
    rfl
  · obtain ⟨a_octets, octets, rfl, q_octets, pre0, k⟩ := h
    refine ⟨_, (pss_cons (ps_set (i := 1) (sc__law_escape).nd rfl (Or.inl rfl) (pe_lst pa_nil))
      (pss_cons (ps_set (i := 2) (sc__law_escape).nd rfl (Or.inl rfl) pe_int)
      (pss_cons (ps_for PassesOwn.never rfl (pi_listK (K := K) (pv 0)) (pg_name (i := 3) (sc__law_escape).nd rfl (Or.inl rfl)) (pss_cons (ps_if (PW.pt (pw_and (pt_cmp (pc_ge (pv 2) pe_int)) (pw_and1 (pt_cmp (pc_le (pv 3) pe_int))))) (pss_cons (ps_expr (pe_bm PySem.F.plainAttrs_list PySem.F.slot_list_append PySem.F.type_list_append mt_append (pv 1) (pa_cons pe_int pa_nil)))
      (pss_one (ps_set (i := 2) (sc__law_escape).nd rfl (Or.inl rfl) pe_int))) pss_nil)
      (pss_cons (ps_expr (pe_bm PySem.F.plainAttrs_list PySem.F.slot_list_append PySem.F.type_list_append mt_append (pv 1) (pa_cons (pv 3) pa_nil)))
      (pss_one (ps_set (i := 2) (sc__law_escape).nd rfl (Or.inl rfl) (pe_op op_mul (pe_op op_add (pv 2) pe_int) (pe_callTy call_int1 (by rfl) T.b_int (by decide +kernel) (pa_cons (pe_cmp (pc_eqI (pv 3) pe_int)) pa_nil))))))))
      (pss_one (ps_ret (pv 1)))))), ?_⟩
    refine ⟨(by show 0 ≤ sizeLine; decide), fun p116 n117 => ?_⟩
    generalize g118 : upd H p116 _ = H119
    obtain ⟨e121, h120⟩ := gen_new n117 g118
    have fr122 := (Same.refl H).free n117
    have B123 := (Same.refl H).trans e121
    have h124 : H119 p116 = some (.lst (([] : List Int).map V.int)) := h120
    refine ⟨_, rfl, _, rfl, ⟨_, (B123.seq q_octets)⟩, for_list (K := K) (a := a_octets) (xs := (octets).map V.int) (fun i σ H' => ∃ (found : List Int) (zeros : Int) (u_octet : Option V), σ = [some (V.ref a_octets), some (V.ref p116), some (V.int zeros), u_octet] ∧ Same H H' ∧ H' p116 = some (.lst ((found : List Int).map V.int)) ∧ (found.length ≤ 2 * i ∧ (found, zeros) = (octets.take i).foldl escStepL ([], 0))) ?_ ?_ ?_ ?_⟩
    · refine ⟨_, _, _, rfl, B123, h124, ?_⟩
      exact ⟨by simp, rfl⟩
    · intro i σ H125 _ hw
      obtain ⟨found, zeros, u_octet, rfl, B126, h127, hu⟩ := hw
      exact (B126.seq q_octets)
    · intro i x σ H128 hj hw
      obtain ⟨found, zeros, u_octet, rfl, B129, h130, hu⟩ := hw
      obtain ⟨octet, hi, rfl⟩ := map_get hj
      obtain ⟨hl, hf⟩ := hu; have hi1 := get_len hi
      refine ⟨_, rfl, _, _, rfl, rfl, _, rfl, ?_⟩
      refine iteD (fun c131 => ?_) (fun c131 => ?_)
      · refine ⟨_, rfl, _, _, rfl, rfl, _, rfl, ?_⟩
        refine iteD (fun c132 => ?_) (fun c132 => ?_)
        · refine ⟨_, rfl, (.inl ⟨rfl, _, SqL.of h130⟩), _, _, _, rfl, rfl, h130, (by first | exact small (by simp only [List.length_map, List.length_append, List.length_take, List.length_cons, List.length_nil]; omega) | exact smallE (by simp only [List.length_map, List.length_append, List.length_take, List.length_cons, List.length_nil]; omega)), ?_⟩
          generalize g134 : upd H128 p116 _ = H135
          obtain ⟨x133, h136⟩ := gen_mut g134
          have B138 := same_mut B129 x133 fr122
          have h137 : H135 p116 = some (.lst (((found) ++ [3] : List Int).map V.int)) := snoc_int h136
          refine ⟨_, rfl, (.inl ⟨rfl, _, SqL.of h137⟩), _, rfl, _, _, _, rfl, rfl, h137, (by first | exact small (by simp only [List.length_map, List.length_append, List.length_take, List.length_cons, List.length_nil]; omega) | exact smallE (by simp only [List.length_map, List.length_append, List.length_take, List.length_cons, List.length_nil]; omega)), ?_⟩
          generalize g140 : upd H135 p116 _ = H141
          obtain ⟨x139, h142⟩ := gen_mut g140
          have B144 := same_mut B138 x139 fr122
          have h143 : H141 p116 = some (.lst ((((found) ++ [3]) ++ [octet] : List Int).map V.int)) := snoc_int h142
          refine ⟨_, rfl, _, _, rfl, rfl, _, rfl, _, _, rfl, rfl, .inr ⟨_, rfl, ?_⟩⟩
          refine ⟨_, _, rfl, rfl, (by exact mul_bit _ _), ?_⟩
          refine ⟨_, _, _, rfl, B144, h143, ?_⟩
          refine ⟨by simp only [List.length_append, List.length_cons, List.length_nil]; omega, ?_⟩; rw [take_succ_get hi, List.foldl_append, ← hf]; clear hf; simp [escStepL, *]
        · refine ⟨_, rfl, (.inl ⟨rfl, _, SqL.of h130⟩), _, rfl, _, _, _, rfl, rfl, h130, (by first | exact small (by simp only [List.length_map, List.length_append, List.length_take, List.length_cons, List.length_nil]; omega) | exact smallE (by simp only [List.length_map, List.length_append, List.length_take, List.length_cons, List.length_nil]; omega)), ?_⟩
          generalize g146 : upd H128 p116 _ = H147
          obtain ⟨x145, h148⟩ := gen_mut g146
          have B150 := same_mut B129 x145 fr122
          have h149 : H147 p116 = some (.lst (((found) ++ [octet] : List Int).map V.int)) := snoc_int h148
          refine ⟨_, rfl, _, _, rfl, rfl, _, rfl, _, _, rfl, rfl, .inr ⟨_, rfl, ?_⟩⟩
          refine ⟨_, _, rfl, rfl, (by exact mul_bit _ _), ?_⟩
          refine ⟨_, _, _, rfl, B150, h149, ?_⟩
          refine ⟨by simp only [List.length_append, List.length_cons, List.length_nil]; omega, ?_⟩; rw [take_succ_get hi, List.foldl_append, ← hf]; clear hf; simp [escStepL, *]
      · refine iteF ?_
        refine ⟨_, rfl, (.inl ⟨rfl, _, SqL.of h130⟩), _, rfl, _, _, _, rfl, rfl, h130, (by first | exact small (by simp only [List.length_map, List.length_append, List.length_take, List.length_cons, List.length_nil]; omega) | exact smallE (by simp only [List.length_map, List.length_append, List.length_take, List.length_cons, List.length_nil]; omega)), ?_⟩
        generalize g152 : upd H128 p116 _ = H153
        obtain ⟨x151, h154⟩ := gen_mut g152
        have B156 := same_mut B129 x151 fr122
        have h155 : H153 p116 = some (.lst (((found) ++ [octet] : List Int).map V.int)) := snoc_int h154
        refine ⟨_, rfl, _, _, rfl, rfl, _, rfl, _, _, rfl, rfl, .inr ⟨_, rfl, ?_⟩⟩
        refine ⟨_, _, rfl, rfl, (by exact mul_bit _ _), ?_⟩
        refine ⟨_, _, _, rfl, B156, h155, ?_⟩
        refine ⟨by simp only [List.length_append, List.length_cons, List.length_nil]; omega, ?_⟩; rw [take_succ_get hi, List.foldl_append, ← hf]; clear hf; simp [escStepL, *]
    · intro σ H157 hw
      obtain ⟨found, zeros, u_octet, rfl, B158, h159, hu⟩ := hw
      obtain ⟨hl, hf⟩ := hu
      refine ⟨_, rfl, ?_⟩
      exact k _ _ fr122 B158 (cast_lst h159 (by unfold escL; rw [List.length_map, List.take_length] at hf; rw [← hf]))

abbrev N__law_unescape : List Str := ["octets", "found", "zeros", "octet"]
theorem sc__law_unescape : FnScope N__law_unescape ["octets"] (defScope s__law_unescape) := ⟨rfl, rfl, rfl, by decide +kernel, rfl, by decide +kernel, by decide +kernel⟩
theorem ok__law_unescape (D : DefIn K mg "_law_unescape" s__law_unescape ["octets"]) (T : Txt K mg)  : Cal P w K mg base 1 "_law_unescape" (sp__law_unescape K) := by
  refine D.ok sc__law_unescape (fun vs H Q E h => ?_) (fun f cdv A outer s H vs Q E hr h => ?_)
  · obtain ⟨a_octets, octets, rfl, _⟩ := h
    rfl
  · obtain ⟨a_octets, octets, rfl, q_octets, pre0, k⟩ := h
    refine ⟨_, (pss_cons (ps_set (i := 1) (sc__law_unescape).nd rfl (Or.inl rfl) (pe_lst pa_nil))
      (pss_cons (ps_set (i := 2) (sc__law_unescape).nd rfl (Or.inl rfl) pe_int)
      (pss_cons (ps_for PassesOwn.never rfl (pi_listK (K := K) (pv 0)) (pg_name (i := 3) (sc__law_unescape).nd rfl (Or.inl rfl)) (pss_one (ps_if (PW.pt (pw_and (pt_cmp (pc_ge (pv 2) pe_int)) (pw_and1 (pt_cmp (pc_eqI (pv 3) pe_int))))) (pss_one (ps_set (i := 2) (sc__law_unescape).nd rfl (Or.inl rfl) pe_int)) (pss_cons (ps_expr (pe_bm PySem.F.plainAttrs_list PySem.F.slot_list_append PySem.F.type_list_append mt_append (pv 1) (pa_cons (pv 3) pa_nil)))
      (pss_one (ps_set (i := 2) (sc__law_unescape).nd rfl (Or.inl rfl) (pe_op op_mul (pe_op op_add (pv 2) pe_int) (pe_callTy call_int1 (by rfl) T.b_int (by decide +kernel) (pa_cons (pe_cmp (pc_eqI (pv 3) pe_int)) pa_nil)))))))))
      (pss_one (ps_ret (pv 1)))))), ?_⟩
    refine ⟨(by show 0 ≤ sizeLine; decide), fun p160 n161 => ?_⟩
    generalize g162 : upd H p160 _ = H163
    obtain ⟨e165, h164⟩ := gen_new n161 g162
    have fr166 := (Same.refl H).free n161
    have B167 := (Same.refl H).trans e165
    have h168 : H163 p160 = some (.lst (([] : List Int).map V.int)) := h164
    refine ⟨_, rfl, _, rfl, ⟨_, (B167.seq q_octets)⟩, for_list (K := K) (a := a_octets) (xs := (octets).map V.int) (fun i σ H' => ∃ (found : List Int) (zeros : Int) (u_octet : Option V), σ = [some (V.ref a_octets), some (V.ref p160), some (V.int zeros), u_octet] ∧ Same H H' ∧ H' p160 = some (.lst ((found : List Int).map V.int)) ∧ (found.length ≤ i ∧ (found, zeros) = (octets.take i).foldl uneStepL ([], 0))) ?_ ?_ ?_ ?_⟩
    · refine ⟨_, _, _, rfl, B167, h168, ?_⟩
      exact ⟨by simp, rfl⟩
    · intro i σ H169 _ hw
      obtain ⟨found, zeros, u_octet, rfl, B170, h171, hu⟩ := hw
      exact (B170.seq q_octets)
    · intro i x σ H172 hj hw
      obtain ⟨found, zeros, u_octet, rfl, B173, h174, hu⟩ := hw
      obtain ⟨octet, hi, rfl⟩ := map_get hj
      obtain ⟨hl, hf⟩ := hu; have hi1 := get_len hi
      refine ⟨_, rfl, _, _, rfl, rfl, _, rfl, ?_⟩
      refine iteD (fun c175 => ?_) (fun c175 => ?_)
      · refine ⟨_, rfl, _, _, rfl, rfl, _, rfl, ?_⟩
        refine iteD (fun c176 => ?_) (fun c176 => ?_)
        · refine ⟨_, _, _, rfl, B173, h174, ?_⟩
          refine ⟨by (try simp only [List.length_append, List.length_cons, List.length_nil]); omega, ?_⟩; rw [take_succ_get hi, List.foldl_append, ← hf]; clear hf; simp [uneStepL, *]
        · refine ⟨_, rfl, (.inl ⟨rfl, _, SqL.of h174⟩), _, rfl, _, _, _, rfl, rfl, h174, (by first | exact small (by simp only [List.length_map, List.length_append, List.length_take, List.length_cons, List.length_nil]; omega) | exact smallE (by simp only [List.length_map, List.length_append, List.length_take, List.length_cons, List.length_nil]; omega)), ?_⟩
          generalize g178 : upd H172 p160 _ = H179
          obtain ⟨x177, h180⟩ := gen_mut g178
          have B182 := same_mut B173 x177 fr166
          have h181 : H179 p160 = some (.lst (((found) ++ [octet] : List Int).map V.int)) := snoc_int h180
          refine ⟨_, rfl, _, _, rfl, rfl, _, rfl, _, _, rfl, rfl, .inr ⟨_, rfl, ?_⟩⟩
          refine ⟨_, _, rfl, rfl, (by exact mul_bit _ _), ?_⟩
          refine ⟨_, _, _, rfl, B182, h181, ?_⟩
          refine ⟨by (try simp only [List.length_append, List.length_cons, List.length_nil]); omega, ?_⟩; rw [take_succ_get hi, List.foldl_append, ← hf]; clear hf; simp [uneStepL, *]
      · refine iteF ?_
        refine ⟨_, rfl, (.inl ⟨rfl, _, SqL.of h174⟩), _, rfl, _, _, _, rfl, rfl, h174, (by first | exact small (by simp only [List.length_map, List.length_append, List.length_take, List.length_cons, List.length_nil]; omega) | exact smallE (by simp only [List.length_map, List.length_append, List.length_take, List.length_cons, List.length_nil]; omega)), ?_⟩
        generalize g184 : upd H172 p160 _ = H185
        obtain ⟨x183, h186⟩ := gen_mut g184
        have B188 := same_mut B173 x183 fr166
        have h187 : H185 p160 = some (.lst (((found) ++ [octet] : List Int).map V.int)) := snoc_int h186
        refine ⟨_, rfl, _, _, rfl, rfl, _, rfl, _, _, rfl, rfl, .inr ⟨_, rfl, ?_⟩⟩
        refine ⟨_, _, rfl, rfl, (by exact mul_bit _ _), ?_⟩
        refine ⟨_, _, _, rfl, B188, h187, ?_⟩
        refine ⟨by (try simp only [List.length_append, List.length_cons, List.length_nil]); omega, ?_⟩; rw [take_succ_get hi, List.foldl_append, ← hf]; clear hf; simp [uneStepL, *]
    · intro σ H189 hw
      obtain ⟨found, zeros, u_octet, rfl, B190, h191, hu⟩ := hw
      obtain ⟨hl, hf⟩ := hu
      refine ⟨_, rfl, ?_⟩
      exact k _ _ fr166 B190 (cast_lst h191 (by unfold uneL; rw [List.length_map, List.take_length] at hf; rw [← hf]))

abbrev N__law_some : List Str := ["cell", "size", "kind", "octets", "octet"]
theorem sc__law_some : FnScope N__law_some ["cell", "size"] (defScope s__law_some) := ⟨rfl, rfl, rfl, by decide +kernel, rfl, by decide +kernel, by decide +kernel⟩
theorem ok__law_some (D : DefIn K mg "_law_some" s__law_some ["cell", "size"]) (T : Txt K mg) (c__law_draws : Cal P w K mg base 1 "_law_draws" (sp__law_draws K)) : Cal P w K mg base 2 "_law_some" (sp__law_some K) := by
  refine D.ok sc__law_some (fun vs H Q E h => ?_) (fun f cdv A outer s H vs Q E hr h => ?_)
  · obtain ⟨cell, size, rfl, _⟩ := h
    rfl
  · obtain ⟨cell, size, rfl, pre0, pre1, k⟩ := h
    refine ⟨_, (pss_cons (ps_set (i := 2) (sc__law_some).nd rfl (Or.inl rfl) (pe_op op_mod (pe_callTy call_int1 (by rfl) T.b_int (by decide +kernel) (pa_cons (pv 0) pa_nil)) pe_int))
      (pss_cons (ps_set (i := 3) (sc__law_some).nd rfl (Or.inl rfl) (vx_call c__law_draws hr (by decide) rfl (pa_cons (pe_op op_fdivW (pe_callTy call_int1 (by rfl) T.b_int (by decide +kernel) (pa_cons (pv 0) pa_nil)) pe_int) (pa_cons (pe_op op_rep (pe_lst (pa_cons pe_int pa_nil)) (pv 1)) pa_nil))))
      (C8.pss_cut (ps_if (pt_cmp (pc_eqI (pv 2) pe_int)) (pss_one (ps_setLc (i := 3) (y := "octets") rfl (sc__law_some).nd rfl rfl (sw_true rfl rfl rfl (by decide +kernel)) (own := [("octet", 4)]) (g := gName 4) (pi_listK (K := K) (pv 3)) (blkOk_by (own := [("octet", 4)]) (N := N__law_some) (sc := defScope s__law_some) (by decide +kernel)) (fun _ _ _ _ _ => pg_name (i := 4) (sc__law_some).nd rfl (Or.inl rfl)) (fun _ _ _ _ _ => pts_nil) (fun _ _ _ _ _ => (pe_op op_mod (pe_callTy call_int1 (by rfl) T.b_int (by decide +kernel) (pa_cons (pv 4) pa_nil)) pe_int)))) pss_nil)
      (C8.pss_cut (ps_if (pt_cmp (pc_eqI (pv 2) pe_int)) (pss_one (ps_setLc (i := 3) (y := "octets") rfl (sc__law_some).nd rfl rfl (sw_true rfl rfl rfl (by decide +kernel)) (own := [("octet", 4)]) (g := gName 4) (pi_listK (K := K) (pv 3)) (blkOk_by (own := [("octet", 4)]) (N := N__law_some) (sc := defScope s__law_some) (by decide +kernel)) (fun _ _ _ _ _ => pg_name (i := 4) (sc__law_some).nd rfl (Or.inl rfl)) (fun _ _ _ _ _ => pts_nil) (fun _ _ _ _ _ => (pe_ix (ix_listK (K := K)) (pe_lst (pa_cons pe_int (pa_cons pe_int (pa_cons pe_int (pa_cons pe_int (pa_cons pe_int (pa_cons pe_int (pa_cons pe_int (pa_cons (pv 4) pa_nil))))))))) (pe_op op_mod (pe_callTy call_int1 (by rfl) T.b_int (by decide +kernel) (pa_cons (pv 4) pa_nil)) pe_int) (fun _ _ => rfl))))) pss_nil)
      (C8.pss_cut (ps_if (pt_cmp (pc_eqI (pv 2) pe_int)) (pss_one (ps_setLc (i := 3) (y := "octets") rfl (sc__law_some).nd rfl rfl (sw_true rfl rfl rfl (by decide +kernel)) (own := [("octet", 4)]) (g := gName 4) (pi_listK (K := K) (pv 3)) (blkOk_by (own := [("octet", 4)]) (N := N__law_some) (sc := defScope s__law_some) (by decide +kernel)) (fun _ _ _ _ _ => pg_name (i := 4) (sc__law_some).nd rfl (Or.inl rfl)) (fun _ _ _ _ _ => pts_nil) (fun _ _ _ _ _ => (pe_ix (ix_listK (K := K)) (pe_lst (pa_cons pe_int (pa_cons pe_int (pa_cons pe_int (pa_cons pe_int (pa_cons (pe_op op_add pe_int (pe_op op_mod (pe_callTy call_int1 (by rfl) T.b_int (by decide +kernel) (pa_cons (pe_op op_fdivW (pv 4) pe_int) pa_nil)) pe_int)) (pa_cons pe_int (pa_cons (pv 4) (pa_cons pe_int pa_nil))))))))) (pe_op op_mod (pe_callTy call_int1 (by rfl) T.b_int (by decide +kernel) (pa_cons (pv 4) pa_nil)) pe_int) (fun _ _ => rfl))))) pss_nil)
      (pss_one (ps_ret (pv 3)))))))), ?_⟩
    refine ⟨_, rfl, .inl ⟨_, rfl, ?_⟩⟩
    refine ⟨_, _, rfl, rfl, (by first | omega | decide), _, rfl, .inl ⟨_, rfl, ?_⟩⟩
    refine ⟨_, _, rfl, rfl, (by first | exact divW_lit (by decide) (by decide) | exact divW_small (by omega) (by omega)), (by show 1 ≤ sizeLine; decide), fun p192 n193 => ?_⟩
    generalize g194 : upd H p192 _ = H195
    obtain ⟨e197, h196⟩ := gen_new n193 g194
    have fr198 := (Same.refl H).free n193
    have B199 := (Same.refl H).trans e197
    have h200 : H195 p192 = some (.lst (([256] : List Int).map V.int)) := h196
    refine ⟨_, rfl, _, _, _, rfl, rfl, h200, (by first | omega | exact smallE (by simp only [List.length_map, List.length_cons, List.length_nil]; omega)), (by first | omega | exact smallE (by simp only [List.length_map, List.length_cons, List.length_nil]; omega)), (by first | omega | exact smallE (by simp only [List.length_map, List.length_cons, List.length_nil]; omega)), fun p201 n202 => ?_⟩
    generalize g203 : upd H195 p201 _ = H204
    obtain ⟨e206, h205⟩ := gen_new n202 g203
    have fr207 := B199.free n202
    have B208 := B199.trans e206
    have h209 : H204 p201 = some (.lst ((rep ([256]) (size) : List Int).map V.int)) := rep_int h205
    refine ⟨_, _, _, rfl, (SqL.of h209), (by first | exact lims256 size | (rw [len_rep1]; omega)), (by first | exact lims256 size | (rw [len_rep1]; omega)), fun p212 H210 n213 e211 h214 => ?_⟩
    have fr215 := B208.free n213
    have B216 := B208.trans e211
    have h217 : H210 p212 = some (.lst ((draws ((cell / 4)) (rep ([256]) (size)) : List Int).map V.int)) := h214
    refine ⟨fun σ H' => ∃ (p_octets : Addr) (octets : List Int), σ = [some (V.int (cell)), some (V.int (size)), some (V.int ((cell % 4))), some (V.ref p_octets), none] ∧ Same H H' ∧ H' p_octets = some (.lst ((octets : List Int).map V.int)) ∧ H p_octets = none ∧ (octets.length ≤ 1000 ∧ octets = some1 cell size), ?_, ?_⟩
    · refine ⟨_, rfl, _, _, rfl, rfl, _, rfl, ?_⟩
      refine iteD (fun c218 => ?_) (fun c218 => ?_)
      · refine ⟨_, rfl, _, rfl, ⟨_, (SqL.of h217)⟩, fun D219 n220 => lc_list (K := K) (a := p212) (xs := (draws ((cell / 4)) (rep ([256]) (size))).map V.int) (fun i H' => Same H H' ∧ H' p212 = some (.lst ((draws ((cell / 4)) (rep ([256]) (size)) : List Int).map V.int)) ∧ H' D219 = some (.lst (((((draws ((cell / 4)) (rep ([256]) (size))).take i).map (fun o => o % 4)) : List Int).map V.int))) ?_ ?_ ?_ ?_⟩
        · generalize g222 : upd H210 D219 _ = H223
          obtain ⟨e224, h225⟩ := gen_new n220 g222
          have B226 := B216.trans e224
          have h227 := (e224 _ _ h217)
          exact ⟨B226, h227, h225⟩
        · intro i H228 _ hw
          obtain ⟨B229, h230, h231⟩ := hw
          exact (SqL.of h230)
        · intro i x H232 hj hw
          obtain ⟨B233, h234, h235⟩ := hw
          obtain ⟨octet, hi, rfl⟩ := map_get hj
          refine ⟨rfl, ?_⟩
          refine tyes_go ?_
          refine ⟨_, rfl, .inl ⟨_, rfl, ?_⟩⟩
          refine ⟨_, _, rfl, rfl, (by first | omega | decide), _, h235, (by exact small (by simp only [List.length_map, List.length_take, draws_len, len_rep1]; omega)), ?_⟩
          generalize g236 : upd H232 D219 _ = H237
          obtain ⟨x238, h239⟩ := gen_mut g236
          have B240 := same_mut B233 x238 (B216.free n220)
          have h241 := (x238 _ _ h234 (ne_of_none h217 n220))
          exact ⟨B240, h241, (comp_list hi h239 (by rfl))⟩
        intro H242 hw
        obtain ⟨B243, h244, h245⟩ := hw
        have h246 : H242 D219 = some (.lst (((draws ((cell / 4)) (rep ([256]) (size))).map (fun o => o % 4) : List Int).map V.int)) := comp_done h245
        refine ⟨_, _, rfl, B243, h246, (B216.free n220), ?_⟩
        refine ⟨by (try simp only [List.length_map, draws_len, len_rep1]); omega, ?_⟩; simp [some1, some2, *]
      · refine ⟨_, _, rfl, B216, h217, fr215, ?_⟩
        refine ⟨by (try simp only [List.length_map, draws_len, len_rep1]); omega, ?_⟩; simp [some1, some2, *]
    · intro σ H247 hw
      obtain ⟨p_octets, octets, rfl, B248, h249, fr250, hu⟩ := hw
      obtain ⟨hl1, ho1⟩ := hu
      refine ⟨fun σ H' => ∃ (p_octets : Addr) (octets : List Int), σ = [some (V.int (cell)), some (V.int (size)), some (V.int ((cell % 4))), some (V.ref p_octets), none] ∧ Same H H' ∧ H' p_octets = some (.lst ((octets : List Int).map V.int)) ∧ H p_octets = none ∧ (octets.length ≤ 1000 ∧ octets = some2 cell size), ?_, ?_⟩
      · refine ⟨_, rfl, _, _, rfl, rfl, _, rfl, ?_⟩
        refine iteD (fun c251 => ?_) (fun c251 => ?_)
        · refine ⟨_, rfl, _, rfl, ⟨_, (SqL.of h249)⟩, fun D252 n253 => lc_list (K := K) (a := p_octets) (xs := (octets).map V.int) (fun i H' => Same H H' ∧ H' p_octets = some (.lst ((octets : List Int).map V.int)) ∧ H' D252 = some (.lst (((((octets).take i).map (fun o => itI [0, 0, 0, 0, 0, 1, 3, o] (o % 8))) : List Int).map V.int))) ?_ ?_ ?_ ?_⟩
          · generalize g255 : upd H247 D252 _ = H256
            obtain ⟨e257, h258⟩ := gen_new n253 g255
            have B259 := B248.trans e257
            have h260 := (e257 _ _ h249)
            exact ⟨B259, h260, h258⟩
          · intro i H261 _ hw
            obtain ⟨B262, h263, h264⟩ := hw
            exact (SqL.of h263)
          · intro i x H265 hj hw
            obtain ⟨B266, h267, h268⟩ := hw
            obtain ⟨octet, hi, rfl⟩ := map_get hj
            refine ⟨rfl, ?_⟩
            refine tyes_go ?_
            refine ⟨_, rfl, (by show 8 ≤ sizeLine; decide), fun p269 n270 => ?_⟩
            generalize g271 : upd H265 p269 _ = H272
            obtain ⟨e274, h273⟩ := gen_new n270 g271
            have fr275 := B266.free n270
            have B276 := B266.trans e274
            have h277 : H272 p269 = some (.lst (([0, 0, 0, 0, 0, 1, 3, octet] : List Int).map V.int)) := h273
            refine ⟨_, rfl, .inl ⟨_, rfl, ?_⟩⟩
            have h278 := (e274 _ _ h268)
            refine ⟨_, _, rfl, rfl, (by first | omega | decide), _, _, _, _, rfl, rfl, (SqL.of h277), (atI_int (by simp only [List.length_cons, List.length_nil]; omega)), _, h278, (by exact small (by simp only [List.length_map, List.length_take]; omega)), ?_⟩
            generalize g279 : upd H272 D252 _ = H280
            obtain ⟨x281, h282⟩ := gen_mut g279
            have B283 := same_mut B276 x281 (B248.free n253)
            have h284 := (x281 _ _ (e274 _ _ h267) (ne_of_none h249 n253))
            exact ⟨B283, h284, (comp_list hi h282 (by rfl))⟩
          intro H285 hw
          obtain ⟨B286, h287, h288⟩ := hw
          have h289 : H285 D252 = some (.lst (((octets).map (fun o => itI [0, 0, 0, 0, 0, 1, 3, o] (o % 8)) : List Int).map V.int)) := comp_done h288
          refine ⟨_, _, rfl, B286, h289, (B248.free n253), ?_⟩
          refine ⟨by (try simp only [List.length_map, draws_len, len_rep1]); omega, ?_⟩; simp [some1, some2, *]
        · refine ⟨_, _, rfl, B248, h249, fr250, ?_⟩
          refine ⟨by (try simp only [List.length_map, draws_len, len_rep1]); omega, ?_⟩; simp [some1, some2, *]
      · intro σ H290 hw
        obtain ⟨p_octets, octets, rfl, B291, h292, fr293, hu⟩ := hw
        obtain ⟨hl2, ho2⟩ := hu
        refine ⟨fun σ H' => ∃ (p_octets : Addr) (octets : List Int), σ = [some (V.int (cell)), some (V.int (size)), some (V.int ((cell % 4))), some (V.ref p_octets), none] ∧ Same H H' ∧ H' p_octets = some (.lst ((octets : List Int).map V.int)) ∧ H p_octets = none ∧ (octets = someI cell size), ?_, ?_⟩
        · refine ⟨_, rfl, _, _, rfl, rfl, _, rfl, ?_⟩
          refine iteD (fun c294 => ?_) (fun c294 => ?_)
          · refine ⟨_, rfl, _, rfl, ⟨_, (SqL.of h292)⟩, fun D295 n296 => lc_list (K := K) (a := p_octets) (xs := (octets).map V.int) (fun i H' => Same H H' ∧ H' p_octets = some (.lst ((octets : List Int).map V.int)) ∧ H' D295 = some (.lst (((((octets).take i).map (fun o => itI [0, 0, 1, 128, 1 + o / 8 % 6, 3, o, 0] (o % 8))) : List Int).map V.int))) ?_ ?_ ?_ ?_⟩
            · generalize g298 : upd H290 D295 _ = H299
              obtain ⟨e300, h301⟩ := gen_new n296 g298
              have B302 := B291.trans e300
              have h303 := (e300 _ _ h292)
              exact ⟨B302, h303, h301⟩
            · intro i H304 _ hw
              obtain ⟨B305, h306, h307⟩ := hw
              exact (SqL.of h306)
            · intro i x H308 hj hw
              obtain ⟨B309, h310, h311⟩ := hw
              obtain ⟨octet, hi, rfl⟩ := map_get hj
              refine ⟨rfl, ?_⟩
              refine tyes_go ?_
              refine ⟨_, rfl, _, _, rfl, rfl, (by first | exact divW_lit (by decide) (by decide) | exact divW_small (by omega) (by omega)), .inl ⟨_, rfl, ?_⟩⟩
              refine ⟨_, _, rfl, rfl, (by first | omega | decide), _, _, rfl, rfl, _, rfl, (by show 8 ≤ sizeLine; decide), fun p312 n313 => ?_⟩
              generalize g314 : upd H308 p312 _ = H315
              obtain ⟨e317, h316⟩ := gen_new n313 g314
              have fr318 := B309.free n313
              have B319 := B309.trans e317
              have h320 : H315 p312 = some (.lst (([0, 0, 1, 128, (1 + ((octet / 8) % 6)), 3, octet, 0] : List Int).map V.int)) := h316
              refine ⟨_, rfl, .inl ⟨_, rfl, ?_⟩⟩
              have h321 := (e317 _ _ h311)
              refine ⟨_, _, rfl, rfl, (by first | omega | decide), _, _, _, _, rfl, rfl, (SqL.of h320), (atI_int (by simp only [List.length_cons, List.length_nil]; omega)), _, h321, (by exact small (by simp only [List.length_map, List.length_take]; omega)), ?_⟩
              generalize g322 : upd H315 D295 _ = H323
              obtain ⟨x324, h325⟩ := gen_mut g322
              have B326 := same_mut B319 x324 (B291.free n296)
              have h327 := (x324 _ _ (e317 _ _ h310) (ne_of_none h292 n296))
              exact ⟨B326, h327, (comp_list hi h325 (by rfl))⟩
            intro H328 hw
            obtain ⟨B329, h330, h331⟩ := hw
            have h332 : H328 D295 = some (.lst (((octets).map (fun o => itI [0, 0, 1, 128, 1 + o / 8 % 6, 3, o, 0] (o % 8)) : List Int).map V.int)) := comp_done h331
            refine ⟨_, _, rfl, B329, h332, (B291.free n296), ?_⟩
            simp [someI, *]
          · refine ⟨_, _, rfl, B291, h292, fr293, ?_⟩
            simp [someI, *]
        · intro σ H333 hw
          obtain ⟨p_octets, octets, rfl, B334, h335, fr336, hu⟩ := hw
          refine ⟨_, rfl, ?_⟩
          exact k _ _ fr336 B334 (cast_lst h335 (by exact hu))

abbrev N_law : List Str := ["script", "octets", "other", "kept", "escaped", "k", "before", "back", "due"]
theorem sc_law : FnScope N_law ["script"] (defScope s_law) := ⟨rfl, rfl, rfl, by decide +kernel, rfl, by decide +kernel, by decide +kernel⟩
theorem ok_law {f : Addr} {fd : FuncData} (F : Fun K "law" "law" s_law f fd) (T : Txt K mg) (c__law_some : Cal P w K mg base 2 "_law_some" (sp__law_some K)) (c__law_cell : Cal P w K mg base 1 "_law_cell" (sp__law_cell K)) (c_escape : Cal P w K mg base 1 "escape" (sp_escape K)) (c__law_escape : Cal P w K mg base 1 "_law_escape" (sp__law_escape K)) (c_unescape : Cal P w K mg base 1 "unescape" (sp_unescape K)) (c__law_unescape : Cal P w K mg base 1 "_law_unescape" (sp__law_unescape K)) : FnOk P w K mg base CX0 3 f fd ["script"] (sp_law K) := by
  refine F.ok sc_law (fun vs H Q E h => ?_) (fun cdv A outer s H vs Q E hr h => ?_)
  · obtain ⟨a_script, script, rfl, _⟩ := h
    rfl
  · obtain ⟨a_script, script, rfl, q_script, hlen, k⟩ := h
    refine ⟨_, (pss_cons (ps_set (i := 1) (sc_law).nd rfl (Or.inl rfl) (vx_call c__law_some hr (by decide) rfl (pa_cons (vx_call c__law_cell hr (by decide) rfl (pa_cons (pv 0) (pa_cons pe_int pa_nil))) (pa_cons (pe_op op_mod (pe_callTy call_int1 (by rfl) T.b_int (by decide +kernel) (pa_cons (vx_call c__law_cell hr (by decide) rfl (pa_cons (pv 0) (pa_cons pe_int pa_nil))) pa_nil)) pe_int) pa_nil))))
      (pss_cons (ps_set (i := 2) (sc_law).nd rfl (Or.inl rfl) (vx_call c__law_some hr (by decide) rfl (pa_cons (vx_call c__law_cell hr (by decide) rfl (pa_cons (pv 0) (pa_cons pe_int pa_nil))) (pa_cons (pe_op op_mod (pe_op op_fdivW (pe_callTy call_int1 (by rfl) T.b_int (by decide +kernel) (pa_cons (vx_call c__law_cell hr (by decide) rfl (pa_cons (pv 0) (pa_cons pe_int pa_nil))) pa_nil)) pe_int) pe_int) pa_nil))))
      (pss_cons (ps_set (i := 3) (sc_law).nd rfl (Or.inl rfl) (pe_callTy call_list_of (by rfl) T.b_list (by decide +kernel) (pa_cons (pv 1) pa_nil)))
      (pss_cons (ps_set (i := 4) (sc_law).nd rfl (Or.inl rfl) (vx_call c_escape hr (by decide) rfl (pa_cons (pv 1) pa_nil)))
      (pss_cons (ps_if (PW.pt (pw_or (pt_not (pt_val (pe_callB call_isi (by rfl) T.b_isinstance (by decide +kernel) (pa_cons (pv 4) (pa_cons (pe_bltn (v := V.ty "list") (u := Value.type "list") (by rfl) T.b_list (by decide +kernel) rfl) pa_nil))))) (pw_or (pt_cmpR (op_neLiK (K := K) hr.units) (pv 4) (vx_call c__law_escape hr (by decide) rfl (pa_cons (pv 3) pa_nil)) (nomark _)) (pw_or1 (pt_cmpR (op_neLiK (K := K) hr.units) (pv 1) (pv 3) (nomark _)))))) (pss_one (ps_ret pe_bl)) pss_nil)
      (pss_cons (ps_for PassesOwn.never rfl (pi_range1 rfl T.b_range (pa_cons (pe_op op_sub (pe_callB (call_lenLiK (K := K)) (by rfl) T.b_len (by decide +kernel) (pa_cons (pv 4) pa_nil)) pe_int) pa_nil)) (pg_name (i := 5) (sc_law).nd rfl (Or.inl rfl)) (pss_one (ps_if (PW.pt (pw_and (pt_cmpR (op_eqLiK (K := K) hr.units) (pe_slice (sl_listK (K := K)) (pv 4) (po_some (pv 5)) (po_some (pe_op op_add (pv 5) pe_int))) (pe_lst (pa_cons pe_int (pa_cons pe_int pa_nil))) (nomark _)) (pw_and1 (pt_cmp (pc_le (pe_ix (ix_listK (K := K)) (pv 4) (pe_op op_add (pv 5) pe_int) (fun _ _ => rfl)) pe_int))))) (pss_one (ps_ret pe_bl)) pss_nil)))
      (pss_cons (ps_set (i := 6) (sc_law).nd rfl (Or.inl rfl) (pe_callTy call_list_of (by rfl) T.b_list (by decide +kernel) (pa_cons (pv 4) pa_nil)))
      (pss_cons (ps_set (i := 7) (sc_law).nd rfl (Or.inl rfl) (vx_call c_unescape hr (by decide) rfl (pa_cons (pv 4) pa_nil)))
      (pss_cons (ps_if (PW.pt (pw_or (pt_not (pt_val (pe_callB call_isi (by rfl) T.b_isinstance (by decide +kernel) (pa_cons (pv 7) (pa_cons (pe_bltn (v := V.ty "list") (u := Value.type "list") (by rfl) T.b_list (by decide +kernel) rfl) pa_nil))))) (pw_or (pt_cmpR (op_neLiK (K := K) hr.units) (pv 7) (pv 3) (nomark _)) (pw_or1 (pt_cmpR (op_neLiK (K := K) hr.units) (pv 4) (pv 6) (nomark _)))))) (pss_one (ps_ret pe_bl)) pss_nil)
      (pss_cons (ps_expr (pe_bm PySem.F.plainAttrs_list PySem.F.slot_list_append PySem.F.type_list_append mt_append (pv 7) (pa_cons pe_int pa_nil)))
      (pss_cons (ps_if (PW.pt (pw_or (pt_cmpR (op_neLiK (K := K) hr.units) (pv 4) (pv 6) (nomark _)) (pw_or1 (pt_cmpR (op_neLiK (K := K) hr.units) (pv 1) (pv 3) (nomark _))))) (pss_one (ps_ret pe_bl)) pss_nil)
      (pss_cons (ps_expr (pe_bm PySem.F.plainAttrs_list PySem.F.slot_list_append PySem.F.type_list_append mt_append (pv 4) (pa_cons pe_int pa_nil)))
      (pss_cons (ps_if (PW.pt (pw_or (pt_cmpR (op_neLiK (K := K) hr.units) (pv 1) (pv 3) (nomark _)) (pw_or (pt_cmpR (op_neLiK (K := K) hr.units) (vx_call c_escape hr (by decide) rfl (pa_cons (pv 1) pa_nil)) (pv 6) (nomark _)) (pw_or1 (pt_cmpR (op_neLiK (K := K) hr.units) (vx_call c_unescape hr (by decide) rfl (pa_cons (pv 6) pa_nil)) (pv 3) (nomark _)))))) (pss_one (ps_ret pe_bl)) pss_nil)
      (pss_cons (ps_set (i := 8) (sc_law).nd rfl (Or.inl rfl) (vx_call c__law_unescape hr (by decide) rfl (pa_cons (pv 2) pa_nil)))
      (pss_one (ps_ret (pe_cmpR (op_eqLiK (K := K) hr.units) (vx_call c_unescape hr (by decide) rfl (pa_cons (pv 2) pa_nil)) (pv 8) (nomark _)))))))))))))))))), ?_⟩
    refine ⟨_, rfl, _, _, _, rfl, ((Same.refl H).seq q_script), (by first | assumption | omega), _, rfl, _, _, _, rfl, ((Same.refl H).seq q_script), (by first | assumption | omega), .inl ⟨_, rfl, ?_⟩⟩
    refine ⟨_, _, rfl, rfl, (by first | omega | decide), _, _, rfl, (by first | assumption | omega), (by first | assumption | omega), fun p339 H337 n340 e338 h341 => ?_⟩
    have fr342 := (Same.refl H).free n340
    have B343 := (Same.refl H).trans e338
    have h344 : H337 p339 = some (.lst ((someI (cellI (script) (1)) ((cellI (script) (0) % 61)) : List Int).map V.int)) := h341
    have L1 := some_le (cellI script 1) (cellI script 0)
    have L2 := escP_len (someI (cellI script 1) (cellI script 0 % 61))
    have L3 : (uneP (escP (someI (cellI script 1) (cellI script 0 % 61)))).length ≤ 61 := by rw [une_esc]; exact L1
    refine ⟨_, rfl, _, _, _, rfl, (B343.seq q_script), (by first | assumption | omega), _, rfl, _, _, _, rfl, (B343.seq q_script), (by first | assumption | omega), .inl ⟨_, rfl, ?_⟩⟩
    refine ⟨_, _, rfl, rfl, (by first | exact divW_lit (by decide) (by decide) | exact divW_small (by omega) (by omega)), _, _, rfl, rfl, (by first | omega | decide), _, _, rfl, (by first | assumption | omega), (by first | assumption | omega), fun p347 H345 n348 e346 h349 => ?_⟩
    have fr350 := B343.free n348
    have B351 := B343.trans e346
    have h352 : H345 p347 = some (.lst ((someI (cellI (script) (2)) (((cellI (script) (0) / 61) % 61)) : List Int).map V.int)) := h349
    have L4 := some_le (cellI script 2) (cellI script 0 / 61)
    have h353 := (e346 _ _ h344)
    refine ⟨_, rfl, _, _, rfl, (.inl (SqL.of h353)), fun p354 n355 => ?_⟩
    generalize g356 : upd H345 p354 _ = H357
    obtain ⟨e359, h358⟩ := gen_new n355 g356
    have fr360 := B351.free n355
    have B361 := B351.trans e359
    have h362 : H357 p354 = some (.lst ((someI (cellI (script) (1)) ((cellI (script) (0) % 61)) : List Int).map V.int)) := h358
    have h363 := (e359 _ _ h353)
    refine ⟨_, rfl, _, _, rfl, (SqL.of h363), (by first | assumption | omega), fun p366 H364 n367 e365 h368 => ?_⟩
    have fr369 := B361.free n367
    have B370 := B361.trans e365
    have h371 : H364 p366 = some (.lst ((escP (someI (cellI (script) (1)) ((cellI (script) (0) % 61))) : List Int).map V.int)) := h368
    refine ⟨_, rfl, _, _, _, _, _, rfl, (.ty _), (.base (.lst h371)), rfl, _, rfl, ?_⟩
    refine iteF ?_
    have h372 := (e365 _ _ h362)
    refine ⟨_, rfl, _, rfl, _, _, rfl, (SqL.of h372), (by first | assumption | omega), fun p375 H373 n376 e374 h377 => ?_⟩
    have fr378 := B370.free n376
    have B379 := B370.trans e374
    have h380 : H373 p375 = some (.lst ((escL (someI (cellI (script) (1)) ((cellI (script) (0) % 61))) : List Int).map V.int)) := h377
    have h381 := (e374 _ _ h371)
    refine ⟨_, _, _, _, rfl, rfl, (SqL.of h381), (SqL.of h380), _, rfl, ?_⟩
    refine iteNF (show (escP (someI (cellI (script) (1)) ((cellI (script) (0) % 61))) : List Int) = escL (someI (cellI (script) (1)) ((cellI (script) (0) % 61))) from by exact esc_eq _) ?_
    have h382 := (e374 _ _ (e365 _ _ h363))
    have h383 := (e374 _ _ h372)
    refine ⟨_, rfl, _, rfl, _, _, _, _, rfl, rfl, (SqL.of h382), (SqL.of h383), _, rfl, ?_⟩
    refine iteNF (show (someI (cellI (script) (1)) ((cellI (script) (0) % 61)) : List Int) = someI (cellI (script) (1)) ((cellI (script) (0) % 61)) from by rfl) ?_
    refine ⟨_, rfl, _, _, rfl, (SqL.of h381), _, _, rfl, rfl, _, rfl, (by omega), (by omega), for_range (lo := 0) (n := (((((escP (someI (cellI (script) (1)) ((cellI (script) (0) % 61)))) : List Int).length : Int) - 2) : Int).toNat) (fun i σ H' => ∃ (u_k : Option V), σ = [some (V.ref a_script), some (V.ref p339), some (V.ref p347), some (V.ref p354), some (V.ref p366), u_k, none, none, none] ∧ Same H H' ∧ H' p339 = some (.lst ((someI (cellI (script) (1)) ((cellI (script) (0) % 61)) : List Int).map V.int)) ∧ H' p347 = some (.lst ((someI (cellI (script) (2)) (((cellI (script) (0) / 61) % 61)) : List Int).map V.int)) ∧ H' p354 = some (.lst ((someI (cellI (script) (1)) ((cellI (script) (0) % 61)) : List Int).map V.int)) ∧ H' p366 = some (.lst ((escP (someI (cellI (script) (1)) ((cellI (script) (0) % 61))) : List Int).map V.int)) ∧ (True)) ?_ ?_ ?_⟩
    · have h384 := (e374 _ _ (e365 _ _ (e359 _ _ h352)))
      refine ⟨_, rfl, B379, h382, h384, h383, h381, ?_⟩
      trivial
    · intro i σ H385 hi hw
      obtain ⟨u_k, rfl, B386, h387, h388, h389, h390, hu⟩ := hw
      refine ⟨_, rfl, _, rfl, _, rfl, _, rfl, _, _, rfl, rfl, _, rfl, _, _, rfl, (SqL.of h390), fun p391 n392 => ?_⟩
      generalize g393 : upd H385 p391 _ = H394
      obtain ⟨e396, h395⟩ := gen_new n392 g393
      have fr397 := B386.free n392
      have B398 := B386.trans e396
      have h399 : H394 p391 = some (.lst ((cutI (escP (someI (cellI (script) (1)) ((cellI (script) (0) % 61)))) (some ((0 + (i : Int)))) (some (((0 + (i : Int)) + 2))) : List Int).map V.int)) := cut_int h395
      refine ⟨(by show 2 ≤ sizeLine; decide), fun p400 n401 => ?_⟩
      generalize g402 : upd H394 p400 _ = H403
      obtain ⟨e405, h404⟩ := gen_new n401 g402
      have fr406 := B398.free n401
      have B407 := B398.trans e405
      have h408 : H403 p400 = some (.lst (([0, 0] : List Int).map V.int)) := h404
      have h409 := (e405 _ _ h399)
      refine ⟨_, _, _, _, rfl, rfl, (SqL.of h409), (SqL.of h408), _, rfl, ?_⟩
      refine iteD (fun c410 => ?_) (fun c410 => ?_)
      · have h411 := (e405 _ _ (e396 _ _ h390))
        refine ⟨_, rfl, _, rfl, _, _, rfl, rfl, _, _, _, _, rfl, rfl, (SqL.of h411), (atI_int (by omega)), _, _, rfl, rfl, _, rfl, ?_⟩
        refine iteDF (show ¬ ((itI (escP (someI (cellI (script) (1)) ((cellI (script) (0) % 61)))) (((0 + (i : Int)) + 2))) ≤ 2) from by exact no_bad ‹_› (by omega)) ?_
        have h412 := (e405 _ _ (e396 _ _ h387))
        have h413 := (e405 _ _ (e396 _ _ h388))
        have h414 := (e405 _ _ (e396 _ _ h389))
        refine ⟨_, rfl, B407, h412, h413, h414, h411, ?_⟩
        trivial
      · refine iteF ?_
        have h415 := (e405 _ _ (e396 _ _ h387))
        have h416 := (e405 _ _ (e396 _ _ h388))
        have h417 := (e405 _ _ (e396 _ _ h389))
        have h418 := (e405 _ _ (e396 _ _ h390))
        refine ⟨_, rfl, B407, h415, h416, h417, h418, ?_⟩
        trivial
    · intro σ H419 hw
      obtain ⟨u_k, rfl, B420, h421, h422, h423, h424, hu⟩ := hw
      refine ⟨_, rfl, _, _, rfl, (.inl (SqL.of h424)), fun p425 n426 => ?_⟩
      generalize g427 : upd H419 p425 _ = H428
      obtain ⟨e430, h429⟩ := gen_new n426 g427
      have fr431 := B420.free n426
      have B432 := B420.trans e430
      have h433 : H428 p425 = some (.lst ((escP (someI (cellI (script) (1)) ((cellI (script) (0) % 61))) : List Int).map V.int)) := h429
      have h434 := (e430 _ _ h424)
      refine ⟨_, rfl, _, _, rfl, (SqL.of h434), (by first | assumption | omega), fun p437 H435 n438 e436 h439 => ?_⟩
      have fr440 := B432.free n438
      have B441 := B432.trans e436
      have h442 : H435 p437 = some (.lst ((uneP (escP (someI (cellI (script) (1)) ((cellI (script) (0) % 61)))) : List Int).map V.int)) := h439
      refine ⟨_, rfl, _, _, _, _, _, rfl, (.ty _), (.base (.lst h442)), rfl, _, rfl, ?_⟩
      refine iteF ?_
      have h443 := (e436 _ _ (e430 _ _ h423))
      refine ⟨_, rfl, _, rfl, _, _, _, _, rfl, rfl, (SqL.of h442), (SqL.of h443), _, rfl, ?_⟩
      refine iteNF (show (uneP (escP (someI (cellI (script) (1)) ((cellI (script) (0) % 61)))) : List Int) = someI (cellI (script) (1)) ((cellI (script) (0) % 61)) from by exact une_esc _) ?_
      have h444 := (e436 _ _ h434)
      have h445 := (e436 _ _ h433)
      refine ⟨_, rfl, _, rfl, _, _, _, _, rfl, rfl, (SqL.of h444), (SqL.of h445), _, rfl, ?_⟩
      refine iteNF (show (escP (someI (cellI (script) (1)) ((cellI (script) (0) % 61))) : List Int) = escP (someI (cellI (script) (1)) ((cellI (script) (0) % 61))) from by rfl) ?_
      refine ⟨_, rfl, (.inl ⟨rfl, _, SqL.of h442⟩), _, _, _, rfl, rfl, h442, (by first | exact small (by simp only [List.length_map, List.length_append, List.length_take, List.length_cons, List.length_nil]; omega) | exact smallE (by simp only [List.length_map, List.length_append, List.length_take, List.length_cons, List.length_nil]; omega)), ?_⟩
      generalize g447 : upd H435 p437 _ = H448
      obtain ⟨x446, h449⟩ := gen_mut g447
      have B451 := same_mut B441 x446 fr440
      have h450 : H448 p437 = some (.lst (((uneP (escP (someI (cellI (script) (1)) ((cellI (script) (0) % 61))))) ++ [1] : List Int).map V.int)) := snoc_int h449
      have h452 := (x446 _ _ h444 (ne_of_none h434 n438))
      have h453 := (x446 _ _ h445 (ne_of_none h433 n438))
      refine ⟨_, rfl, _, rfl, _, _, _, _, rfl, rfl, (SqL.of h452), (SqL.of h453), _, rfl, ?_⟩
      refine iteNF (show (escP (someI (cellI (script) (1)) ((cellI (script) (0) % 61))) : List Int) = escP (someI (cellI (script) (1)) ((cellI (script) (0) % 61))) from by rfl) ?_
      have h454 := (x446 _ _ (e436 _ _ (e430 _ _ h421)) (ne_of_none (e430 _ _ h421) n438))
      have h455 := (x446 _ _ h443 (ne_of_none (e430 _ _ h423) n438))
      refine ⟨_, rfl, _, rfl, _, _, _, _, rfl, rfl, (SqL.of h454), (SqL.of h455), _, rfl, ?_⟩
      refine iteNF (show (someI (cellI (script) (1)) ((cellI (script) (0) % 61)) : List Int) = someI (cellI (script) (1)) ((cellI (script) (0) % 61)) from by rfl) ?_
      refine ⟨_, rfl, (.inl ⟨rfl, _, SqL.of h452⟩), _, _, _, rfl, rfl, h452, (by first | exact small (by simp only [List.length_map, List.length_append, List.length_take, List.length_cons, List.length_nil]; omega) | exact smallE (by simp only [List.length_map, List.length_append, List.length_take, List.length_cons, List.length_nil]; omega)), ?_⟩
      generalize g457 : upd H448 p366 _ = H458
      obtain ⟨x456, h459⟩ := gen_mut g457
      have B461 := same_mut B451 x456 fr369
      have h460 : H458 p366 = some (.lst (((escP (someI (cellI (script) (1)) ((cellI (script) (0) % 61)))) ++ [1] : List Int).map V.int)) := snoc_int h459
      have h462 := (x456 _ _ h454 (ne_of_none h363 n367))
      have h463 := (x456 _ _ h455 (ne_of_none h362 n367))
      refine ⟨_, rfl, _, rfl, _, _, _, _, rfl, rfl, (SqL.of h462), (SqL.of h463), _, rfl, ?_⟩
      refine iteNF (show (someI (cellI (script) (1)) ((cellI (script) (0) % 61)) : List Int) = someI (cellI (script) (1)) ((cellI (script) (0) % 61)) from by rfl) ?_
      refine ⟨_, rfl, _, _, rfl, (SqL.of h462), (by first | assumption | omega), fun p466 H464 n467 e465 h468 => ?_⟩
      have fr469 := B461.free n467
      have B470 := B461.trans e465
      have h471 : H464 p466 = some (.lst ((escP (someI (cellI (script) (1)) ((cellI (script) (0) % 61))) : List Int).map V.int)) := h468
      have h472 := (e465 _ _ (x456 _ _ h453 (ne_of_none h424 n426).symm))
      refine ⟨_, rfl, _, _, _, _, rfl, rfl, (SqL.of h471), (SqL.of h472), _, rfl, ?_⟩
      refine iteNF (show (escP (someI (cellI (script) (1)) ((cellI (script) (0) % 61))) : List Int) = escP (someI (cellI (script) (1)) ((cellI (script) (0) % 61))) from by rfl) ?_
      refine ⟨_, rfl, _, _, rfl, (SqL.of h472), (by first | assumption | omega), fun p475 H473 n476 e474 h477 => ?_⟩
      have fr478 := B470.free n476
      have B479 := B470.trans e474
      have h480 : H473 p475 = some (.lst ((uneP (escP (someI (cellI (script) (1)) ((cellI (script) (0) % 61)))) : List Int).map V.int)) := h477
      have h481 := (e474 _ _ (e465 _ _ h463))
      refine ⟨_, rfl, _, _, _, _, rfl, rfl, (SqL.of h480), (SqL.of h481), _, rfl, ?_⟩
      refine iteNF (show (uneP (escP (someI (cellI (script) (1)) ((cellI (script) (0) % 61)))) : List Int) = someI (cellI (script) (1)) ((cellI (script) (0) % 61)) from by exact une_esc _) ?_
      have h482 := (e474 _ _ (e465 _ _ (x456 _ _ (x446 _ _ (e436 _ _ (e430 _ _ h422)) (ne_of_none (e430 _ _ h422) n438)) (ne_of_none (e359 _ _ h352) n367))))
      refine ⟨_, rfl, _, _, rfl, (SqL.of h482), (by first | assumption | omega), fun p485 H483 n486 e484 h487 => ?_⟩
      have fr488 := B479.free n486
      have B489 := B479.trans e484
      have h490 : H483 p485 = some (.lst ((uneL (someI (cellI (script) (2)) (((cellI (script) (0) / 61) % 61))) : List Int).map V.int)) := h487
      have h491 := (e484 _ _ h482)
      refine ⟨_, rfl, _, _, rfl, (SqL.of h491), (by first | assumption | omega), fun p494 H492 n495 e493 h496 => ?_⟩
      have fr497 := B489.free n495
      have B498 := B489.trans e493
      have h499 : H492 p494 = some (.lst ((uneP (someI (cellI (script) (2)) (((cellI (script) (0) / 61) % 61))) : List Int).map V.int)) := h496
      have h500 := (e493 _ _ h490)
      refine ⟨_, rfl, _, _, _, _, rfl, rfl, (SqL.of h499), (SqL.of h500), ?_⟩
      exact eq_bl (k _) (by exact (decide_eq_true (une_eq _)).symm)

end
theorem all_mk {l : PySem.W.OpenLaw} {w : World} {K : PySem.W.Frag} {h : Heap} {mg : Str → Option Value} {fa : Addr} (X : K.In h) (G : h.Ns mainGlobals mg) (hfa : mg "law" = some (.ref fa))
    {f0 f1 f2 f3 f4 f5 f6 f7 : Addr} {od0 an0 od1 an1 od2 an2 od3 an3 od4 an4 od5 an5 od6 an6 od7 an7 : Option Addr} {sl0 sl1 sl2 sl3 sl4 sl5 sl6 sl7 : Array (Option Value)} {oc0 kV0 dc0 pm0 cd0 ct0 oc1 kV1 dc1 pm1 cd1 ct1 oc2 kV2 dc2 pm2 cd2 ct2 oc3 kV3 dc3 pm3 cd3 ct3 oc4 kV4 dc4 pm4 cd4 ct4 oc5 kV5 dc5 pm5 cd5 ct5 oc6 kV6 dc6 pm6 cd6 ct6 oc7 kV7 dc7 pm7 cd7 ct7 : Value} {tk0 : Tok}
    (a0 : PySem.W.nsIn K mainGlobals "escape" = some (some (.ref f0))) (l0 : K.lookup f0 = some ⟨oc0, od0, .func (PySem.W.fnOf "escape" "escape" (defArgs s_escape) (defBody s_escape) (defScope s_escape) .none kV0 dc0 pm0 an0 cd0 ct0), sl0⟩) (c0 : PySem.W.codeIn K cd0 "escape" = true) (k0 : PySem.W.keepIn K (.ref f0) = true) (a1 : PySem.W.nsIn K mainGlobals "unescape" = some (some (.ref f1))) (l1 : K.lookup f1 = some ⟨oc1, od1, .func (PySem.W.fnOf "unescape" "unescape" (defArgs s_unescape) (defBody s_unescape) (defScope s_unescape) .none kV1 dc1 pm1 an1 cd1 ct1), sl1⟩) (c1 : PySem.W.codeIn K cd1 "unescape" = true) (k1 : PySem.W.keepIn K (.ref f1) = true) (a2 : PySem.W.nsIn K mainGlobals "_law_cell" = some (some (.ref f2))) (l2 : K.lookup f2 = some ⟨oc2, od2, .func (PySem.W.fnOf "_law_cell" "_law_cell" (defArgs s__law_cell) (defBody s__law_cell) (defScope s__law_cell) .none kV2 dc2 pm2 an2 cd2 ct2), sl2⟩) (c2 : PySem.W.codeIn K cd2 "_law_cell" = true) (k2 : PySem.W.keepIn K (.ref f2) = true) (a3 : PySem.W.nsIn K mainGlobals "_law_draws" = some (some (.ref f3))) (l3 : K.lookup f3 = some ⟨oc3, od3, .func (PySem.W.fnOf "_law_draws" "_law_draws" (defArgs s__law_draws) (defBody s__law_draws) (defScope s__law_draws) .none kV3 dc3 pm3 an3 cd3 ct3), sl3⟩) (c3 : PySem.W.codeIn K cd3 "_law_draws" = true) (k3 : PySem.W.keepIn K (.ref f3) = true) (a4 : PySem.W.nsIn K mainGlobals "_law_escape" = some (some (.ref f4))) (l4 : K.lookup f4 = some ⟨oc4, od4, .func (PySem.W.fnOf "_law_escape" "_law_escape" (defArgs s__law_escape) (defBody s__law_escape) (defScope s__law_escape) .none kV4 dc4 pm4 an4 cd4 ct4), sl4⟩) (c4 : PySem.W.codeIn K cd4 "_law_escape" = true) (k4 : PySem.W.keepIn K (.ref f4) = true) (a5 : PySem.W.nsIn K mainGlobals "_law_unescape" = some (some (.ref f5))) (l5 : K.lookup f5 = some ⟨oc5, od5, .func (PySem.W.fnOf "_law_unescape" "_law_unescape" (defArgs s__law_unescape) (defBody s__law_unescape) (defScope s__law_unescape) .none kV5 dc5 pm5 an5 cd5 ct5), sl5⟩) (c5 : PySem.W.codeIn K cd5 "_law_unescape" = true) (k5 : PySem.W.keepIn K (.ref f5) = true) (a6 : PySem.W.nsIn K mainGlobals "_law_some" = some (some (.ref f6))) (l6 : K.lookup f6 = some ⟨oc6, od6, .func (PySem.W.fnOf "_law_some" "_law_some" (defArgs s__law_some) (defBody s__law_some) (defScope s__law_some) .none kV6 dc6 pm6 an6 cd6 ct6), sl6⟩) (c6 : PySem.W.codeIn K cd6 "_law_some" = true) (k6 : PySem.W.keepIn K (.ref f6) = true) (a7 : PySem.W.nsIn K mainGlobals "law" = some (some (.ref f7))) (l7 : K.lookup f7 = some ⟨oc7, od7, .func (PySem.W.fnOf "law" "law" (defArgs s_law) (defBody s_law) (defScope s_law) .none kV7 dc7 pm7 an7 cd7 ct7), sl7⟩) (c7 : PySem.W.codeIn K cd7 "law" = true) (k7 : PySem.W.keepIn K (.ref f7) = true)
    (z0 : PySem.W.nsIn K mainGlobals "ESCAPE" = some (some (.int 3 tk0))) (z1 : PySem.W.nsIn K mainGlobals "len" = some none) (z2 : PySem.W.nsIn K mainGlobals "int" = some none) (z3 : PySem.W.nsIn K mainGlobals "abs" = some none) (z4 : PySem.W.nsIn K mainGlobals "list" = some none) (z5 : PySem.W.nsIn K mainGlobals "isinstance" = some none) (z6 : PySem.W.nsIn K mainGlobals "range" = some none) :
    ∃ fd : FuncData, (∀ (s : Shared) (v : Value), BindsTo s fd ⟨[v], []⟩ [("script", v)]) ∧ ∀ base : Heap, K.In base → base.Ns mainGlobals mg → FnOk l.prog w K mg base CX0 3 fa fd ["script"] (sp_law K) := by
  have e := hfa.symm.trans (PySem.W.mg_of X G a7)
  cases e
  have T : Txt K mg := ⟨⟨_, PySem.W.mg_of X G z0, ⟨_, rfl⟩⟩, PySem.W.mg_none_of X G z1, PySem.W.mg_none_of X G z2, PySem.W.mg_none_of X G z3, PySem.W.mg_none_of X G z4, PySem.W.mg_none_of X G z5, PySem.W.mg_none_of X G z6⟩
  have F0 := fun_mk (st := s_escape) l0 c0 k0
  have b0 := F0.binds (ps := ["octets"]) fun _ _ _ _ _ _ us hl => match us, hl with | [_], _ => rfl
  have D0 : DefIn K mg "escape" s_escape ["octets"] := ⟨_, _, F0, PySem.W.mg_of X G a0, b0⟩
  have F1 := fun_mk (st := s_unescape) l1 c1 k1
  have b1 := F1.binds (ps := ["octets"]) fun _ _ _ _ _ _ us hl => match us, hl with | [_], _ => rfl
  have D1 : DefIn K mg "unescape" s_unescape ["octets"] := ⟨_, _, F1, PySem.W.mg_of X G a1, b1⟩
  have F2 := fun_mk (st := s__law_cell) l2 c2 k2
  have b2 := F2.binds (ps := ["script", "k"]) fun _ _ _ _ _ _ us hl => match us, hl with | [_, _], _ => rfl
  have D2 : DefIn K mg "_law_cell" s__law_cell ["script", "k"] := ⟨_, _, F2, PySem.W.mg_of X G a2, b2⟩
  have F3 := fun_mk (st := s__law_draws) l3 c3 k3
  have b3 := F3.binds (ps := ["cell", "limits"]) fun _ _ _ _ _ _ us hl => match us, hl with | [_, _], _ => rfl
  have D3 : DefIn K mg "_law_draws" s__law_draws ["cell", "limits"] := ⟨_, _, F3, PySem.W.mg_of X G a3, b3⟩
  have F4 := fun_mk (st := s__law_escape) l4 c4 k4
  have b4 := F4.binds (ps := ["octets"]) fun _ _ _ _ _ _ us hl => match us, hl with | [_], _ => rfl
  have D4 : DefIn K mg "_law_escape" s__law_escape ["octets"] := ⟨_, _, F4, PySem.W.mg_of X G a4, b4⟩
  have F5 := fun_mk (st := s__law_unescape) l5 c5 k5
  have b5 := F5.binds (ps := ["octets"]) fun _ _ _ _ _ _ us hl => match us, hl with | [_], _ => rfl
  have D5 : DefIn K mg "_law_unescape" s__law_unescape ["octets"] := ⟨_, _, F5, PySem.W.mg_of X G a5, b5⟩
  have F6 := fun_mk (st := s__law_some) l6 c6 k6
  have b6 := F6.binds (ps := ["cell", "size"]) fun _ _ _ _ _ _ us hl => match us, hl with | [_, _], _ => rfl
  have D6 : DefIn K mg "_law_some" s__law_some ["cell", "size"] := ⟨_, _, F6, PySem.W.mg_of X G a6, b6⟩
  have F7 := fun_mk (st := s_law) l7 c7 k7
  have b7 := F7.binds (ps := ["script"]) fun _ _ _ _ _ _ us hl => match us, hl with | [_], _ => rfl
  have D7 : DefIn K mg "law" s_law ["script"] := ⟨_, _, F7, PySem.W.mg_of X G a7, b7⟩
  have R_escape : ∀ base : Heap, Cal l.prog w K mg base 1 "escape" (sp_escape K) := fun base => ok_escape D0 T 
  have R_unescape : ∀ base : Heap, Cal l.prog w K mg base 1 "unescape" (sp_unescape K) := fun base => ok_unescape D1 T 
  have R__law_cell : ∀ base : Heap, Cal l.prog w K mg base 1 "_law_cell" (sp__law_cell K) := fun base => ok__law_cell D2 T 
  have R__law_draws : ∀ base : Heap, Cal l.prog w K mg base 1 "_law_draws" (sp__law_draws K) := fun base => ok__law_draws D3 T 
  have R__law_escape : ∀ base : Heap, Cal l.prog w K mg base 1 "_law_escape" (sp__law_escape K) := fun base => ok__law_escape D4 T 
  have R__law_unescape : ∀ base : Heap, Cal l.prog w K mg base 1 "_law_unescape" (sp__law_unescape K) := fun base => ok__law_unescape D5 T 
  have R__law_some : ∀ base : Heap, Cal l.prog w K mg base 2 "_law_some" (sp__law_some K) := fun base => ok__law_some D6 T (R__law_draws base)

  exact ⟨PySem.W.fnOf "law" "law" (defArgs s_law) (defBody s_law) (defScope s_law) .none kV7 dc7 pm7 an7 cd7 ct7, fun s v => .of_eq rfl, fun base _ _ => ok_law F7 T (R__law_some base) (R__law_cell base) (R_escape base) (R__law_escape base) (R_unescape base) (R__law_unescape base)⟩
theorem walk {l : PySem.W.OpenLaw} {q : Program} {loose : List Str} {XP : (Str → Option Value) → Heap → Prop} {YP : World → Heap → Prop} {d : DefRec} {K : Params → PySem.W.Frag} (hn : l.most = some 63) (hdf : d.params.defaults = [])
    (hY : ∀ (w : World) (h : Heap), YP w h → (K w.params).In h)
    (F : ∀ (w : World) (mg : Str → Option Value) (fa : Addr) (h : Heap), (K w.params).In h → h.Ns mainGlobals mg → mg d.name = some (.ref fa) →
      ∃ fd : FuncData, (∀ (s : Shared) (u : Value), BindsTo s fd ⟨[u], []⟩ [("script", u)]) ∧ ∀ base : Heap, (K w.params).In base → base.Ns mainGlobals mg → FnOk l.prog w (K w.params) mg base CX0 3 fa fd ["script"] (sp_law (K w.params))) :
    PySem.W.WalkO q loose XP YP l.row.toRowW d [] (fun f vs => PySem.call f vs) :=
  L2.walk_of (n := 63) (k := 3) (x := "script") (CX := fun _ => CX0) (sp := fun w => sp_law (K w.params)) hn (by decide) hdf ⟨rfl, by decide, by decide⟩ hY F (fun _ _ a ns hl _ hS => ⟨a, ns, rfl, hS, hl, fun _ => rfl⟩) fun _ _ _ _ _ z => z
end Vx
open PySem PySem.W PyProof.Rows
set_option maxRecDepth 100000 in
set_option maxHeartbeats 0 in
theorem PySem.Challenge.cw_thaumatrope_k08_octets_escaped_holds : PySem.Challenge.rw_thaumatrope_k08_octets_escaped.Holds := by
  w_on; o_law; k_head; (case hw => w_witness2)
  k_fill
  refine Vx.walk (l := PySem.Challenge.rw_thaumatrope_k08_octets_escaped) rfl rfl (fun w h Y => PySem.W.kIn_of Y) ?F
  case F =>
    intro w mg fa h KX G hmg
    refine' Vx.all_mk KX G hmg ?a0 ?l0 ?c0 ?k0 ?a1 ?l1 ?c1 ?k1 ?a2 ?l2 ?c2 ?k2 ?a3 ?l3 ?c3 ?k3 ?a4 ?l4 ?c4 ?k4 ?a5 ?l5 ?c5 ?k5 ?a6 ?l6 ?c6 ?k6 ?a7 ?l7 ?c7 ?k7 ?z0 ?z1 ?z2 ?z3 ?z4 ?z5 ?z6
    (case a0 => k_is)
    (case l0 => k_is)
    (case c0 => k_is)
    (case k0 => k_is)
    (case a1 => k_is)
    (case l1 => k_is)
    (case c1 => k_is)
    (case k1 => k_is)
    (case a2 => k_is)
    (case l2 => k_is)
    (case c2 => k_is)
    (case k2 => k_is)
    (case a3 => k_is)
    (case l3 => k_is)
    (case c3 => k_is)
    (case k3 => k_is)
    (case a4 => k_is)
    (case l4 => k_is)
    (case c4 => k_is)
    (case k4 => k_is)
    (case a5 => k_is)
    (case l5 => k_is)
    (case c5 => k_is)
    (case k5 => k_is)
    (case a6 => k_is)
    (case l6 => k_is)
    (case c6 => k_is)
    (case k6 => k_is)
    (case a7 => k_is)
    (case l7 => k_is)
    (case c7 => k_is)
    (case k7 => k_is)
    (case z0 => k_is)
    (case z1 => k_is)
    (case z2 => k_is)
    (case z3 => k_is)
    (case z4 => k_is)
    (case z5 => k_is)
    (case z6 => k_is)
