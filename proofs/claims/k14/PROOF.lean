import PyProof.Rows.All
import Wide.All
import OpenK.AllK
import Wide.FinOn
import HandS.ForMost
import HandS.Codes
import HandS.Steps
import HandS.IsInst
import HandS.Property
import HandS.Wide
import HandS.WideBits
import HandS.Exc
import HandS.ExcOwn
import HandS.TryOnly
import HandS.WordsExc
import HandS.Defaults
import HandS.ExcIs
import HandS.MakeKwOnly
import HandS.RaiseMore
import HandS.Style
import HandS.Zip
import PySem.Challenge.RW_thaumatrope_k14_any_octets_read_as_decis
set_option Elab.async false
set_option linter.all false
set_option maxRecDepth 100000
set_option maxHeartbeats 8000000
namespace Vx
open PySem PySem.Spec PyProof.Rows L2

/-! ### heaps -/
def SameX (m : Addr) (H H' : Hp) : Prop := ∀ b o, H b = some o → b ≠ m → H' b = some o
theorem gen_new {H H' : Hp} {p : Addr} {o : HO} (n : H p = none) (h : upd H p o = H') : Same H H' ∧ H' p = some o := by
  subst h
  exact ⟨fun b u e => by rw [upd_ne (ne_of_none e n)]; exact e, upd_same⟩
theorem gen_mut {H H' : Hp} {m : Addr} {o : HO} (h : upd H m o = H') : SameX m H H' ∧ H' m = some o := by
  subst h
  exact ⟨fun b u e n => by rw [upd_ne n]; exact e, upd_same⟩
theorem same_mut {H0 H H' : Hp} {m : Addr} (B : Same H0 H) (x : SameX m H H') (f : H0 m = none) : Same H0 H' :=
  fun b o e => x b o (B b o e) (ne_of_none e f)
theorem map_get {xs : List Int} {i : Nat} {x : V} (h : (xs.map V.int)[i]? = some x) : ∃ o, xs[i]? = some o ∧ x = .int o := by
  rw [List.getElem?_map] at h
  cases e : xs[i]? with
  | none => rw [e] at h; cases h
  | some z => rw [e] at h; exact ⟨z, rfl, (Option.some.inj h).symm⟩
theorem get_len {α : Type} {xs : List α} {i : Nat} {x : α} (h : xs[i]? = some x) : i < xs.length := (List.getElem?_eq_some_iff.mp h).1
theorem eq_int {Q : VK} {H : Hp} {a b : Int} (h : Q (.int a) H) (e : a = b) : Q (.int b) H := e ▸ h
theorem eq_bl {Q : VK} {H : Hp} {a b : Bool} (h : Q (.bl a) H) (e : a = b) : Q (.bl b) H := e ▸ h
theorem small {n : Nat} (h : n ≤ 1000000) : n < sizeLine := Nat.lt_of_le_of_lt h (by decide)
theorem smallE {n : Nat} (h : n ≤ 1000000) : n ≤ sizeLine := Nat.le_of_lt (small h)
theorem snoc_int {xs : List Int} {y : Int} {H : Hp} {p : Addr} (h : H p = some (.lst (xs.map V.int ++ [V.int y]))) : H p = some (.lst ((xs ++ [y]).map V.int)) := by
  rw [List.map_append]; exact h
theorem cat_int {xs ys : List Int} {H : Hp} {p : Addr} (h : H p = some (.lst (xs.map V.int ++ ys.map V.int))) : H p = some (.lst ((xs ++ ys).map V.int)) := by
  rw [List.map_append]; exact h
theorem cast_lst {xs ys : List Int} {H : Hp} {p : Addr} (h : H p = some (.lst (xs.map V.int))) (e : xs = ys) : H p = some (.lst (ys.map V.int)) := e ▸ h

/-! ### tests -/
theorem dT {p : Prop} [Decidable p] (h : decide p = true) : p := of_decide_eq_true h
theorem dF {p : Prop} [Decidable p] (h : ¬ decide p = true) : ¬ p := fun x => h (decide_eq_true x)
theorem iteD {p A B : Prop} [Decidable p] (h1 : p → A) (h2 : ¬ p → B) : if decide p = true then A else B := by
  by_cases h : p
  · rw [if_pos (decide_eq_true h)]; exact h1 h
  · rw [if_neg (fun x => h (of_decide_eq_true x))]; exact h2 h
theorem iteN {p A B : Prop} [Decidable p] (h1 : ¬ p → A) (h2 : p → B) : if (!decide p) = true then A else B := by
  by_cases h : p
  · rw [decide_eq_true h]; exact iteF (h2 h)
  · rw [decide_eq_false h]; exact iteT (h1 h)
theorem iteB {b : Bool} {A B : Prop} (h1 : b = true → A) (h2 : b = false → B) : if b = true then A else B := by
  cases b with
  | true => exact iteT (h1 rfl)
  | false => exact iteF (h2 rfl)
theorem iteBN {b : Bool} {A B : Prop} (h1 : b = false → A) (h2 : b = true → B) : if (!b) = true then A else B := by
  cases b with
  | true => exact iteF (h2 rfl)
  | false => exact iteT (h1 rfl)
theorem iteDT {p A B : Prop} [Decidable p] (h : p) (k : A) : if decide p = true then A else B := by
  rw [if_pos (decide_eq_true h)]; exact k
theorem iteDF {p A B : Prop} [Decidable p] (h : ¬ p) (k : B) : if decide p = true then A else B := by
  rw [if_neg (fun x => h (of_decide_eq_true x))]; exact k
theorem iteNT {p A B : Prop} [Decidable p] (h : ¬ p) (k : A) : if (!decide p) = true then A else B := iteN (fun _ => k) (fun x => (h x).elim)
theorem iteNF {p A B : Prop} [Decidable p] (h : p) (k : B) : if (!decide p) = true then A else B := iteN (fun x => (x h).elim) (fun _ => k)

/-! ### equality of lists of ints -/
theorem eqvAll_ints : ∀ xs ys : List Int, PyData.eqvAll (xs.map PyData.int) (ys.map PyData.int) = decide (xs = ys)
  | [], [] => by simp [PyData.eqvAll]
  | [], y :: ys => by simp [PyData.eqvAll]
  | x :: xs, [] => by simp [PyData.eqvAll]
  | x :: xs, y :: ys => by
    have ih := eqvAll_ints xs ys
    simp only [List.map_cons, PyData.eqvAll, PyData.eqv, ih]
    by_cases h : x = y <;> by_cases h2 : xs = ys <;> simp [h, h2]
end Vx

namespace Vx
open PySem PySem.Spec PyProof.Rows L2
section
variable {X : Cx}
def rEqLi (K : PySem.W.Frag) : R2 := fun x y H Q => ∃ (a b : Addr) (xs ys : List Int), x = .ref a ∧ y = .ref b ∧ SqL K H a (xs.map V.int) ∧ SqL K H b (ys.map V.int) ∧ Q (.bl (decide (xs = ys))) H
def rNeLi (K : PySem.W.Frag) : R2 := fun x y H Q => ∃ (a b : Addr) (xs ys : List Int), x = .ref a ∧ y = .ref b ∧ SqL K H a (xs.map V.int) ∧ SqL K H b (ys.map V.int) ∧ Q (.bl (!decide (xs = ys))) H
theorem dpAll_ints {K : PySem.W.Frag} {H : Hp} : ∀ xs : List Int, DpAll K H (xs.map V.int) (xs.map PyData.int)
  | [] => .nil
  | x :: xs => .cons (.int x) (dpAll_ints xs)
theorem dp_ints {K : PySem.W.Frag} {H : Hp} {a : Addr} {xs : List Int} (h : SqL K H a (xs.map V.int)) : Dp K H (.ref a) (.list (xs.map PyData.int)) := .lst h (dpAll_ints xs)
theorem canLay_ints : ∀ xs : List Int, PyData.canLayAll0 (xs.map PyData.int) = true
  | [] => by simp [PyData.canLayAll0]
  | x :: xs => by simp [PyData.canLayAll0, PyData.canLay0, canLay_ints xs]
theorem depth_ints : ∀ xs : List Int, PyData.depthAll (xs.map PyData.int) = 0
  | [] => by simp [PyData.depthAll]
  | x :: xs => by simp [PyData.depthAll, PyData.depth, depth_ints xs]
theorem shaped_ints (xs : List Int) : SeqAt.shaped (.list (xs.map PyData.int)) = true := by
  unfold SeqAt.shaped
  simp [PyData.canLay0, canLay_ints, PyData.depth, depth_ints]
theorem eqv_ints (xs ys : List Int) : PyData.eqv (.list (xs.map PyData.int)) (.list (ys.map PyData.int)) = decide (xs = ys) := by
  simp only [PyData.eqv]
  exact eqvAll_ints xs ys
theorem op_eqLi (hu : X.A.units + 64 < cLine) : OpR X (compareOp .Eq) (rEqLi X.K) := by
  intro pins s σ H x y v u Q I rx ry h
  obtain ⟨a, b, xs, ys, rfl, rfl, h1, h2, q⟩ := h
  exact op_eqD hu pins s σ H _ _ v u Q I rx ry ⟨_, _, dp_ints h1, dp_ints h2, shaped_ints xs, shaped_ints ys, by rw [eqv_ints]; exact q⟩
theorem op_neLi (hu : X.A.units + 64 < cLine) : OpR X (compareOp .NotEq) (rNeLi X.K) := by
  intro pins s σ H x y v u Q I rx ry h
  obtain ⟨a, b, xs, ys, rfl, rfl, h1, h2, q⟩ := h
  exact op_neD hu pins s σ H _ _ v u Q I rx ry ⟨_, _, dp_ints h1, dp_ints h2, shaped_ints xs, shaped_ints ys, by rw [eqv_ints]; exact q⟩

/-! ### items, slices, repetition, comprehensions of ints -/
def itI (xs : List Int) (i : Int) : Int := (atI xs i).getD 0
theorem atI_int {xs : List Int} {i : Int} (h : -(xs.length : Int) ≤ i ∧ i < xs.length) : atI (xs.map V.int) i = some (.int (itI xs i)) := by
  unfold itI atI
  rw [List.length_map]
  have hk : ∃ j, ixN xs.length i = some j ∧ j < xs.length := by
    unfold ixN
    by_cases h0 : 0 ≤ i
    · refine ⟨i.toNat, ?_, by omega⟩
      rw [if_pos h0, if_pos h.2]
    · refine ⟨(i + xs.length).toNat, ?_, by omega⟩
      rw [if_neg h0, if_pos h.1]
  obtain ⟨j, e, hj⟩ := hk
  rw [e]
  show (xs.map V.int)[j]? = some (V.int ((xs[j]?).getD 0))
  rw [List.getElem?_map, List.getElem?_eq_getElem hj] <;> rfl
def cutI (xs : List Int) (lo hi : Option Int) : List Int := (xs.drop (HT.sIx xs.length 0 lo)).take (HT.sIx xs.length xs.length hi - HT.sIx xs.length 0 lo)
theorem cut_int {xs : List Int} {lo hi : Option Int} {H : Hp} {p : Addr} (h : H p = some (.lst (cutV (xs.map V.int) lo hi))) : H p = some (.lst ((cutI xs lo hi).map V.int)) := by
  rw [h]
  unfold cutV cutI
  rw [List.length_map, List.map_take, List.map_drop]
def rep (xs : List Int) (k : Int) : List Int := (List.replicate k.toNat xs).flatten
theorem rep_int {xs : List Int} {k : Int} {H : Hp} {p : Addr} (h : H p = some (.lst (List.replicate k.toNat (xs.map V.int)).flatten)) : H p = some (.lst ((rep xs k).map V.int)) := by
  rw [h]
  unfold rep
  rw [List.map_flatten, List.map_replicate]
theorem divW_lit {i j : Int} (h : 0 < j) (h2 : j.natAbs.log2 < 9000) : CDivW i j := ⟨h, h2⟩
theorem divW_small {i j : Int} (h : 0 < j) (h2 : j < 2 ^ 128) : CDivW i j := wide_div h (show j.natAbs < 2 ^ 128 by omega) (by decide) (by decide)
theorem comp_list {xs : List Int} {i : Nat} {x y : Int} {f : Int → Int} {H : Hp} {D : Addr} (hi : xs[i]? = some x) (h : H D = some (.lst (((xs.take i).map f).map V.int ++ [V.int y]))) (e : f x = y) : H D = some (.lst (((xs.take (i + 1)).map f).map V.int)) := by
  rw [h, ← e, List.take_succ, hi, List.map_append, List.map_append] <;> rfl
theorem comp_done {xs : List Int} {f : Int → Int} {H : Hp} {D : Addr} (h : H D = some (.lst (((xs.take (xs.map V.int).length).map f).map V.int))) : H D = some (.lst ((xs.map f).map V.int)) := by
  rw [List.length_map, List.take_length] at h
  exact h
theorem comp_range {i : Nat} {y : Int} {f : Nat → Int} {H : Hp} {D : Addr} (h : H D = some (.lst (((List.range i).map f).map V.int ++ [V.int y]))) (e : f i = y) : H D = some (.lst (((List.range (i + 1)).map f).map V.int)) := by
  rw [h, ← e, List.range_succ, List.map_append, List.map_append] <;> rfl
theorem iteBT {b : Bool} {A B : Prop} (h : b = true) (k : A) : if b = true then A else B := by rw [if_pos h]; exact k
theorem iteBF {b : Bool} {A B : Prop} (h : b = false) (k : B) : if b = true then A else B := by rw [if_neg (by rw [h]; decide)]; exact k
theorem take_succ_get {α : Type} {xs : List α} {i : Nat} {x : α} (hi : xs[i]? = some x) : xs.take (i + 1) = xs.take i ++ [x] := by rw [List.take_succ, hi] <;> rfl
end

/-! ### defs of the module, as callers see them -/
section
variable {P : Program} {w : World} {K : PySem.W.Frag} {mg : Str → Option Value} {base : Heap}
structure DefIn (K : PySem.W.Frag) (mg : Str → Option Value) (x : Str) (st : Stmt) (ps : List Str) : Prop where
  ex : ∃ (f : Addr) (fd : FuncData), Fun K x x st f fd ∧ mg x = some (.ref f) ∧ Binds K fd ps []
structure Cal (P : Program) (w : World) (K : PySem.W.Frag) (mg : Str → Option Value) (base : Heap) (k : Nat) (x : Str) (sp : Sp) : Prop where
  ex : ∃ (f : Addr) (fd : FuncData) (ps : List Str), FnOk P w K mg base CX0 k f fd ps sp ∧ mg x = some (.ref f) ∧ PySem.W.keepIn K (.ref f) = true ∧ Binds K fd ps []
theorem DefIn.ok {x : Str} {st : Stmt} {N ps : List Str} {k : Nat} {sp : Sp} (D : DefIn K mg x st ps) (S : FnScope N ps (defScope st)) (len : ∀ vs H Q E, sp vs H Q E → vs.length = ps.length)
    (hbody : ∀ (f : Addr) (cdv : Value) (A : Around) (outer : List Env) (s : Shared) (H : Hp) (vs : List V) (Q : VK) (E : XK), Room k (A.deeper (envOfC x (defScope st) s.heap.objs.size f cdv)) → sp vs H Q E →
      ∃ t, PSs (cxOf CX0 P w K mg base N x (defScope st) f cdv A outer s H E).nox (defBody st) t ∧ t { nx := fun _ H' => Q .non H', rt := Q } (start N vs) H) : Cal P w K mg base (k + 1) x sp := by
  obtain ⟨f, fd, F, hm, b⟩ := D.ex
  exact ⟨f, fd, ps, F.ok S len (fun cdv A outer s H vs Q E hr h => hbody f cdv A outer s H vs Q E hr h), hm, F.kp, b⟩
end
section
variable {X : Cx} {k j : Nat} {x : Str} {sp : Sp} {p pos : Pos} {e : Expr} {es : List Expr} {t : TA}
theorem vx_call (c : Cal X.prog X.w X.K X.mg X.base k x sp) (hr : Room j X.A) (hk : k ≤ j) (hg : Gl X x) (ha : PA X (e :: es) t)
    (hdb : (x == ("__debug__" : Str)) = false := by decide) (he : starEach (e :: es) X.env = (false, eval e X.env) :: starEach es X.env := by rfl) (hpl : (backTo pos (starEach es X.env)).any (·.1) = false := by rfl) :
    PE X (.Call (.Name x p) (e :: es) [] pos) (tCall sp [] E0 t) := by
  obtain ⟨f, fd, ps, F, hm, kp, b⟩ := c.ex
  exact pe_call F (hr.mono hk) hg hm kp b .nil pass0 ha hdb he hpl
end
end Vx

namespace Vx
open PySem PySem.Spec PyProof.Rows L2
section
variable {σ : L2.St} {H : Hp} {ta tb : TE} {x y z : V} {t : TT}
theorem vv_and {a b : Bool} (h1 : Val ta σ H (.bl a)) (h2 : Val tb σ H (.bl b)) : Val (tAndV ta tb) σ H (.bl (a && b)) := fun Q q => h1 _ ⟨a, rfl, by
  cases a with
  | true => exact iteT (h2 Q q)
  | false => exact iteF q⟩
theorem vv_or {a b : Bool} (h1 : Val ta σ H (.bl a)) (h2 : Val tb σ H (.bl b)) : Val (tOrV ta tb) σ H (.bl (a || b)) := fun Q q => h1 _ ⟨a, rfl, by
  cases a with
  | true => exact iteT q
  | false => exact iteF (h2 Q q)⟩
theorem vv_not {a : Bool} (h1 : Val ta σ H (.bl a)) : Val (tNotV ta) σ H (.bl (!a)) := fun Q q => h1 _ ⟨a, rfl, q⟩
theorem vv_un {r : V → Hp → VK → Prop} (ha : Val ta σ H x) (hr : ∀ Q : VK, Q z H → r x H Q) : Val (tUn r ta) σ H z := fun Q q => ha _ (hr Q q)
theorem vv_cmp {p : Int → Int → Bool} (ha : Val ta σ H x) (hb : Val tb σ H y) (hr : ∀ Q : VK, Q z H → ∃ i j, x = .int i ∧ y = .int j ∧ Q (.bl (p i j)) H) : Val (tCmp p ta tb) σ H z := fun Q q => ha _ (hb _ (hr Q q))
theorem vv_call1 {r : List V → Hp → VK → Prop} (ha : Val ta σ H x) (hr : ∀ Q : VK, Q z H → r [x] H Q) : Val (tCB r (tCons ta tNil)) σ H z := fun Q q => ha _ (hr Q q)
theorem vt_cmp {b : Bool} (h : Val ta σ H (.bl b)) : Ans (tB ta) σ H b := fun Q q => h _ ⟨b, rfl, q⟩
theorem vt_val {b : Bool} (h : Val ta σ H (.bl b)) : Ans (tB ta) σ H b := fun Q q => h _ ⟨b, rfl, q⟩
theorem vt_int {i : Int} {K : PySem.W.Frag} (h : Val ta σ H (.int i)) : Ans (fun σ H Q => ta σ H fun x H' => ∃ k, TruV K x H' k ∧ Q k H') σ H (i != 0) := fun Q q => h _ ⟨_, rfl, q⟩
theorem vv_if {p : Prop} [Decidable p] {a b : Int} (ht : Ans t σ H (decide p)) (hx : Val ta σ H (.int a)) (hy : Val tb σ H (.int b)) : Val (tIf t ta tb) σ H (.int (if p then a else b)) := fun Q q => ht _ (by
  by_cases h : p
  · rw [if_pos h] at q; exact iteDT h (hx Q q)
  · rw [if_neg h] at q; exact iteDF h (hy Q q))
theorem vv_ifb {c : Bool} {a b : Int} (ht : Ans t σ H c) (hx : Val ta σ H (.int a)) (hy : Val tb σ H (.int b)) : Val (tIf t ta tb) σ H (.int (if c = true then a else b)) := fun Q q => ht _ (by
  cases c with
  | true => exact iteT (hx Q q)
  | false => exact iteF (hy Q q))
end
end Vx

namespace Vx
open PySem PySem.Spec PyProof.Rows L2
def rLenLi (K : PySem.W.Frag) : List V → Hp → VK → Prop := fun xs H Q => ∃ (p : Addr) (ns : List Int), xs = [.ref p] ∧ SqL K H p (ns.map V.int) ∧ Q (.int (ns.length : Int)) H
theorem call_lenLi {X : Cx} : CallR X (.builtin "len") (rLenLi X.K) := by
  intro pins s σ H xs us Q I r h
  obtain ⟨p, ns, rfl, hs, q⟩ := h
  exact call_len_seq pins s σ H _ us Q I r ⟨p, _, rfl, Or.inl hs, by rw [List.length_map]; exact q⟩
end Vx

namespace Vx
open PySem PySem.Spec PyProof.Rows L2
section
variable {X : Cx} {K : PySem.W.Frag}
theorem ix_listK (hK : X.K = K := by rfl) : IxR X (rIxL K) := hK ▸ ix_list
theorem sl_listK (hK : X.K = K := by rfl) : SlR X (rSlL K) := hK ▸ sl_list
theorem call_lenLiK (hK : X.K = K := by rfl) : CallR X (.builtin "len") (rLenLi K) := hK ▸ call_lenLi
theorem op_eqLiK (hu : X.A.units + 64 < cLine) (hK : X.K = K := by rfl) : OpR X (compareOp .Eq) (rEqLi K) := hK ▸ op_eqLi hu
theorem op_neLiK (hu : X.A.units + 64 < cLine) (hK : X.K = K := by rfl) : OpR X (compareOp .NotEq) (rNeLi K) := hK ▸ op_neLi hu
theorem pi_listK {tg l : Expr} {tl : TE} (hl : PE X l tl) (hK : X.K = K := by rfl) : PI X tg l (iList K tl) := hK ▸ pi_list hl
theorem cr_sumK (hc : X.calm = true) (hK : X.K = K := by rfl) : CallR X (.builtin "sum") (rSum K) := hK ▸ cr_sum hc
theorem cr_maxK (hc : X.calm = true) (hK : X.K = K := by rfl) : CallR X (.builtin "max") (rMax K) := hK ▸ cr_max hc
theorem cr_minK (hc : X.calm = true) (hK : X.K = K := by rfl) : CallR X (.builtin "min") (rMin K) := hK ▸ cr_min hc
end
end Vx

namespace Vx
open PySem PySem.Spec PyProof.Rows L2
theorem tyes_go {σ : L2.St} {H : Hp} {f g : Hp → Prop} (h : f H) : tYes σ H (fun b H3 => if b = true then f H3 else g H3) := by
  show if true = true then f H else g H
  exact iteT h
end Vx

/-! # second part: data of any depth, the stable heap G, the owned addresses O -/
namespace Vx
open PySem PySem.Spec PyProof.Rows L2
mutual
inductive Rp (H : Hp) : V → PyData → Prop
  | non : Rp H .non .none
  | bl (b : Bool) : Rp H (.bl b) (.bool b)
  | int (i : Int) : Rp H (.int i) (.int i)
  | str (x : Str) : Rp H (.str x) (.str x)
  | lst {a : Addr} {xs : List V} {ds : List PyData} : H a = some (.lst xs) → RpAll H xs ds → Rp H (.ref a) (.list ds)
  | tup {a : Addr} {xs : List V} {ds : List PyData} : H a = some (.tup xs) → RpAll H xs ds → Rp H (.ref a) (.tuple ds)
inductive RpAll (H : Hp) : List V → List PyData → Prop
  | nil : RpAll H [] []
  | cons {v : V} {vs : List V} {d : PyData} {ds : List PyData} : Rp H v d → RpAll H vs ds → RpAll H (v :: vs) (d :: ds)
end
mutual
theorem Rp.mono {H H' : Hp} (e : Same H H') : ∀ {v : V} {d : PyData}, Rp H v d → Rp H' v d
  | _, _, .non => .non
  | _, _, .bl b => .bl b
  | _, _, .int i => .int i
  | _, _, .str x => .str x
  | _, _, .lst h r => .lst (e _ _ h) (RpAll.mono e r)
  | _, _, .tup h r => .tup (e _ _ h) (RpAll.mono e r)
theorem RpAll.mono {H H' : Hp} (e : Same H H') : ∀ {vs : List V} {ds : List PyData}, RpAll H vs ds → RpAll H' vs ds
  | _, _, .nil => .nil
  | _, _, .cons a b => .cons (Rp.mono e a) (RpAll.mono e b)
end
mutual
theorem Rp.dp {K : PySem.W.Frag} {H : Hp} : ∀ {v : V} {d : PyData}, Rp H v d → Dp K H v d
  | _, _, .non => .non
  | _, _, .bl b => .bl b
  | _, _, .int i => .int i
  | _, _, .str x => .str x
  | _, _, .lst h r => .lst (SqL.of h) (RpAll.dp r)
  | _, _, .tup h r => .tup (SqT.of h) (RpAll.dp r)
theorem RpAll.dp {K : PySem.W.Frag} {H : Hp} : ∀ {vs : List V} {ds : List PyData}, RpAll H vs ds → DpAll K H vs ds
  | _, _, .nil => .nil
  | _, _, .cons a b => .cons (Rp.dp a) (RpAll.dp b)
end
theorem RpAll.append {H : Hp} : ∀ {xs ys : List V} {ds es : List PyData}, RpAll H xs ds → RpAll H ys es → RpAll H (xs ++ ys) (ds ++ es)
  | _, _, _, _, .nil, s => s
  | _, _, _, _, .cons r t, s => .cons r (RpAll.append t s)
theorem RpAll.ints {H : Hp} : ∀ xs : List Int, RpAll H (xs.map V.int) (xs.map PyData.int)
  | [] => .nil
  | x :: xs => .cons (.int x) (RpAll.ints xs)
theorem RpAll.bls {H : Hp} : ∀ xs : List Bool, RpAll H (xs.map V.bl) (xs.map PyData.bool)
  | [] => .nil
  | x :: xs => .cons (.bl x) (RpAll.bls xs)
theorem RpAll.one {H : Hp} {v : V} {d : PyData} (h : Rp H v d) : RpAll H [v] [d] := .cons h .nil
theorem RpAll.len {H : Hp} : ∀ {vs : List V} {ds : List PyData}, RpAll H vs ds → vs.length = ds.length
  | _, _, .nil => rfl
  | _, _, .cons _ t => by rw [List.length_cons, List.length_cons, RpAll.len t]
theorem RpAll.at {H : Hp} : ∀ {vs : List V} {ds : List PyData} {i : Nat} {v : V}, RpAll H vs ds → vs[i]? = some v → ∃ d, ds[i]? = some d ∧ Rp H v d
  | _, _, _, _, .nil, h => by simp at h
  | _, _, 0, _, .cons r _, h => by
    simp at h
    subst h
    exact ⟨_, rfl, r⟩
  | _, _, i + 1, _, .cons _ t, h => by
    obtain ⟨d, h1, h2⟩ := RpAll.at (i := i) t (by simpa using h)
    exact ⟨d, by simpa using h1, h2⟩
theorem RpAll.at' {H : Hp} : ∀ {vs : List V} {ds : List PyData} {i : Nat} {d : PyData}, RpAll H vs ds → ds[i]? = some d → ∃ v, vs[i]? = some v ∧ Rp H v d
  | _, _, _, _, .nil, h => by simp at h
  | _, _, 0, _, .cons r _, h => by
    simp at h
    subst h
    exact ⟨_, rfl, r⟩
  | _, _, i + 1, _, .cons _ t, h => by
    obtain ⟨v, h1, h2⟩ := RpAll.at' (i := i) t (by simpa using h)
    exact ⟨v, by simpa using h1, h2⟩
theorem RpAll.take {H : Hp} : ∀ (n : Nat) {vs : List V} {ds : List PyData}, RpAll H vs ds → RpAll H (vs.take n) (ds.take n)
  | 0, _, _, _ => by simpa using RpAll.nil
  | n + 1, _, _, .nil => by simpa using RpAll.nil
  | n + 1, _, _, .cons r t => .cons r (RpAll.take n t)
theorem RpAll.drop {H : Hp} : ∀ (n : Nat) {vs : List V} {ds : List PyData}, RpAll H vs ds → RpAll H (vs.drop n) (ds.drop n)
  | 0, _, _, r => r
  | n + 1, _, _, .nil => by simpa using RpAll.nil
  | n + 1, _, _, .cons r t => RpAll.drop n t
theorem RpAll.set {H : Hp} {v : V} {d : PyData} (h : Rp H v d) : ∀ (n : Nat) {vs : List V} {ds : List PyData}, RpAll H vs ds → RpAll H (vs.set n v) (ds.set n d)
  | _, _, _, .nil => .nil
  | 0, _, _, .cons _ t => .cons h t
  | n + 1, _, _, .cons r t => .cons r (RpAll.set h n t)
theorem RpAll.rep {H : Hp} {vs : List V} {ds : List PyData} (h : RpAll H vs ds) : ∀ n : Nat, RpAll H (List.replicate n vs).flatten (List.replicate n ds).flatten
  | 0 => by simpa using RpAll.nil
  | n + 1 => by
    rw [List.replicate_succ, List.flatten_cons, List.replicate_succ, List.flatten_cons]
    exact RpAll.append h (RpAll.rep h n)
theorem RpAll.get {α : Type} {f : α → PyData} {H : Hp} {vs : List V} {xs : List α} {i : Nat} {v : V} (r : RpAll H vs (xs.map f)) (h : vs[i]? = some v) : ∃ x, xs[i]? = some x ∧ Rp H v (f x) := by
  obtain ⟨d, h1, h2⟩ := RpAll.at r h
  rw [List.getElem?_map] at h1
  cases e : xs[i]? with
  | none => rw [e] at h1; cases h1
  | some x =>
    rw [e] at h1
    have : f x = d := Option.some.inj h1
    exact ⟨x, rfl, this ▸ h2⟩
/-- the item at an index, data -/
theorem RpAll.ix {α : Type} {f : α → PyData} {H : Hp} {vs : List V} {xs : List α} {k : Int} (r : RpAll H vs (xs.map f)) (h : -(xs.length : Int) ≤ k ∧ k < xs.length) : ∃ v x, atI vs k = some v ∧ atI xs k = some x ∧ Rp H v (f x) := by
  have hl : vs.length = xs.length := by rw [r.len, List.length_map]
  have hk : ∃ j, ixN xs.length k = some j ∧ j < xs.length := by
    unfold ixN
    by_cases h0 : 0 ≤ k
    · refine ⟨k.toNat, ?_, by omega⟩
      rw [if_pos h0, if_pos h.2]
    · refine ⟨(k + xs.length).toNat, ?_, by omega⟩
      rw [if_neg h0, if_pos h.1]
  obtain ⟨j, e, hj⟩ := hk
  have hx := List.getElem?_eq_getElem hj
  obtain ⟨v, h1, h2⟩ := RpAll.at' (i := j) (d := f xs[j]) r (by rw [List.getElem?_map, hx] <;> rfl)
  refine ⟨v, xs[j], ?_, ?_, h2⟩
  · unfold atI
    rw [hl, e]
    exact h1
  · unfold atI
    rw [e]
    exact hx

/-! ### types -/
def encL {α : Type} (f : α → PyData) (xs : List α) : PyData := .list (xs.map f)
def encT2 {α β : Type} (f : α → PyData) (g : β → PyData) (p : α × β) : PyData := .tuple [f p.1, g p.2]
def encT3 {α β γ : Type} (f : α → PyData) (g : β → PyData) (h : γ → PyData) (p : α × β × γ) : PyData := .tuple [f p.1, g p.2.1, h p.2.2]
def encT4 {α β γ δ : Type} (f : α → PyData) (g : β → PyData) (h : γ → PyData) (i : δ → PyData) (p : α × β × γ × δ) : PyData := .tuple [f p.1, g p.2.1, h p.2.2.1, i p.2.2.2]
structure EncOk {α : Type} [DecidableEq α] (n : Nat) (f : α → PyData) : Prop where
  lay : ∀ x, PyData.canLay0 (f x) = true
  dep : ∀ x, PyData.depth (f x) ≤ n
  eqv : ∀ x y, PyData.eqv (f x) (f y) = decide (x = y)
theorem encOk_int : EncOk 0 PyData.int := ⟨fun _ => by simp [PyData.canLay0], fun _ => by simp [PyData.depth], fun x y => by simp [PyData.eqv]; by_cases h : x = y <;> simp [h]⟩
theorem encOk_bool : EncOk 0 PyData.bool := ⟨fun _ => by simp [PyData.canLay0], fun _ => by simp [PyData.depth], fun x y => by cases x <;> cases y <;> simp [PyData.eqv]⟩
section
variable {α β γ δ : Type} [DecidableEq α] [DecidableEq β] [DecidableEq γ] [DecidableEq δ] {n m l o : Nat} {f : α → PyData} {g : β → PyData} {h : γ → PyData} {i : δ → PyData}
theorem lay_map (ok : EncOk n f) : ∀ xs : List α, PyData.canLayAll0 (xs.map f) = true
  | [] => by simp [PyData.canLayAll0]
  | x :: xs => by simp [PyData.canLayAll0, ok.lay x, lay_map ok xs]
theorem dep_map (ok : EncOk n f) : ∀ xs : List α, PyData.depthAll (xs.map f) ≤ n
  | [] => by simp [PyData.depthAll]
  | x :: xs => by
    have h1 := ok.dep x
    have h2 := dep_map ok xs
    simp only [List.map_cons, PyData.depthAll]
    omega
theorem eqv_map (ok : EncOk n f) : ∀ xs ys : List α, PyData.eqvAll (xs.map f) (ys.map f) = decide (xs = ys)
  | [], [] => by simp [PyData.eqvAll]
  | [], y :: ys => by simp [PyData.eqvAll]
  | x :: xs, [] => by simp [PyData.eqvAll]
  | x :: xs, y :: ys => by
    have ih := eqv_map ok xs ys
    simp only [List.map_cons, PyData.eqvAll, ok.eqv, ih]
    by_cases h : x = y <;> by_cases h2 : xs = ys <;> simp [h, h2]
theorem encOk_L (ok : EncOk n f) : EncOk (n + 1) (encL f) := ⟨fun xs => by simp [encL, PyData.canLay0, lay_map ok], fun xs => by
  have := dep_map ok xs
  simp only [encL, PyData.depth]
  omega, fun xs ys => by simp only [encL, PyData.eqv]; exact eqv_map ok xs ys⟩
theorem encOk_T2 (ok : EncOk n f) (ok2 : EncOk m g) : EncOk (max n m + 1) (encT2 f g) := ⟨fun x => by simp [encT2, PyData.canLay0, PyData.canLayAll0, ok.lay, ok2.lay], fun x => by
  have h1 := ok.dep x.1
  have h2 := ok2.dep x.2
  simp only [encT2, PyData.depth, PyData.depthAll]
  omega, fun x y => by
  obtain ⟨a, b⟩ := x
  obtain ⟨c, d⟩ := y
  simp only [encT2, PyData.eqv, PyData.eqvAll, ok.eqv, ok2.eqv, Prod.mk.injEq]
  by_cases h1 : a = c <;> by_cases h2 : b = d <;> simp [h1, h2]⟩
theorem encOk_T3 (ok : EncOk n f) (ok2 : EncOk m g) (ok3 : EncOk l h) : EncOk (max n (max m l) + 1) (encT3 f g h) := ⟨fun x => by simp [encT3, PyData.canLay0, PyData.canLayAll0, ok.lay, ok2.lay, ok3.lay], fun x => by
  have h1 := ok.dep x.1
  have h2 := ok2.dep x.2.1
  have h3 := ok3.dep x.2.2
  simp only [encT3, PyData.depth, PyData.depthAll]
  omega, fun x y => by
  obtain ⟨a, b, e⟩ := x
  obtain ⟨c, d, e'⟩ := y
  simp only [encT3, PyData.eqv, PyData.eqvAll, ok.eqv, ok2.eqv, ok3.eqv, Prod.mk.injEq]
  by_cases h1 : a = c <;> by_cases h2 : b = d <;> by_cases h3 : e = e' <;> simp [h1, h2, h3]⟩
theorem encOk_T4 (ok : EncOk n f) (ok2 : EncOk m g) (ok3 : EncOk l h) (ok4 : EncOk o i) : EncOk (max n (max m (max l o)) + 1) (encT4 f g h i) := ⟨fun x => by simp [encT4, PyData.canLay0, PyData.canLayAll0, ok.lay, ok2.lay, ok3.lay, ok4.lay], fun x => by
  have h1 := ok.dep x.1
  have h2 := ok2.dep x.2.1
  have h3 := ok3.dep x.2.2.1
  have h4 := ok4.dep x.2.2.2
  simp only [encT4, PyData.depth, PyData.depthAll]
  omega, fun x y => by
  obtain ⟨a, b, e, u⟩ := x
  obtain ⟨c, d, e', u'⟩ := y
  simp only [encT4, PyData.eqv, PyData.eqvAll, ok.eqv, ok2.eqv, ok3.eqv, ok4.eqv, Prod.mk.injEq]
  by_cases h1 : a = c <;> by_cases h2 : b = d <;> by_cases h3 : e = e' <;> by_cases h4 : u = u' <;> simp [h1, h2, h3, h4]⟩
end
section
variable {X : Cx} {α : Type} [DecidableEq α] {n : Nat} {f : α → PyData}
def rEqT (f : α → PyData) : R2 := fun x y H Q => ∃ (a b : α), Rp H x (f a) ∧ Rp H y (f b) ∧ Q (.bl (decide (a = b))) H
def rNeT (f : α → PyData) : R2 := fun x y H Q => ∃ (a b : α), Rp H x (f a) ∧ Rp H y (f b) ∧ Q (.bl (!decide (a = b))) H
theorem shaped_of (ok : EncOk n f) (hn : n ≤ 64) (a : α) : SeqAt.shaped (f a) = true := by
  unfold SeqAt.shaped
  have h := ok.dep a
  rw [ok.lay]
  simp
  omega
theorem op_eqT (ok : EncOk n f) (hu : X.A.units + 64 < cLine) (hn : n ≤ 64 := by decide) : OpR X (compareOp .Eq) (rEqT f) := by
  intro pins s σ H x y v u Q I rx ry h
  obtain ⟨a, b, h1, h2, q⟩ := h
  exact op_eqD hu pins s σ H _ _ v u Q I rx ry ⟨_, _, h1.dp, h2.dp, shaped_of ok hn a, shaped_of ok hn b, by rw [ok.eqv]; exact q⟩
theorem op_neT (ok : EncOk n f) (hu : X.A.units + 64 < cLine) (hn : n ≤ 64 := by decide) : OpR X (compareOp .NotEq) (rNeT f) := by
  intro pins s σ H x y v u Q I rx ry h
  obtain ⟨a, b, h1, h2, q⟩ := h
  exact op_neD hu pins s σ H _ _ v u Q I rx ry ⟨_, _, h1.dp, h2.dp, shaped_of ok hn a, shaped_of ok hn b, by rw [ok.eqv]; exact q⟩
end
section
variable {H : Hp} {v : V} {α β γ δ : Type} {f : α → PyData} {g : β → PyData} {h : γ → PyData} {i : δ → PyData}
theorem rp_int {x : Int} (r : Rp H v (.int x)) : v = .int x := by cases r; rfl
theorem rp_bool {x : Bool} (r : Rp H v (.bool x)) : v = .bl x := by cases r; rfl
theorem rp_str {x : Str} (r : Rp H v (.str x)) : v = .str x := by cases r; rfl
theorem rp_list {xs : List α} (r : Rp H v (encL f xs)) : ∃ a vs, v = .ref a ∧ H a = some (.lst vs) ∧ RpAll H vs (xs.map f) := by
  unfold encL at r
  cases r with
  | lst h1 h2 => exact ⟨_, _, rfl, h1, h2⟩
theorem rpAll_ints : ∀ {vs : List V} {xs : List Int}, RpAll H vs (xs.map PyData.int) → vs = xs.map V.int
  | _, [], .nil => rfl
  | _, x :: xs, .cons r t => by rw [rp_int r, rpAll_ints t] <;> rfl
theorem rp_ints {xs : List Int} (r : Rp H v (encL PyData.int xs)) : ∃ a, v = .ref a ∧ H a = some (.lst (xs.map V.int)) := by
  obtain ⟨a, vs, e, h1, h2⟩ := rp_list r
  rw [rpAll_ints h2] at h1
  exact ⟨a, e, h1⟩
theorem rp_tup2 {x : α × β} (r : Rp H v (encT2 f g x)) : ∃ a v1 v2, v = .ref a ∧ H a = some (.tup [v1, v2]) ∧ Rp H v1 (f x.1) ∧ Rp H v2 (g x.2) := by
  unfold encT2 at r
  cases r with
  | tup h1 h2 =>
    cases h2 with
    | cons a b =>
      cases b with
      | cons b c =>
        cases c
        exact ⟨_, _, _, rfl, h1, a, b⟩
theorem rp_tup3 {x : α × β × γ} (r : Rp H v (encT3 f g h x)) : ∃ a v1 v2 v3, v = .ref a ∧ H a = some (.tup [v1, v2, v3]) ∧ Rp H v1 (f x.1) ∧ Rp H v2 (g x.2.1) ∧ Rp H v3 (h x.2.2) := by
  unfold encT3 at r
  cases r with
  | tup h1 h2 =>
    cases h2 with
    | cons a b =>
      cases b with
      | cons b c =>
        cases c with
        | cons c d =>
          cases d
          exact ⟨_, _, _, _, rfl, h1, a, b, c⟩
theorem rp_mk_list {a : Addr} {vs : List V} {xs : List α} (h1 : H a = some (.lst vs)) (h2 : RpAll H vs (xs.map f)) : Rp H (.ref a) (encL f xs) := .lst h1 h2
theorem rp_mk_ints {a : Addr} {xs : List Int} (h1 : H a = some (.lst (xs.map V.int))) : Rp H (.ref a) (encL PyData.int xs) := .lst h1 (RpAll.ints xs)
theorem rp_mk2 {a : Addr} {v1 v2 : V} {x : α} {y : β} (h1 : H a = some (.tup [v1, v2])) (r1 : Rp H v1 (f x)) (r2 : Rp H v2 (g y)) : Rp H (.ref a) (encT2 f g (x, y)) := .tup h1 (.cons r1 (.cons r2 .nil))
theorem rp_mk3 {a : Addr} {v1 v2 v3 : V} {x : α} {y : β} {z : γ} (h1 : H a = some (.tup [v1, v2, v3])) (r1 : Rp H v1 (f x)) (r2 : Rp H v2 (g y)) (r3 : Rp H v3 (h z)) : Rp H (.ref a) (encT3 f g h (x, y, z)) := .tup h1 (.cons r1 (.cons r2 (.cons r3 .nil)))
end

/-! ### the two heaps -/
def SameXs (L : List Addr) (H H' : Hp) : Prop := ∀ b o, H b = some o → b ∉ L → H' b = some o
theorem SameXs.of {H H' : Hp} {m : Addr} (x : SameX m H H') : SameXs [m] H H' := fun b o e n => x b o e (fun z => n (by rw [z]; exact List.mem_cons_self))
theorem ni1 {b m : Addr} (h : b ≠ m) : b ∉ [m] := by simpa using h
theorem ni2 {b m n : Addr} (h : b ≠ m) (h2 : b ≠ n) : b ∉ [m, n] := by simp [h, h2]
theorem ni3 {b m n o : Addr} (h : b ≠ m) (h2 : b ≠ n) (h3 : b ≠ o) : b ∉ [m, n, o] := by simp [h, h2, h3]
theorem ni4 {b m n o p : Addr} (h : b ≠ m) (h2 : b ≠ n) (h3 : b ≠ o) (h4 : b ≠ p) : b ∉ [m, n, o, p] := by simp [h, h2, h3, h4]
def hideL (L : List Addr) (H : Hp) : Hp := fun b => if b ∈ L then none else H b
theorem hideL_same (L : List Addr) (H : Hp) : Same (hideL L H) H := fun b o e => by
  unfold hideL at e
  split at e
  · cases e
  · exact e
theorem hideL_in {L : List Addr} {H : Hp} {b : Addr} (h : b ∈ L) : hideL L H b = none := if_pos h
theorem hideL_out {L : List Addr} {H : Hp} {b : Addr} (h : b ∉ L) : hideL L H b = H b := if_neg h
/-- M: owned from outside; H0, G0: at the entry; G: what stays as it is; O: what may change -/
structure Sep (M : List Addr) (H0 G0 G H : Hp) (O : List Addr) : Prop where
  base : SameXs M H0 H
  pm : ∀ a ∈ M, H a ≠ none
  sG : Same G H
  g0 : Same G0 G
  gn : ∀ b, H0 b ≠ none → G0 b = none → G b = none
  ow : ∀ a ∈ O, G a = none ∧ H a ≠ none ∧ (a ∈ M ∨ H0 a = none)
theorem all_nil {P : Addr → Prop} : ∀ x ∈ ([] : List Addr), P x := fun x h => by cases h
theorem all_cons {P : Addr → Prop} {a : Addr} {l : List Addr} (h : P a) (t : ∀ x ∈ l, P x) : ∀ x ∈ a :: l, P x := fun x hx => by
  cases hx with
  | head => exact h
  | tail _ hx => exact t x hx
theorem some_ne {H : Hp} {a : Addr} {o : HO} (h : H a = some o) : H a ≠ none := by
  rw [h]
  exact fun z => nomatch z
theorem same_ne {H H' : Hp} {a : Addr} (e : Same H H') (h : H a ≠ none) : H' a ≠ none := by
  cases q : H a with
  | none => exact absurd q h
  | some o => exact some_ne (e a o q)
section
variable {M : List Addr} {H0 G0 G H H' : Hp} {O : List Addr} {p m : Addr} {o : HO}
theorem Sep.start (M : List Addr) (H : Hp) (hM : ∀ a ∈ M, H a ≠ none) : Sep M H (hideL M H) (hideL M H) H M :=
  ⟨fun _ _ e _ => e, hM, hideL_same M H, Same.refl _, fun _ _ e => e, fun a ha => ⟨hideL_in ha, hM a ha, .inl ha⟩⟩
theorem Sep.startG {G H : Hp} (e : Same G H) : Sep [] H G G H [] := ⟨fun _ _ e _ => e, all_nil, e, Same.refl _, fun _ _ e => e, fun a ha => by cases ha⟩
theorem Sep.start0 (H : Hp) : Sep [] H H H H [] := Sep.startG (Same.refl H)
theorem Sep.b0 (S : Sep [] H0 G0 G H O) : Same H0 H := fun b o e => S.base b o e List.not_mem_nil
theorem Sep.free (S : Sep M H0 G0 G H O) {q : Addr} (n : H q = none) : H0 q = none := by
  cases e : H0 q with
  | none => rfl
  | some o =>
    by_cases h : q ∈ M
    · exact absurd n (S.pm q h)
    · rw [S.base q o e h] at n
      cases n
theorem Sep.same (S : Sep M H0 G0 G H O) (e : Same H H') : Sep M H0 G0 G H' O :=
  ⟨fun b o h n => e b o (S.base b o h n), fun a ha => same_ne e (S.pm a ha), S.sG.trans e, S.g0, S.gn, fun a ha => ⟨(S.ow a ha).1, same_ne e (S.ow a ha).2.1, (S.ow a ha).2.2⟩⟩
theorem Sep.gfree (S : Sep M H0 G0 G H O) {q : Addr} (n : H q = none) : G q = none := by
  cases e : G q with
  | none => rfl
  | some o => rw [S.sG q o e] at n; cases n
theorem Sep.new (S : Sep M H0 G0 G H O) (n : H p = none) (e : Same H H') (h : H' p = some o) (hm : H0 p = none) : Sep M H0 G0 G H' (p :: O) := by
  have S1 := S.same e
  refine ⟨S1.base, S1.pm, S1.sG, S1.g0, S1.gn, fun a ha => ?_⟩
  cases ha with
  | head => exact ⟨S.gfree n, some_ne h, .inr hm⟩
  | tail _ ha => exact S1.ow a ha
theorem Sep.grow (S : Sep M H0 G0 G H O) (n : H p = none) (e : Same H H') (h : H' p = some o) (hm : H0 p = none) : ∃ G', Same G G' ∧ G' p = some o ∧ Sep M H0 G0 G' H' O := by
  have S1 := S.same e
  have ng := S.gfree n
  refine ⟨upd G p o, fun b u q => by rw [upd_ne (ne_of_none q ng)]; exact q, upd_same, S1.base, S1.pm, fun b u q => ?_, fun b u q => ?_, fun b hb gb => ?_, fun a ha => ?_⟩
  · by_cases z : b = p
    · subst z
      rw [upd_same] at q
      exact q ▸ h
    · rw [upd_ne z] at q
      exact S1.sG b u q
  · have := S.g0 b u q
    rw [upd_ne (ne_of_none this ng)]
    exact this
  · by_cases z : b = p
    · subst z
      exact absurd hm hb
    · rw [upd_ne z]
      exact S.gn b hb gb
  · have hne : a ≠ p := fun z => (S.ow a ha).2.1 (by rw [z]; exact n)
    rw [upd_ne hne]
    exact S1.ow a ha
theorem Sep.mut (S : Sep M H0 G0 G H O) {L : List Addr} (x : SameXs L H H') (hL : ∀ a ∈ L, a ∈ O) (hs : ∀ a ∈ L, H' a ≠ none) : Sep M H0 G0 G H' O := by
  have keep : ∀ a, H a ≠ none → H' a ≠ none := fun a h => by
    by_cases hb : a ∈ L
    · exact hs a hb
    · cases q : H a with
      | none => exact absurd q h
      | some o => exact some_ne (x a o q hb)
  refine ⟨fun b o e n => ?_, fun a ha => keep a (S.pm a ha), fun b o e => ?_, S.g0, S.gn, fun a ha => ⟨(S.ow a ha).1, keep a (S.ow a ha).2.1, (S.ow a ha).2.2⟩⟩
  · refine x b o (S.base b o e n) fun hb => ?_
    rcases (S.ow b (hL b hb)).2.2 with z | z
    · exact n z
    · rw [e] at z; cases z
  · refine x b o (S.sG b o e) fun hb => ?_
    have := (S.ow b (hL b hb)).1
    rw [e] at this
    cases this
theorem Sep.mut1 (S : Sep M H0 G0 G H O) (x : SameX m H H') (hm : m ∈ O) (h : H' m = some o) : Sep M H0 G0 G H' O :=
  S.mut (SameXs.of x) (all_cons hm all_nil) (all_cons (some_ne h) all_nil)
theorem Sep.sub (S : Sep M H0 G0 G H O) {O' : List Addr} (h : ∀ a ∈ O', a ∈ O) : Sep M H0 G0 G H O' := ⟨S.base, S.pm, S.sG, S.g0, S.gn, fun a ha => S.ow a (h a ha)⟩
/-- what was owned and is to stay as it is from now on -/
theorem Sep.freeze (S : Sep M H0 G0 G H O) {O' : List Addr} (hp : p ∈ O) (h : H p = some o) (hm : H0 p = none) (hO : ∀ a ∈ O', a ∈ O ∧ a ≠ p) : ∃ G', Same G G' ∧ G' p = some o ∧ Sep M H0 G0 G' H O' := by
  have ng := (S.ow p hp).1
  refine ⟨upd G p o, fun b u q => by rw [upd_ne (ne_of_none q ng)]; exact q, upd_same, S.base, S.pm, fun b u q => ?_, fun b u q => ?_, fun b hb gb => ?_, fun a ha => ?_⟩
  · by_cases z : b = p
    · subst z
      rw [upd_same] at q
      exact q ▸ h
    · rw [upd_ne z] at q
      exact S.sG b u q
  · have := S.g0 b u q
    rw [upd_ne (ne_of_none this ng)]
    exact this
  · by_cases z : b = p
    · subst z
      exact absurd hm hb
    · rw [upd_ne z]
      exact S.gn b hb gb
  · rw [upd_ne (hO a ha).2]
    exact S.ow a (hO a ha).1
/-- a callee that hands on data in a stable heap of its own -/
theorem Sep.step (S : Sep M H0 G0 G H O) {G' : Hp} (e : Same H H') (eG : Same G G') (sG : Same G' H') (hn : ∀ b, H b ≠ none → G b = none → G' b = none) : Sep M H0 G0 G' H' O := by
  have S1 := S.same e
  refine ⟨S1.base, S1.pm, sG, S.g0.trans eG, fun b hb gb => ?_, fun a ha => ⟨hn a (S.ow a ha).2.1 (S.ow a ha).1, (S1.ow a ha).2⟩⟩
  refine hn b (fun z => ?_) (S.gn b hb gb)
  exact hb (S.free z)
theorem Sep.hid (S : Sep M H0 G0 G H O) {L : List Addr} (h : ∀ a ∈ L, a ∈ O) : Same G (hideL L H) := fun b o e => by
  rw [hideL_out fun z => by
    have := (S.ow b (h b z)).1
    rw [e] at this
    cases this]
  exact S.sG b o e
end
end Vx

namespace Vx
open PySem PySem.Spec PyProof.Rows L2
/-! ### lists of plain things (f : V.int, V.bl, V.str) -/
section
variable {α : Type} {f : α → V} {H : Hp} {p : Addr}
theorem cat_map {xs ys : List α} (h : H p = some (.lst (xs.map f ++ ys.map f))) : H p = some (.lst ((xs ++ ys).map f)) := by
  rw [List.map_append]; exact h
theorem snoc_map {xs : List α} {y : α} (h : H p = some (.lst (xs.map f ++ [f y]))) : H p = some (.lst ((xs ++ [y]).map f)) := by
  rw [List.map_append]; exact h
def repL (xs : List α) (k : Int) : List α := (List.replicate k.toNat xs).flatten
theorem rep_map {xs : List α} {k : Int} (h : H p = some (.lst (List.replicate k.toNat (xs.map f)).flatten)) : H p = some (.lst ((repL xs k).map f)) := by
  rw [h]
  unfold repL
  rw [List.map_flatten, List.map_replicate]
def cutL (xs : List α) (lo hi : Option Int) : List α := (xs.drop (HT.sIx xs.length 0 lo)).take (HT.sIx xs.length xs.length hi - HT.sIx xs.length 0 lo)
theorem cut_map {xs : List α} {lo hi : Option Int} (h : H p = some (.lst (cutV (xs.map f) lo hi))) : H p = some (.lst ((cutL xs lo hi).map f)) := by
  rw [h]
  unfold cutV cutL
  rw [List.length_map, List.map_take, List.map_drop]
theorem cast_map {xs ys : List α} (h : H p = some (.lst (xs.map f))) (e : xs = ys) : H p = some (.lst (ys.map f)) := e ▸ h
theorem drop_map {xs : List α} (h : H p = some (.lst (xs.map f).dropLast)) : H p = some (.lst (xs.dropLast.map f)) := by
  rw [h, List.map_dropLast]
theorem ixN_some {n : Nat} {k : Int} (h : -(n : Int) ≤ k ∧ k < n) : ∃ j, ixN n k = some j ∧ j < n := by
  unfold ixN
  by_cases h0 : 0 ≤ k
  · exact ⟨k.toNat, by rw [if_pos h0, if_pos h.2], by omega⟩
  · exact ⟨(k + n).toNat, by rw [if_neg h0, if_pos h.1], by omega⟩
def itD [Inhabited α] (xs : List α) (k : Int) : α := (atI xs k).getD default
theorem atI_map [Inhabited α] {xs : List α} {k : Int} (h : -(xs.length : Int) ≤ k ∧ k < xs.length) : atI (xs.map f) k = some (f (itD xs k)) := by
  obtain ⟨j, e, hj⟩ := ixN_some h
  unfold itD atI
  rw [List.length_map, e]
  show (xs.map f)[j]? = some (f ((xs[j]?).getD default))
  rw [List.getElem?_map, List.getElem?_eq_getElem hj] <;> rfl
def setL (xs : List α) (k : Int) (y : α) : List α := xs.set ((ixN xs.length k).getD 0) y
theorem ixN_map {xs : List α} {k : Int} (h : -(xs.length : Int) ≤ k ∧ k < xs.length) : ixN (xs.map f).length k = some ((ixN xs.length k).getD 0) := by
  obtain ⟨j, e, hj⟩ := ixN_some h
  rw [List.length_map, e] <;> rfl
theorem set_map {xs : List α} {k : Int} {y : α} (h : H p = some (.lst ((xs.map f).set ((ixN xs.length k).getD 0) (f y)))) : H p = some (.lst ((setL xs k y).map f)) := by
  rw [h]
  unfold setL
  rw [List.map_set]
def lastD [Inhabited α] (xs : List α) : α := xs.getLastD default
theorem pop_map [Inhabited α] {xs : List α} (h : xs ≠ []) : (xs.map f)[(xs.map f).length - 1]? = some (f (lastD xs)) := by
  rw [← List.getLast?_eq_getElem?, List.getLast?_map]
  unfold lastD
  cases e : xs.getLast? with
  | none => exact absurd (List.getLast?_eq_none_iff.mp e) h
  | some y =>
    rw [List.getLastD_eq_getLast?, e] <;> rfl
end
/-! ### lists of data -/
section
variable {α β : Type} {f : α → PyData} {g : β → PyData} {G : Hp} {vs ws : List V} {xs ys : List α}
theorem app_map (a : RpAll G vs (xs.map f)) (b : RpAll G ws (ys.map f)) : RpAll G (vs ++ ws) ((xs ++ ys).map f) := by
  rw [List.map_append]; exact a.append b
theorem one_map {v : V} {y : α} (a : RpAll G vs (xs.map f)) (b : Rp G v (f y)) : RpAll G (vs ++ [v]) ((xs ++ [y]).map f) := by
  rw [List.map_append]; exact a.append (.one b)
theorem rep_all (k : Int) (a : RpAll G vs (xs.map f)) : RpAll G (List.replicate k.toNat vs).flatten ((repL xs k).map f) := by
  unfold repL
  rw [List.map_flatten, List.map_replicate]
  exact a.rep _
theorem cut_all (lo hi : Option Int) (a : RpAll G vs (xs.map f)) : RpAll G (cutV vs lo hi) ((cutL xs lo hi).map f) := by
  unfold cutV cutL
  rw [a.len, List.length_map, List.map_take, List.map_drop]
  exact (a.drop _).take _
theorem rp_cast {v : V} {d e : PyData} (r : Rp G v d) (h : d = e) : Rp G v e := h ▸ r
theorem comp_listD {i : Nat} {x : α} {y : β} {v : V} {h : α → β} (hi : xs[i]? = some x) (a : RpAll G vs (((xs.take i).map h).map g)) (r : Rp G v (g y)) (e : h x = y) : RpAll G (vs ++ [v]) (((xs.take (i + 1)).map h).map g) := by
  rw [take_succ_get hi, List.map_append, List.map_append]
  exact a.append (.one (e ▸ r))
theorem comp_rangeD {i : Nat} {y : β} {v : V} {h : Nat → β} (a : RpAll G vs (((List.range i).map h).map g)) (r : Rp G v (g y)) (e : h i = y) : RpAll G (vs ++ [v]) (((List.range (i + 1)).map h).map g) := by
  rw [List.range_succ, List.map_append, List.map_append]
  exact a.append (.one (e ▸ r))
theorem comp_doneD {n : Nat} {h : List α → List β} (hl : n = xs.length) (a : RpAll G vs ((h (xs.take n)).map g)) : RpAll G vs ((h xs).map g) := by
  rw [hl, List.take_length] at a
  exact a
theorem comp_listFD {i : Nat} {x : α} {y : β} {v : V} {h : α → β} {q : α → Bool} (hi : xs[i]? = some x) (hq : q x = true) (a : RpAll G vs ((((xs.take i).filter q).map h).map g)) (r : Rp G v (g y)) (e : h x = y) : RpAll G (vs ++ [v]) ((((xs.take (i + 1)).filter q).map h).map g) := by
  rw [take_succ_get hi, List.filter_append, List.filter_cons, if_pos hq, List.map_append, List.map_append]
  exact a.append (.one (e ▸ r))
theorem skip_listD {i : Nat} {x : α} {h : α → β} {q : α → Bool} (hi : xs[i]? = some x) (hq : q x = false) (a : RpAll G vs ((((xs.take i).filter q).map h).map g)) : RpAll G vs ((((xs.take (i + 1)).filter q).map h).map g) := by
  rw [take_succ_get hi, List.filter_append, List.filter_cons, if_neg (by rw [hq]; decide), List.filter_nil, List.append_nil]
  exact a
end
section
variable {α β : Type} {f : β → V} {H : Hp} {D : Addr} {xs : List α}
theorem compM_list {i : Nat} {x : α} {y : β} {h : α → β} (hi : xs[i]? = some x) (a : H D = some (.lst (((xs.take i).map h).map f ++ [f y]))) (e : h x = y) : H D = some (.lst (((xs.take (i + 1)).map h).map f)) := by
  rw [a, ← e, take_succ_get hi, List.map_append, List.map_append] <;> rfl
theorem compM_range {i : Nat} {y : β} {h : Nat → β} (a : H D = some (.lst (((List.range i).map h).map f ++ [f y]))) (e : h i = y) : H D = some (.lst (((List.range (i + 1)).map h).map f)) := by
  rw [a, ← e, List.range_succ, List.map_append, List.map_append] <;> rfl
theorem compM_done {n : Nat} {h : List α → List β} (hl : n = xs.length) (a : H D = some (.lst ((h (xs.take n)).map f))) : H D = some (.lst ((h xs).map f)) := by
  rw [hl, List.take_length] at a
  exact a
theorem compM_listF {i : Nat} {x : α} {y : β} {h : α → β} {q : α → Bool} (hi : xs[i]? = some x) (hq : q x = true) (a : H D = some (.lst ((((xs.take i).filter q).map h).map f ++ [f y]))) (e : h x = y) : H D = some (.lst ((((xs.take (i + 1)).filter q).map h).map f)) := by
  rw [a, ← e, take_succ_get hi, List.filter_append, List.filter_cons, if_pos hq, List.map_append, List.map_append] <;> rfl
theorem skipM_list {i : Nat} {x : α} {h : α → β} {q : α → Bool} (hi : xs[i]? = some x) (hq : q x = false) (a : H D = some (.lst ((((xs.take i).filter q).map h).map f))) : H D = some (.lst ((((xs.take (i + 1)).filter q).map h).map f)) := by
  rw [a, take_succ_get hi, List.filter_append, List.filter_cons, if_neg (by rw [hq]; decide), List.filter_nil, List.append_nil]
theorem compM_rangeF {i : Nat} {y : β} {h : Nat → β} {q : Nat → Bool} (hq : q i = true) (a : H D = some (.lst ((((List.range i).filter q).map h).map f ++ [f y]))) (e : h i = y) : H D = some (.lst ((((List.range (i + 1)).filter q).map h).map f)) := by
  rw [a, ← e, List.range_succ, List.filter_append, List.filter_cons, if_pos hq, List.map_append, List.map_append] <;> rfl
theorem skipM_range {i : Nat} {h : Nat → β} {q : Nat → Bool} (hq : q i = false) (a : H D = some (.lst ((((List.range i).filter q).map h).map f))) : H D = some (.lst ((((List.range (i + 1)).filter q).map h).map f)) := by
  rw [a, List.range_succ, List.filter_append, List.filter_cons, if_neg (by rw [hq]; decide), List.filter_nil, List.append_nil]
end
/-! ### more rules -/
section
variable {X : Cx} {K : PySem.W.Frag}
theorem ix_tupK (hK : X.K = K := by rfl) : IxR X (rIxT K) := hK ▸ ix_tup
def rLenLK (K : PySem.W.Frag) : List V → Hp → VK → Prop := fun xs H Q => ∃ (p : Addr) (vs : List V) (n : Nat), xs = [.ref p] ∧ SqL K H p vs ∧ vs.length = n ∧ Q (.int (n : Int)) H
theorem call_lenLK (hK : X.K = K := by rfl) : CallR X (.builtin "len") (rLenLK K) := by
  subst hK
  intro pins s σ H xs us Q I r h
  obtain ⟨p, vs, n, rfl, hs, hn, q⟩ := h
  exact call_len_seq pins s σ H _ us Q I r ⟨p, _, rfl, Or.inl hs, by rw [hn]; exact q⟩
def rListLK (K : PySem.W.Frag) : List V → Hp → VK → Prop := fun xs H Q => ∃ (p : Addr) (vs : List V), xs = [.ref p] ∧ SqL K H p vs ∧ ∀ l, H l = none → Q (.ref l) (upd H l (.lst vs))
theorem call_listLK (hK : X.K = K := by rfl) : CallR X (.type "list") (rListLK K) := by
  subst hK
  intro pins s σ H xs us Q I r h
  obtain ⟨p, vs, rfl, hs, q⟩ := h
  exact call_list_of pins s σ H _ us Q I r ⟨p, _, rfl, Or.inl hs, q⟩
theorem cr_anyK (hc : X.calm = true) (hK : X.K = K := by rfl) : CallR X (.builtin "any") (rAny K) := hK ▸ cr_any hc
theorem cr_allK (hc : X.calm = true) (hK : X.K = K := by rfl) : CallR X (.builtin "all") (rAll K) := hK ▸ cr_all hc
theorem pi_tupK {tg l : Expr} {tl : TE} (hl : PE X l tl) (hK : X.K = K := by rfl) : PI X tg l (iTup K tl) := hK ▸ pi_tup hl
theorem pip {op : Operator} {r : R2} (h : OpR X (inplaceOp op) r) : PIp X op r := fun pins s σ H x y v u Q I rx ry q => h pins s σ H x y v u Q I rx ry q
/-- an item at a place from 0 on, by itself (ahead of o[i] op= e) -/
def rIxP (K : PySem.W.Frag) : R2 := fun x y H Q => ∃ (p : Addr) (xs : List V) (k : Int) (v : V), x = .ref p ∧ y = .int k ∧ SqL K H p xs ∧ 0 ≤ k ∧ k < 2 ^ 62 ∧ atI xs k = some v ∧ Q v H
theorem pget_list (hK : X.K = K := by rfl) : PGet X (rIxP K) := by
  subst hK
  intro pins s σ H o i ov iv Q I ro ri h
  obtain ⟨p, xs, k, v, rfl, rfl, hq, h0, h62, ha, q⟩ := h
  cases ro
  obtain ⟨t, rfl⟩ := ri
  obtain ⟨its, r, pl, hz⟩ := I.list hq
  obtain ⟨j, h1, h2, h3, h4, h5⟩ := atI_get ha
  obtain ⟨w, ew, rw'⟩ := r.get h2
  have hj : k.toNat = j := by
    rw [seqIndex_of h0 h5] at h1
    exact Option.some.inj h1
  exact getItem_listL pl.isList h0 (by omega) (by rw [hj]; simpa using ew) ⟨v, H, I, rw', q⟩
theorem tru_map {α : Type} [DecidableEq α] {f : α → V} {xs : List α} : (!decide (xs = [])) = !(xs.map f).isEmpty := by
  cases xs <;> simp
end
end Vx

namespace Vx
open PySem PySem.Spec PyProof.Rows L2
/-! ### objects -/
section
variable {M : List Addr} {H0 G0 G H H' : Hp} {O : List Addr} {p m : Addr} {o : HO}
theorem gen_obj {x dx : Addr} {o1 o2 : HO} (nx : H x = none) (nd : H dx = none) (ne : dx ≠ x) (h : upd (upd H dx o1) x o2 = H') : Same H H' ∧ H' x = some o2 := by
  subst h
  exact ⟨fun b u e => by rw [upd_ne (ne_of_none e nx), upd_ne (ne_of_none e nd)]; exact e, upd_same⟩
theorem sameX_of {m : Addr} (x : SameXs [m] H H') : SameX m H H' := fun b o e n => x b o e (by simpa using n)
theorem g_ne {a b : Addr} (h : G a = some o) (S : Sep M H0 G0 G H O) (hb : b ∈ O) : a ≠ b := fun z => by
  have := (S.ow b hb).1
  rw [← z, h] at this
  cases this
/-- an object whose making has laid some lists -/
theorem Sep.mutnew (S : Sep M H0 G0 G H O) {L : List Addr} (x : SameXs L H H') (hL : ∀ a ∈ L, a ∈ O) (hs : ∀ a ∈ L, H' a ≠ none) (hn : H p = none) (hp : H' p ≠ none) (h0 : H0 p = none) : Sep M H0 G0 G H' (p :: O) := by
  have S1 := S.mut x hL hs
  refine ⟨S1.base, S1.pm, S1.sG, S1.g0, S1.gn, all_cons ⟨S.gfree hn, hp, .inr h0⟩ S1.ow⟩
theorem Sep.init (S : Sep M H0 G0 G H O) (x : SameX m H H') (hm : m ∈ O) (h : H' m = some o) (L : List Addr) (hL : ∀ a ∈ L, H a = none ∧ H' a ≠ none ∧ H0 a = none) : Sep M H0 G0 G H' (L ++ O) := by
  have S1 := S.mut1 x hm h
  refine ⟨S1.base, S1.pm, S1.sG, S1.g0, S1.gn, fun a ha => ?_⟩
  rcases List.mem_append.mp ha with z | z
  · obtain ⟨h1, h2, h3⟩ := hL a z
    exact ⟨S.gfree h1, h2, .inr h3⟩
  · exact S1.ow a z
end
section
variable {P : Program} {w : World} {K : PySem.W.Frag} {mg : Str → Option Value} {base : Heap}
structure MethIn (K : PySem.W.Frag) (C : Addr) (q m : Str) (st : Stmt) (ps : List Str) : Prop where
  ex : ∃ (f : Addr) (fd : FuncData), Fun K m q st f fd ∧ Meth K C m f ∧ Binds K fd ps []
structure PropIn (K : PySem.W.Frag) (C : Addr) (q m : Str) (st : Stmt) (ps : List Str) : Prop where
  ex : ∃ (r f : Addr) (fd : FuncData), Fun K m q st f fd ∧ PropOf K C m r f ∧ Binds K fd ps []
structure InitIn (K : PySem.W.Frag) (mg : Str → Option Value) (C : Addr) (cn q : Str) (st : Stmt) (ps : List Str) : Prop where
  ex : ∃ (f : Addr) (fd : FuncData), Fun K "__init__" q st f fd ∧ Mk K C f ∧ mg cn = some (.ref C) ∧ Binds K fd ps []
structure MetC (P : Program) (w : World) (K : PySem.W.Frag) (mg : Str → Option Value) (base : Heap) (k : Nat) (C : Addr) (m : Str) (sp : Sp) : Prop where
  ex : ∃ (f : Addr) (fd : FuncData) (ps : List Str), Cls K C ∧ Meth K C m f ∧ FnOk P w K mg base CX0 k f fd ps sp ∧ Binds K fd ps []
structure PropC (P : Program) (w : World) (K : PySem.W.Frag) (mg : Str → Option Value) (base : Heap) (k : Nat) (C : Addr) (m : Str) (sp : Sp) : Prop where
  ex : ∃ (q f : Addr) (fd : FuncData) (ps : List Str), Cls K C ∧ PropOf K C m q f ∧ FnOk P w K mg base CX0 k f fd ps sp ∧ Binds K fd ps []
structure MakC (P : Program) (w : World) (K : PySem.W.Frag) (mg : Str → Option Value) (base : Heap) (k : Nat) (cn : Str) (C : Addr) (sp : Sp) : Prop where
  ex : ∃ (f : Addr) (fd : FuncData) (ps : List Str), Mk K C f ∧ FnOk P w K mg base CX0 k f fd ps sp ∧ mg cn = some (.ref C) ∧ Binds K fd ps []
abbrev Body (P : Program) (w : World) (K : PySem.W.Frag) (mg : Str → Option Value) (base : Heap) (x : Str) (st : Stmt) (N : List Str) (k : Nat) (sp : Sp) : Prop :=
  ∀ (f : Addr) (cdv : Value) (A : Around) (outer : List Env) (s : Shared) (H : Hp) (vs : List V) (Q : VK) (E : XK), Room k (A.deeper (envOfC x (defScope st) s.heap.objs.size f cdv)) → sp vs H Q E →
    ∃ t, PSs (cxOf CX0 P w K mg base N x (defScope st) f cdv A outer s H E).nox (defBody st) t ∧ t { nx := fun _ H' => Q .non H', rt := Q } (start N vs) H
theorem MethIn.ok {C : Addr} {q m : Str} {st : Stmt} {N ps : List Str} {k : Nat} {sp : Sp} (D : MethIn K C q m st ps) (c : Cls K C) (S : FnScope N ps (defScope st)) (len : ∀ vs H Q E, sp vs H Q E → vs.length = ps.length)
    (hbody : Body P w K mg base q st N k sp) : MetC P w K mg base (k + 1) C m sp := by
  obtain ⟨f, fd, F, me, b⟩ := D.ex
  exact ⟨f, fd, ps, c, me, F.ok S len (fun cdv A outer s H vs Q E hr h => hbody f cdv A outer s H vs Q E hr h), b⟩
theorem PropIn.ok {C : Addr} {q m : Str} {st : Stmt} {N ps : List Str} {k : Nat} {sp : Sp} (D : PropIn K C q m st ps) (c : Cls K C) (S : FnScope N ps (defScope st)) (len : ∀ vs H Q E, sp vs H Q E → vs.length = ps.length)
    (hbody : Body P w K mg base q st N k sp) : PropC P w K mg base (k + 1) C m sp := by
  obtain ⟨r, f, fd, F, me, b⟩ := D.ex
  exact ⟨r, f, fd, ps, c, me, F.ok S len (fun cdv A outer s H vs Q E hr h => hbody f cdv A outer s H vs Q E hr h), b⟩
theorem InitIn.ok {C : Addr} {cn q : Str} {st : Stmt} {N ps : List Str} {k : Nat} {sp : Sp} (D : InitIn K mg C cn q st ps) (S : FnScope N ps (defScope st)) (len : ∀ vs H Q E, sp vs H Q E → vs.length = ps.length)
    (hbody : Body P w K mg base q st N k sp) : MakC P w K mg base (k + 1) cn C sp := by
  obtain ⟨f, fd, F, me, hm, b⟩ := D.ex
  exact ⟨f, fd, ps, me, F.ok S len (fun cdv A outer s H vs Q E hr h => hbody f cdv A outer s H vs Q E hr h), hm, b⟩
end
section
variable {X : Cx} {k j : Nat} {C : Addr} {x m : Str} {sp : Sp} {p pos apos : Pos} {e o : Expr} {es : List Expr} {ta : TE} {t : TA}
theorem vx_call0 (c : Cal X.prog X.w X.K X.mg X.base k x sp) (hr : Room j X.A) (hk : k ≤ j) (hg : Gl X x) (hdb : (x == ("__debug__" : Str)) = false := by decide) : PE X (.Call (.Name x p) [] [] pos) (tCall sp [] E0 tNil) := by
  obtain ⟨f, fd, ps, F, hm, kp, b⟩ := c.ex
  exact pe_call0 F (hr.mono hk) hg hm kp b .nil pass0 hdb
theorem vx_make (c : MakC X.prog X.w X.K X.mg X.base k x C sp) (hr : Room j X.A) (hk : k + 1 ≤ j) (hg : Gl X x) (ha : PA X (e :: es) t)
    (hdb : (x == ("__debug__" : Str)) = false := by decide) (he : starEach (e :: es) X.env = (false, eval e X.env) :: starEach es X.env := by rfl) (hpl : (backTo pos (starEach es X.env)).any (·.1) = false := by rfl) :
    PE X (.Call (.Name x p) (e :: es) [] pos) (tMake C sp [] E0 t) := by
  obtain ⟨f, fd, ps, M, F, hm, b⟩ := c.ex
  exact pe_make M F (hr.mono hk) hg hm b .nil pass0 ha hdb he hpl
theorem vx_make0 (c : MakC X.prog X.w X.K X.mg X.base k x C sp) (hr : Room j X.A) (hk : k + 1 ≤ j) (hg : Gl X x) (hdb : (x == ("__debug__" : Str)) = false := by decide) :
    PE X (.Call (.Name x p) [] [] pos) (tMake C sp [] E0 tNil) := by
  obtain ⟨f, fd, ps, M, F, hm, b⟩ := c.ex
  exact pe_make0 M F (hr.mono hk) hg hm b .nil pass0 hdb
theorem vx_meth {pl : Sem Bool} (c : MetC X.prog X.w X.K X.mg X.base k C m sp) (hr : Room j X.A) (hk : k ≤ j) (he : PE X o ta) (ha : PA X (e :: es) t)
    (hst : starEach (e :: es) X.env = (false, eval e X.env) :: starEach es X.env := by rfl) (hpl : (backTo pos (starEach es X.env)).any (·.1) = false := by rfl)
    (ht : eval (.Call (.Attribute o m apos) (e :: es) [] pos) X.env = (do
      let ov ← eval o X.env
      standAt apos.atName
      let (f, first) ← holding [ov] (getMethod ov m pl)
      callWith pos f first (backTo pos (starEach (e :: es) X.env)) (backToKw pos (keywordEach [] X.env))) := by rfl) :
    PE X (.Call (.Attribute o m apos) (e :: es) [] pos) (tMeth C m sp [] E0 ta t) := by
  obtain ⟨f, fd, ps, hc, hm, F, b⟩ := c.ex
  exact pe_meth he hc hm F (hr.mono hk) b .nil pass0 ha hst hpl ht
theorem vx_meth0 {pl : Sem Bool} (c : MetC X.prog X.w X.K X.mg X.base k C m sp) (hr : Room j X.A) (hk : k ≤ j) (he : PE X o ta)
    (ht : eval (.Call (.Attribute o m apos) [] [] pos) X.env = (do
      let ov ← eval o X.env
      standAt apos.atName
      let (f, first) ← holding [ov] (getMethod ov m pl)
      callWith pos f first (backTo pos (starEach [] X.env)) (backToKw pos (keywordEach [] X.env))) := by rfl) :
    PE X (.Call (.Attribute o m apos) [] [] pos) (tMeth C m sp [] E0 ta tNil) := by
  obtain ⟨f, fd, ps, hc, hm, F, b⟩ := c.ex
  exact pe_meth0 he hc hm F (hr.mono hk) b .nil pass0 ht
theorem vx_prop (c : PropC X.prog X.w X.K X.mg X.base k C m sp) (hr : Room j X.A) (hk : k + 1 ≤ j) (he : PE X o ta) (hab : attributeBase o m X.env (eval o X.env) = eval o X.env) : PE X (.Attribute o m pos) (tProp C sp [] E0 ta) := by
  obtain ⟨q, f, fd, ps, hc, hp, F, b⟩ := c.ex
  exact pe_prop he hc hp F (hr.mono hk) b .nil pass0 hab
end
theorem iteBNT {b : Bool} {A B : Prop} (h : b = false) (k : A) : if (!b) = true then A else B := by rw [h]; exact iteT k
theorem iteNN {b : Bool} {A B : Prop} (h : if b = true then A else B) : if (!!b) = true then A else B := by rw [Bool.not_not]; exact h
theorem iteBNF {b : Bool} {A B : Prop} (h : b = true) (k : B) : if (!b) = true then A else B := by rw [h]; exact iteF k
theorem shl_side {i j : Int} (h0 : 0 ≤ j) (h1 : j ≤ 4096) (h2 : -(2 ^ 4096) < i) (h3 : i < 2 ^ 4096) : CShl i j := by
  obtain ⟨k, rfl⟩ := Int.eq_ofNat_of_zero_le h0
  exact shl_ok (n := 4096) (by omega) (by omega)
end Vx

namespace Vx
open PySem PySem.Spec PyProof.Rows L2
section
variable {X : Cx} {K : PySem.W.Frag}
theorem fldK {e : Expr} {f : Str} {pos : Pos} {ta : TE} (he : PE X e ta) (hb : attributeBase e f X.env (eval e X.env) = eval e X.env := by rfl) (hK : X.K = K := by rfl) : PE X (.Attribute e f pos) (tFld K ta f) := hK ▸ pe_fld he hb
theorem pg_tupK {es : List Expr} {k : Nat} {t : TGs} {n : Nat} {pos : Pos} (h : PGs X es t) (hc : X.calm = true := by rfl)
    (hn : (assignEach es X.env).length = n := by rfl) (hst : (assignEach es X.env).findIdx? (·.1) = none := by rfl) (hK : X.K = K := by rfl) : PG X (.Tuple es k pos) (gTup K n t) := hK ▸ pg_tup hc h hn hst
end
end Vx

namespace Vx
open PySem PySem.Spec PyProof.Rows L2
section
variable {α β : Type} {f : α → PyData} {g : β → PyData} {fv : α → V} {gv : β → V} {G : Hp} {vs ws : List V} {xs : List α} {ys : List β}
theorem big1 {n : Nat} (h : n ≤ 1000000) : n ≤ sizeLine := smallE h
theorem cat_len (a : RpAll G vs (xs.map f)) (b : RpAll G ws (ys.map g)) (h : xs.length + ys.length ≤ 1000000) : vs.length + ws.length ≤ sizeLine := by
  rw [a.len, b.len, List.length_map, List.length_map]; exact smallE h
theorem cat_lenM (h : xs.length + ys.length ≤ 1000000) : (xs.map fv).length + (ys.map gv).length ≤ sizeLine := by
  rw [List.length_map, List.length_map]; exact smallE h
theorem rep_len {k : Nat} (a : RpAll G vs (xs.map f)) (h : xs.length * k ≤ 1000000) : vs.length * k ≤ sizeLine := by
  rw [a.len, List.length_map]; exact smallE h
theorem rep_lenM {k : Nat} (h : xs.length * k ≤ 1000000) : (xs.map fv).length * k ≤ sizeLine := by
  rw [List.length_map]; exact smallE h
theorem app_len (a : RpAll G vs (xs.map f)) (h : xs.length ≤ 1000000) : vs.length < sizeLine := by
  rw [a.len, List.length_map]; exact small h
theorem app_lenM (h : xs.length ≤ 1000000) : (xs.map fv).length < sizeLine := by
  rw [List.length_map]; exact small h
theorem cutL_len {α : Type} (xs : List α) (lo hi : Option Int) : (cutL xs lo hi).length ≤ xs.length := by
  unfold cutL
  rw [List.length_take, List.length_drop]
  omega
theorem repL_len {α : Type} (xs : List α) (k : Int) : (repL xs k).length = k.toNat * xs.length := by
  unfold repL
  simp
end
end Vx
/-! # third part: what a def computes, as a plain function with refusals -/
namespace Vx
open PySem PySem.Spec PyProof.Rows L2
inductive Rx (α : Type) where
  | ok (a : α)
  | er (e : Nat)
  | bad
def Rx.bind {α β : Type} (m : Rx α) (f : α → Rx β) : Rx β :=
  match m with
  | .ok a => f a
  | .er e => .er e
  | .bad => .bad
/-- what is wanted of an outcome -/
def cW {α : Type} (m : Rx α) (K : α → Prop) (E : Nat → Prop) : Prop :=
  match m with
  | .ok a => K a
  | .er e => E e
  | .bad => False
def grd {α : Type} (p : Prop) [Decidable p] (m : Rx α) : Rx α := if p then m else .bad
/-- within a comprehension nothing may be raised -/
def noEr {α : Type} (m : Rx α) : Rx α :=
  match m with
  | .ok a => .ok a
  | _ => .bad
/-- what the clause does not name may not come -/
def tryR {α β : Type} (m : Rx α) (cs : List Nat) (f : α → Rx β) (h : Nat → Rx β) : Rx β :=
  match m with
  | .ok a => f a
  | .er e => if e ∈ cs then h e else .bad
  | .bad => .bad
def bnd {α β : Type} (a : α) (f : α → Rx β) : Rx β := f a
inductive Lp (σ ρ : Type) where
  | go (s : σ)
  | bk (s : σ)
  | rt (r : ρ)
def Lp.aft {σ ρ τ : Type} (l : Lp σ ρ) (kr : ρ → Rx τ) (k : σ → Rx τ) : Rx τ :=
  match l with
  | .go s => k s
  | .bk s => k s
  | .rt r => kr r
def forS {σ α : Type} : List α → σ → (σ → α → Rx σ) → Rx σ
  | [], s, _ => .ok s
  | x :: r, s, f => (f s x).bind fun s' => forS r s' f
def forR {σ α ρ : Type} : List α → σ → (σ → α → Rx (Lp σ ρ)) → Rx (Lp σ ρ)
  | [], s, _ => .ok (.go s)
  | x :: r, s, f => (f s x).bind fun l =>
    match l with
    | .go s' => forR r s' f
    | .bk s' => .ok (.go s')
    | .rt v => .ok (.rt v)
def whileR {σ ρ : Type} : Nat → σ → (σ → Rx (Lp σ ρ)) → Rx (Lp σ ρ)
  | 0, _, _ => .bad
  | n + 1, s, f => (f s).bind fun l =>
    match l with
    | .go s' => whileR n s' f
    | .bk s' => .ok (.go s')
    | .rt v => .ok (.rt v)
def mapA {α β : Type} : List α → List β → (α → Rx β) → Rx (List β)
  | [], acc, _ => .ok acc
  | x :: r, acc, f => grd (acc.length ≤ 1000000) ((f x).bind fun y => mapA r (acc ++ [y]) f)
def mapF {α β : Type} : List α → List β → (α → Rx (Option β)) → Rx (List β)
  | [], acc, _ => .ok acc
  | x :: r, acc, f => grd (acc.length ≤ 1000000) ((f x).bind fun y =>
    match y with
    | some z => mapF r (acc ++ [z]) f
    | none => mapF r acc f)
section
variable {α β γ σ ρ τ : Type} {K : α → Prop} {E : Nat → Prop}
theorem cW_gen {m : Rx α} (h : cW m K E) : ∃ (K' : α → Prop) (E' : Nat → Prop), (∀ v, K' v → K v) ∧ (∀ e, E' e → E e) ∧ cW m K' E' := ⟨K, E, fun _ x => x, fun _ x => x, h⟩
theorem cW_grd {p : Prop} {dp : Decidable p} {m : Rx α} (h : cW (grd p m) K E) : p ∧ cW m K E := by
  unfold grd at h
  split at h
  · exact ⟨‹p›, h⟩
  · exact h.elim
theorem cW_pos {p : Prop} {dp : Decidable p} {a b : Rx α} (c : p) (h : cW (if p then a else b) K E) : cW a K E := by rwa [if_pos c] at h
theorem cW_neg {p : Prop} {dp : Decidable p} {a b : Rx α} (c : ¬ p) (h : cW (if p then a else b) K E) : cW b K E := by rwa [if_neg c] at h
theorem cW_call {m : Rx β} {f : β → Rx α} {K2 : β → Prop} {E2 : Nat → Prop} (h : cW (m.bind f) K E) (ho : ∀ v, cW (f v) K E → K2 v) (he : ∀ e, E e → E2 e) : cW m K2 E2 := by
  cases m with
  | ok a => exact ho a h
  | er e => exact he e h
  | bad => exact h
theorem cW_push {m : Rx β} {f : β → Rx α} (h : cW (m.bind f) K E) : ∃ K2 : β → Prop, (∀ v, K2 v → cW (f v) K E) ∧ cW m K2 E := ⟨fun v => cW (f v) K E, fun _ x => x, cW_call h (fun _ x => x) fun _ x => x⟩
theorem cW_name {m : Rx α} (h : cW m K E) : ∃ K' : α → Prop, (∀ v, K' v → K v) ∧ cW m K' E := ⟨K, fun _ x => x, h⟩
theorem cW_noEr {m : Rx α} (h : cW (noEr m) K E) : cW m K (fun _ => False) := by
  cases m with
  | ok a => exact h
  | er e => exact h
  | bad => exact h
theorem cW_try {m : Rx β} {cs : List Nat} {f : β → Rx α} {g : Nat → Rx α} {K2 : β → Prop} {E2 : Nat → Prop} (h : cW (tryR m cs f g) K E) (ho : ∀ v, cW (f v) K E → K2 v) (hc : ∀ e, e ∈ cs → cW (g e) K E → E2 e) : cW m K2 E2 := by
  cases m with
  | ok a => exact ho a h
  | er e =>
    have h2 : cW (if e ∈ cs then g e else .bad) K E := h
    by_cases q : e ∈ cs
    · exact hc e q (cW_pos q h2)
    · exact (cW_neg q h2).elim
  | bad => exact h
theorem cW_bnd {a : β} {f : β → Rx α} (h : cW (bnd a f) K E) : cW (f a) K E := h
theorem cW_ok {a : α} (h : cW (.ok a) K E) : K a := h
theorem cW_er {e : Nat} (h : cW (.er e : Rx α) K E) : E e := h
theorem cW_negB {b : Bool} {x y : Rx α} (c : b = false) (h : cW (if b = true then x else y) K E) : cW y K E := cW_neg (by rw [c]; decide) h
theorem cW_forS {xs : List β} {i : Nat} {x : β} {s : α} {f : α → β → Rx α} (hx : xs[i]? = some x) (h : cW (forS (xs.drop i) s f) K E) : cW (f s x) (fun s' => cW (forS (xs.drop (i + 1)) s' f) K E) E := by
  rw [List.drop_eq_getElem?_toList_append, hx] at h
  exact cW_call h (fun _ z => z) fun _ z => z
theorem cW_forS0 {xs : List β} {n : Nat} {s : α} {f : α → β → Rx α} (hn : n = xs.length) (h : cW (forS (xs.drop n) s f) K E) : K s := by
  subst hn
  rw [List.drop_length] at h
  exact h
theorem cW_forR {K : Lp σ ρ → Prop} {xs : List β} {i : Nat} {x : β} {s : σ} {f : σ → β → Rx (Lp σ ρ)} (hx : xs[i]? = some x) (h : cW (forR (xs.drop i) s f) K E) :
    cW (f s x) (fun l => match l with | .go s' => cW (forR (xs.drop (i + 1)) s' f) K E | .bk s' => K (.go s') | .rt v => K (.rt v)) E := by
  rw [List.drop_eq_getElem?_toList_append, hx] at h
  refine cW_call h (fun l z => ?_) fun _ z => z
  cases l with
  | go s' => exact z
  | bk s' => exact z
  | rt v => exact z
theorem cW_forR0 {K : Lp σ ρ → Prop} {xs : List β} {n : Nat} {s : σ} {f : σ → β → Rx (Lp σ ρ)} (hn : n = xs.length) (h : cW (forR (xs.drop n) s f) K E) : K (.go s) := by
  subst hn
  rw [List.drop_length] at h
  exact h
theorem cW_whileR {K : Lp σ ρ → Prop} {m : Nat} {s : σ} {f : σ → Rx (Lp σ ρ)} (h : cW (whileR m s f) K E) :
    ∃ n, m = n + 1 ∧ cW (f s) (fun l => match l with | .go s' => cW (whileR n s' f) K E | .bk s' => K (.go s') | .rt v => K (.rt v)) E := by
  cases m with
  | zero => exact h.elim
  | succ n =>
    refine ⟨n, rfl, cW_call h (fun l z => ?_) fun _ z => z⟩
    cases l with
    | go s' => exact z
    | bk s' => exact z
    | rt v => exact z
theorem cW_mapA {K : List α → Prop} {xs : List β} {acc : List α} {i : Nat} {x : β} {f : β → Rx α} (hx : xs[i]? = some x) (h : cW (mapA (xs.drop i) acc f) K E) :
    acc.length ≤ 1000000 ∧ cW (f x) (fun y => cW (mapA (xs.drop (i + 1)) (acc ++ [y]) f) K E) E := by
  rw [List.drop_eq_getElem?_toList_append, hx] at h
  obtain ⟨z, h⟩ := cW_grd h
  exact ⟨z, cW_call h (fun _ z => z) fun _ z => z⟩
theorem cW_mapA0 {K : List α → Prop} {xs : List β} {acc : List α} {n : Nat} {f : β → Rx α} (hn : n = xs.length) (h : cW (mapA (xs.drop n) acc f) K E) : K acc := by
  subst hn
  rw [List.drop_length] at h
  exact h
theorem cW_mapF {K : List α → Prop} {xs : List β} {acc : List α} {i : Nat} {x : β} {f : β → Rx (Option α)} (hx : xs[i]? = some x) (h : cW (mapF (xs.drop i) acc f) K E) :
    acc.length ≤ 1000000 ∧ cW (f x) (fun y => match y with | some z => cW (mapF (xs.drop (i + 1)) (acc ++ [z]) f) K E | none => cW (mapF (xs.drop (i + 1)) acc f) K E) E := by
  rw [List.drop_eq_getElem?_toList_append, hx] at h
  obtain ⟨z, h⟩ := cW_grd h
  refine ⟨z, cW_call h (fun y z => ?_) fun _ z => z⟩
  cases y with
  | none => exact z
  | some w => exact z
theorem cW_mapF0 {K : List α → Prop} {xs : List β} {acc : List α} {n : Nat} {f : β → Rx (Option α)} (hn : n = xs.length) (h : cW (mapF (xs.drop n) acc f) K E) : K acc := by
  subst hn
  rw [List.drop_length] at h
  exact h
end
/-- the numbers of a range -/
def rng (lo : Int) (n : Nat) : List Int := (List.range n).map fun (j : Nat) => lo + (j : Int)
theorem rng_get {lo : Int} {n i : Nat} (h : i < n) : (rng lo n)[i]? = some (lo + (i : Int)) := by
  unfold rng
  rw [List.getElem?_map, List.getElem?_range h] <;> rfl
theorem rng_len (lo : Int) (n : Nat) : (rng lo n).length = n := by
  unfold rng
  rw [List.length_map, List.length_range]

/-! ### calls that may raise -/
/-- what a call with n values and keywords ks gives the parameters -/
structure Bnd (K : PySem.W.Frag) (fd : FuncData) (ps : List Str) (n : Nat) (ks : List Str) (g : List V → List V → List V) : Prop where
  to : ∀ (s : Shared) (us ws : List Value) (vs zs : List V), K.In s.heap → vs.length = n → zs.length = ks.length → Vals vs us → Vals zs ws → ∃ vv : List Value, BindsTo s fd ⟨us, ks.zip ws⟩ (ps.zip vv) ∧ Vals (g vs zs) vv
theorem Bnd.of_kbn {K : PySem.W.Frag} {fd : FuncData} {ps ks : List Str} {n : Nat} {g : List Value → List Value → List Value} {gV : List V → List V → List V} (b : KBn K fd ps n ks g gV) : Bnd K fd ps n ks gV :=
  ⟨fun s us ws vs zs X l1 l2 r rz => ⟨g us ws, b.to s us ws X (r.length.symm.trans l1) (rz.length.symm.trans l2), b.rel r rz⟩⟩
theorem Bnd.all {K : PySem.W.Frag} {fd : FuncData} {ps ks : List Str} {n : Nat} {g : List V → List V → List V} (h : ∀ (us ws : List Value) (vs zs : List V), vs.length = n → zs.length = ks.length → Vals vs us → Vals zs ws →
    ∃ vv : List Value, bindArgs fd ⟨us, ks.zip ws⟩ = pure (ps.zip vv) ∧ Vals (g vs zs) vv) : Bnd K fd ps n ks g :=
  ⟨fun s us ws vs zs _ l1 l2 r rz => by
    obtain ⟨vv, e, q⟩ := h us ws vs zs l1 l2 r rz
    exact ⟨vv, BindsTo.of_eq e, q⟩⟩
abbrev Pat := Nat × List Str × (List V → List V → List V)
def Bnd1 (K : PySem.W.Frag) (fd : FuncData) (ps : List Str) (p : Pat) : Prop := Bnd K fd ps p.1 p.2.1 p.2.2
section
variable {P : Program} {w : World} {K : PySem.W.Frag} {mg : Str → Option Value} {base : Heap}
/-- a def of the top, with the ways it is called -/
structure DefX (K : PySem.W.Frag) (mg : Str → Option Value) (x : Str) (st : Stmt) (ps : List Str) (pats : List Pat) : Prop where
  ex : ∃ (f : Addr) (fd : FuncData) (dvs : List V) (kws : List (Str × V)), FunD K x x (defArgs st) (defBody st) (defScope st) dvs kws f fd ∧ mg x = some (.ref f) ∧ ∀ p ∈ pats, Bnd1 K fd ps p
structure CalX (P : Program) (w : World) (K : PySem.W.Frag) (mg : Str → Option Value) (base : Heap) (k : Nat) (x : Str) (sp : Sp) (pats : List Pat) : Prop where
  ex : ∃ (f : Addr) (fd : FuncData) (ps : List Str), FnOk P w K mg base (L2.CX P w) k f fd ps sp ∧ mg x = some (.ref f) ∧ PySem.W.keepIn K (.ref f) = true ∧ ∀ p ∈ pats, Bnd1 K fd ps p
abbrev BodyX (P : Program) (w : World) (K : PySem.W.Frag) (mg : Str → Option Value) (base : Heap) (x : Str) (st : Stmt) (N : List Str) (k : Nat) (sp : Sp) : Prop :=
  ∀ (f : Addr) (cdv : Value) (A : Around) (outer : List Env) (s : Shared) (H : Hp) (vs : List V) (Q : VK) (E : XK), Room k (A.deeper (envOfC x (defScope st) s.heap.objs.size f cdv)) → sp vs H Q E →
    ∃ t, PSs (cxOf (L2.CX P w) P w K mg base N x (defScope st) f cdv A outer s H E) (defBody st) t ∧ t { nx := fun _ H' => Q .non H', rt := Q } (start N vs) H
theorem DefX.ok {x : Str} {st : Stmt} {N ps : List Str} {pats : List Pat} {k : Nat} {sp : Sp} (D : DefX K mg x st ps pats) (S : FnScope N ps (defScope st)) (len : ∀ vs H Q E, sp vs H Q E → vs.length = ps.length)
    (hbody : BodyX P w K mg base x st N k sp) : CalX P w K mg base (k + 1) x sp pats := by
  obtain ⟨f, fd, dvs, kws, F, hm, b⟩ := D.ex
  exact ⟨f, fd, ps, F.ok S len (fun cdv A outer s H vs Q E hr h => hbody f cdv A outer s H vs Q E hr h), hm, F.kp, b⟩
end
section
variable {X : Cx} {k j n : Nat} {f : Addr} {fd : FuncData} {ps ks : List Str} {g : List V → List V → List V} {sp : Sp} {x : Str} {pos p : Pos} {e : Expr} {es : List Expr} {kws : List Keyword} {t tk : TA} {W : WX}
theorem run_X {pins : List (Addr × Obj)} {σ : L2.St} {H : Hp} {s : Shared} {Q : VK} {us ws : List Value} {vs zs : List V} (F : FnOk X.prog X.w X.K X.mg X.base (L2.CX X.prog X.w) k f fd ps sp) (hr : Room k X.A) (hb : Bnd X.K fd ps n ks g) (tkW : Takes X W)
    (I : Inv X pins σ H s) (r : Vals vs us) (rz : Vals zs ws) (l1 : vs.length = n) (l2 : zs.length = ks.length) (h : sp (g vs zs) H Q (WE W σ)) :
    wpAny (model X.prog X.w) X.A (call (.ref f) us (ks.zip ws)) (EP X pins σ Q) X.xe s := by
  obtain ⟨vv, b, r2⟩ := hb.to s us ws vs zs I.kIn l1 l2 r rz
  refine wpAny_call (codeAny_mono (F.run X.A X.stack s H ⟨us, ks.zip ws⟩ vv (g vs zs) Q (WE W σ) hr I.env0 b r2 h) fun rr s' hq => ?_)
  cases rr with
  | error er => exact passAt tkW σ pins H s er s' I hq
  | ok fl =>
    cases fl with
    | ret u => exact I.after hq
    | next => exact hq.elim
    | brk => exact hq.elim
    | cont => exact hq.elim
/-- f(e, .., k = v, ..) -/
def tCallX (n m : Nat) (sp : Sp) (g : List V → List V → List V) (W : WX) (t tk : TA) : TE := fun σ H Q => t σ H fun vs H1 => tk σ H1 fun zs H2 => vs.length = n ∧ zs.length = m ∧ sp (g vs zs) H2 Q (WE W σ)
theorem vx_callX {pats : List Pat} (c : CalX X.prog X.w X.K X.mg X.base k x sp pats) (pt : Pat) (hpt : pt ∈ pats) (hr : Room j X.A) (hk : k ≤ j) (tkW : Takes X W) (hg : Gl X x) (ha : PA X (e :: es) t) (hkw : PK X kws tk)
    (hall : (backToKw pos (keywordEach kws X.env)).all (·.1.isSome) = true := by rfl) (hks : (backToKw pos (keywordEach kws X.env)).filterMap (·.1) = pt.2.1 := by rfl)
    (hdb : (x == ("__debug__" : Str)) = false := by decide) (he : starEach (e :: es) X.env = (false, eval e X.env) :: starEach es X.env := by rfl)
    (hpl : ((backTo pos (starEach (e :: es) X.env)).any (·.1) || (backToKw pos (keywordEach kws X.env)).any (·.1.isNone)) = false := by rfl) :
    PE X (.Call (.Name x p) (e :: es) kws pos) (tCallX pt.1 pt.2.1.length sp pt.2.2 W t tk) := by
  obtain ⟨f, fd, ps, F, hm, kp, b⟩ := c.ex
  refine ⟨fun pins s σ H Q I h => ?_⟩
  refine wpAny_Call_Name_kw (ld_glob I hg hm ?_ hdb)
  refine PySem.W.callWith_KW (h₀ := X.base) I.ok.mod.kin kp hall (thn (ha.run pos pins s σ H _ I h) fun us s1 ⟨vs, H1, I1, r, q⟩ => ?_) hpl he
  refine thn (hkw.run pos pins s1 σ H1 _ I1 q) fun ws s2 ⟨zs, H2, I2, rz, l1, l2, q2⟩ => ⟨I2.kIn, ?_⟩
  rw [hks]
  exact run_X F (hr.mono hk) (b pt hpt) tkW I2 r rz l1 l2 q2
theorem vx_callX0 {pats : List Pat} (c : CalX X.prog X.w X.K X.mg X.base k x sp pats) (pt : Pat) (hpt : pt ∈ pats) (hr : Room j X.A) (hk : k ≤ j) (tkW : Takes X W) (hg : Gl X x) (hks : pt.2.1 = [] := by rfl)
    (hdb : (x == ("__debug__" : Str)) = false := by decide) : PE X (.Call (.Name x p) [] [] pos) (tCallX pt.1 pt.2.1.length sp pt.2.2 W tNil tNil) := by
  obtain ⟨f, fd, ps, F, hm, kp, b⟩ := c.ex
  refine ⟨fun pins s σ H Q I h => ?_⟩
  refine wpAny_Call_Name_kw (ld_glob I hg hm ?_ hdb)
  obtain ⟨l1, l2, q2⟩ := h
  have hz := run_X (us := []) (ws := []) F (hr.mono hk) (b pt hpt) tkW I .nil .nil l1 l2 q2
  rw [hks] at hz
  exact PySem.W.callWith_K0 I.kIn kp hz
end
/-! ### borrowed things -/
theorem Sep.bM {M : List Addr} {H0 G0 G H : Hp} {O : List (Addr)} (S : Sep M H0 G0 G H O) : Same (hideL M H0) H := fun b o e => by
  by_cases h : b ∈ M
  · rw [hideL_in h] at e
    cases e
  · rw [hideL_out h] at e
    exact S.base b o e h
theorem b_ne {M : List Addr} {H0 G0 G H : Hp} {O : List Addr} {a b : Addr} {o : HO} (h : (hideL M H0) a = some o) (S : Sep M H0 G0 G H O) (hb : b ∈ O) : a ≠ b := fun z => by
  subst z
  rcases (S.ow a hb).2.2 with q | q
  · rw [hideL_in q] at h
    cases h
  · by_cases hM : a ∈ M
    · rw [hideL_in hM] at h
      cases h
    · rw [hideL_out hM, q] at h
      cases h
theorem hide0 {H : Hp} : hideL [] H = H := by
  funext b
  unfold hideL
  rw [if_neg List.not_mem_nil]
theorem hide_nil {H : Hp} {a : Addr} {o : HO} (h : H a = some o) : (hideL [] H) a = some o := by
  rw [hide0]
  exact h
theorem Rp.hide_nil {H : Hp} {v : V} {d : PyData} (h : Rp H v d) : Rp (hideL [] H) v d := by
  rw [hide0]
  exact h
theorem Sep.startM {M : List Addr} {G H : Hp} (e : Same G H) (hM : ∀ a ∈ M, H a ≠ none) (hG : ∀ a ∈ M, G a = none) : Sep M H G G H M :=
  ⟨fun _ _ e _ => e, hM, e, Same.refl _, fun _ _ e => e, fun a ha => ⟨hG a ha, hM a ha, .inl ha⟩⟩
theorem Sep.gno {M : List Addr} {H0 G0 G H : Hp} {O L : List Addr} (S : Sep M H0 G0 G H O) (h : ∀ a ∈ L, a ∈ O) : ∀ a ∈ L, G a = none := fun a ha => (S.ow a (h a ha)).1
theorem RpAll.ixD {α : Type} [Inhabited α] {f : α → PyData} {H : Hp} {vs : List V} {xs : List α} {k : Int} (r : RpAll H vs (xs.map f)) (h : -(xs.length : Int) ≤ k ∧ k < xs.length) : ∃ v, atI vs k = some v ∧ Rp H v (f (itD xs k)) := by
  obtain ⟨v, x, h1, h2, h3⟩ := RpAll.ix r h
  refine ⟨v, h1, ?_⟩
  unfold itD
  rw [h2]
  exact h3
theorem tru_all {α : Type} [DecidableEq α] {f : α → PyData} {H : Hp} {vs : List V} {xs : List α} (r : RpAll H vs (xs.map f)) : (!decide (xs = [])) = !vs.isEmpty := by
  have h := r.len
  rw [List.length_map] at h
  cases xs <;> cases vs <;> simp_all
theorem ix_nn {α : Type} {xs : List α} {k : Int} (h0 : 0 ≤ k) (h1 : k < xs.length) : -(xs.length : Int) ≤ k ∧ k < xs.length := ⟨by omega, h1⟩
theorem all_nilQ {α : Type} {P : α → Prop} : ∀ x ∈ ([] : List α), P x := fun x h => by cases h
theorem all_consQ {α : Type} {P : α → Prop} {a : α} {l : List α} (h : P a) (t : ∀ x ∈ l, P x) : ∀ x ∈ a :: l, P x := fun x hx => by
  rcases List.mem_cons.mp hx with rfl | hx
  · exact h
  · exact t x hx
theorem mem_one {a b : Nat} (h : a ∈ [b]) : a = b := by simpa using h
theorem mem_cons2 {a b : Nat} {l : List Nat} (h : a ∈ b :: l) : a = b ∨ a ∈ l := List.mem_cons.mp h
theorem len0 {α : Type} {l : List α} (h : l.length = 0) : l = [] := List.length_eq_zero_iff.mp h
theorem len1 {α : Type} {l : List α} (h : l.length = 1) : ∃ a, l = [a] := List.length_eq_one_iff.mp h
theorem len_s {α : Type} {l : List α} {n : Nat} (h : l.length = n + 1) : ∃ a r, l = a :: r ∧ r.length = n := by
  cases l with
  | nil => cases h
  | cons a r => exact ⟨a, r, rfl, Nat.succ.inj h⟩
theorem len2 {α : Type} {l : List α} (h : l.length = 2) : ∃ a b, l = [a, b] := by
  obtain ⟨a, r, rfl, h2⟩ := len_s h
  obtain ⟨b, rfl⟩ := len1 h2
  exact ⟨a, b, rfl⟩
theorem len3 {α : Type} {l : List α} (h : l.length = 3) : ∃ a b c, l = [a, b, c] := by
  obtain ⟨a, r, rfl, h2⟩ := len_s h
  obtain ⟨b, c, rfl⟩ := len2 h2
  exact ⟨a, b, c, rfl⟩
theorem len4 {α : Type} {l : List α} (h : l.length = 4) : ∃ a b c d, l = [a, b, c, d] := by
  obtain ⟨a, r, rfl, h2⟩ := len_s h
  obtain ⟨b, c, d, rfl⟩ := len3 h2
  exact ⟨a, b, c, d, rfl⟩
theorem len5 {α : Type} {l : List α} (h : l.length = 5) : ∃ a b c d e, l = [a, b, c, d, e] := by
  obtain ⟨a, r, rfl, h2⟩ := len_s h
  obtain ⟨b, c, d, e, rfl⟩ := len4 h2
  exact ⟨a, b, c, d, e, rfl⟩
theorem len6 {α : Type} {l : List α} (h : l.length = 6) : ∃ a b c d e f, l = [a, b, c, d, e, f] := by
  obtain ⟨a, r, rfl, h2⟩ := len_s h
  obtain ⟨b, c, d, e, f, rfl⟩ := len5 h2
  exact ⟨a, b, c, d, e, f, rfl⟩
theorem len7 {α : Type} {l : List α} (h : l.length = 7) : ∃ a b c d e f g, l = [a, b, c, d, e, f, g] := by
  obtain ⟨a, r, rfl, h2⟩ := len_s h
  obtain ⟨b, c, d, e, f, g, rfl⟩ := len6 h2
  exact ⟨a, b, c, d, e, f, g, rfl⟩
def rLenTK (K : PySem.W.Frag) : List V → Hp → VK → Prop := fun xs H Q => ∃ (p : Addr) (vs : List V) (n : Nat), xs = [.ref p] ∧ SqT K H p vs ∧ vs.length = n ∧ Q (.int (n : Int)) H
theorem call_lenTK {X : Cx} {K : PySem.W.Frag} (hK : X.K = K := by rfl) : CallR X (.builtin "len") (rLenTK K) := by
  subst hK
  intro pins s σ H xs us Q I r h
  obtain ⟨p, vs, n, rfl, hs, hn, q⟩ := h
  exact call_len_seq pins s σ H _ us Q I r ⟨p, _, rfl, Or.inr hs, by rw [hn]; exact q⟩
theorem exm_mk {K : PySem.W.Frag} {S C : Addr} (h1 : PySem.W.subIn K (.ref C) (.type "BaseException") = some true) (h2 : PySem.W.isClsIn K C = true) (h3 : PySem.W.typeIn K (.ref C) = some (.type "type")) (h4 : PySem.W.subIn K (.ref S) (.ref C) = some true) :
    PySem.W.exmOne K (.ref S) (.ref C) = some true := by
  unfold PySem.W.isClsIn at h2
  unfold PySem.W.exmOne
  unfold PySem.W.kitCls
  simp only [h1, h2, h3, h4, beq_self_eq_true, Bool.and_self, if_true]
theorem kit_mk {K : PySem.W.Frag} {S C : Addr} (h2 : PySem.W.isClsIn K C = true) (h3 : PySem.W.typeIn K (.ref C) = some (.type "type")) (h4 : PySem.W.subIn K (.ref S) (.ref C) = some true) :
    PySem.W.kitOne K (.ref S) (.ref C) = some true := by
  unfold PySem.W.isClsIn at h2
  unfold PySem.W.kitOne
  split
  · rfl
  · unfold PySem.W.kitCls
    simp only [h2, h3, h4, beq_self_eq_true, Bool.and_self, if_true]
/-- isinstance(e, C) of the exception in hand -/
def rIsX (K : PySem.W.Frag) (a : Addr) (cls : Value) (d : Option Addr) : List V → Hp → VK → Prop := fun xs H Q => ∃ (D C : Addr) (b : Bool), cls = .ref D ∧ d = none ∧ ExcC K D ∧ xs = [.ref a, .ref C] ∧ PySem.W.kitOne K (.ref D) (.ref C) = some b ∧ Q (.bl b) H
theorem call_isX {X : Cx} {K : PySem.W.Frag} {a : Addr} {cls : Value} {d : Option Addr} {oe : Obj} {pn : List (Addr × Obj)} (hz : Zc cls d oe) (hf : ∃ vs, oe.data = .fields vs) (hK : X.K = K := by rfl) : CallR (X.suite a ((a, oe) :: pn)) (.builtin "isinstance") (rIsX K a cls d) := by
  subst hK
  intro pins s σ H xs us Q I r h
  obtain ⟨D, C, b, rfl, rfl, c, rfl, e, q⟩ := h
  exact call_isE c hz hf pins s σ H _ us Q I r ⟨_, _, b, rfl, fun u z => z, e, q⟩
/-! ### unpacking a list -/
section
variable {X : Cx} {K : PySem.W.Frag} {pos : Pos}
theorem pg_seqK {es : List Expr} {k : Nat} {t : TGs} {n : Nat} (h : PGs X es t) (hc : X.calm = true := by rfl) (hK : X.K = K := by rfl)
    (hn : (assignEach es X.env).length = n := by rfl) (hst : (assignEach es X.env).findIdx? (·.1) = none := by rfl) : PG X (.Tuple es k pos) (gLst K n t) := hK ▸ pg_lst hc h hn hst
end
theorem SqL.cast {K : PySem.W.Frag} {H : Hp} {a : Addr} {xs ys : List V} (h : SqL K H a xs) (e : xs = ys) : SqL K H a ys := e ▸ h
section
variable {α : Type} [Inhabited α] {f : α → V}
theorem unp2 {xs : List α} (h : xs.length = 2) : xs.map f = [f (itD xs 0), f (itD xs 1)] := by
  obtain ⟨a, b, rfl⟩ := len2 h
  rfl
theorem unp3 {xs : List α} (h : xs.length = 3) : xs.map f = [f (itD xs 0), f (itD xs 1), f (itD xs 2)] := by
  obtain ⟨a, b, c, rfl⟩ := len3 h
  rfl
theorem unp4 {xs : List α} (h : xs.length = 4) : xs.map f = [f (itD xs 0), f (itD xs 1), f (itD xs 2), f (itD xs 3)] := by
  obtain ⟨a, b, c, d, rfl⟩ := len4 h
  rfl
theorem unp6 {xs : List α} (h : xs.length = 6) : xs.map f = [f (itD xs 0), f (itD xs 1), f (itD xs 2), f (itD xs 3), f (itD xs 4), f (itD xs 5)] := by
  obtain ⟨a, b, c, d, e, g, rfl⟩ := len6 h
  rfl
theorem unp8 {xs : List α} (h : xs.length = 8) : xs.map f = [f (itD xs 0), f (itD xs 1), f (itD xs 2), f (itD xs 3), f (itD xs 4), f (itD xs 5), f (itD xs 6), f (itD xs 7)] := by
  obtain ⟨a, r, rfl, h2⟩ := len_s h
  obtain ⟨b, c, d, e, g, i, j, rfl⟩ := len7 h2
  rfl
end
/-! ### classes -/
section
variable {P : Program} {w : World} {K : PySem.W.Frag} {mg : Str → Option Value} {base : Heap}
structure MethX (K : PySem.W.Frag) (C : Addr) (q m : Str) (st : Stmt) (ps : List Str) (pats : List Pat) : Prop where
  ex : ∃ (f : Addr) (fd : FuncData) (dvs : List V) (kws : List (Str × V)), FunD K m q (defArgs st) (defBody st) (defScope st) dvs kws f fd ∧ Meth K C m f ∧ ∀ p ∈ pats, Bnd1 K fd ps p
structure InitX (K : PySem.W.Frag) (mg : Str → Option Value) (C : Addr) (cn q : Str) (st : Stmt) (ps : List Str) (pats : List Pat) : Prop where
  ex : ∃ (f : Addr) (fd : FuncData) (dvs : List V) (kws : List (Str × V)), FunD K "__init__" q (defArgs st) (defBody st) (defScope st) dvs kws f fd ∧ Mk K C f ∧ mg cn = some (.ref C) ∧ ∀ p ∈ pats, Bnd1 K fd ps p
structure PropX (K : PySem.W.Frag) (C : Addr) (q m : Str) (st : Stmt) (ps : List Str) (pats : List Pat) : Prop where
  ex : ∃ (r f : Addr) (fd : FuncData) (dvs : List V) (kws : List (Str × V)), FunD K m q (defArgs st) (defBody st) (defScope st) dvs kws f fd ∧ PropOf K C m r f ∧ Binds K fd ps []
structure MetX (P : Program) (w : World) (K : PySem.W.Frag) (mg : Str → Option Value) (base : Heap) (k : Nat) (C : Addr) (m : Str) (sp : Sp) (pats : List Pat) : Prop where
  ex : ∃ (f : Addr) (fd : FuncData) (ps : List Str), Cls K C ∧ Meth K C m f ∧ FnOk P w K mg base (L2.CX P w) k f fd ps sp ∧ ∀ p ∈ pats, Bnd1 K fd ps p
structure PropY (P : Program) (w : World) (K : PySem.W.Frag) (mg : Str → Option Value) (base : Heap) (k : Nat) (C : Addr) (m : Str) (sp : Sp) (pats : List Pat) : Prop where
  ex : ∃ (q f : Addr) (fd : FuncData) (ps : List Str), Cls K C ∧ PropOf K C m q f ∧ FnOk P w K mg base (L2.CX P w) k f fd ps sp ∧ Binds K fd ps []
structure MakX (P : Program) (w : World) (K : PySem.W.Frag) (mg : Str → Option Value) (base : Heap) (k : Nat) (cn : Str) (C : Addr) (sp : Sp) (pats : List Pat) : Prop where
  ex : ∃ (f : Addr) (fd : FuncData) (ps : List Str), Mk K C f ∧ FnOk P w K mg base (L2.CX P w) k f fd ps sp ∧ mg cn = some (.ref C) ∧ ∀ p ∈ pats, Bnd1 K fd ps p
theorem MethX.ok {C : Addr} {q m : Str} {st : Stmt} {N ps : List Str} {pats : List Pat} {k : Nat} {sp : Sp} (D : MethX K C q m st ps pats) (c : Cls K C) (S : FnScope N ps (defScope st)) (len : ∀ vs H Q E, sp vs H Q E → vs.length = ps.length)
    (hbody : BodyX P w K mg base q st N k sp) : MetX P w K mg base (k + 1) C m sp pats := by
  obtain ⟨f, fd, dvs, kws, F, me, b⟩ := D.ex
  exact ⟨f, fd, ps, c, me, F.ok S len (fun cdv A outer s H vs Q E hr h => hbody f cdv A outer s H vs Q E hr h), b⟩
theorem PropX.ok {C : Addr} {q m : Str} {st : Stmt} {N ps : List Str} {pats : List Pat} {k : Nat} {sp : Sp} (D : PropX K C q m st ps pats) (c : Cls K C) (S : FnScope N ps (defScope st)) (len : ∀ vs H Q E, sp vs H Q E → vs.length = ps.length)
    (hbody : BodyX P w K mg base q st N k sp) : PropY P w K mg base (k + 1) C m sp pats := by
  obtain ⟨r, f, fd, dvs, kws, F, me, b⟩ := D.ex
  exact ⟨r, f, fd, ps, c, me, F.ok S len (fun cdv A outer s H vs Q E hr h => hbody f cdv A outer s H vs Q E hr h), b⟩
theorem InitX.ok {C : Addr} {cn q : Str} {st : Stmt} {N ps : List Str} {pats : List Pat} {k : Nat} {sp : Sp} (D : InitX K mg C cn q st ps pats) (S : FnScope N ps (defScope st)) (len : ∀ vs H Q E, sp vs H Q E → vs.length = ps.length)
    (hbody : BodyX P w K mg base q st N k sp) : MakX P w K mg base (k + 1) cn C sp pats := by
  obtain ⟨f, fd, dvs, kws, F, me, hm, b⟩ := D.ex
  exact ⟨f, fd, ps, me, F.ok S len (fun cdv A outer s H vs Q E hr h => hbody f cdv A outer s H vs Q E hr h), hm, b⟩
end
theorem cW_callN {α β : Type} {m : Rx β} {f : β → Rx α} {K : α → Prop} {E : Nat → Prop} {K2 : β → Prop} {E2 : Nat → Prop} (h : cW ((noEr m).bind f) K E) (ho : ∀ v, cW (f v) K E → K2 v) (_ : True) : cW m K2 E2 := by
  cases m with
  | ok a => exact ho a h
  | er e => exact h.elim
  | bad => exact h.elim
section
variable {X : Cx} {k j n : Nat} {f C : Addr} {fd : FuncData} {ps ks : List Str} {g : List V → List V → List V} {sp : Sp} {x m : Str} {pos p apos : Pos} {e o : Expr} {es : List Expr} {kws : List Keyword} {ta : TE} {t tk : TA} {W : WX}
theorem run_mkX {pins : List (Addr × Obj)} {σ : L2.St} {H : Hp} {s : Shared} {Q : VK} {us ws : List Value} {vs zs : List V} (M : Mk X.K C f) (F : FnOk X.prog X.w X.K X.mg X.base (L2.CX X.prog X.w) k f fd ps sp) (hr : Room (k + 1) X.A) (hb : Bnd X.K fd ps n ks g) (tkW : Takes X W)
    (I : Inv X pins σ H s) (r : Vals vs us) (rz : Vals zs ws) (l1 : vs.length + 1 = n) (l2 : zs.length = ks.length)
    (h : ∀ x dx, H x = none → H dx = none → dx ≠ x → sp (g (.ref x :: vs) zs) (upd (upd H dx (.own x)) x (.ins C dx [])) (fun v H2 => v = .non ∧ Q (.ref x) H2) (WE W σ)) :
    wpAny (model X.prog X.w) X.A (call (.ref C) us (ks.zip ws)) (EP X pins σ Q) X.xe s := by
  have hq := h (s.heap.objs.size + 1) s.heap.objs.size (I.hok.fresh (Nat.le_succ _)) (I.hok.fresh (Nat.le_refl _)) (Nat.ne_of_lt (Nat.lt_succ_self _))
  have I2 := Inv.made (C := C) I
  have r1 : Vals (V.ref (s.heap.objs.size + 1) :: vs) (Value.ref (s.heap.objs.size + 1) :: us) := .cons rfl r
  obtain ⟨vv, b, r2⟩ := hb.to _ (Value.ref (s.heap.objs.size + 1) :: us) ws (V.ref (s.heap.objs.size + 1) :: vs) zs I2.kIn (by rw [List.length_cons, l1]) l2 r1 rz
  refine wpAny_call (make_map (f := f) I.kIn M.makes M.init (beq_iff_eq.mp M.fn) (codeAny_mono (F.run _ X.stack _ _ ⟨Value.ref (s.heap.objs.size + 1) :: us, ks.zip ws⟩ vv _ _ (WE W σ) (hr.make C us (ks.zip ws))
    (I2.env0.make C us (ks.zip ws)) b r2 hq) fun r s' hq' => ?_))
  cases r with
  | error e => exact passAt tkW σ pins _ _ e s' I2 hq'
  | ok fl =>
    cases fl with
    | ret u =>
      obtain ⟨v, H', I3, rv, ev, q3⟩ := I2.after hq'
      subst ev
      exact ⟨rv, ⟨V.ref (s.heap.objs.size + 1), H', I3, rfl, q3⟩⟩
    | next => exact False.elim hq'
    | brk => exact False.elim hq'
    | cont => exact False.elim hq'
/-- C(e, .., k = v, ..) -/
def tMakeX (C : Addr) (n m : Nat) (sp : Sp) (g : List V → List V → List V) (W : WX) (t tk : TA) : TE := fun σ H Q => t σ H fun vs H1 => tk σ H1 fun zs H2 => vs.length + 1 = n ∧ zs.length = m ∧ ∀ x dx, H2 x = none → H2 dx = none → dx ≠ x →
  sp (g (.ref x :: vs) zs) (upd (upd H2 dx (.own x)) x (.ins C dx [])) (fun v H3 => v = .non ∧ Q (.ref x) H3) (WE W σ)
theorem vx_makeX {pats : List Pat} (c : MakX X.prog X.w X.K X.mg X.base k x C sp pats) (pt : Pat) (hpt : pt ∈ pats) (hr : Room j X.A) (hk : k + 1 ≤ j) (tkW : Takes X W) (hg : Gl X x) (ha : PA X (e :: es) t) (hkw : PK X kws tk)
    (hall : (backToKw pos (keywordEach kws X.env)).all (·.1.isSome) = true := by rfl) (hks : (backToKw pos (keywordEach kws X.env)).filterMap (·.1) = pt.2.1 := by rfl) (hdb : (x == ("__debug__" : Str)) = false := by decide)
    (he : starEach (e :: es) X.env = (false, eval e X.env) :: starEach es X.env := by rfl) (hpl : ((backTo pos (starEach (e :: es) X.env)).any (·.1) || (backToKw pos (keywordEach kws X.env)).any (·.1.isNone)) = false := by rfl) :
    PE X (.Call (.Name x p) (e :: es) kws pos) (tMakeX C pt.1 pt.2.1.length sp pt.2.2 W t tk) := by
  obtain ⟨f, fd, ps, M, F, hm, b⟩ := c.ex
  refine ⟨fun pins s σ H Q I h => ?_⟩
  refine wpAny_Call_Name_kw (ld_glob I hg hm ?_ hdb)
  refine PySem.W.callWith_KW (h₀ := X.base) I.ok.mod.kin M.kp hall (thn (ha.run pos pins s σ H _ I h) fun us s1 ⟨vs, H1, I1, r, q⟩ => ?_) hpl he
  refine thn (hkw.run pos pins s1 σ H1 _ I1 q) fun ws s2 ⟨zs, H2, I2, rz, l1, l2, q2⟩ => ⟨I2.kIn, ?_⟩
  rw [hks]
  exact run_mkX M F (hr.mono hk) (b pt hpt) tkW I2 r rz l1 l2 q2
theorem vx_makeX0 {pats : List Pat} (c : MakX X.prog X.w X.K X.mg X.base k x C sp pats) (pt : Pat) (hpt : pt ∈ pats) (hr : Room j X.A) (hk : k + 1 ≤ j) (tkW : Takes X W) (hg : Gl X x) (hks : pt.2.1 = [] := by rfl)
    (hdb : (x == ("__debug__" : Str)) = false := by decide) : PE X (.Call (.Name x p) [] [] pos) (tMakeX C pt.1 pt.2.1.length sp pt.2.2 W tNil tNil) := by
  obtain ⟨f, fd, ps, M, F, hm, b⟩ := c.ex
  refine ⟨fun pins s σ H Q I h => ?_⟩
  refine wpAny_Call_Name_kw (ld_glob I hg hm ?_ hdb)
  obtain ⟨l1, l2, q2⟩ := h
  have hz := run_mkX (us := []) (ws := []) M F (hr.mono hk) (b pt hpt) tkW I .nil .nil l1 l2 q2
  rw [hks] at hz
  exact PySem.W.callWith_K0 I.kIn M.kp hz
/-- o.m(e, .., k = v, ..) -/
def tMethX (C : Addr) (m : Str) (n mm : Nat) (sp : Sp) (g : List V → List V → List V) (W : WX) (ta : TE) (t tk : TA) : TE := fun σ H Q => ta σ H fun x H1 => ∃ a dx fs, x = .ref a ∧ H1 a = some (.ins C dx fs) ∧ fs.lookup m = none ∧
  t σ H1 fun vs H2 => tk σ H2 fun zs H3 => (x :: vs).length = n ∧ zs.length = mm ∧ sp (g (x :: vs) zs) H3 Q (WE W σ)
theorem vx_methX {pats : List Pat} {pl : Sem Bool} (c : MetX X.prog X.w X.K X.mg X.base k C m sp pats) (pt : Pat) (hpt : pt ∈ pats) (hr : Room j X.A) (hk : k ≤ j) (tkW : Takes X W) (he : PE X o ta) (ha : PA X (e :: es) t) (hkw : PK X kws tk)
    (hall : (backToKw pos (keywordEach kws X.env)).all (·.1.isSome) = true := by rfl) (hks : (backToKw pos (keywordEach kws X.env)).filterMap (·.1) = pt.2.1 := by rfl)
    (hst : starEach (e :: es) X.env = (false, eval e X.env) :: starEach es X.env := by rfl) (hpl : ((backTo pos (starEach (e :: es) X.env)).any (·.1) || (backToKw pos (keywordEach kws X.env)).any (·.1.isNone)) = false := by rfl)
    (ht : eval (.Call (.Attribute o m apos) (e :: es) kws pos) X.env = (do
      let ov ← eval o X.env
      standAt apos.atName
      let (f, first) ← holding [ov] (getMethod ov m pl)
      callWith pos f first (backTo pos (starEach (e :: es) X.env)) (backToKw pos (keywordEach kws X.env))) := by rfl) :
    PE X (.Call (.Attribute o m apos) (e :: es) kws pos) (tMethX C m pt.1 pt.2.1.length sp pt.2.2 W ta t tk) := by
  obtain ⟨f, fd, ps, hc, hm, F, b⟩ := c.ex
  refine ⟨fun pins s σ H Q I h => ?_⟩
  refine PySem.W.methodCall_KW (pl := pl) (thn (he.run pins s σ H _ I h) fun u s1 ⟨x, H1, I1, rx, a, dx, fs, ex, ea, l, q⟩ => ?_) ht
  subst ex
  obtain rfl : u = Value.ref a := rx
  refine getmeth_ok I1 ea hc hm l ?_
  refine PySem.W.callWith_KW (first := [.ref a]) (h₀ := X.base) I.ok.mod.kin hm.kp hall (thn (ha.run pos pins s1 σ H1 _ I1 q) fun us s2 ⟨vs, H2, I2, r, q2⟩ => ?_) hpl hst
  refine thn (hkw.run pos pins s2 σ H2 _ I2 q2) fun ws s3 ⟨zs, H3, I3, rz, l1, l2, q3⟩ => ⟨I3.kIn, ?_⟩
  rw [hks]
  exact run_X (us := .ref a :: us) (vs := .ref a :: vs) F (hr.mono hk) (b pt hpt) tkW I3 (.cons rfl r) rz l1 l2 q3
theorem vx_methX0 {pats : List Pat} {pl : Sem Bool} (c : MetX X.prog X.w X.K X.mg X.base k C m sp pats) (pt : Pat) (hpt : pt ∈ pats) (hr : Room j X.A) (hk : k ≤ j) (tkW : Takes X W) (he : PE X o ta) (hks : pt.2.1 = [] := by rfl)
    (ht : eval (.Call (.Attribute o m apos) [] [] pos) X.env = (do
      let ov ← eval o X.env
      standAt apos.atName
      let (f, first) ← holding [ov] (getMethod ov m pl)
      callWith pos f first (backTo pos (starEach [] X.env)) (backToKw pos (keywordEach [] X.env))) := by rfl) :
    PE X (.Call (.Attribute o m apos) [] [] pos) (tMethX C m pt.1 pt.2.1.length sp pt.2.2 W ta tNil tNil) := by
  obtain ⟨f, fd, ps, hc, hm, F, b⟩ := c.ex
  refine ⟨fun pins s σ H Q I h => ?_⟩
  refine PySem.W.methodCall_KW (pl := pl) (thn (he.run pins s σ H _ I h) fun u s1 ⟨x, H1, I1, rx, a, dx, fs, ex, ea, l, q⟩ => ?_) ht
  subst ex
  obtain rfl : u = Value.ref a := rx
  refine getmeth_ok I1 ea hc hm l ?_
  obtain ⟨l1, l2, q3⟩ := q
  have hz := run_X (us := [.ref a]) (vs := [.ref a]) (ws := []) F (hr.mono hk) (b pt hpt) tkW I1 (.cons rfl .nil) .nil l1 l2 q3
  rw [hks] at hz
  exact PySem.W.callWith_K0 (first := [.ref a]) I1.kIn hm.kp hz
theorem vx_propX {pats : List Pat} (c : PropY X.prog X.w X.K X.mg X.base k C m sp pats) (hr : Room j X.A) (hk : k + 1 ≤ j) (he : PE X o ta) (hab : attributeBase o m X.env (eval o X.env) = eval o X.env := by rfl) : PE X (.Attribute o m pos) (tProp C sp [] E0 ta) := by
  obtain ⟨q, f, fd, ps, hc, hp, F, b⟩ := c.ex
  exact pe_prop he hc hp F (hr.mono hk) b .nil (passL (X := X.nox)) hab
end
theorem Sep.news {M : List Addr} {H0 G0 G H H' : Hp} {O : List Addr} (S : Sep M H0 G0 G H O) (e : Same H H') (L : List Addr) (hL : ∀ a ∈ L, H a = none ∧ H' a ≠ none ∧ H0 a = none) : Sep M H0 G0 G H' (L ++ O) := by
  have S2 := S.same e
  refine ⟨S2.base, S2.pm, S2.sG, S2.g0, S2.gn, fun a ha => ?_⟩
  rcases List.mem_append.mp ha with h | h
  · obtain ⟨h1, h2, h3⟩ := hL a h
    exact ⟨S.gfree h1, h2, .inr h3⟩
  · exact S2.ow a h
theorem vv_chain {r r' : R2} {ta tb tc : TE} {σ : L2.St} {H : Hp} {x y z : V} {a b : Bool} (ha : Val ta σ H x) (hb : Val tb σ H y) (hc : Val tc σ H z) (h1 : ∀ Q : VK, Q (.bl a) H → r x y H Q) (h2 : ∀ Q : VK, Q (.bl b) H → r' y z H Q) :
    Val (tChain r r' ta tb tc) σ H (.bl (a && b)) := fun Q q => ha _ (hb _ (h1 _ ⟨a, rfl, by
  cases a with
  | true =>
    rw [if_pos rfl]
    exact hc _ (h2 _ q)
  | false =>
    rw [if_neg Bool.false_ne_true]
    exact q⟩))
/-! ### constants that are tuples, lists backwards, zip -/
theorem inV_ints (x : Int) : ∀ xs : List Int, inV (V.int x) (xs.map V.int) = decide (x ∈ xs)
  | [] => by simp [inV]
  | y :: r => by
    have h := inV_ints x r
    unfold inV at h ⊢
    rw [List.map_cons, List.any_cons, h]
    by_cases c : x = y
    · subst c
      simp [eqV]
    · simp [eqV, c, Ne.symm c]
theorem flat_ints : ∀ xs : List Int, (xs.map V.int).all flatV = true
  | [] => rfl
  | _ :: r => flat_ints r
def rInI (K : PySem.W.Frag) : R2 := fun x y H Q => ∃ (i : Int) (p : Addr) (xs : List Int), x = .int i ∧ y = .ref p ∧ (SqL K H p (xs.map V.int) ∨ SqT K H p (xs.map V.int)) ∧ Q (.bl (decide (i ∈ xs))) H
def rNotInI (K : PySem.W.Frag) : R2 := fun x y H Q => ∃ (i : Int) (p : Addr) (xs : List Int), x = .int i ∧ y = .ref p ∧ (SqL K H p (xs.map V.int) ∨ SqT K H p (xs.map V.int)) ∧ Q (.bl (!decide (i ∈ xs))) H
theorem op_inI {X : Cx} {K : PySem.W.Frag} (hK : X.K = K := by rfl) : OpR X (compareOp .In) (rInI K) := by
  subst hK
  intro pins s σ H x y v u Q I rx ry h
  obtain ⟨i, p, xs, rfl, rfl, hs, q⟩ := h
  refine op_in_seq pins s σ H _ _ v u Q I rx ry ⟨p, _, rfl, hs, rfl, flat_ints xs, ?_⟩
  rw [if_neg Bool.false_ne_true, inV_ints]
  exact q
theorem op_notInI {X : Cx} {K : PySem.W.Frag} (hK : X.K = K := by rfl) : OpR X (compareOp .NotIn) (rNotInI K) := by
  subst hK
  intro pins s σ H x y v u Q I rx ry h
  obtain ⟨i, p, xs, rfl, rfl, hs, q⟩ := h
  refine op_notIn_seq pins s σ H _ _ v u Q I rx ry ⟨p, _, rfl, hs, rfl, flat_ints xs, ?_⟩
  rw [if_pos rfl, inV_ints]
  exact q
theorem pe_revLK {X : Cx} {K : PySem.W.Frag} {e : Expr} {te : TE} {k : Nat} {p1 p2 p3 pos : Pos} (he : PE X e te) (hK : X.K = K := by rfl) : PE X (.Subscript e (.Slice none none (some (.UnaryOp .USub (.Constant (.int 1) k p1) p2)) p3) pos) (tRevL K te) := hK ▸ pe_revL he
theorem rev_map {α : Type} {f : α → V} {xs : List α} {H : Hp} {p : Addr} (h : H p = some (.lst (xs.map f).reverse)) : H p = some (.lst (xs.reverse.map f)) := by
  rw [List.map_reverse]
  exact h
theorem RpAll.rev {G : Hp} : ∀ {vs : List V} {ds : List PyData}, RpAll G vs ds → RpAll G vs.reverse ds.reverse
  | _, _, .nil => .nil
  | _, _, .cons h t => by
    rw [List.reverse_cons, List.reverse_cons]
    exact (RpAll.rev t).append (.one h)
theorem rev_all {α : Type} {f : α → PyData} {xs : List α} {G : Hp} {vs : List V} (a : RpAll G vs (xs.map f)) : RpAll G vs.reverse (xs.reverse.map f) := by
  rw [List.map_reverse]
  exact a.rev
theorem pi_zipK {X : Cx} {K : PySem.W.Frag} {e e2 : Expr} {ta : TA} {p pos tpos : Pos} {elts : List Expr} {kk : Nat} (hg : Gl X "zip") (hm : X.mg "zip" = none) (ha : PA X [e, e2] ta) (hK : X.K = K := by rfl)
    (hs : starEach [e, e2] X.env = (false, eval e X.env) :: starEach [e2] X.env := by rfl) (hpl : (backTo pos (starEach [e2] X.env)).any (·.1) = false := by rfl) :
    PI X (.Tuple elts kk tpos) (.Call (.Name "zip" p) [e, e2] [] pos) (RZ.iZipA K ta) := hK ▸ RZ.pi_zipA hg hm ha hs hpl
/-- a comprehension over zip of two lists of one length -/
theorem lc_zipL {K : PySem.W.Frag} {a b : Addr} {xs ys : List V} {g : TG} {tt : TT} {te : TE} {vs : List Nat} {σ : L2.St} {H1 : Hp} {D : Addr} {Qd : Hp → Prop} (hl : xs.length = ys.length) (Pv : Nat → Hp → Prop) (h0 : Pv 0 (upd H1 D (.lst []))) (hq : ∀ i H, i ≤ xs.length → Pv i H → SqL K H a xs ∧ SqL K H b ys)
    (hs : ∀ (i : Nat) (x y : V) (T : Addr) (H : Hp), xs[i]? = some x → ys[i]? = some y → H T = none → Pv i H → g (.ref T) (wipe σ vs) (upd H T (.tup [x, y])) fun σ2 H2 => wipe σ2 vs = wipe σ vs ∧ tt σ2 H2 fun b H3 =>
      if b = true then te σ2 H3 fun y H4 => ∃ acc, H4 D = some (.lst acc) ∧ acc.length < sizeLine ∧ Pv (i + 1) (upd H4 D (.lst (acc ++ [y]))) else Pv (i + 1) H3) (hd : ∀ H, Pv xs.length H → Qd H) :
    ∃ W : Nat → Nat → Hp → Prop, (∃ m, W 0 m (upd H1 D (.lst []))) ∧ ∀ i m H, W i m H →
      ((Itz K a b).stop i H ∧ Qd H) ∨ ((Itz K a b).go i H ∧ ∃ Nx : Hp → Prop, (∀ H', Nx H' → ∃ m', m' < m ∧ W (i + 1) m' H') ∧ ∀ x H', (Itz K a b).yld i H x H' → g x (wipe σ vs) H' fun σ2 H2 => wipe σ2 vs = wipe σ vs ∧ tt σ2 H2 fun b H3 =>
        if b = true then te σ2 H3 fun y H4 => ∃ acc, H4 D = some (.lst acc) ∧ acc.length < sizeLine ∧ Nx (upd H4 D (.lst (acc ++ [y]))) else Nx H3) := by
  refine ⟨fun i m H => m = xs.length - i ∧ i ≤ xs.length ∧ Pv i H, ⟨xs.length, by simp, Nat.zero_le _, h0⟩, ?_⟩
  rintro i m H ⟨rfl, hi, p⟩
  obtain ⟨qx, qy⟩ := hq i H hi p
  by_cases hlt : i < xs.length
  · have hlt2 : i < ys.length := by omega
    refine .inr ⟨⟨xs, ys, xs[i], ys[i], qx, qy, List.getElem?_eq_getElem hlt, List.getElem?_eq_getElem hlt2⟩, Pv (i + 1), fun H' p' => ⟨xs.length - (i + 1), by omega, rfl, hlt, p'⟩, fun v H' y => ?_⟩
    obtain ⟨T, x', y', rfl, hT, rfl, f1, f2⟩ := y
    exact hs i x' y' T H (f1 xs qx) (f2 ys qy) hT p
  · have e : i = xs.length := by omega
    subst e
    exact .inl ⟨⟨xs, ys, qx, qy, Or.inl (Nat.le_refl _)⟩, hd H p⟩
theorem zip_get {α β : Type} {xs : List α} {ys : List β} {i : Nat} {x : α} {y : β} (h1 : xs[i]? = some x) (h2 : ys[i]? = some y) : (xs.zip ys)[i]? = some (x, y) := by
  rw [List.getElem?_zip_eq_some]
  exact ⟨h1, h2⟩
theorem zip_len {α β : Type} {xs : List α} {ys : List β} {n : Nat} (h : xs.length = ys.length) (e : n = xs.length) : n = (xs.zip ys).length := by
  rw [List.length_zip, ← h, Nat.min_self]
  exact e
theorem zlen {α β : Type} {vs ws : List V} {xs : List α} {ys : List β} (a : vs.length = xs.length) (b : ws.length = ys.length) (h : xs.length = ys.length) : vs.length = ws.length := by rw [a, b, h]
section
variable {t : TT} {ta tb : TE} {σ : L2.St} {H : Hp}
theorem vv_ifP {p : Prop} [Decidable p] {a b : Int} (ht : Ans t σ H (decide p)) (hx : p → Val ta σ H (.int a)) (hy : ¬ p → Val tb σ H (.int b)) : Val (tIf t ta tb) σ H (.int (if p then a else b)) := by
  by_cases h : p
  · have := vv_if (p := p) (a := a) (b := a) ht (hx h) (tb := ta) (hx h)
    intro Q q
    refine ht _ ?_
    rw [decide_eq_true h, if_pos rfl]
    rw [if_pos h] at q
    exact hx h _ q
  · intro Q q
    refine ht _ ?_
    rw [decide_eq_false h, if_neg Bool.false_ne_true]
    rw [if_neg h] at q
    exact hy h _ q
theorem vv_ifQ {c : Bool} {a b : Int} (ht : Ans t σ H c) (hx : c = true → Val ta σ H (.int a)) (hy : c = false → Val tb σ H (.int b)) : Val (tIf t ta tb) σ H (.int (if c = true then a else b)) := by
  intro Q q
  refine ht _ ?_
  cases c with
  | true =>
    rw [if_pos rfl]
    rw [if_pos rfl] at q
    exact hx rfl _ q
  | false =>
    rw [if_neg Bool.false_ne_true]
    rw [if_neg Bool.false_ne_true] at q
    exact hy rfl _ q
end
end Vx
/-! # fourth part: reckoning with functions that may refuse -/
namespace Vx
open PySem PySem.Spec PyProof.Rows L2
section
variable {α β σ ρ τ : Type}
theorem bind_ok (a : α) (f : α → Rx β) : (Rx.ok a).bind f = f a := rfl
theorem bind_er (e : Nat) (f : α → Rx β) : (Rx.er e : Rx α).bind f = .er e := rfl
theorem grd_pos {p : Prop} {dp : Decidable p} {m : Rx α} (h : p) : grd p m = m := if_pos h
theorem bnd_eq (a : α) (f : α → Rx β) : bnd a f = f a := rfl
theorem noEr_ok (a : α) : noEr (.ok a : Rx α) = .ok a := rfl
theorem tryR_ok {cs : List Nat} (a : α) (f : α → Rx β) (g : Nat → Rx β) : tryR (.ok a) cs f g = f a := rfl
theorem tryR_er {cs : List Nat} {e : Nat} (h : e ∈ cs) (f : α → Rx β) (g : Nat → Rx β) : tryR (.er e) cs f g = g e := if_pos h
theorem aft_go (s : σ) (kr : ρ → Rx τ) (k : σ → Rx τ) : (Lp.go s : Lp σ ρ).aft kr k = k s := rfl
theorem aft_rt (r : ρ) (kr : ρ → Rx τ) (k : σ → Rx τ) : (Lp.rt r : Lp σ ρ).aft kr k = kr r := rfl
/-- gives a value of which P holds -/
def Gv (m : Rx α) (P : α → Prop) : Prop := ∃ v, m = .ok v ∧ P v
theorem Gv.ok {a : α} {P : α → Prop} (h : P a) : Gv (.ok a) P := ⟨a, rfl, h⟩
theorem Gv.of_eq {m : Rx α} {a : α} {P : α → Prop} (e : m = .ok a) (h : P a) : Gv m P := ⟨a, e, h⟩
theorem Gv.bind {m : Rx α} {f : α → Rx β} {P : α → Prop} {Q : β → Prop} (h : Gv m P) (k : ∀ v, P v → Gv (f v) Q) : Gv (m.bind f) Q := by
  obtain ⟨v, rfl, p⟩ := h
  exact k v p
theorem Gv.bind_eq {m : Rx α} {f : α → Rx β} {a : α} {Q : β → Prop} (h : m = .ok a) (k : Gv (f a) Q) : Gv (m.bind f) Q := by
  subst h
  exact k
theorem Gv.grd {p : Prop} {dp : Decidable p} {m : Rx α} {Q : α → Prop} (h : p) (k : Gv m Q) : Gv (Vx.grd p m) Q := by
  rw [grd_pos h]
  exact k
theorem Gv.bnd {a : α} {f : α → Rx β} {Q : β → Prop} (k : ∀ x, x = a → Gv (f x) Q) : Gv (Vx.bnd a f) Q := k a rfl
theorem Gv.ite {p : Prop} {dp : Decidable p} {a b : Rx α} {Q : α → Prop} (h1 : p → Gv a Q) (h2 : ¬ p → Gv b Q) : Gv (if p then a else b) Q := by
  split
  · exact h1 ‹_›
  · exact h2 ‹_›
theorem Gv.pos {p : Prop} {dp : Decidable p} {a b : Rx α} {Q : α → Prop} (h : p) (k : Gv a Q) : Gv (if p then a else b) Q := by rwa [if_pos h]
theorem Gv.neg {p : Prop} {dp : Decidable p} {a b : Rx α} {Q : α → Prop} (h : ¬ p) (k : Gv b Q) : Gv (if p then a else b) Q := by rwa [if_neg h]
theorem Gv.imp {m : Rx α} {P Q : α → Prop} (h : Gv m P) (k : ∀ v, P v → Q v) : Gv m Q := by
  obtain ⟨v, e, p⟩ := h
  exact ⟨v, e, k v p⟩
theorem Gv.noEr {m : Rx α} {P : α → Prop} (h : Gv m P) : Gv (Vx.noEr m) P := by
  obtain ⟨v, rfl, p⟩ := h
  exact ⟨v, rfl, p⟩
theorem Gv.tryOk {m : Rx α} {cs : List Nat} {f : α → Rx β} {g : Nat → Rx β} {P : α → Prop} {Q : β → Prop} (h : Gv m P) (k : ∀ v, P v → Gv (f v) Q) : Gv (tryR m cs f g) Q := by
  obtain ⟨v, rfl, p⟩ := h
  exact k v p
theorem Gv.tryEr {m : Rx α} {cs : List Nat} {e : Nat} {f : α → Rx β} {g : Nat → Rx β} {Q : β → Prop} (h : m = .er e) (hm : e ∈ cs) (k : Gv (g e) Q) : Gv (tryR m cs f g) Q := by
  subst h
  rw [tryR_er hm]
  exact k
theorem Gv.get {m : Rx α} {a : α} (h : Gv m (fun v => v = a)) : m = .ok a := by
  obtain ⟨v, e, rfl⟩ := h
  exact e
theorem Gv.eq {m : Rx α} {P : α → Prop} (h : Gv m P) : ∃ v, m = .ok v ∧ P v := h
/-- a loop that keeps P -/
theorem Gv.forS {P : Nat → σ → Prop} {xs : List α} {s : σ} {f : σ → α → Rx σ} (h0 : P 0 s) (hs : ∀ i x s, xs[i]? = some x → P i s → Gv (f s x) (P (i + 1))) : Gv (Vx.forS xs s f) (P xs.length) := by
  induction xs generalizing s P with
  | nil => exact .ok h0
  | cons x r ih =>
    refine Gv.bind (hs 0 x s rfl h0) fun s' p => ?_
    exact ih (P := fun i => P (i + 1)) p fun i y s hy q => hs (i + 1) y s (by simpa using hy) q
theorem Gv.forR {P : Nat → σ → Prop} {xs : List α} {s : σ} {f : σ → α → Rx (Lp σ ρ)} (h0 : P 0 s) (hs : ∀ i x s, xs[i]? = some x → P i s → Gv (f s x) (fun l => ∃ s', l = .go s' ∧ P (i + 1) s')) : Gv (Vx.forR xs s f) (fun l => ∃ s', l = .go s' ∧ P xs.length s') := by
  induction xs generalizing s P with
  | nil => exact .ok ⟨s, rfl, h0⟩
  | cons x r ih =>
    refine Gv.bind (hs 0 x s rfl h0) ?_
    rintro _ ⟨s', rfl, p⟩
    exact ih (P := fun i => P (i + 1)) p fun i y s hy q => hs (i + 1) y s (by simpa using hy) q
/-- a loop that carries nothing -/
theorem forR_unit {xs : List α} {f : Unit → α → Rx (Lp Unit ρ)} (h : ∀ x ∈ xs, f () x = .ok (.go ())) : Vx.forR xs () f = .ok (.go ()) := by
  induction xs with
  | nil => rfl
  | cons x r ih =>
    show (f () x).bind _ = _
    rw [h x List.mem_cons_self]
    exact ih fun y hy => h y (List.mem_cons_of_mem _ hy)
theorem forS_pure {xs : List α} {s : σ} {f : σ → α → Rx σ} {g : σ → α → σ} (h : ∀ s x, x ∈ xs → f s x = .ok (g s x)) : Vx.forS xs s f = .ok (xs.foldl g s) := by
  induction xs generalizing s with
  | nil => rfl
  | cons x r ih =>
    show (f s x).bind _ = _
    rw [h s x List.mem_cons_self]
    exact ih fun s y hy => h s y (List.mem_cons_of_mem _ hy)
theorem mapA_pure {xs : List α} {acc : List β} {f : α → Rx β} {g : α → β} (h : ∀ x ∈ xs, f x = .ok (g x)) (hl : acc.length + xs.length ≤ 1000000) : mapA xs acc f = .ok (acc ++ xs.map g) := by
  induction xs generalizing acc with
  | nil => simp [mapA]
  | cons x r ih =>
    rw [List.length_cons] at hl
    unfold mapA
    rw [grd_pos (by omega), h x List.mem_cons_self, bind_ok, ih (fun y hy => h y (List.mem_cons_of_mem _ hy)) (by rw [List.length_append, List.length_cons, List.length_nil]; omega)]
    simp
theorem mapA_pure0 {xs : List α} {f : α → Rx β} {g : α → β} (h : ∀ x ∈ xs, f x = .ok (g x)) (hl : xs.length ≤ 1000000) : mapA xs [] f = .ok (xs.map g) := by
  rw [mapA_pure h (by simpa using hl)]
  rfl
theorem mapF_pure {xs : List α} {acc : List β} {f : α → Rx (Option β)} {g : α → Option β} (h : ∀ x ∈ xs, f x = .ok (g x)) (hl : acc.length + xs.length ≤ 1000000) : mapF xs acc f = .ok (acc ++ xs.filterMap g) := by
  induction xs generalizing acc with
  | nil => simp [mapF]
  | cons x r ih =>
    rw [List.length_cons] at hl
    unfold mapF
    rw [grd_pos (by omega), h x List.mem_cons_self, bind_ok]
    cases e : g x with
    | none =>
      show mapF r acc f = _
      rw [ih (fun y hy => h y (List.mem_cons_of_mem _ hy)) (by omega), List.filterMap_cons, e]
    | some z =>
      show mapF r (acc ++ [z]) f = _
      rw [ih (fun y hy => h y (List.mem_cons_of_mem _ hy)) (by rw [List.length_append, List.length_cons, List.length_nil]; omega), List.filterMap_cons, e]
      simp
/-- a while that ends: m falls -/
theorem Gv.whileR {P : σ → Prop} {R : σ → Prop} (m : σ → Nat) {f : σ → Rx (Lp σ ρ)} (hs : ∀ s, P s → Gv (f s) (fun l => (∃ s', l = .go s' ∧ P s' ∧ m s' < m s) ∨ ∃ s', l = .bk s' ∧ R s')) : ∀ {n : Nat} {s : σ}, P s → m s < n → Gv (Vx.whileR n s f) (fun l => ∃ s', l = .go s' ∧ R s') := by
  intro n
  induction n with
  | zero => intro s _ h; exact absurd h (Nat.not_lt_zero _)
  | succ n ih =>
    intro s p h
    refine Gv.bind (hs s p) ?_
    rintro _ (⟨s', rfl, p', l⟩ | ⟨s', rfl, r⟩)
    · exact ih p' (by omega)
    · exact .ok ⟨s', rfl, r⟩
end
theorem rng_mem {lo x : Int} {n : Nat} (h : x ∈ rng lo n) : lo ≤ x ∧ x < lo + n := by
  unfold rng at h
  obtain ⟨j, hj, rfl⟩ := List.mem_map.mp h
  have := List.mem_range.mp hj
  omega
theorem rng_at {lo x : Int} {n i : Nat} (h : (rng lo n)[i]? = some x) : x = lo + i ∧ i < n := by
  have hl := get_len h
  rw [rng_len] at hl
  rw [rng_get hl] at h
  exact ⟨(Option.some.inj h).symm, hl⟩
end Vx
namespace Vx
open PySem PySem.Spec PyProof.Rows L2
structure St_Decoder where
  probs : (List Int)
  octs : (List Int)
  place : Int
  span : Int
  value : Int
deriving DecidableEq
def F__law_draws_b1 (free_15 : Bool) (found_33 : (List Int)) (rest_34 : Int) (state_35 : Int) (it38 : Int) : Rx ((List Int) × Int × Int) :=
  (if free_15 = true then (if 1 < rest_34 then grd (0 < (it38 : Int)) <| grd ((found_33).length ≤ 1000000) <| bnd ((found_33) ++ [(rest_34 % it38)]) fun y49 => grd (0 < (it38 : Int) ∧ (it38 : Int) < 2 ^ 128) <| bnd ((rest_34 / it38)) fun rest_51 => .ok ((y49), (rest_51), (state_35)) else bnd ((((state_35 * 48271) + 11) % 2147483647)) fun state_52 => bnd ((((state_52 * 69621) + 7) % 2147483647)) fun state_53 => grd (0 < (it38 : Int)) <| grd ((found_33).length ≤ 1000000) <| bnd ((found_33) ++ [((state_53 / 13) % it38)]) fun y62 => .ok ((y62), (rest_34), (state_53))) else bnd ((((state_35 * 48271) + 11) % 2147483647)) fun state_63 => bnd ((((state_63 * 69621) + 7) % 2147483647)) fun state_64 => grd (0 < (it38 : Int)) <| grd ((found_33).length ≤ 1000000) <| bnd ((found_33) ++ [((state_64 / 13) % it38)]) fun y73 => .ok ((y73), (rest_34), (state_64)))

def F__law_draws_r1 (found_79 : (List Int)) (rest_80 : Int) (state_81 : Int) : Rx (List Int) :=
  .ok (found_79)

def F__law_draws (cell' : Int) (limits' : (List Int)) : Rx (List Int) :=
  bnd ((if cell' < 0 then -cell' else cell')) fun rest_10 => bnd ((rest_10 % 2147483647)) fun state_11 => bnd ((decide (cell' < 0) || decide (((10 : Int) ^ Int.toNat 18) ≤ cell'))) fun free_14 => Rx.bind (forS (limits') ((([] : (List Int))), (rest_10), (state_11)) (fun s x => F__law_draws_b1 (free_14) (s.1) (s.2.1) (s.2.2) x)) fun s => F__law_draws_r1  (s.1) (s.2.1) (s.2.2)

def F_Decoder__shift_k1 (self_82 : St_Decoder) (octet_83 : Int) : Rx St_Decoder :=
  grd ((0 : Int) ≤ 8 ∧ (8 : Int) ≤ 4096 ∧ -(2 ^ 4096) < (self_82.value : Int) ∧ (self_82.value : Int) < 2 ^ 4096) <| bnd ((PySem.Builtin.bitOr ((self_82.value * 2 ^ Int.toNat (8))) (octet_83))) fun _value_108 => .ok (⟨self_82.probs, self_82.octs, self_82.place, self_82.span, _value_108⟩ : St_Decoder)

def F_Decoder__shift (self' : St_Decoder) : Rx St_Decoder :=
  Rx.bind (((if self'.place < (((self'.octs) : (List Int)).length : Int) then grd (-((self'.octs).length : Int) ≤ self'.place ∧ self'.place < ((self'.octs).length : Int)) <| bnd ((itD (self'.octs) (self'.place))) fun octet_90 => bnd ((self'.place + 1)) fun _place_91 => .ok (((⟨self'.probs, self'.octs, _place_91, self'.span, self'.value⟩ : St_Decoder)), (octet_90)) else .ok ((self'), (0))) : Rx (St_Decoder × Int))) fun s => F_Decoder__shift_k1  (s.1) (s.2)

def F_Decoder___init___b1 (self_192 : St_Decoder) (it195 : Int) : Rx (St_Decoder) :=
  Rx.bind (noEr (F_Decoder__shift (self_192))) fun v196 => .ok (v196)

def F_Decoder___init___r1 (self_214 : St_Decoder) : Rx St_Decoder :=
  bnd ((if (4294967296 - 2) < self_214.value then (4294967296 - 2) else self_214.value)) fun _value_215 => .ok (⟨self_214.probs, self_214.octs, self_214.place, self_214.span, _value_215⟩ : St_Decoder)

def F_Decoder___init__ (octets' : (List Int)) : Rx St_Decoder :=
  grd (-(2 ^ 63) ≤ (256 : Int) ∧ (256 : Int) < 2 ^ 63 ∧ ([2048]).length * Int.toNat (256) ≤ 1000000) <| bnd ((4294967296 - 1)) fun _span_165 => Rx.bind (forS (rng (0) (Int.toNat (4))) ((⟨repL ([2048]) (256), octets', 0, _span_165, 0⟩ : St_Decoder)) (fun s x => F_Decoder___init___b1  s x)) fun s => F_Decoder___init___r1  s

def F__law_start (octets' : (List Int)) : Rx (Int × Int × Int × (List Int)) :=
  grd (-(2 ^ 63) ≤ (4 : Int) ∧ (4 : Int) < 2 ^ 63 ∧ ([0]).length * Int.toNat (4) ≤ 1000000) <| grd ((octets').length + (repL ([0]) (4)).length ≤ 1000000) <| grd (-(((octets') ++ (repL ([0]) (4))).length : Int) ≤ 0 ∧ 0 < (((octets') ++ (repL ([0]) (4))).length : Int)) <| grd (-(((octets') ++ (repL ([0]) (4))).length : Int) ≤ 1 ∧ 1 < (((octets') ++ (repL ([0]) (4))).length : Int)) <| grd (-(((octets') ++ (repL ([0]) (4))).length : Int) ≤ 2 ∧ 2 < (((octets') ++ (repL ([0]) (4))).length : Int)) <| grd (-(((octets') ++ (repL ([0]) (4))).length : Int) ≤ 3 ∧ 3 < (((octets') ++ (repL ([0]) (4))).length : Int)) <| bnd ((((((itD ((octets') ++ (repL ([0]) (4))) (0)) * 16777216) + ((itD ((octets') ++ (repL ([0]) (4))) (1)) * 65536)) + ((itD ((octets') ++ (repL ([0]) (4))) (2)) * 256)) + (itD ((octets') ++ (repL ([0]) (4))) (3)))) fun value_257 => .ok (((if (4294967296 - 2) < value_257 then (4294967296 - 2) else value_257), (4294967296 - 1), 4, (octets') ++ (repL ([0]) (4))))

def F__law_items_c2 (context_437 : Int) (bits_438 : (List Int)) (it466 : Int) : Rx (Int × Int) :=
  grd ((-(2 ^ 64) < ((context_437 + 1) : Int) ∧ ((context_437 + 1) : Int) < 2 ^ 64) ∨ (-(2 ^ 64) < ((if decide (0 < (it466 % 3)) = true then 1 else 0) : Int) ∧ ((if decide (0 < (it466 % 3)) = true then 1 else 0) : Int) < 2 ^ 64)) <| grd (-((bits_438).length : Int) ≤ it466 ∧ it466 < ((bits_438).length : Int)) <| .ok (((((context_437 + 1) * (if decide (0 < (it466 % 3)) = true then 1 else 0)) - 1), (itD (bits_438) (it466))))

def F__law_items_b1 (items_310 : (List (Int × Int))) (it313 : Int) : Rx ((List (Int × Int))) :=
  Rx.bind (F__law_draws it313 ([4, 8, 256, 2, 40])) fun v323 => grd (-((v323).length : Int) ≤ 2 ∧ 2 < ((v323).length : Int)) <| grd (-((v323).length : Int) ≤ 2 ∧ 2 < ((v323).length : Int)) <| grd (-((v323).length : Int) ≤ 2 ∧ 2 < ((v323).length : Int)) <| grd (-((v323).length : Int) ≤ 1 ∧ 1 < ((v323).length : Int)) <| grd (-(([0, 255, 1, 128, (itD (v323) (2)), (itD (v323) (2)), (itD (v323) (2)), (-1)]).length : Int) ≤ (itD (v323) (1)) ∧ (itD (v323) (1)) < (([0, 255, 1, 128, (itD (v323) (2)), (itD (v323) (2)), (itD (v323) (2)), (-1)]).length : Int)) <| bnd ((itD ([0, 255, 1, 128, (itD (v323) (2)), (itD (v323) (2)), (itD (v323) (2)), (-1)]) ((itD (v323) (1))))) fun context_347 => grd (-((v323).length : Int) ≤ 0 ∧ 0 < ((v323).length : Int)) <| (if (itD (v323) (0)) < 2 then grd (-((v323).length : Int) ≤ 3 ∧ 3 < ((v323).length : Int)) <| grd (-((v323).length : Int) ≤ 4 ∧ 4 < ((v323).length : Int)) <| grd (-(2 ^ 63) ≤ ((itD (v323) (4)) : Int) ∧ ((itD (v323) (4)) : Int) < 2 ^ 63 ∧ ([(context_347, (itD (v323) (3)))]).length * Int.toNat ((itD (v323) (4))) ≤ 1000000) <| grd ((items_310).length + (repL ([(context_347, (itD (v323) (3)))]) ((itD (v323) (4)))).length ≤ 1000000) <| .ok ((items_310) ++ (repL ([(context_347, (itD (v323) (3)))]) ((itD (v323) (4))))) else grd (-((v323).length : Int) ≤ 4 ∧ 4 < ((v323).length : Int)) <| grd (-(2 ^ 63) ≤ ((itD (v323) (4)) : Int) ∧ ((itD (v323) (4)) : Int) < 2 ^ 63 ∧ ([2]).length * Int.toNat ((itD (v323) (4))) ≤ 1000000) <| Rx.bind (F__law_draws ((it313 / 1000)) (repL ([2]) ((itD (v323) (4))))) fun v426 => grd (-(2 ^ 62) ≤ (((v426) : (List Int)).length : Int) ∧ (((v426) : (List Int)).length : Int) < 2 ^ 62) <| Rx.bind (mapA (rng (0) (Int.toNat ((((v426) : (List Int)).length : Int)))) [] (fun x => noEr (F__law_items_c2 (context_347) (v426) x))) fun v439 => grd ((items_310).length + (v439).length ≤ 1000000) <| .ok ((items_310) ++ (v439)))

def F__law_items_r1 (most_278 : Int) (items_528 : (List (Int × Int))) : Rx (List (Int × Int)) :=
  .ok (cutL (items_528) none (some (most_278)))

def F__law_items (script' : (List Int)) (most' : Int) : Rx (List (Int × Int)) :=
  Rx.bind (forS (script') (([] : (List (Int × Int)))) (fun s x => F__law_items_b1  s x)) fun s => F__law_items_r1 (most') s

def F__law_cell (script' : (List Int)) (k' : Int) : Rx Int :=
  (if k' < (((script') : (List Int)).length : Int) then grd (-((script').length : Int) ≤ k' ∧ k' < ((script').length : Int)) <| .ok ((itD (script') (k'))) else .ok (0))

def F__check_context (context' : Int) : Rx Unit :=
  (if 0 ≤ context' then (if context' < 256 then .ok (()) else .er 1) else .er 1)

def F_Decoder_probability (self' : St_Decoder) (context' : Int) : Rx Int :=
  Rx.bind (F__check_context context') fun v547 => grd (-((self'.probs).length : Int) ≤ context' ∧ context' < ((self'.probs).length : Int)) <| .ok ((itD (self'.probs) (context')))

def F__adapted (chance' : Int) (decision' : Int) : Rx Int :=
  (if (decision' : Int) = 0 then .ok ((chance' + ((4096 - chance') / 32))) else .ok ((chance' - (chance' / 32))))

def F_Decoder__decide_r2 (decision_593 : Int) (self_630 : St_Decoder) : Rx (Int × St_Decoder) :=
  .ok (decision_593, self_630)

def F_Decoder__decide_b2 (self_605 : St_Decoder) : Rx (Lp (St_Decoder) (Int × St_Decoder)) :=
  (if self_605.span < 16777216 then Rx.bind (noEr (F_Decoder__shift (self_605))) fun v609 => grd ((0 : Int) ≤ 8 ∧ (8 : Int) ≤ 4096 ∧ -(2 ^ 4096) < (v609.span : Int) ∧ (v609.span : Int) < 2 ^ 4096) <| bnd ((v609.span * 2 ^ Int.toNat (8))) fun _span_621 => .ok (.go ((⟨v609.probs, v609.octs, v609.place, _span_621, v609.value⟩ : St_Decoder))) else .ok (.bk (self_605)))

def F_Decoder__decide_k1 (decision_556 : Int) (self_557 : St_Decoder) : Rx (Int × St_Decoder) :=
  Rx.bind ((whileR 1000000 (self_557) (fun s => F_Decoder__decide_b2  s) : Rx (Lp (St_Decoder) (Int × St_Decoder)))) fun l => l.aft Rx.ok fun s => F_Decoder__decide_r2 (decision_556) s

def F_Decoder__decide (self' : St_Decoder) (chance' : Int) : Rx (Int × St_Decoder) :=
  grd ((-(2 ^ 64) < ((self'.span / 4096) : Int) ∧ ((self'.span / 4096) : Int) < 2 ^ 64) ∨ (-(2 ^ 64) < (chance' : Int) ∧ (chance' : Int) < 2 ^ 64)) <| bnd (((self'.span / 4096) * chance')) fun part_551 => bnd ((if self'.value < part_551 then 0 else 1)) fun decision_555 => Rx.bind (((if (decision_555 : Int) = 0 then .ok ((⟨self'.probs, self'.octs, self'.place, part_551, self'.value⟩ : St_Decoder)) else bnd ((self'.value - part_551)) fun _value_570 => bnd ((self'.span - part_551)) fun _span_577 => .ok ((⟨self'.probs, self'.octs, self'.place, _span_577, _value_570⟩ : St_Decoder))) : Rx (St_Decoder))) fun s => F_Decoder__decide_k1 (decision_555) s

def F_Decoder_read (self' : St_Decoder) (context' : Int) : Rx (Int × St_Decoder) :=
  Rx.bind (F__check_context context') fun v631 => grd (-((self'.probs).length : Int) ≤ context' ∧ context' < ((self'.probs).length : Int)) <| bnd ((itD (self'.probs) (context'))) fun chance_633 => Rx.bind (F_Decoder__decide (self') chance_633) fun v634 => Rx.bind (noEr (F__adapted chance_633 v634.1)) fun v645 => grd (-((v634.2.probs).length : Int) ≤ context' ∧ context' < ((v634.2.probs).length : Int)) <| bnd (setL (v634.2.probs) (context') (v645)) fun y653 => .ok (v634.1, (⟨y653, v634.2.octs, v634.2.place, v634.2.span, v634.2.value⟩ : St_Decoder))

def F_Decoder_read_even (self' : St_Decoder) : Rx (Int × St_Decoder) :=
  Rx.bind (F_Decoder__decide (self') 2048) fun v656 => .ok (v656.1, v656.2)

def F__law_moved (p' : Int) (decision' : Int) : Rx Int :=
  (if (decision' : Int) = 0 then .ok ((p' + ((4096 - p') / 32))) else .ok ((p' - (p' / 32))))

def F__law_next_k3 (state_732 : (Int × Int × Int × (List Int))) (octet_733 : Int) : Rx ((Int × Int × Int × (List Int))) :=
  bnd (((state_732.1 * 256) + octet_733)) fun y747 => bnd ((state_732.2.1 * 256)) fun y754 => bnd ((state_732.2.2.1 + 1)) fun y761 => .ok ((y747, y754, y761, state_732.2.2.2))

def F__law_next_b2 (state_727 : (Int × Int × Int × (List Int))) (it730 : Int) : Rx ((Int × Int × Int × (List Int))) :=
  (if state_727.2.1 < 16777216 then Rx.bind (((if state_727.2.2.1 < (((state_727.2.2.2) : (List Int)).length : Int) then grd (-((state_727.2.2.2).length : Int) ≤ state_727.2.2.1 ∧ state_727.2.2.1 < ((state_727.2.2.2).length : Int)) <| bnd ((itD (state_727.2.2.2) (state_727.2.2.1))) fun octet_739 => .ok (octet_739) else .ok (0)) : Rx (Int))) fun s => F__law_next_k3 (state_727) s else .ok (state_727))

def F__law_next_k4 (state_778 : (Int × Int × Int × (List Int))) (decision_779 : Int) (chances_780 : (List Int)) : Rx (Int × (Int × Int × Int × (List Int)) × (List Int)) :=
  .ok (decision_779, state_778, chances_780)

def F__law_next_r2 (chances_711 : (List Int)) (context_712 : Int) (decision_713 : Int) (state_777 : (Int × Int × Int × (List Int))) : Rx (Int × (Int × Int × Int × (List Int)) × (List Int)) :=
  Rx.bind (((if context_712 < 256 then grd (-((chances_711).length : Int) ≤ context_712 ∧ context_712 < ((chances_711).length : Int)) <| Rx.bind (noEr (F__law_moved ((itD (chances_711) (context_712))) decision_713)) fun v786 => grd (-((chances_711).length : Int) ≤ context_712 ∧ context_712 < ((chances_711).length : Int)) <| bnd (setL (chances_711) (context_712) (v786)) fun y794 => .ok (y794) else .ok (chances_711)) : Rx ((List Int)))) fun s => F__law_next_k4 (state_777) (decision_713) s

def F__law_next_k1 (chances_672 : (List Int)) (context_673 : Int) (decision_674 : Int) (state_675 : (Int × Int × Int × (List Int))) : Rx (Int × (Int × Int × Int × (List Int)) × (List Int)) :=
  Rx.bind (forS (rng (0) (Int.toNat (4))) (state_675) (fun s x => F__law_next_b2  s x)) fun s => F__law_next_r2 (chances_672) (context_673) (decision_674) s

def F__law_next (state' : (Int × Int × Int × (List Int))) (chances' : (List Int)) (context' : Int) : Rx (Int × (Int × Int × Int × (List Int)) × (List Int)) :=
  grd (-((chances').length : Int) ≤ context' ∧ context' < ((chances').length : Int)) <| grd ((-(2 ^ 64) < ((state'.2.1 / 4096) : Int) ∧ ((state'.2.1 / 4096) : Int) < 2 ^ 64) ∨ (-(2 ^ 64) < ((itD (chances') (context')) : Int) ∧ ((itD (chances') (context')) : Int) < 2 ^ 64)) <| bnd (((state'.2.1 / 4096) * (itD (chances') (context')))) fun part_670 => bnd ((if decide (part_670 ≤ state'.1) = true then 1 else 0)) fun decision_671 => Rx.bind (((if (decision_671 : Int) = 0 then .ok ((state'.1, part_670, state'.2.2.1, state'.2.2.2)) else bnd ((state'.1 - part_670)) fun y688 => bnd ((state'.2.1 - part_670)) fun y695 => .ok ((y688, y695, state'.2.2.1, state'.2.2.2))) : Rx ((Int × Int × Int × (List Int))))) fun s => F__law_next_k1 (chances') (context') (decision_671) s

def F_law_b4 (octets_981 : (List Int)) (it984 : Int) : Rx ((List Int)) :=
  grd (-((octets_981).length : Int) ≤ it984 ∧ it984 < ((octets_981).length : Int)) <| grd (-((octets_981).length : Int) ≤ it984 ∧ it984 < ((octets_981).length : Int)) <| bnd (setL (octets_981) (it984) ((255 - (itD (octets_981) (it984))))) fun y993 => .ok (y993)

def F_law_k7 (state_1175 : (Int × Int × Int × (List Int))) (chances_1176 : (List Int)) (decoder_1177 : St_Decoder) (context_1178 : Int) (actual_1179 : Int) : Rx (Lp (St_Decoder × (Int × Int × Int × (List Int)) × (List Int)) Bool) :=
  Rx.bind (F__law_next (state_1175) (chances_1176) context_1178) fun v1230 => (if (actual_1179 : Int) = v1230.1 then .ok (.go ((decoder_1177), (v1230.2.1), (v1230.2.2))) else .ok (.rt (false)))

def F_law_b6 (decoder_1169 : St_Decoder) (state_1170 : (Int × Int × Int × (List Int))) (chances_1171 : (List Int)) (it1174 : (Int × Int)) : Rx (Lp (St_Decoder × (Int × Int × Int × (List Int)) × (List Int)) Bool) :=
  Rx.bind (((if 0 ≤ it1174.1 then Rx.bind (F_Decoder_read (decoder_1169) it1174.1) fun v1186 => .ok ((v1186.2), (it1174.1), (v1186.1)) else Rx.bind (F_Decoder_read_even (decoder_1169)) fun v1202 => .ok ((v1202.2), (256), (v1202.1))) : Rx (St_Decoder × Int × Int))) fun s => F_law_k7 (state_1170) (chances_1171) (s.1) (s.2.1) (s.2.2)

def F_law_b8 (decoder_1262 : St_Decoder) (chances_1263 : (List Int)) (it1283 : Int) : Rx (Lp Unit Bool) :=
  Rx.bind (F_Decoder_probability (decoder_1262) it1283) fun v1284 => grd (-((chances_1263).length : Int) ≤ it1283 ∧ it1283 < ((chances_1263).length : Int)) <| (if (v1284 : Int) = (itD (chances_1263) (it1283)) then (if 31 ≤ v1284 then (if v1284 ≤ 4065 then .ok (.go ()) else .ok (.rt (false))) else .ok (.rt (false))) else .ok (.rt (false)))

def F_law_r8  : Rx Bool :=
  .ok (true)

def F_law_r6 (decoder_1259 : St_Decoder) (state_1260 : (Int × Int × Int × (List Int))) (chances_1261 : (List Int)) : Rx Bool :=
  Rx.bind (forR (rng (0) (Int.toNat (256))) () (fun s x => F_law_b8 (decoder_1259) (chances_1261)  x)) fun l => l.aft Rx.ok fun s => F_law_r8  

def F_law_k5 (decoder_1072 : St_Decoder) (state_1073 : (Int × Int × Int × (List Int))) (chances_1074 : (List Int)) (items_1075 : (List (Int × Int))) : Rx Bool :=
  Rx.bind (forR (items_1075) ((decoder_1072), (state_1073), (chances_1074)) (fun s x => F_law_b6  (s.1) (s.2.1) (s.2.2) x)) fun l => l.aft Rx.ok fun s => F_law_r6  (s.1) (s.2.1) (s.2.2)

def F_law_r4 (script_962 : (List Int)) (first_963 : Int) (kept_964 : (List Int)) (decoder_965 : St_Decoder) (octets_1007 : (List Int)) : Rx Bool :=
  grd ((octets_1007).length ≤ 1000000) <| bnd ((octets_1007) ++ [99]) fun y1015 => Rx.bind (F__law_start (kept_964)) fun v1017 => grd (-(2 ^ 63) ≤ (257 : Int) ∧ (257 : Int) < 2 ^ 63 ∧ ([2048]).length * Int.toNat (257) ≤ 1000000) <| Rx.bind (F__law_items (cutL (script_962) (some (2)) none) 300) fun v1058 => Rx.bind (((if (((first_963 / 31) % 4) : Int) = 3 then grd (-(2 ^ 63) ≤ (6 : Int) ∧ (6 : Int) < 2 ^ 63 ∧ (v1058).length * Int.toNat (6) ≤ 1000000) <| .ok (repL (v1058) (6)) else .ok (v1058)) : Rx ((List (Int × Int))))) fun s => F_law_k5 (decoder_965) (v1017) (repL ([2048]) (257)) s

def F_law_k3 (script_891 : (List Int)) (first_892 : Int) (octets_893 : (List Int)) : Rx Bool :=
  Rx.bind (F_Decoder___init__ (octets_893)) fun v945 => grd (-(2 ^ 62) ≤ (((octets_893) : (List Int)).length : Int) ∧ (((octets_893) : (List Int)).length : Int) < 2 ^ 62) <| Rx.bind (forS (rng (0) (Int.toNat ((((octets_893) : (List Int)).length : Int)))) (octets_893) (fun s x => F_law_b4  s x)) fun s => F_law_r4 (script_891) (first_892) (octets_893) (v945) s

def F_law_k2 (script_858 : (List Int)) (first_859 : Int) (octets_860 : (List Int)) : Rx Bool :=
  Rx.bind (((if (((first_859 / 31) % 4) : Int) = 2 then grd (-(2 ^ 63) ≤ ((first_859 % 31) : Int) ∧ ((first_859 % 31) : Int) < 2 ^ 63 ∧ ([0]).length * Int.toNat ((first_859 % 31)) ≤ 1000000) <| .ok (repL ([0]) ((first_859 % 31))) else .ok (octets_860)) : Rx ((List Int)))) fun s => F_law_k3 (script_858) (first_859) s

def F_law_k1 (script_834 : (List Int)) (first_835 : Int) (octets_836 : (List Int)) : Rx Bool :=
  Rx.bind (((if (((first_835 / 31) % 4) : Int) = 1 then grd (-(2 ^ 63) ≤ ((first_835 % 31) : Int) ∧ ((first_835 % 31) : Int) < 2 ^ 63 ∧ ([255]).length * Int.toNat ((first_835 % 31)) ≤ 1000000) <| .ok (repL ([255]) ((first_835 % 31))) else .ok (octets_836)) : Rx ((List Int)))) fun s => F_law_k2 (script_834) (first_835) s

def F_law (script' : (List Int)) : Rx Bool :=
  Rx.bind (F__law_cell (script') 0) fun v804 => Rx.bind (F__law_cell (script') 1) fun v805 => grd (-(2 ^ 63) ≤ ((v804 % 31) : Int) ∧ ((v804 % 31) : Int) < 2 ^ 63 ∧ ([256]).length * Int.toNat ((v804 % 31)) ≤ 1000000) <| Rx.bind (F__law_draws v805 (repL ([256]) ((v804 % 31)))) fun v825 => Rx.bind (((if (((v804 / 31) % 4) : Int) = 3 then grd (-(2 ^ 63) ≤ (9 : Int) ∧ (9 : Int) < 2 ^ 63 ∧ (v825).length * Int.toNat (9) ≤ 1000000) <| .ok (repL (v825) (9)) else .ok (v825)) : Rx ((List Int)))) fun s => F_law_k1 (script') (v804) s
theorem cell_gv (s : List Int) (k : Int) (h : 0 ≤ k) : Gv (F__law_cell s k) (fun _ => True) := by
  unfold F__law_cell
  exact Gv.ite (fun c => Gv.grd ⟨by omega, c⟩ (.ok trivial)) fun _ => .ok trivial
def Inb : List Int → List Int → Prop
  | [], [] => True
  | v :: vs, l :: ls => 0 ≤ v ∧ v < l ∧ Inb vs ls
  | _, _ => False
theorem Inb.snoc : ∀ {vs ls : List Int} {y l : Int}, Inb vs ls → 0 ≤ y → y < l → Inb (vs ++ [y]) (ls ++ [l])
  | [], [], _, _, _, h0, h1 => ⟨h0, h1, trivial⟩
  | _ :: _, _ :: _, _, _, h, h0, h1 => ⟨h.1, h.2.1, Inb.snoc h.2.2 h0 h1⟩
  | [], _ :: _, _, _, h, _, _ => h.elim
  | _ :: _, [], _, _, h, _, _ => h.elim
theorem Inb.len : ∀ {vs ls : List Int}, Inb vs ls → vs.length = ls.length
  | [], [], _ => rfl
  | _ :: _, _ :: _, h => congrArg Nat.succ (Inb.len h.2.2)
  | [], _ :: _, h => h.elim
  | _ :: _, [], h => h.elim
theorem Inb.cons {v ls : List Int} {l : Int} (h : Inb v (l :: ls)) : ∃ a r, v = a :: r ∧ 0 ≤ a ∧ a < l ∧ Inb r ls := by
  cases v with
  | nil => exact h.elim
  | cons a r => exact ⟨a, r, rfl, h.1, h.2.1, h.2.2⟩
theorem Inb.nil {v : List Int} (h : Inb v []) : v = [] := by
  cases v with
  | nil => rfl
  | cons a r => exact h.elim
theorem draws_gv (cell : Int) (limits : List Int) (hl : ∀ l ∈ limits, 0 < l ∧ l < 18446744073709551616) (hn : limits.length ≤ 1000000) : Gv (F__law_draws cell limits) (fun v => Inb v limits) := by
  unfold F__law_draws
  refine Gv.bnd fun rest _ => Gv.bnd fun state _ => Gv.bnd fun free _ => Gv.bind (Gv.forS (P := fun i s => Inb s.1 (limits.take i)) ?_ fun i x s hx p => ?_) fun s p => .ok ?_
  · rw [List.take_zero]
    trivial
  · have hb0 := hl x (List.mem_of_getElem? hx)
    have hb : 0 < x ∧ x < 2 ^ 128 := ⟨hb0.1, by omega⟩
    have hlen := p.len
    have hi := get_len hx
    rw [List.length_take] at hlen
    have nx : ∀ y : Int, 0 ≤ y → y < x → Inb (s.1 ++ [y]) (limits.take (i + 1)) := fun y h0 h1 => by
      rw [take_succ_get hx]
      exact p.snoc h0 h1
    unfold F__law_draws_b1
    refine Gv.ite (fun _ => Gv.ite (fun _ => Gv.grd hb.1 (Gv.grd (by omega) (Gv.bnd fun y hy => Gv.grd ⟨hb.1, hb.2⟩ (Gv.bnd fun _ _ => .ok ?_)))) fun _ => Gv.bnd fun _ _ => Gv.bnd fun _ _ => Gv.grd hb.1 (Gv.grd (by omega) (Gv.bnd fun y hy => .ok ?_))) fun _ => Gv.bnd fun _ _ => Gv.bnd fun _ _ => Gv.grd hb.1 (Gv.grd (by omega) (Gv.bnd fun y hy => .ok ?_))
    · subst hy
      exact nx _ (Int.emod_nonneg _ (by omega)) (Int.emod_lt_of_pos _ hb.1)
    · subst hy
      exact nx _ (Int.emod_nonneg _ (by omega)) (Int.emod_lt_of_pos _ hb.1)
    · subst hy
      exact nx _ (Int.emod_nonneg _ (by omega)) (Int.emod_lt_of_pos _ hb.1)
  · rw [List.take_length] at p
    exact p
theorem ixg {xs : List Int} {k : Int} {n : Nat} (e : xs.length = n) (h : -(n : Int) ≤ k ∧ k < n) : -(xs.length : Int) ≤ k ∧ k < xs.length := by
  rw [e]
  exact h
theorem itD_lit {xs : List Int} {a k : Int} (n : Nat) (e : k = (n : Int)) (h : xs[n]? = some a) : itD xs k = a := by
  subst e
  have hl := get_len h
  unfold itD atI ixN
  rw [if_pos (by omega), if_pos (by omega)]
  show (xs[n]?).getD default = a
  rw [h]
  rfl
theorem sIx_in {n d : Nat} {v : Int} (h0 : 0 ≤ v) (h1 : v ≤ n) : HT.sIx n d (some v) = v.toNat := by
  show (if v < 0 then (v + (n : Int)).toNat else min v.toNat n) = v.toNat
  rw [if_neg (by omega)]
  omega
theorem itD_nat {α : Type} [Inhabited α] {xs : List α} {k : Int} (n : Nat) (e : k = (n : Int)) {a : α} (h : xs[n]? = some a) : itD xs k = a := by
  subst e
  have hl := get_len h
  unfold itD atI ixN
  rw [if_pos (by omega), if_pos (by omega)]
  show (xs[n]?).getD default = a
  rw [h]
  rfl
theorem rng_at' {lo : Int} {n i : Nat} (h : i < n) : (rng lo n)[i]? = some (lo + (i : Int)) := rng_get h
theorem cut_rng {α : Type} [Inhabited α] {xs : List α} {a n : Int} (h0 : 0 ≤ a) (hn : 0 ≤ n) (h1 : a + n ≤ xs.length) : cutL xs (some a) (some (a + n)) = (rng 0 n.toNat).map (fun j => itD xs (a + j)) := by
  unfold cutL
  rw [sIx_in h0 (by omega), sIx_in (by omega) h1]
  apply List.ext_getElem?
  intro i
  by_cases hi : i < n.toNat
  · rw [List.getElem?_take_of_lt (by omega), List.getElem?_drop, List.getElem?_map, rng_get hi]
    have hl : a.toNat + i < xs.length := by omega
    rw [List.getElem?_eq_getElem hl]
    show some _ = some (itD xs (a + (0 + (i : Int))))
    rw [itD_nat (a.toNat + i) (by omega) (List.getElem?_eq_getElem hl)]
  · rw [List.getElem?_eq_none (by rw [List.length_take, List.length_drop]; omega), List.getElem?_eq_none (by rw [List.length_map, rng_len]; omega)]
theorem cut_len {α : Type} {xs : List α} {a b : Int} (h0 : 0 ≤ a) (hn : a ≤ b) (h1 : b ≤ xs.length) : ((cutL xs (some a) (some b)).length : Int) = b - a := by
  unfold cutL
  rw [sIx_in h0 (by omega), sIx_in (by omega) h1, List.length_take, List.length_drop]
  omega
theorem rep1 {α : Type} (a : α) (n : Int) : repL [a] n = List.replicate n.toNat a := by
  unfold repL
  induction n.toNat with
  | zero => rfl
  | succ k ih => rw [List.replicate_succ, List.flatten_cons, ih, List.replicate_succ]; rfl
theorem rep1_len {α : Type} (a : α) {n : Int} (h : 0 ≤ n) : ((repL [a] n).length : Int) = n := by
  rw [rep1, List.length_replicate]
  omega
theorem rep1_at {α : Type} [Inhabited α] (a : α) {n : Int} (h : 0 < n) : itD (repL [a] n) 0 = a := by
  rw [rep1]
  obtain ⟨k, hk⟩ : ∃ k, n.toNat = k + 1 := ⟨n.toNat - 1, by omega⟩
  rw [hk, List.replicate_succ]
  exact itD_nat 0 rfl rfl
theorem rep1_mem {α : Type} {a b : α} {n : Int} (h : b ∈ repL [a] n) : b = a := by
  rw [rep1] at h
  exact List.eq_of_mem_replicate h
theorem itD_mem {α : Type} [Inhabited α] {xs : List α} {k : Int} (h0 : 0 ≤ k) (h1 : k < xs.length) : itD xs k ∈ xs := by
  have hl : k.toNat < xs.length := by omega
  rw [itD_nat k.toNat (by omega) (List.getElem?_eq_getElem hl)]
  exact List.getElem_mem hl
theorem low_or {v o : Int} (h : 0 ≤ v) (h0 : 0 ≤ o) (h1 : o ≤ 255) : PySem.Builtin.bitOr (v * 256) o = v * 256 + o := by
  obtain ⟨a, rfl⟩ := Int.eq_ofNat_of_zero_le h
  obtain ⟨b, rfl⟩ := Int.eq_ofNat_of_zero_le h0
  have z : (a * 256) &&& b = 0 := by
    apply Nat.eq_of_testBit_eq
    intro i
    rw [Nat.testBit_and, Nat.zero_testBit, show a * 256 = a * 2 ^ 8 from rfl, Nat.testBit_mul_two_pow]
    by_cases hi : 8 ≤ i
    · have e : b.testBit i = false := Nat.testBit_lt_two_pow (Nat.lt_of_lt_of_le (by omega : b < 2 ^ 8) (Nat.pow_le_pow_right (by decide) hi))
      rw [e, Bool.and_false]
    · simp [hi]
  rw [PyProof.Rows.bitOr_and, PyProof.Rows.bitAnd_pp (by omega) (by omega)]
  rw [show ((a : Int) * 256).toNat = a * 256 from by omega, show ((b : Int)).toNat = b from rfl, z]
  exact Int.sub_zero _
theorem big {x : Int} (h0 : 0 ≤ x) (h1 : x < 2 ^ 64) : -(2 ^ 4096) < x ∧ x < 2 ^ 4096 := by
  have h : (0 : Int) < 2 ^ 4032 := Int.pow_pos (by decide)
  have e : (2 : Int) ^ 4096 = 2 ^ 4032 * 2 ^ 64 := Int.pow_add 2 4032 64
  have l : (1 : Int) * 2 ^ 64 ≤ 2 ^ 4032 * 2 ^ 64 := Int.mul_le_mul_of_nonneg_right h (by decide)
  rw [← e] at l
  generalize (2 : Int) ^ 4096 = z at l ⊢
  omega
theorem gd {α : Type} {xs : List α} {k n : Int} (e : (xs.length : Int) = n) (h0 : 0 ≤ k) (h1 : k < n) : -(xs.length : Int) ≤ k ∧ k < (xs.length : Int) := by omega
def oc (O : List Int) (p : Int) : Int := if p < O.length then itD O p else 0
def pl (O : List Int) (p : Int) : Int := if p < O.length then p else O.length
def Oct (O : List Int) : Prop := ∀ x ∈ O, 0 ≤ x ∧ x ≤ 255
theorem oc_in {O : List Int} (h : Oct O) {p : Int} (h0 : 0 ≤ p) : 0 ≤ oc O p ∧ oc O p ≤ 255 := by
  unfold oc
  split
  · exact h _ (itD_mem h0 ‹_›)
  · decide
theorem e8 : (2 : Int) ^ Int.toNat 8 = 256 := by decide
theorem shift_eq {pr O : List Int} {p sp v : Int} (h : Oct O) (hp : 0 ≤ p) (hv : 0 ≤ v) (hv2 : v < 2 ^ 64) : F_Decoder__shift ⟨pr, O, pl O p, sp, v⟩ = .ok ⟨pr, O, pl O (p + 1), sp, v * 256 + oc O p⟩ := by
  have ho := oc_in h hp
  have k : ∀ (d : St_Decoder) (o : Int), d.value = v → 0 ≤ o → o ≤ 255 → F_Decoder__shift_k1 d o = .ok ⟨d.probs, d.octs, d.place, d.span, v * 256 + o⟩ := fun d o e h0 h1 => by
    unfold F_Decoder__shift_k1
    rw [e, grd_pos ⟨by decide, by decide, big hv hv2⟩, bnd_eq, e8, low_or hv h0 h1]
  unfold F_Decoder__shift
  by_cases c : p < O.length
  · have e1 : pl O p = p := if_pos c
    have e2 : oc O p = itD O p := if_pos c
    have e3 : pl O (p + 1) = p + 1 := by
      unfold pl
      split <;> omega
    rw [e2] at ho
    show ((if pl O p < (O.length : Int) then _ else _) : Rx _).bind _ = _
    rw [e1, if_pos c, grd_pos ⟨show -(O.length : Int) ≤ p by omega, show p < (O.length : Int) from c⟩, bnd_eq, bnd_eq, bind_ok, k _ _ rfl ho.1 ho.2, e2, e3]
  · have e1 : pl O p = O.length := if_neg c
    have e2 : oc O p = 0 := if_neg c
    have e3 : pl O (p + 1) = O.length := if_neg (by omega)
    show ((if pl O p < (O.length : Int) then _ else _) : Rx _).bind _ = _
    rw [e1, if_neg (by omega), bind_ok, k _ _ rfl (show (0 : Int) ≤ 0 by decide) (show (0 : Int) ≤ 255 by decide), e2, e3]
theorem zeros4 (O : List Int) {p : Int} (h0 : 0 ≤ p) (h1 : p < O.length + 4) : itD (O ++ repL [0] 4) p = oc O p := by
  have e : repL ([0] : List Int) 4 = [0, 0, 0, 0] := by decide
  rw [e]
  unfold oc
  split
  · have hl : p.toNat < O.length := by omega
    rw [itD_nat p.toNat (by omega) (List.getElem?_eq_getElem hl)]
    exact itD_nat p.toNat (by omega) (by rw [List.getElem?_append_left hl]; exact List.getElem?_eq_getElem hl)
  · refine itD_nat p.toNat (by omega) ?_
    rw [List.getElem?_append_right (by omega)]
    have : p.toNat - O.length = 0 ∨ p.toNat - O.length = 1 ∨ p.toNat - O.length = 2 ∨ p.toNat - O.length = 3 := by omega
    rcases this with z | z | z | z <;> rw [z] <;> rfl
/-- the decoder and the law's state say the same -/
structure Rel (d : St_Decoder) (s : Int × Int × Int × List Int) (O : List Int) (lo : Int) : Prop where
  o : Oct O
  e : d = ⟨d.probs, O, pl O s.2.2.1, s.2.1, s.1⟩
  l : s.2.2.2 = O ++ repL [0] 4
  p : 0 ≤ s.2.2.1
  sp : lo ≤ s.2.1 ∧ s.2.1 < 4294967296
  v : 0 ≤ s.1 ∧ s.1 < s.2.1
def nrm (O : List Int) (s : Int × Int × Int × List Int) : Int × Int × Int × List Int :=
  if s.2.1 < 16777216 then (s.1 * 256 + oc O s.2.2.1, s.2.1 * 256, s.2.2.1 + 1, s.2.2.2) else s
theorem while_bk {σ ρ : Type} {n : Nat} {s s' : σ} {f : σ → Rx (Lp σ ρ)} (h : f s = .ok (.bk s')) : whileR (n + 1) s f = .ok (.go s') := by
  show (f s).bind _ = _
  rw [h]
  rfl
theorem while_go {σ ρ : Type} {n : Nat} {s s' : σ} {f : σ → Rx (Lp σ ρ)} (h : f s = .ok (.go s')) : whileR (n + 1) s f = whileR n s' f := by
  show (f s).bind _ = _
  rw [h]
  rfl
theorem norm_d {d : St_Decoder} {s : Int × Int × Int × List Int} {O : List Int} (r : Rel d s O 65536) : ∃ d', (whileR 1000000 d (fun s => F_Decoder__decide_b2 s) : Rx (Lp St_Decoder (Int × St_Decoder))) = .ok (.go d') ∧ d'.probs = d.probs ∧ Rel d' (nrm O s) O 16777216 := by
  obtain ⟨v, sp, p, L⟩ := s
  obtain ⟨pr, O', q, sp', v'⟩ := d
  have e := r.e
  simp only [St_Decoder.mk.injEq, true_and] at e
  obtain ⟨rfl, rfl, rfl, rfl⟩ := e
  have hs := r.sp
  have hv := r.v
  have hp := r.p
  dsimp only at hs hv hp
  by_cases c : sp' < 16777216
  · refine ⟨⟨pr, O', pl O' (p + 1), sp' * 256, v' * 256 + oc O' p⟩, ?_, rfl, ?_⟩
    · rw [show (1000000 : Nat) = 999999 + 1 from rfl, while_go (s' := ⟨pr, O', pl O' (p + 1), sp' * 256, v' * 256 + oc O' p⟩)]
      · rw [show (999999 : Nat) = 999998 + 1 from rfl, while_bk (s' := ⟨pr, O', pl O' (p + 1), sp' * 256, v' * 256 + oc O' p⟩)]
        unfold F_Decoder__decide_b2
        rw [if_neg (show ¬ sp' * 256 < 16777216 by omega)]
      · unfold F_Decoder__decide_b2
        rw [if_pos (show sp' < 16777216 from c), shift_eq r.o hp hv.1 (by omega), noEr_ok, bind_ok, grd_pos ⟨by decide, by decide, big (show 0 ≤ sp' by omega) (show sp' < 2 ^ 64 by omega)⟩, bnd_eq, e8]
    · have ho := oc_in r.o hp
      have en : nrm O' (v', sp', p, L) = (v' * 256 + oc O' p, sp' * 256, p + 1, L) := if_pos c
      rw [en]
      exact ⟨r.o, rfl, r.l, by show 0 ≤ p + 1; omega, ⟨by show 16777216 ≤ sp' * 256; omega, by show sp' * 256 < 4294967296; omega⟩, ⟨by show 0 ≤ v' * 256 + oc O' p; omega, by show v' * 256 + oc O' p < sp' * 256; omega⟩⟩
  · have en : nrm O' (v', sp', p, L) = (v', sp', p, L) := if_neg c
    refine ⟨⟨pr, O', pl O' p, sp', v'⟩, ?_, rfl, ?_⟩
    · rw [show (1000000 : Nat) = 999999 + 1 from rfl, while_bk (s' := ⟨pr, O', pl O' p, sp', v'⟩)]
      unfold F_Decoder__decide_b2
      rw [if_neg (show ¬ sp' < 16777216 from c)]
    · rw [en]
      exact ⟨r.o, rfl, r.l, hp, ⟨by show 16777216 ≤ sp'; omega, hs.2⟩, hv⟩
theorem norm_l {d : St_Decoder} {s : Int × Int × Int × List Int} {O : List Int} (r : Rel d s O 65536) : forS (rng 0 (Int.toNat 4)) s (fun s x => F__law_next_b2 s x) = .ok (nrm O s) := by
  have hs := r.sp
  have hl : ((s.2.2.2).length : Int) = O.length + 4 := by
    rw [r.l, List.length_append, show (repL ([0] : List Int) 4).length = 4 from by decide]
    omega
  have stay : ∀ (q : Int × Int × Int × List Int) (x : Int), 16777216 ≤ q.2.1 → F__law_next_b2 q x = .ok q := fun q x h => by
    unfold F__law_next_b2
    rw [if_neg (by omega)]
  have step : ∀ x, F__law_next_b2 s x = .ok (nrm O s) := fun x => by
    by_cases c : s.2.1 < 16777216
    · unfold F__law_next_b2 nrm
      rw [if_pos c, if_pos c]
      have k : ∀ o, F__law_next_k3 s o = .ok (s.1 * 256 + o, s.2.1 * 256, s.2.2.1 + 1, s.2.2.2) := fun o => rfl
      by_cases c2 : s.2.2.1 < (s.2.2.2).length
      · rw [if_pos c2, grd_pos ⟨by have := r.p; omega, c2⟩, bnd_eq, bind_ok, k, r.l, zeros4 O r.p (by omega)]
      · rw [if_neg c2, bind_ok, k, show oc O s.2.2.1 = 0 from if_neg (by omega)]
    · rw [stay s x (by omega)]
      unfold nrm
      rw [if_neg c]
  have up : 16777216 ≤ (nrm O s).2.1 := by
    unfold nrm
    split
    · show 16777216 ≤ s.2.1 * 256
      omega
    · omega
  rw [show rng 0 (Int.toNat 4) = [0, 1, 2, 3] from by decide]
  show (F__law_next_b2 s 0).bind _ = _
  rw [step, bind_ok]
  show (F__law_next_b2 (nrm O s) 1).bind _ = _
  rw [stay _ _ up, bind_ok]
  show (F__law_next_b2 (nrm O s) 2).bind _ = _
  rw [stay _ _ up, bind_ok]
  show (F__law_next_b2 (nrm O s) 3).bind _ = _
  rw [stay _ _ up, bind_ok]
  rfl
theorem part_in {sp c : Int} (hs : 16777216 ≤ sp) (hc : 31 ≤ c ∧ c ≤ 4065) : 65536 ≤ sp / 4096 * c ∧ 65536 ≤ sp - sp / 4096 * c := by
  have q : 4096 ≤ sp / 4096 := by omega
  have a := Int.mul_le_mul_of_nonneg_left hc.1 (show 0 ≤ sp / 4096 by omega)
  have b := Int.mul_le_mul_of_nonneg_left hc.2 (show 0 ≤ sp / 4096 by omega)
  generalize sp / 4096 * c = z at a b ⊢
  omega
def bitL (s : Int × Int × Int × List Int) (part : Int) : Int := if s.1 < part then 0 else 1
def pre (s : Int × Int × Int × List Int) (part : Int) : Int × Int × Int × List Int := if s.1 < part then (s.1, part, s.2.2.1, s.2.2.2) else (s.1 - part, s.2.1 - part, s.2.2.1, s.2.2.2)
def preD (d : St_Decoder) (part : Int) : St_Decoder := if d.value < part then ⟨d.probs, d.octs, d.place, part, d.value⟩ else ⟨d.probs, d.octs, d.place, d.span - part, d.value - part⟩
theorem pre_rel {d : St_Decoder} {s : Int × Int × Int × List Int} {O : List Int} (r : Rel d s O 16777216) {c : Int} (hc : 31 ≤ c ∧ c ≤ 4065) : Rel (preD d (s.2.1 / 4096 * c)) (pre s (s.2.1 / 4096 * c)) O 65536 ∧ (preD d (s.2.1 / 4096 * c)).probs = d.probs := by
  obtain ⟨v, sp, p, L⟩ := s
  obtain ⟨pr, O', q, sp', v'⟩ := d
  have e := r.e
  simp only [St_Decoder.mk.injEq, true_and] at e
  obtain ⟨rfl, rfl, rfl, rfl⟩ := e
  have hs := r.sp
  have hv := r.v
  dsimp only at hs hv ⊢
  have b := part_in hs.1 hc
  generalize sp' / 4096 * c = z at b ⊢
  unfold pre preD
  dsimp only
  by_cases k : v' < z
  · rw [if_pos k, if_pos k]
    exact ⟨⟨r.o, rfl, r.l, r.p, ⟨b.1, by show z < 4294967296; omega⟩, ⟨hv.1, k⟩⟩, rfl⟩
  · rw [if_neg k, if_neg k]
    exact ⟨⟨r.o, rfl, r.l, r.p, ⟨b.2, by show sp' - z < 4294967296; omega⟩, ⟨by show 0 ≤ v' - z; omega, by show v' - z < sp' - z; omega⟩⟩, rfl⟩
theorem decide_eq {d : St_Decoder} {s : Int × Int × Int × List Int} {O : List Int} (r : Rel d s O 16777216) {c : Int} (hc : 31 ≤ c ∧ c ≤ 4065) :
    ∃ d', F_Decoder__decide d c = .ok (bitL s (s.2.1 / 4096 * c), d') ∧ d'.probs = d.probs ∧ Rel d' (nrm O (pre s (s.2.1 / 4096 * c))) O 16777216 := by
  obtain ⟨r2, e2⟩ := pre_rel r hc
  obtain ⟨d', h1, h2, h3⟩ := norm_d r2
  refine ⟨d', ?_, h2.trans e2, h3⟩
  have es : d.span = s.2.1 := by rw [r.e]
  have ev : d.value = s.1 := by rw [r.e]
  unfold F_Decoder__decide
  rw [es, grd_pos (.inr ⟨by omega, by omega⟩), bnd_eq, ev, bnd_eq]
  have k : ∀ b, F_Decoder__decide_k1 b (preD d (s.2.1 / 4096 * c)) = .ok (b, d') := fun b => by
    unfold F_Decoder__decide_k1
    rw [h1]
    rfl
  unfold bitL
  generalize hz : s.2.1 / 4096 * c = z at k ⊢
  unfold preD at k
  rw [ev, es] at k
  by_cases q : s.1 < z
  · rw [if_pos q] at k ⊢
    rw [if_pos rfl, bind_ok]
    exact k 0
  · rw [if_neg q] at k ⊢
    rw [if_neg (by decide), bnd_eq, bnd_eq, bind_ok]
    exact k 1
def adp (c b : Int) : Int := if b = 0 then c + (4096 - c) / 32 else c - c / 32
theorem adp_in {c b : Int} (h : 31 ≤ c ∧ c ≤ 4065) : 31 ≤ adp c b ∧ adp c b ≤ 4065 := by
  unfold adp
  split <;> omega
theorem moved_eq (c b : Int) : F__law_moved c b = .ok (adp c b) := by
  unfold F__law_moved adp
  split <;> rfl
theorem adapted_eq (c b : Int) : F__adapted c b = .ok (adp c b) := by
  unfold F__adapted adp
  split <;> rfl
theorem next_eq {d : St_Decoder} {s : Int × Int × Int × List Int} {O ch : List Int} {ctx : Int} (r : Rel d s O 16777216) (hl : ch.length = 257) (h0 : 0 ≤ ctx) (h1 : ctx < 257) (hc : 31 ≤ itD ch ctx ∧ itD ch ctx ≤ 4065) :
    F__law_next s ch ctx = .ok (bitL s (s.2.1 / 4096 * itD ch ctx), nrm O (pre s (s.2.1 / 4096 * itD ch ctx)), if ctx < 256 then setL ch ctx (adp (itD ch ctx) (bitL s (s.2.1 / 4096 * itD ch ctx))) else ch) := by
  have g := gd (show (ch.length : Int) = 257 by omega) h0 h1
  obtain ⟨r2, _⟩ := pre_rel r hc
  have hn := norm_l r2
  unfold F__law_next
  rw [grd_pos g, grd_pos (.inr ⟨by omega, by omega⟩), bnd_eq]
  generalize hcc : itD ch ctx = c at hc r2 hn ⊢
  generalize s.2.1 / 4096 * c = z at r2 hn ⊢
  have eb : (if decide (z ≤ s.1) = true then (1 : Int) else 0) = bitL s z := by
    unfold bitL
    by_cases q : s.1 < z
    · rw [if_pos q, if_neg (by rw [decide_eq_false (by omega)]; exact Bool.false_ne_true)]
    · rw [if_neg q, if_pos (decide_eq_true (by omega))]
  rw [eb, bnd_eq]
  have k : ∀ b, F__law_next_k1 ch ctx b (pre s z) = .ok (b, nrm O (pre s z), if ctx < 256 then setL ch ctx (adp c b) else ch) := fun b => by
    unfold F__law_next_k1
    rw [hn, bind_ok]
    unfold F__law_next_r2
    by_cases q : ctx < 256
    · rw [if_pos q, if_pos q, grd_pos g, hcc, moved_eq, noEr_ok, bind_ok, grd_pos g, bnd_eq]
      rfl
    · rw [if_neg q, if_neg q]
      rfl
  unfold bitL
  unfold pre at k ⊢
  by_cases q : s.1 < z
  · rw [if_pos q] at k ⊢
    rw [if_pos q, if_pos rfl, bind_ok]
    exact k 0
  · rw [if_neg q] at k ⊢
    rw [if_neg q, if_neg (by decide), bnd_eq, bnd_eq, bind_ok]
    exact k 1
theorem setL_len' (xs : List Int) (k y : Int) : (setL xs k y).length = xs.length := by
  unfold setL
  rw [List.length_set]
theorem setL_at {xs : List Int} {k j y : Int} (h0 : 0 ≤ k) (h1 : k < xs.length) (j0 : 0 ≤ j) (j1 : j < xs.length) : itD (setL xs k y) j = if j = k then y else itD xs j := by
  have e : (ixN xs.length k).getD 0 = k.toNat := by
    unfold ixN
    rw [if_pos h0, if_pos h1]
    rfl
  unfold setL
  rw [e]
  have hl : j.toNat < xs.length := by omega
  refine itD_nat j.toNat (by omega) ?_
  rw [List.getElem?_set]
  by_cases c : j = k
  · subst c
    rw [if_pos rfl, if_pos hl, if_pos rfl]
  · rw [if_neg (by omega), if_neg c, List.getElem?_eq_getElem hl, itD_nat j.toNat (by omega) (List.getElem?_eq_getElem hl)]
/-- the two tables -/
structure Pr (pr ch : List Int) : Prop where
  l1 : pr.length = 256
  l2 : ch.length = 257
  eq : ∀ c : Int, 0 ≤ c → c < 256 → itD pr c = itD ch c ∧ 31 ≤ itD ch c ∧ itD ch c ≤ 4065
  last : itD ch 256 = 2048
theorem Pr.chance {pr ch : List Int} (h : Pr pr ch) {c : Int} (h0 : 0 ≤ c) (h1 : c < 257) : 31 ≤ itD ch c ∧ itD ch c ≤ 4065 := by
  by_cases q : c < 256
  · exact (h.eq c h0 q).2
  · rw [show c = 256 by omega, h.last]
    decide
theorem Pr.set {pr ch : List Int} (h : Pr pr ch) {k y : Int} (h0 : 0 ≤ k) (h1 : k < 256) (hy : 31 ≤ y ∧ y ≤ 4065) : Pr (setL pr k y) (setL ch k y) := by
  have a := h.l1
  have b := h.l2
  refine ⟨by rw [setL_len', a], by rw [setL_len', b], fun c c0 c1 => ?_, ?_⟩
  · rw [setL_at h0 (by omega) c0 (by omega), setL_at h0 (by omega) c0 (by omega)]
    by_cases q : c = k
    · rw [if_pos q, if_pos q]
      exact ⟨rfl, hy⟩
    · rw [if_neg q, if_neg q]
      exact h.eq c c0 c1
  · rw [setL_at h0 (by omega) (by decide) (by omega), if_neg (by omega)]
    exact h.last
theorem read_eq {d : St_Decoder} {s : Int × Int × Int × List Int} {O ch : List Int} {ctx : Int} (r : Rel d s O 16777216) (hp : Pr d.probs ch) (h0 : 0 ≤ ctx) (h1 : ctx < 256) :
    ∃ d', F_Decoder_read d ctx = .ok (bitL s (s.2.1 / 4096 * itD ch ctx), d') ∧ d'.probs = setL d.probs ctx (adp (itD ch ctx) (bitL s (s.2.1 / 4096 * itD ch ctx))) ∧ Rel d' (nrm O (pre s (s.2.1 / 4096 * itD ch ctx))) O 16777216 := by
  obtain ⟨e, hc⟩ := hp.eq ctx h0 h1
  obtain ⟨d1, q1, q2, q3⟩ := decide_eq r hc
  have l1 := hp.l1
  have g := gd (show (d.probs.length : Int) = 256 by omega) h0 h1
  refine ⟨⟨setL d1.probs ctx (adp (itD ch ctx) (bitL s (s.2.1 / 4096 * itD ch ctx))), d1.octs, d1.place, d1.span, d1.value⟩, ?_, by rw [q2], ?_⟩
  · unfold F_Decoder_read F__check_context
    rw [if_pos h0, if_pos h1, bind_ok, grd_pos g, bnd_eq, e, q1, bind_ok, adapted_eq, noEr_ok, bind_ok, grd_pos (by rw [q2]; exact g), bnd_eq]
  · exact ⟨q3.o, by simp only [St_Decoder.mk.injEq, true_and]; exact ⟨congrArg St_Decoder.octs q3.e, congrArg St_Decoder.place q3.e, congrArg St_Decoder.span q3.e, congrArg St_Decoder.value q3.e⟩, q3.l, q3.p, q3.sp, q3.v⟩
theorem even_eq {d : St_Decoder} {s : Int × Int × Int × List Int} {O : List Int} (r : Rel d s O 16777216) :
    ∃ d', F_Decoder_read_even d = .ok (bitL s (s.2.1 / 4096 * 2048), d') ∧ d'.probs = d.probs ∧ Rel d' (nrm O (pre s (s.2.1 / 4096 * 2048))) O 16777216 := by
  obtain ⟨d1, q1, q2, q3⟩ := decide_eq r (c := 2048) (by decide)
  refine ⟨d1, ?_, q2, q3⟩
  unfold F_Decoder_read_even
  rw [q1, bind_ok]
/-- a turn of the law's loop -/
theorem b6_gv {d : St_Decoder} {s : Int × Int × Int × List Int} {O ch : List Int} {it : Int × Int} (r : Rel d s O 16777216) (hp : Pr d.probs ch) (h0 : -1 ≤ it.1) (h1 : it.1 ≤ 255) :
    Gv (F_law_b6 d s ch it) (fun l => ∃ q : St_Decoder × (Int × Int × Int × List Int) × List Int, l = .go q ∧ Rel q.1 q.2.1 O 16777216 ∧ Pr q.1.probs q.2.2) := by
  have l2 := hp.l2
  unfold F_law_b6
  by_cases c : 0 ≤ it.1
  · obtain ⟨d1, q1, q2, q3⟩ := read_eq r hp c (show it.1 < 256 by omega)
    refine Gv.bind_eq (a := (d1, it.1, bitL s (s.2.1 / 4096 * itD ch it.1))) (by rw [if_pos c, q1, bind_ok]) ?_
    unfold F_law_k7
    have hch := hp.chance c (show it.1 < 257 by omega)
    refine Gv.bind_eq (next_eq r l2 c (show it.1 < 257 by omega) hch) (Gv.pos rfl (.ok ⟨_, rfl, q3, ?_⟩))
    show Pr d1.probs (if it.1 < 256 then _ else ch)
    rw [if_pos (by omega), q2]
    exact hp.set c (by omega) (adp_in hch)
  · obtain ⟨d1, q1, q2, q3⟩ := even_eq r
    refine Gv.bind_eq (a := (d1, 256, bitL s (s.2.1 / 4096 * 2048))) (by rw [if_neg c, q1, bind_ok]) ?_
    unfold F_law_k7
    have hn := next_eq (ctx := 256) r l2 (by decide) (by decide) (by rw [hp.last]; decide)
    rw [hp.last, if_neg (show ¬ (256 : Int) < 256 by decide)] at hn
    refine Gv.bind_eq hn (Gv.pos rfl (.ok ⟨_, rfl, q3, ?_⟩))
    show Pr d1.probs ch
    rw [q2]
    exact hp
theorem vals4 {a b c d : Int} (ha : 0 ≤ a ∧ a ≤ 255) (hb : 0 ≤ b ∧ b ≤ 255) (hc : 0 ≤ c ∧ c ≤ 255) (hd : 0 ≤ d ∧ d ≤ 255) : (((0 * 256 + a) * 256 + b) * 256 + c) * 256 + d = a * 16777216 + b * 65536 + c * 256 + d := by omega
theorem init_eq {O : List Int} (h : Oct O) (hl : O.length ≤ 100000) : ∃ d s, F_Decoder___init__ O = .ok d ∧ F__law_start O = .ok s ∧ d.probs = repL [2048] 256 ∧ Rel d s O 16777216 := by
  have o0 := oc_in h (p := 0) (by decide)
  have o1 := oc_in h (p := 1) (by decide)
  have o2 := oc_in h (p := 2) (by decide)
  have o3 := oc_in h (p := 3) (by decide)
  have l4 : (repL ([0] : List Int) 4).length = 4 := by decide
  have L : ((O ++ repL [0] 4).length : Int) = O.length + 4 := by
    rw [List.length_append, l4]
    omega
  have p0 : pl O 0 = 0 := by
    unfold pl
    split <;> omega
  have hs : F__law_start O = .ok (if 4294967294 < oc O 0 * 16777216 + oc O 1 * 65536 + oc O 2 * 256 + oc O 3 then 4294967294 else oc O 0 * 16777216 + oc O 1 * 65536 + oc O 2 * 256 + oc O 3, 4294967295, 4, O ++ repL [0] 4) := by
    unfold F__law_start
    rw [grd_pos (by decide), grd_pos (by show O.length + 4 ≤ 1000000; omega), grd_pos (gd L (by decide) (by omega)), grd_pos (gd L (by decide) (by omega)), grd_pos (gd L (by decide) (by omega)), grd_pos (gd L (by decide) (by omega)), bnd_eq,
      zeros4 O (by decide) (by omega), zeros4 O (by decide) (by omega), zeros4 O (by decide) (by omega), zeros4 O (by decide) (by omega)]
    rfl
  refine ⟨⟨repL [2048] 256, O, pl O 4, 4294967295, if 4294967294 < oc O 0 * 16777216 + oc O 1 * 65536 + oc O 2 * 256 + oc O 3 then 4294967294 else oc O 0 * 16777216 + oc O 1 * 65536 + oc O 2 * 256 + oc O 3⟩, _, ?_, hs, rfl, ?_⟩
  · unfold F_Decoder___init__
    rw [grd_pos ⟨by decide, by decide, by decide +kernel⟩, bnd_eq, show rng 0 (Int.toNat 4) = [0, 1, 2, 3] from by decide]
    generalize repL ([2048] : List Int) 256 = pr
    have st : ∀ (p v x : Int), 0 ≤ p → 0 ≤ v → v < 2 ^ 64 → F_Decoder___init___b1 ⟨pr, O, pl O p, 4294967295, v⟩ x = .ok ⟨pr, O, pl O (p + 1), 4294967295, v * 256 + oc O p⟩ := fun p v x a b c => by
      unfold F_Decoder___init___b1
      rw [shift_eq h a b c, noEr_ok, bind_ok]
    have e : forS [0, 1, 2, 3] (⟨pr, O, 0, 4294967296 - 1, 0⟩ : St_Decoder) (fun s x => F_Decoder___init___b1 s x) = .ok ⟨pr, O, pl O 4, 4294967295, (((0 * 256 + oc O 0) * 256 + oc O 1) * 256 + oc O 2) * 256 + oc O 3⟩ := by
      have i0 := st 0 0 0 (by decide) (by decide) (by decide)
      rw [p0] at i0
      show (F_Decoder___init___b1 ⟨pr, O, 0, 4294967295, 0⟩ 0).bind _ = _
      rw [i0, bind_ok]
      show (F_Decoder___init___b1 ⟨pr, O, pl O 1, 4294967295, 0 * 256 + oc O 0⟩ 1).bind _ = _
      rw [st 1 _ 1 (by decide) (by omega) (by omega), bind_ok]
      show (F_Decoder___init___b1 ⟨pr, O, pl O 2, 4294967295, (0 * 256 + oc O 0) * 256 + oc O 1⟩ 2).bind _ = _
      rw [st 2 _ 2 (by decide) (by omega) (by omega), bind_ok]
      show (F_Decoder___init___b1 ⟨pr, O, pl O 3, 4294967295, ((0 * 256 + oc O 0) * 256 + oc O 1) * 256 + oc O 2⟩ 3).bind _ = _
      rw [st 3 _ 3 (by decide) (by omega) (by omega), bind_ok]
      rfl
    rw [e, bind_ok]
    unfold F_Decoder___init___r1
    rw [bnd_eq, vals4 o0 o1 o2 o3]
    rfl
  · refine ⟨h, rfl, rfl, show (0 : Int) ≤ 4 by decide, ⟨show (16777216 : Int) ≤ 4294967295 by decide, show (4294967295 : Int) < 4294967296 by decide⟩, ?_⟩
    dsimp only
    split <;> omega
def Its (items : List (Int × Int)) : Prop := ∀ x ∈ items, -1 ≤ x.1 ∧ x.1 ≤ 255
theorem Its.app {a b : List (Int × Int)} (ha : Its a) (hb : Its b) : Its (a ++ b) := fun x hx => (List.mem_append.mp hx).elim (ha x) (hb x)
theorem items_b1 {items : List (Int × Int)} {cell : Int} {i : Nat} (hi : Its items) (hl : items.length ≤ 40 * i) (hi2 : i ≤ 1000) : Gv (F__law_items_b1 items cell) (fun r => Its r ∧ r.length ≤ 40 * (i + 1)) := by
  unfold F__law_items_b1
  refine Gv.bind (draws_gv _ _ (by decide +kernel) (by decide +kernel)) fun v hv => ?_
  obtain ⟨a0, r0, rfl, b0, c0, hv⟩ := hv.cons
  obtain ⟨a1, r1, rfl, b1, c1, hv⟩ := hv.cons
  obtain ⟨a2, r2, rfl, b2, c2, hv⟩ := hv.cons
  obtain ⟨a3, r3, rfl, b3, c3, hv⟩ := hv.cons
  obtain ⟨a4, r4, rfl, b4, c4, hv⟩ := hv.cons
  obtain rfl := hv.nil
  have d5 : ∀ k : Int, 0 ≤ k → k < 5 → -(([a0, a1, a2, a3, a4] : List Int).length : Int) ≤ k ∧ k < ([a0, a1, a2, a3, a4] : List Int).length := fun k h0 h1 => gd (n := 5) rfl h0 h1
  rw [itD_lit (k := 0) (a := a0) 0 rfl rfl, itD_lit (k := 1) (a := a1) 1 rfl rfl, itD_lit (k := 2) (a := a2) 2 rfl rfl, itD_lit (k := 3) (a := a3) 3 rfl rfl, itD_lit (k := 4) (a := a4) 4 rfl rfl]
  refine Gv.grd (d5 2 (by decide) (by decide)) (Gv.grd (d5 2 (by decide) (by decide)) (Gv.grd (d5 2 (by decide) (by decide)) (Gv.grd (d5 1 (by decide) (by decide)) (Gv.grd (gd (n := 8) rfl b1 c1) (Gv.bnd fun ctx hctx => ?_)))))
  have hc : -1 ≤ ctx ∧ ctx ≤ 255 := by
    have : a1 = 0 ∨ a1 = 1 ∨ a1 = 2 ∨ a1 = 3 ∨ a1 = 4 ∨ a1 = 5 ∨ a1 = 6 ∨ a1 = 7 := by omega
    rcases this with e | e | e | e | e | e | e | e
    · rw [hctx, itD_lit (a := 0) 0 e rfl]; decide
    · rw [hctx, itD_lit (a := 255) 1 e rfl]; decide
    · rw [hctx, itD_lit (a := 1) 2 e rfl]; decide
    · rw [hctx, itD_lit (a := 128) 3 e rfl]; decide
    · rw [hctx, itD_lit (a := a2) 4 e rfl]; omega
    · rw [hctx, itD_lit (a := a2) 5 e rfl]; omega
    · rw [hctx, itD_lit (a := a2) 6 e rfl]; omega
    · rw [hctx, itD_lit (a := -1) 7 e rfl]; decide
  clear hctx
  have rl : ((repL [(ctx, a3)] a4).length : Int) = a4 := rep1_len _ b4
  refine Gv.grd (d5 0 (by decide) (by decide)) (Gv.ite (fun _ => Gv.grd (d5 3 (by decide) (by decide)) (Gv.grd (d5 4 (by decide) (by decide)) (Gv.grd ⟨by omega, by omega, by show 1 * a4.toNat ≤ 1000000; omega⟩ (Gv.grd (by omega) (.ok ⟨hi.app fun x hx => ?_, by rw [List.length_append]; omega⟩))))) fun _ => ?_)
  · rw [rep1_mem hx]
    exact hc
  · refine Gv.grd (d5 4 (by decide) (by decide)) (Gv.grd ⟨by omega, by omega, by show 1 * a4.toNat ≤ 1000000; omega⟩ (Gv.bind (draws_gv _ _ (fun l hl2 => ?_) ?_) fun w hw => ?_))
    · rw [rep1_mem hl2]
      decide
    · have := rep1_len (2 : Int) b4
      omega
    have wl : (w.length : Int) = a4 := by
      rw [hw.len]
      exact rep1_len _ b4
    refine Gv.grd ⟨by omega, by omega⟩ (Gv.bind_eq (mapA_pure0 (g := fun k => ((ctx + 1) * (if decide (0 < k % 3) = true then 1 else 0) - 1, itD w k)) (fun k hk => ?_) (by rw [rng_len]; omega)) (Gv.grd ?_ (.ok ⟨hi.app fun x hx => ?_, ?_⟩)))
    · have b := rng_mem hk
      unfold F__law_items_c2
      rw [grd_pos (.inl ⟨by omega, by omega⟩), grd_pos (gd wl (by omega) (by omega))]
      rfl
    · rw [List.length_map, rng_len]
      omega
    · obtain ⟨k, _, rfl⟩ := List.mem_map.mp hx
      dsimp only
      split <;> omega
    · rw [List.length_append, List.length_map, rng_len]
      omega
theorem items_gv {xs : List Int} (hx : xs.length ≤ 63) : Gv (F__law_items xs 300) (fun r => Its r ∧ r.length ≤ 2520) := by
  unfold F__law_items
  refine Gv.bind (Gv.forS (P := fun i r => Its r ∧ r.length ≤ 40 * i) ⟨(fun x hx => by cases hx), Nat.le_refl 0⟩ fun i x s h p => items_b1 p.1 p.2 (by have := get_len h; omega)) fun r p => .ok ⟨fun x hx => ?_, ?_⟩
  · unfold cutL at hx
    exact p.1 x (List.mem_of_mem_drop (List.mem_of_mem_take hx))
  · have := cutL_len r none (some 300)
    have := p.2
    omega
theorem r6_ok {d : St_Decoder} {s : Int × Int × Int × List Int} {ch : List Int} (hp : Pr d.probs ch) : F_law_r6 d s ch = .ok true := by
  unfold F_law_r6
  rw [forR_unit (fun x hx => ?_)]
  · rfl
  · have b := rng_mem hx
    have b1 : x < 256 := by omega
    obtain ⟨e, h31, h40⟩ := hp.eq x b.1 b1
    have l1 := hp.l1
    have l2 := hp.l2
    refine Gv.get ?_
    unfold F_law_b8
    refine Gv.bind_eq (a := itD ch x) ?_ (Gv.grd (gd (n := 257) (by omega) b.1 (by omega)) (Gv.pos rfl (Gv.pos h31 (Gv.pos h40 (.ok rfl)))))
    unfold F_Decoder_probability F__check_context
    rw [if_pos b.1, if_pos b1, bind_ok, grd_pos (gd (n := 256) (by omega) b.1 b1), e]
theorem k3_ok {xs O : List Int} {first : Int} (hx : xs.length ≤ 63) (h : Oct O) (hl : O.length ≤ 100000) : F_law_k3 xs first O = .ok true := by
  refine Gv.get ?_
  obtain ⟨d, s, e1, e2, e3, r⟩ := init_eq h hl
  unfold F_law_k3
  refine Gv.bind_eq e1 (Gv.grd ⟨by omega, by omega⟩ (Gv.bind (Gv.forS (P := fun _ q => q.length = O.length) rfl fun i x q hq p => ?_) fun q p => ?_))
  · obtain ⟨rfl, hi⟩ := rng_at hq
    unfold F_law_b4
    refine Gv.grd (gd (n := O.length) (by omega) (by omega) (by omega)) (Gv.grd (gd (n := O.length) (by omega) (by omega) (by omega)) (Gv.bnd fun y hy => .ok ?_))
    rw [hy, setL_len']
    exact p
  · unfold F_law_r4
    refine Gv.grd (by omega) (Gv.bnd fun _ _ => Gv.bind_eq e2 (Gv.grd ⟨by decide, by decide, by decide +kernel⟩ (Gv.bind (items_gv (by have := cutL_len xs (some 2) none; omega)) fun items hi => ?_)))
    refine Gv.bind (P := fun z => Its z) (Gv.ite (fun _ => Gv.grd ⟨by decide, by decide, ?_⟩ (.ok fun x hx => ?_)) fun _ => .ok hi.1) fun items hi => ?_
    · have := hi.2
      show items.length * 6 ≤ 1000000
      omega
    · unfold repL at hx
      obtain ⟨l, hl1, hl2⟩ := List.mem_flatten.mp hx
      rw [List.eq_of_mem_replicate hl1] at hl2
      exact hi.1 x hl2
    unfold F_law_k5
    have pr0 : Pr d.probs (repL [2048] 257) := by
      rw [e3]
      refine ⟨by decide +kernel, by decide +kernel, fun c c0 c1 => ?_, by rw [rep1]; exact itD_nat 256 rfl (by decide +kernel)⟩
      have a : ∀ n : Int, 0 ≤ c → c < n → itD (repL ([2048] : List Int) n) c = 2048 := fun n _ h1 => by
        rw [rep1]
        refine itD_nat c.toNat (by omega) ?_
        rw [List.getElem?_replicate, if_pos (by omega)]
      rw [a 256 c0 c1, a 257 c0 (by omega)]
      decide
    refine Gv.bind (Gv.forR (P := fun _ (q : St_Decoder × (Int × Int × Int × List Int) × List Int) => Rel q.1 q.2.1 O 16777216 ∧ Pr q.1.probs q.2.2) ⟨r, pr0⟩ fun i x q hx p => ?_) ?_
    · have b := hi x (List.mem_of_getElem? hx)
      refine Gv.imp (b6_gv p.1 p.2 b.1 b.2) ?_
      rintro l ⟨q2, rfl, h1, h2⟩
      exact ⟨q2, rfl, h1, h2⟩
    · rintro l ⟨q, rfl, h1, h2⟩
      exact .of_eq (r6_ok (s := q.2.1) h2) rfl
theorem law_true (xs : List Int) (h : xs.length ≤ 63) : F_law xs = .ok true := by
  refine Gv.get ?_
  unfold F_law
  refine Gv.bind (cell_gv xs 0 (by decide)) fun first _ => Gv.bind (cell_gv xs 1 (by decide)) fun c1 _ => ?_
  have f0 : 0 ≤ first % 31 := by omega
  have f1 : first % 31 < 31 := by omega
  have g : ∀ a : Int, -(2 ^ 63) ≤ (first % 31 : Int) ∧ (first % 31 : Int) < 2 ^ 63 ∧ ([a] : List Int).length * Int.toNat (first % 31) ≤ 1000000 := fun a => ⟨by omega, by omega, by show 1 * _ ≤ _; omega⟩
  have rl : ∀ a : Int, (repL [a] (first % 31)).length ≤ 30 := fun a => by
    have := rep1_len a f0
    omega
  refine Gv.grd (g 256) (Gv.bind (draws_gv _ _ (fun l hl => by rw [rep1_mem hl]; decide) (by have := rl 256; omega)) fun v hv => ?_)
  have vl : v.length ≤ 30 := by rw [hv.len]; exact rl 256
  have vo : Oct v := by
    have key : ∀ (v ls : List Int), Inb v ls → (∀ l ∈ ls, l = 256) → Oct v := by
      intro v
      induction v with
      | nil => intro ls _ _ x hx; cases hx
      | cons a r ih =>
        intro ls hv he x hx
        cases ls with
        | nil => exact hv.elim
        | cons l ls =>
          have e := he l List.mem_cons_self
          rcases List.mem_cons.mp hx with rfl | hx
          · have h1 := hv.1
            have h2 := hv.2.1
            omega
          · exact ih ls hv.2.2 (fun l hl => he l (List.mem_cons_of_mem _ hl)) x hx
    exact key v _ hv fun l hl => rep1_mem hl
  refine Gv.bind (P := fun O => Oct O ∧ O.length ≤ 100000) (Gv.ite (fun _ => Gv.grd ⟨by decide, by decide, by show v.length * 9 ≤ 1000000; omega⟩ (.ok ⟨fun x hx => ?_, ?_⟩)) fun _ => .ok ⟨vo, by omega⟩) fun O1 h1 => ?_
  · unfold repL at hx
    obtain ⟨l, hl1, hl2⟩ := List.mem_flatten.mp hx
    rw [List.eq_of_mem_replicate hl1] at hl2
    exact vo x hl2
  · rw [repL_len]
    show 9 * v.length ≤ 100000
    omega
  unfold F_law_k1
  refine Gv.bind (P := fun O => Oct O ∧ O.length ≤ 100000) (Gv.ite (fun _ => Gv.grd (g 255) (.ok ⟨fun x hx => by rw [rep1_mem hx]; decide, by have := rl 255; omega⟩)) fun _ => .ok h1) fun O2 h2 => ?_
  unfold F_law_k2
  refine Gv.bind (P := fun O => Oct O ∧ O.length ≤ 100000) (Gv.ite (fun _ => Gv.grd (g 0) (.ok ⟨fun x hx => by rw [rep1_mem hx]; decide, by have := rl 0; omega⟩)) fun _ => .ok h2) fun O3 h3 => ?_
  exact .of_eq (k3_ok h h3.1 h3.2) rfl

end Vx
namespace Vx
open PySem PySem.Spec PyProof.Rows L2
def topS (i : Nat) : Stmt := PySem.Challenge.pw_thaumatrope_k14_any_octets_read_as_decis.main.body.getD i (.Pass ⟨0, 0, 0, 0⟩)
abbrev s__law_draws : Stmt := topS 16
abbrev s_Decoder__shift : Stmt := inClass (topS 11) 5
abbrev s_Decoder___init__ : Stmt := inClass (topS 11) 0
abbrev s__law_start : Stmt := topS 19
abbrev s__law_items : Stmt := topS 17
abbrev s__law_cell : Stmt := topS 15
abbrev s__check_context : Stmt := topS 12
abbrev s_Decoder_probability : Stmt := inClass (topS 11) 3
abbrev s__adapted : Stmt := topS 13
abbrev s_Decoder__decide : Stmt := inClass (topS 11) 4
abbrev s_Decoder_read : Stmt := inClass (topS 11) 1
abbrev s_Decoder_read_even : Stmt := inClass (topS 11) 2
abbrev s__law_moved : Stmt := topS 18
abbrev s__law_next : Stmt := topS 20
abbrev s_law : Stmt := topS 21
structure Ads where
  c_Decoder : Addr
  x_CodecError : Addr
  x_OutOfRange : Addr
  z0 : Addr
def excA (AD : Ads) : Nat → Addr
  | 0 => AD.x_CodecError
  | 1 => AD.x_OutOfRange
  | _ => AD.z0
structure Txt (K : PySem.W.Frag) (mg : Str → Option Value) (AD : Ads) : Prop where
  b_abs : mg "abs" = none
  b_int : mg "int" = none
  b_len : mg "len" = none
  g_EVEN : ∃ u, mg "EVEN" = some u ∧ RelV (V.int 2048) u
  g_CONTEXTS : ∃ u, mg "CONTEXTS" = some u ∧ RelV (V.int 256) u
  b_list : mg "list" = none
  g_WORD : ∃ u, mg "WORD" = some u ∧ RelV (V.int 4294967296) u
  b_range : mg "range" = none
  b_min : mg "min" = none
  g_SCALE : ∃ u, mg "SCALE" = some u ∧ RelV (V.int 4096) u
  g_RATE : ∃ u, mg "RATE" = some u ∧ RelV (V.int 5) u
  g_SCALE_BITS : ∃ u, mg "SCALE_BITS" = some u ∧ RelV (V.int 12) u
  g_LEAST_SPAN : ∃ u, mg "LEAST_SPAN" = some u ∧ RelV (V.int 16777216) u
  b_isinstance : mg "isinstance" = none
  b_bool : mg "bool" = none
  cl_Decoder : Cls K AD.c_Decoder
  n_Decoder__probabilities : NoAttr K AD.c_Decoder "_probabilities"
  n_Decoder__octets : NoAttr K AD.c_Decoder "_octets"
  n_Decoder__place : NoAttr K AD.c_Decoder "_place"
  n_Decoder__span : NoAttr K AD.c_Decoder "_span"
  n_Decoder__value : NoAttr K AD.c_Decoder "_value"
  xg_OutOfRange : mg "OutOfRange" = some (.ref AD.x_OutOfRange)
  xx_OutOfRange : PySem.W.excIn K AD.x_OutOfRange [.type "ValueError", .type "Exception", .type "BaseException", .type "object"] "ValueError.__new__" = true
  xk_OutOfRange : PySem.W.keepIn K (.ref AD.x_OutOfRange) = true
  xb_OutOfRange : PySem.W.subIn K (.ref AD.x_OutOfRange) (.type "BaseException") = some true
  xt_OutOfRange : PySem.W.typeIn K (.ref AD.x_OutOfRange) = some (.type "type")
abbrev pat__law_draws_0 : Pat := (2, [], fun vs _ => vs)
abbrev pats__law_draws : List Pat := [pat__law_draws_0]
abbrev pat_Decoder__shift_0 : Pat := (1, [], fun vs _ => vs)
abbrev pats_Decoder__shift : List Pat := [pat_Decoder__shift_0]
abbrev pat_Decoder___init___0 : Pat := (2, [], fun vs _ => vs)
abbrev pats_Decoder___init__ : List Pat := [pat_Decoder___init___0]
abbrev pat__law_start_0 : Pat := (1, [], fun vs _ => vs)
abbrev pats__law_start : List Pat := [pat__law_start_0]
abbrev pat__law_items_0 : Pat := (2, [], fun vs _ => vs)
abbrev pats__law_items : List Pat := [pat__law_items_0]
abbrev pat__law_cell_0 : Pat := (2, [], fun vs _ => vs)
abbrev pats__law_cell : List Pat := [pat__law_cell_0]
abbrev pat__check_context_0 : Pat := (1, [], fun vs _ => vs)
abbrev pats__check_context : List Pat := [pat__check_context_0]
abbrev pat_Decoder_probability_0 : Pat := (2, [], fun vs _ => vs)
abbrev pats_Decoder_probability : List Pat := [pat_Decoder_probability_0]
abbrev pat__adapted_0 : Pat := (2, [], fun vs _ => vs)
abbrev pats__adapted : List Pat := [pat__adapted_0]
abbrev pat_Decoder__decide_0 : Pat := (2, [], fun vs _ => vs)
abbrev pats_Decoder__decide : List Pat := [pat_Decoder__decide_0]
abbrev pat_Decoder_read_0 : Pat := (2, [], fun vs _ => vs)
abbrev pats_Decoder_read : List Pat := [pat_Decoder_read_0]
abbrev pat_Decoder_read_even_0 : Pat := (1, [], fun vs _ => vs)
abbrev pats_Decoder_read_even : List Pat := [pat_Decoder_read_even_0]
abbrev pat__law_moved_0 : Pat := (2, [], fun vs _ => vs)
abbrev pats__law_moved : List Pat := [pat__law_moved_0]
abbrev pat__law_next_0 : Pat := (3, [], fun vs _ => vs)
abbrev pats__law_next : List Pat := [pat__law_next_0]
abbrev pats_law : List Pat := []
def sp__law_draws (K : PySem.W.Frag) (AD : Ads) : Sp := fun vs H Q E => ∃ (G : Hp) (cell' : Int) (a_limits : Addr) (limits' : List Int), vs = [.int cell', .ref a_limits] ∧ Same G H ∧ (hideL [] H) a_limits = some (.lst ((limits' : List Int).map V.int)) ∧ cW (F__law_draws cell' limits') (fun v => ∀ p H', H p = none → Same H H' → H' p = some (.lst (v.map V.int)) → Q (.ref p) H') (fun e => ∀ H', Same H H' → E (.ref (excA AD e)) none H')
def sp_Decoder__shift (K : PySem.W.Frag) (AD : Ads) : Sp := fun vs H Q E => ∃ (G : Hp) (p_self l_self_probs l_self_octs dx_self : Addr) (self' : St_Decoder), vs = [.ref p_self] ∧ Same G H ∧ (∀ a ∈ [p_self, l_self_probs, l_self_octs], G a = none) ∧ H p_self = some (.ins AD.c_Decoder dx_self [("_probabilities", V.ref l_self_probs), ("_octets", V.ref l_self_octs), ("_place", V.int self'.place), ("_span", V.int self'.span), ("_value", V.int self'.value)]) ∧ H l_self_probs = some (.lst ((self'.probs : (List Int)).map V.int)) ∧ H l_self_octs = some (.lst ((self'.octs : (List Int)).map V.int)) ∧ l_self_probs ≠ l_self_octs ∧ cW (F_Decoder__shift self') (fun v => ∀ (H' : Hp), SameXs [p_self, l_self_probs, l_self_octs] H H' → H' p_self = some (.ins AD.c_Decoder dx_self [("_probabilities", V.ref l_self_probs), ("_octets", V.ref l_self_octs), ("_place", V.int v.place), ("_span", V.int v.span), ("_value", V.int v.value)]) → H' l_self_probs = some (.lst ((v.probs : (List Int)).map V.int)) → H' l_self_octs = some (.lst ((v.octs : (List Int)).map V.int)) → Q .non H') (fun e => ∀ H', Same H H' → E (.ref (excA AD e)) none H')
def sp_Decoder___init__ (K : PySem.W.Frag) (AD : Ads) : Sp := fun vs H Q E => ∃ (G : Hp) (p_self dx_self : Addr) (a_octets : Addr) (octets' : List Int), vs = [.ref p_self, .ref a_octets] ∧ Same G H ∧ (∀ a ∈ [p_self], G a = none) ∧ H p_self = some (.ins AD.c_Decoder dx_self []) ∧ (hideL [p_self] H) a_octets = some (.lst ((octets' : List Int).map V.int)) ∧ cW (F_Decoder___init__ octets') (fun v => ∀ (H' : Hp) (l_probs l_octs : Addr), SameX p_self H H' → H l_probs = none → H l_octs = none → l_probs ≠ l_octs → H' p_self = some (.ins AD.c_Decoder dx_self [("_probabilities", V.ref l_probs), ("_octets", V.ref l_octs), ("_place", V.int v.place), ("_span", V.int v.span), ("_value", V.int v.value)]) → H' l_probs = some (.lst (v.probs.map V.int)) → H' l_octs = some (.lst (v.octs.map V.int)) → Q .non H') (fun e => ∀ H', Same H H' → E (.ref (excA AD e)) none H')
def sp__law_start (K : PySem.W.Frag) (AD : Ads) : Sp := fun vs H Q E => ∃ (G : Hp) (a_octets : Addr) (octets' : List Int), vs = [.ref a_octets] ∧ Same G H ∧ (hideL [] H) a_octets = some (.lst ((octets' : List Int).map V.int)) ∧ cW (F__law_start octets') (fun v => ∀ (H' : Hp) (t_ l_3 : Addr), Same H H' → H t_ = none → H l_3 = none → t_ ≠ l_3 → H' t_ = some (.lst [V.int v.1, V.int v.2.1, V.int v.2.2.1, V.ref l_3]) → H' l_3 = some (.lst (v.2.2.2.map V.int)) → Q (.ref t_) H') (fun e => ∀ H', Same H H' → E (.ref (excA AD e)) none H')
def sp__law_items (K : PySem.W.Frag) (AD : Ads) : Sp := fun vs H Q E => ∃ (G : Hp) (a_script : Addr) (script' : List Int) (most' : Int), vs = [.ref a_script, .int most'] ∧ Same G H ∧ SqL K H a_script ((script' : List Int).map V.int) ∧ cW (F__law_items script' most') (fun v => ∀ u H' G', Same H H' → Same G G' → Same G' H' → (∀ b, H b ≠ none → G b = none → G' b = none) → Rp G' u ((encL (encT2 PyData.int PyData.int)) v) → Q u H') (fun e => ∀ H', Same H H' → E (.ref (excA AD e)) none H')
def sp__law_cell (K : PySem.W.Frag) (AD : Ads) : Sp := fun vs H Q E => ∃ (G : Hp) (a_script : Addr) (script' : List Int) (k' : Int), vs = [.ref a_script, .int k'] ∧ Same G H ∧ SqL K H a_script ((script' : List Int).map V.int) ∧ cW (F__law_cell script' k') (fun v => Q (.int v) H) (fun e => E (.ref (excA AD e)) none H)
def sp__check_context (K : PySem.W.Frag) (AD : Ads) : Sp := fun vs H Q E => ∃ (G : Hp) (context' : Int), vs = [.int context'] ∧ Same G H ∧ cW (F__check_context context') (fun v => Q .non H) (fun e => E (.ref (excA AD e)) none H)
def sp_Decoder_probability (K : PySem.W.Frag) (AD : Ads) : Sp := fun vs H Q E => ∃ (G : Hp) (p_self l_self_probs l_self_octs dx_self : Addr) (self' : St_Decoder) (context' : Int), vs = [.ref p_self, .int context'] ∧ Same G H ∧ (hideL [] H) p_self = some (.ins AD.c_Decoder dx_self [("_probabilities", V.ref l_self_probs), ("_octets", V.ref l_self_octs), ("_place", V.int self'.place), ("_span", V.int self'.span), ("_value", V.int self'.value)]) ∧ (hideL [] H) l_self_probs = some (.lst ((self'.probs : (List Int)).map V.int)) ∧ (hideL [] H) l_self_octs = some (.lst ((self'.octs : (List Int)).map V.int)) ∧ cW (F_Decoder_probability self' context') (fun v => ∀ H', Same H H' → Q (.int v) H') (fun e => ∀ H', Same H H' → E (.ref (excA AD e)) none H')
def sp__adapted (K : PySem.W.Frag) (AD : Ads) : Sp := fun vs H Q E => ∃ (G : Hp) (chance' : Int) (decision' : Int), vs = [.int chance', .int decision'] ∧ Same G H ∧ cW (F__adapted chance' decision') (fun v => Q (.int v) H) (fun e => E (.ref (excA AD e)) none H)
def sp_Decoder__decide (K : PySem.W.Frag) (AD : Ads) : Sp := fun vs H Q E => ∃ (G : Hp) (p_self l_self_probs l_self_octs dx_self : Addr) (self' : St_Decoder) (chance' : Int), vs = [.ref p_self, .int chance'] ∧ Same G H ∧ (∀ a ∈ [p_self, l_self_probs, l_self_octs], G a = none) ∧ H p_self = some (.ins AD.c_Decoder dx_self [("_probabilities", V.ref l_self_probs), ("_octets", V.ref l_self_octs), ("_place", V.int self'.place), ("_span", V.int self'.span), ("_value", V.int self'.value)]) ∧ H l_self_probs = some (.lst ((self'.probs : (List Int)).map V.int)) ∧ H l_self_octs = some (.lst ((self'.octs : (List Int)).map V.int)) ∧ l_self_probs ≠ l_self_octs ∧ cW (F_Decoder__decide self' chance') (fun v => ∀ (H' : Hp), SameXs [p_self, l_self_probs, l_self_octs] H H' → H' p_self = some (.ins AD.c_Decoder dx_self [("_probabilities", V.ref l_self_probs), ("_octets", V.ref l_self_octs), ("_place", V.int v.2.place), ("_span", V.int v.2.span), ("_value", V.int v.2.value)]) → H' l_self_probs = some (.lst ((v.2.probs : (List Int)).map V.int)) → H' l_self_octs = some (.lst ((v.2.octs : (List Int)).map V.int)) → Q (.int v.1) H') (fun e => ∀ H', Same H H' → E (.ref (excA AD e)) none H')
def sp_Decoder_read (K : PySem.W.Frag) (AD : Ads) : Sp := fun vs H Q E => ∃ (G : Hp) (p_self l_self_probs l_self_octs dx_self : Addr) (self' : St_Decoder) (context' : Int), vs = [.ref p_self, .int context'] ∧ Same G H ∧ (∀ a ∈ [p_self, l_self_probs, l_self_octs], G a = none) ∧ H p_self = some (.ins AD.c_Decoder dx_self [("_probabilities", V.ref l_self_probs), ("_octets", V.ref l_self_octs), ("_place", V.int self'.place), ("_span", V.int self'.span), ("_value", V.int self'.value)]) ∧ H l_self_probs = some (.lst ((self'.probs : (List Int)).map V.int)) ∧ H l_self_octs = some (.lst ((self'.octs : (List Int)).map V.int)) ∧ l_self_probs ≠ l_self_octs ∧ cW (F_Decoder_read self' context') (fun v => ∀ (H' : Hp), SameXs [p_self, l_self_probs, l_self_octs] H H' → H' p_self = some (.ins AD.c_Decoder dx_self [("_probabilities", V.ref l_self_probs), ("_octets", V.ref l_self_octs), ("_place", V.int v.2.place), ("_span", V.int v.2.span), ("_value", V.int v.2.value)]) → H' l_self_probs = some (.lst ((v.2.probs : (List Int)).map V.int)) → H' l_self_octs = some (.lst ((v.2.octs : (List Int)).map V.int)) → Q (.int v.1) H') (fun e => ∀ H', Same H H' → E (.ref (excA AD e)) none H')
def sp_Decoder_read_even (K : PySem.W.Frag) (AD : Ads) : Sp := fun vs H Q E => ∃ (G : Hp) (p_self l_self_probs l_self_octs dx_self : Addr) (self' : St_Decoder), vs = [.ref p_self] ∧ Same G H ∧ (∀ a ∈ [p_self, l_self_probs, l_self_octs], G a = none) ∧ H p_self = some (.ins AD.c_Decoder dx_self [("_probabilities", V.ref l_self_probs), ("_octets", V.ref l_self_octs), ("_place", V.int self'.place), ("_span", V.int self'.span), ("_value", V.int self'.value)]) ∧ H l_self_probs = some (.lst ((self'.probs : (List Int)).map V.int)) ∧ H l_self_octs = some (.lst ((self'.octs : (List Int)).map V.int)) ∧ l_self_probs ≠ l_self_octs ∧ cW (F_Decoder_read_even self') (fun v => ∀ (H' : Hp), SameXs [p_self, l_self_probs, l_self_octs] H H' → H' p_self = some (.ins AD.c_Decoder dx_self [("_probabilities", V.ref l_self_probs), ("_octets", V.ref l_self_octs), ("_place", V.int v.2.place), ("_span", V.int v.2.span), ("_value", V.int v.2.value)]) → H' l_self_probs = some (.lst ((v.2.probs : (List Int)).map V.int)) → H' l_self_octs = some (.lst ((v.2.octs : (List Int)).map V.int)) → Q (.int v.1) H') (fun e => ∀ H', Same H H' → E (.ref (excA AD e)) none H')
def sp__law_moved (K : PySem.W.Frag) (AD : Ads) : Sp := fun vs H Q E => ∃ (G : Hp) (p' : Int) (decision' : Int), vs = [.int p', .int decision'] ∧ Same G H ∧ cW (F__law_moved p' decision') (fun v => Q (.int v) H) (fun e => E (.ref (excA AD e)) none H)
def sp__law_next (K : PySem.W.Frag) (AD : Ads) : Sp := fun vs H Q E => ∃ (G : Hp) (p_state l_state_3 : Addr) (state' : (Int × Int × Int × (List Int))) (a_chances : Addr) (chances' : (List Int)) (context' : Int), vs = [.ref p_state, .ref a_chances, .int context'] ∧ Same G H ∧ (∀ a ∈ [p_state, l_state_3, a_chances], G a = none) ∧ H p_state = some (.lst [V.int state'.1, V.int state'.2.1, V.int state'.2.2.1, V.ref l_state_3]) ∧ H l_state_3 = some (.lst ((state'.2.2.2 : (List Int)).map V.int)) ∧ p_state ≠ l_state_3 ∧ H a_chances = some (.lst ((chances' : (List Int)).map V.int)) ∧ p_state ≠ a_chances ∧ l_state_3 ≠ a_chances ∧ cW (F__law_next state' chances' context') (fun v => ∀ (H' : Hp), SameXs [p_state, l_state_3, a_chances] H H' → H' p_state = some (.lst [V.int v.2.1.1, V.int v.2.1.2.1, V.int v.2.1.2.2.1, V.ref l_state_3]) → H' l_state_3 = some (.lst ((v.2.1.2.2.2 : (List Int)).map V.int)) → H' a_chances = some (.lst ((v.2.2 : (List Int)).map V.int)) → Q (.int v.1) H') (fun e => ∀ H', Same H H' → E (.ref (excA AD e)) none H')
def sp_law (K : PySem.W.Frag) (AD : Ads) : Sp := fun vs H Q E => ∃ (a_script : Addr) (script : List Int), vs = [.ref a_script] ∧ SqL K H a_script (script.map V.int) ∧ cW (F_law script) (fun v => v = true) (fun _ => False) ∧ ∀ H', Q (.bl true) H'
section
variable {P : Program} {w : World} {K : PySem.W.Frag} {mg : Str → Option Value} {base : Heap} {AD : Ads}
abbrev N__law_draws : List Str := ["cell", "limits", "found", "rest", "state", "free", "limit"]
theorem sc__law_draws : FnScope N__law_draws ["cell", "limits"] (defScope s__law_draws) := ⟨rfl, rfl, rfl, by decide +kernel, rfl, by decide +kernel, by decide +kernel⟩
theorem ok__law_draws (D : DefX K mg "_law_draws" s__law_draws ["cell", "limits"] pats__law_draws) (T : Txt K mg AD)  : CalX P w K mg base 1 "_law_draws" (sp__law_draws K AD) pats__law_draws := by
  refine D.ok sc__law_draws (fun vs H Q E h => ?_) (fun f cdv A_ outer s H vs Q E hr h => ?_)
  · obtain ⟨G, cell', a_limits, limits', rfl, _⟩ := h
    rfl
  · obtain ⟨G, cell', a_limits, limits', rfl, sG, q_limits, hw⟩ := h
    refine ⟨_, (pss_cons (ps_set (i := 2) sc__law_draws.nd rfl (Or.inl rfl) (pe_lst pa_nil))
      (pss_cons (ps_set (i := 3) sc__law_draws.nd rfl (Or.inl rfl) (pe_callB call_abs (by rfl) T.b_abs (by decide +kernel) (pa_cons (pe_callTy call_int1 (by rfl) T.b_int (by decide +kernel) (pa_cons (pv 0) pa_nil)) pa_nil)))
      (pss_cons (ps_set (i := 4) sc__law_draws.nd rfl (Or.inl rfl) (pe_op op_mod (pe_callTy call_int1 (by rfl) T.b_int (by decide +kernel) (pa_cons (pv 3) pa_nil)) pe_int))
      (pss_cons (ps_set (i := 5) sc__law_draws.nd rfl (Or.inl rfl) (pe_or (pe_cmp (pc_lt (pv 0) pe_int)) (pe_one (pe_cmp (pc_ge (pv 0) (pe_op op_pow pe_int pe_int))))))
      (pss_cons (ps_for (passes_of rfl) rfl (pi_listK (K := K) (pv 1)) (pg_name (i := 6) sc__law_draws.nd rfl (Or.inl rfl)) (pss_one (ps_if (PW.pt (pw_and (pt_val (pv 5)) (pw_and1 (pt_cmp (pc_gt (pv 3) pe_int))))) (pss_cons (ps_expr (pe_bm PySem.F.plainAttrs_list PySem.F.slot_list_append PySem.F.type_list_append mt_append (pv 2) (pa_cons (pe_op op_mod (pe_callTy call_int1 (by rfl) T.b_int (by decide +kernel) (pa_cons (pv 3) pa_nil)) (pv 6)) pa_nil)))
      (pss_one (ps_set (i := 3) sc__law_draws.nd rfl (Or.inl rfl) (pe_op op_fdivW (pv 3) (pv 6))))) (pss_cons (ps_set (i := 4) sc__law_draws.nd rfl (Or.inl rfl) (pe_op op_mod (pe_callTy call_int1 (by rfl) T.b_int (by decide +kernel) (pa_cons (pe_op op_add (pe_op op_mul (pv 4) pe_int) pe_int) pa_nil)) pe_int))
      (pss_cons (ps_set (i := 4) sc__law_draws.nd rfl (Or.inl rfl) (pe_op op_mod (pe_callTy call_int1 (by rfl) T.b_int (by decide +kernel) (pa_cons (pe_op op_add (pe_op op_mul (pv 4) pe_int) pe_int) pa_nil)) pe_int))
      (pss_one (ps_expr (pe_bm PySem.F.plainAttrs_list PySem.F.slot_list_append PySem.F.type_list_append mt_append (pv 2) (pa_cons (pe_op op_mod (pe_callTy call_int1 (by rfl) T.b_int (by decide +kernel) (pa_cons (pe_op op_fdivW (pv 4) pe_int) pa_nil)) (pv 6)) pa_nil)))))))))
      (pss_one (ps_ret (pv 2)))))))), ?_⟩
    obtain ⟨KK, EE, hK0, hE, hw⟩ := cW_gen hw
    have S0 := Sep.startG sG
    unfold F__law_draws at hw
    refine ⟨(by show 0 ≤ sizeLine; decide), fun p1 n2 => ?_⟩
    generalize g3 : upd H p1 _ = H4
    obtain ⟨e5, h6⟩ := gen_new n2 g3
    have h7 : H4 p1 = some (.lst ((([] : (List Int)) : (List Int)).map V.int)) := h6
    have fr8 := S0.free n2
    have S9 := S0.new n2 e5 h7 fr8
    refine ⟨_, rfl, .inl ⟨_, rfl, ?_⟩⟩
    refine ⟨_, rfl, ?_⟩
    have hw := cW_bnd hw
    refine ⟨_, rfl, .inl ⟨_, rfl, ?_⟩⟩
    refine ⟨_, _, rfl, rfl, (show (0 : Int) < 2147483647 by decide), ?_⟩
    have hw := cW_bnd hw
    refine vv_or (ta := (tLt (tVar 0) (tC (V.int 0)))) (tb := (tGe (tVar 0) (tOp (rI CPow fun i j => V.int (i ^ j.toNat)) (tC (V.int 10)) (tC (V.int 18))))) (a := decide (cell' < 0)) (b := decide (((10 : Int) ^ Int.toNat 18) ≤ cell')) ?ha12 ?hb13 _ ?_
    case ha12 => exact (vv_cmp (val_var rfl) val_c (fun Q q => ⟨_, _, rfl, rfl, q⟩))
    case hb13 => exact (vv_cmp (val_var rfl) (val_op val_c val_c (fun Q q => ⟨_, _, rfl, rfl, ⟨by decide, by decide, by decide⟩, q⟩)) (fun Q q => ⟨_, _, rfl, rfl, q⟩))
    have hw := cW_bnd hw
    obtain ⟨K16, hK17, hw⟩ := cW_push hw
    refine ⟨_, rfl, _, rfl, ⟨_, (SqL.of (S9.bM _ _ q_limits))⟩, for_list (K := K) (a := a_limits) (xs := (limits' : List Int).map V.int) (fun i σ H' => ∃ (found_18 : (List Int)) (rest_19 : Int) (state_20 : Int) (u21 : Option V) (G' : Hp), σ = [some (V.int (cell')), some (V.ref a_limits), some (V.ref p1), some (V.int rest_19), some (V.int state_20), some (V.bl ((decide (cell' < 0) || decide (((10 : Int) ^ Int.toNat 18) ≤ cell')))), u21] ∧ Same G G' ∧ Sep [] H G G' H' [p1] ∧ H' p1 = some (.lst ((found_18 : (List Int)).map V.int)) ∧ cW (forS (List.drop i (limits')) (found_18, rest_19, state_20) (fun s x => F__law_draws_b1 ((decide (cell' < 0) || decide (((10 : Int) ^ Int.toNat 18) ≤ cell'))) (s.1) (s.2.1) (s.2.2) x)) K16 EE) ?_ ?_ ?_ ?_⟩
    · exact ⟨(([] : (List Int))), ((if cell' < 0 then -cell' else cell')), (((if cell' < 0 then -cell' else cell') % 2147483647)), _, _, rfl, (Same.refl _), S9, h7, hw⟩
    · intro i σ H22 _ hw
      obtain ⟨found_18, rest_19, state_20, u21, G25, rfl, eG26, S23, h24, hw⟩ := hw
      exact (SqL.of (S23.bM _ _ q_limits))
    · intro i x σ H27 hj hw
      obtain ⟨found_18, rest_19, state_20, u21, G30, rfl, eG31, S28, h29, hw⟩ := hw
      obtain ⟨x32, hx, rfl⟩ := map_get hj
      have hw := cW_forS hx hw
      have hw : cW (F__law_draws_b1 ((decide (cell' < 0) || decide (((10 : Int) ^ Int.toNat 18) ≤ cell'))) (found_18) (rest_19) (state_20) (x32)) _ EE := hw
      unfold F__law_draws_b1 at hw
      obtain ⟨K36, hK37, hw⟩ := cW_name hw
      refine ⟨_, rfl, _, rfl, ?_⟩
      refine iteB (fun c39 => ?_) (fun c39 => ?_)
      · have hw := cW_pos c39 hw
        refine ⟨_, rfl, _, _, rfl, rfl, _, rfl, ?_⟩
        refine iteD (fun c40 => ?_) (fun c40 => ?_)
        · have hw := cW_pos c40 hw
          refine ⟨_, rfl, (.inl ⟨rfl, _, SqL.of h29⟩), _, rfl, .inl ⟨_, rfl, ?_⟩⟩
          obtain ⟨g41, hw⟩ := cW_grd hw
          obtain ⟨g42, hw⟩ := cW_grd hw
          refine ⟨_, rfl, _, _, rfl, rfl, g41, _, _, _, rfl, rfl, h29, (app_lenM g42), ?_⟩
          generalize g43 : upd H27 p1 _ = H44
          obtain ⟨x45, h46⟩ := gen_mut g43
          have h47 : H44 p1 = some (.lst (((found_18) ++ [(rest_19 % x32)] : (List Int)).map V.int)) := snoc_map h46
          have S48 := S28.mut1 x45 (.head _) h47
          have hw := cW_bnd hw
          obtain ⟨g50, hw⟩ := cW_grd hw
          refine ⟨_, rfl, _, rfl, _, _, rfl, rfl, (divW_small g50.1 g50.2), ?_⟩
          have hw := cW_bnd hw
          have hw := cW_ok hw
          have hw := hK37 _ hw
          exact ⟨((found_18) ++ [(rest_19 % x32)]), ((rest_19 / x32)), (state_20), _, _, rfl, eG31, S48, h47, hw⟩
        · have hw := cW_neg c40 hw
          refine ⟨_, rfl, _, _, rfl, rfl, (.inr ⟨by decide, by decide⟩), _, _, rfl, rfl, .inl ⟨_, rfl, ?_⟩⟩
          refine ⟨_, _, rfl, rfl, (show (0 : Int) < 2147483647 by decide), ?_⟩
          have hw := cW_bnd hw
          refine ⟨_, rfl, _, _, rfl, rfl, (.inr ⟨by decide, by decide⟩), _, _, rfl, rfl, .inl ⟨_, rfl, ?_⟩⟩
          refine ⟨_, _, rfl, rfl, (show (0 : Int) < 2147483647 by decide), ?_⟩
          have hw := cW_bnd hw
          refine ⟨_, rfl, (.inl ⟨rfl, _, SqL.of h29⟩), _, rfl, _, _, rfl, rfl, (divW_lit (by decide) (by decide)), .inl ⟨_, rfl, ?_⟩⟩
          obtain ⟨g54, hw⟩ := cW_grd hw
          obtain ⟨g55, hw⟩ := cW_grd hw
          refine ⟨_, rfl, _, _, rfl, rfl, g54, _, _, _, rfl, rfl, h29, (app_lenM g55), ?_⟩
          generalize g56 : upd H27 p1 _ = H57
          obtain ⟨x58, h59⟩ := gen_mut g56
          have h60 : H57 p1 = some (.lst (((found_18) ++ [((((((((state_20 * 48271) + 11) % 2147483647) * 69621) + 7) % 2147483647) / 13) % x32)] : (List Int)).map V.int)) := snoc_map h59
          have S61 := S28.mut1 x58 (.head _) h60
          have hw := cW_bnd hw
          have hw := cW_ok hw
          have hw := hK37 _ hw
          exact ⟨((found_18) ++ [((((((((state_20 * 48271) + 11) % 2147483647) * 69621) + 7) % 2147483647) / 13) % x32)]), (rest_19), (((((((state_20 * 48271) + 11) % 2147483647) * 69621) + 7) % 2147483647)), _, _, rfl, eG31, S61, h60, hw⟩
      · have hw := cW_negB c39 hw
        refine iteF ?_
        refine ⟨_, rfl, _, _, rfl, rfl, (.inr ⟨by decide, by decide⟩), _, _, rfl, rfl, .inl ⟨_, rfl, ?_⟩⟩
        refine ⟨_, _, rfl, rfl, (show (0 : Int) < 2147483647 by decide), ?_⟩
        have hw := cW_bnd hw
        refine ⟨_, rfl, _, _, rfl, rfl, (.inr ⟨by decide, by decide⟩), _, _, rfl, rfl, .inl ⟨_, rfl, ?_⟩⟩
        refine ⟨_, _, rfl, rfl, (show (0 : Int) < 2147483647 by decide), ?_⟩
        have hw := cW_bnd hw
        refine ⟨_, rfl, (.inl ⟨rfl, _, SqL.of h29⟩), _, rfl, _, _, rfl, rfl, (divW_lit (by decide) (by decide)), .inl ⟨_, rfl, ?_⟩⟩
        obtain ⟨g65, hw⟩ := cW_grd hw
        obtain ⟨g66, hw⟩ := cW_grd hw
        refine ⟨_, rfl, _, _, rfl, rfl, g65, _, _, _, rfl, rfl, h29, (app_lenM g66), ?_⟩
        generalize g67 : upd H27 p1 _ = H68
        obtain ⟨x69, h70⟩ := gen_mut g67
        have h71 : H68 p1 = some (.lst (((found_18) ++ [((((((((state_20 * 48271) + 11) % 2147483647) * 69621) + 7) % 2147483647) / 13) % x32)] : (List Int)).map V.int)) := snoc_map h70
        have S72 := S28.mut1 x69 (.head _) h71
        have hw := cW_bnd hw
        have hw := cW_ok hw
        have hw := hK37 _ hw
        exact ⟨((found_18) ++ [((((((((state_20 * 48271) + 11) % 2147483647) * 69621) + 7) % 2147483647) / 13) % x32)]), (rest_19), (((((((state_20 * 48271) + 11) % 2147483647) * 69621) + 7) % 2147483647)), _, _, rfl, eG31, S72, h71, hw⟩
    · intro σ H74 hw
      obtain ⟨found_18, rest_19, state_20, u21, G77, rfl, eG78, S75, h76, hw⟩ := hw
      have hw := hK17 _ (cW_forS0 (by rw [List.length_map]) hw)
      have hw : cW (F__law_draws_r1  (found_18) (rest_19) (state_20)) _ EE := hw
      unfold F__law_draws_r1 at hw
      refine ⟨_, rfl, ?_⟩
      have hw := cW_ok hw
      exact hK0 _ hw _ _ fr8 S75.b0 h76

abbrev N_Decoder__shift : List Str := ["self", "octet"]
theorem sc_Decoder__shift : FnScope N_Decoder__shift ["self"] (defScope s_Decoder__shift) := ⟨rfl, rfl, rfl, by decide +kernel, rfl, by decide +kernel, by decide +kernel⟩
theorem ok_Decoder__shift (D : MethX K AD.c_Decoder "Decoder._shift" "_shift" s_Decoder__shift ["self"] pats_Decoder__shift) (T : Txt K mg AD)  : MetX P w K mg base 1 AD.c_Decoder "_shift" (sp_Decoder__shift K AD) pats_Decoder__shift := by
  refine D.ok T.cl_Decoder sc_Decoder__shift (fun vs H Q E h => ?_) (fun f cdv A_ outer s H vs Q E hr h => ?_)
  · obtain ⟨G, p_self, l_self_probs, l_self_octs, dx_self, self', rfl, _⟩ := h
    rfl
  · obtain ⟨G, p_self, l_self_probs, l_self_octs, dx_self, self', rfl, sG, gM, h_p_self, h_l_self_probs, h_l_self_octs, ne_self_0, hw⟩ := h
    refine ⟨_, (pss_cons (ps_set (i := 1) sc_Decoder__shift.nd rfl (Or.inl rfl) pe_int)
      (C8.pss_cut (ps_if (pt_cmp (pc_lt (fldK (K := K) (pv 0)) (pe_callB (call_lenLiK (K := K)) (by rfl) T.b_len (by decide +kernel) (pa_cons (fldK (K := K) (pv 0)) pa_nil)))) (pss_cons (ps_set (i := 1) sc_Decoder__shift.nd rfl (Or.inl rfl) (pe_ix (ix_listK (K := K)) (fldK (K := K) (pv 0)) (fldK (K := K) (pv 0)) (fun _ _ => rfl)))
      (pss_one (ps_fldaug (pv 0) pe_int (pip iop_add)))) pss_nil)
      (pss_one (ps_fld (pv 0) (pe_op op_or (pe_op op_shlW (fldK (K := K) (pv 0)) pe_int) (pv 1)) rfl)))), ?_⟩
    obtain ⟨KK, EE, hK0, hE, hw⟩ := cW_gen hw
    have S0 := Sep.startM (M := [p_self, l_self_probs, l_self_octs]) sG (all_cons (some_ne h_p_self) (all_cons (some_ne h_l_self_probs) (all_cons (some_ne h_l_self_octs) all_nil))) gM
    unfold F_Decoder__shift at hw
    refine ⟨fun σ H' => ∃ (self_84 : St_Decoder) (octet_85 : Int) (G' : Hp), σ = [some (V.ref p_self), some (V.int octet_85)] ∧ Same G G' ∧ Sep [p_self, l_self_probs, l_self_octs] H G G' H' [p_self, l_self_probs, l_self_octs] ∧ H' p_self = some (.ins AD.c_Decoder dx_self [("_probabilities", V.ref l_self_probs), ("_octets", V.ref l_self_octs), ("_place", V.int (self_84.place)), ("_span", V.int (self_84.span)), ("_value", V.int (self_84.value))]) ∧ H' l_self_probs = some (.lst ((self_84.probs : (List Int)).map V.int)) ∧ H' l_self_octs = some (.lst ((self_84.octs : (List Int)).map V.int)) ∧ cW (F_Decoder__shift_k1  self_84 octet_85) KK EE, ?_, ?_⟩
    · obtain ⟨K86, hK87, hw⟩ := cW_push hw
      refine ⟨_, rfl, _, _, _, _, _, rfl, h_p_self, T.cl_Decoder, T.n_Decoder__place, rfl, _, rfl, _, _, _, _, _, rfl, h_p_self, T.cl_Decoder, T.n_Decoder__octets, rfl, _, _, rfl, (SqL.of h_l_self_octs), _, _, rfl, rfl, _, rfl, ?_⟩
      refine iteD (fun c88 => ?_) (fun c88 => ?_)
      · have hw := cW_pos c88 hw
        obtain ⟨g89, hw⟩ := cW_grd hw
        refine ⟨_, rfl, _, _, _, _, _, rfl, h_p_self, T.cl_Decoder, T.n_Decoder__octets, rfl, _, rfl, _, _, _, _, _, rfl, h_p_self, T.cl_Decoder, T.n_Decoder__place, rfl, _, _, _, _, rfl, rfl, (SqL.of h_l_self_octs), (atI_map g89), ?_⟩
        have hw := cW_bnd hw
        have hw := cW_bnd hw
        refine ⟨_, rfl, _, _, _, _, _, rfl, h_p_self, T.cl_Decoder, T.n_Decoder__place, rfl, _, _, rfl, rfl, _, _, h_p_self, (by show 5 < 1000; decide), ?_⟩
        generalize g92 : upd H p_self _ = H93
        obtain ⟨x94, h95⟩ := gen_mut g92
        have h96 : H93 p_self = some (.ins AD.c_Decoder dx_self [("_probabilities", V.ref l_self_probs), ("_octets", V.ref l_self_octs), ("_place", V.int ((self'.place + 1))), ("_span", V.int (self'.span)), ("_value", V.int (self'.value))]) := h95
        have S97 := S0.mut1 x94 (.head _) h96
        have hw := cW_ok hw
        have hw := hK87 _ hw
        have h98 := (x94 _ _ h_l_self_probs (ne_of h_l_self_probs h_p_self (fun z => nomatch z)))
        have h99 := (x94 _ _ h_l_self_octs (ne_of h_l_self_octs h_p_self (fun z => nomatch z)))
        exact ⟨((⟨self'.probs, self'.octs, (self'.place + 1), self'.span, self'.value⟩ : St_Decoder)), ((itD (self'.octs) (self'.place))), _, rfl, (Same.refl _), S97, h96, h98, h99, hw⟩
      · have hw := cW_neg c88 hw
        have hw := cW_ok hw
        have hw := hK87 _ hw
        exact ⟨(self'), (0), _, rfl, (Same.refl _), S0, h_p_self, h_l_self_probs, h_l_self_octs, hw⟩
    · intro σ H100 hw
      obtain ⟨self_84, octet_85, G105, rfl, eG106, S101, h102, h103, h104, hw⟩ := hw
      unfold F_Decoder__shift_k1 at hw
      obtain ⟨g107, hw⟩ := cW_grd hw
      have hw := cW_bnd hw
      refine ⟨_, rfl, _, _, _, _, _, rfl, h102, T.cl_Decoder, T.n_Decoder__value, rfl, _, _, rfl, rfl, (shl_side g107.1 g107.2.1 g107.2.2.1 g107.2.2.2), _, rfl, _, _, rfl, rfl, _, rfl, _, _, _, _, rfl, h102, T.cl_Decoder, T.n_Decoder__value, (by show 5 < 1000; decide), ?_⟩
      generalize g109 : upd H100 p_self _ = H110
      obtain ⟨x111, h112⟩ := gen_mut g109
      have h113 : H110 p_self = some (.ins AD.c_Decoder dx_self [("_probabilities", V.ref l_self_probs), ("_octets", V.ref l_self_octs), ("_place", V.int (self_84.place)), ("_span", V.int (self_84.span)), ("_value", V.int ((PySem.Builtin.bitOr ((self_84.value * 2 ^ Int.toNat (8))) (octet_85))))]) := h112
      have S114 := S101.mut1 x111 (.head _) h113
      have h115 := (x111 _ _ h103 (ne_of h103 h102 (fun z => nomatch z)))
      have h116 := (x111 _ _ h104 (ne_of h104 h102 (fun z => nomatch z)))
      have hw := cW_ok hw
      exact hK0 _ hw _ S114.base h113 h115 h116

abbrev N_Decoder___init__ : List Str := ["self", "octets", "_"]
theorem sc_Decoder___init__ : FnScope N_Decoder___init__ ["self", "octets"] (defScope s_Decoder___init__) := ⟨rfl, rfl, rfl, by decide +kernel, rfl, by decide +kernel, by decide +kernel⟩
theorem ok_Decoder___init__ (D : InitX K mg AD.c_Decoder "Decoder" "Decoder.__init__" s_Decoder___init__ ["self", "octets"] pats_Decoder___init__) (T : Txt K mg AD) (c_Decoder__shift : MetX P w K mg base 1 AD.c_Decoder "_shift" (sp_Decoder__shift K AD) pats_Decoder__shift) : MakX P w K mg base 2 "Decoder" AD.c_Decoder (sp_Decoder___init__ K AD) pats_Decoder___init__ := by
  refine D.ok sc_Decoder___init__ (fun vs H Q E h => ?_) (fun f cdv A_ outer s H vs Q E hr h => ?_)
  · obtain ⟨G, p_self, dx_self, a_octets, octets', rfl, _⟩ := h
    rfl
  · obtain ⟨G, p_self, dx_self, a_octets, octets', rfl, sG, gM, h_self, q_octets, hw⟩ := h
    refine ⟨_, (pss_cons (ps_fld (pv 0) (pe_op op_rep (pe_lst (pa_cons (C8.pe_gc rfl T.g_EVEN) pa_nil)) (C8.pe_gc rfl T.g_CONTEXTS)) rfl)
      (pss_cons (ps_fld (pv 0) (pe_callTy (call_listLK (K := K)) (by rfl) T.b_list (by decide +kernel) (pa_cons (pv 1) pa_nil)) rfl)
      (pss_cons (ps_fld (pv 0) pe_int rfl)
      (pss_cons (ps_fld (pv 0) (pe_op op_sub (C8.pe_gc rfl T.g_WORD) pe_int) rfl)
      (pss_cons (ps_fld (pv 0) pe_int rfl)
      (pss_cons (ps_for (passes_of rfl) rfl (pi_range1 rfl T.b_range (pa_cons pe_int pa_nil)) (pg_name (i := 2) sc_Decoder___init__.nd rfl (Or.inl rfl)) (pss_one (ps_expr (vx_methX0 c_Decoder__shift pat_Decoder__shift_0 (.head _) hr (by decide) (takes_of rfl rfl rfl rfl) (pv 0)))))
      (pss_one (ps_fld (pv 0) (pe_callB (call_min2 rfl) (by rfl) T.b_min (by decide +kernel) (pa_cons (fldK (K := K) (pv 0)) (pa_cons (pe_op op_sub (C8.pe_gc rfl T.g_WORD) pe_int) pa_nil))) rfl)))))))), ?_⟩
    obtain ⟨KK, EE, hK0, hE, hw⟩ := cW_gen hw
    have S0 := Sep.startM (M := [p_self]) sG (all_cons (some_ne h_self) all_nil) gM
    unfold F_Decoder___init__ at hw
    refine ⟨(by show 1 ≤ sizeLine; decide), fun p117 n118 => ?_⟩
    generalize g119 : upd H p117 _ = H120
    obtain ⟨e121, h122⟩ := gen_new n118 g119
    have h123 : H120 p117 = some (.lst (([2048] : (List Int)).map V.int)) := h122
    have fr124 := S0.free n118
    have S125 := S0.new n118 e121 h123 fr124
    obtain ⟨g126, hw⟩ := cW_grd hw
    refine ⟨_, _, _, rfl, rfl, h123, g126.1, g126.2.1, (rep_lenM g126.2.2), fun p127 n128 => ?_⟩
    generalize g129 : upd H120 p127 _ = H130
    obtain ⟨e131, h132⟩ := gen_new n128 g129
    have h133 : H130 p127 = some (.lst ((repL ([2048]) (256) : (List Int)).map V.int)) := rep_map h132
    have fr134 := S125.free n128
    have S135 := S125.new n128 e131 h133 fr134
    have h136 := (e131 _ _ (e121 _ _ h_self))
    refine ⟨_, rfl, _, _, _, _, rfl, h136, T.cl_Decoder, T.n_Decoder__probabilities, (by show 0 < 1000; decide), ?_⟩
    generalize g137 : upd H130 p_self _ = H138
    obtain ⟨x139, h140⟩ := gen_mut g137
    have h141 : H138 p_self = some (.ins AD.c_Decoder dx_self [("_probabilities", V.ref p127)]) := h140
    have S142 := S135.mut1 x139 (.tail _ (.tail _ (.head _))) h141
    refine ⟨_, rfl, _, _, rfl, (SqL.of (S142.bM _ _ q_octets)), fun p143 n144 => ?_⟩
    generalize g145 : upd H138 p143 _ = H146
    obtain ⟨e147, h148⟩ := gen_new n144 g145
    have h149 : H146 p143 = some (.lst ((octets' : (List Int)).map V.int)) := h148
    have fr150 := S142.free n144
    have S151 := S142.new n144 e147 h149 fr150
    have h152 := (e147 _ _ h141)
    refine ⟨_, rfl, _, _, _, _, rfl, h152, T.cl_Decoder, T.n_Decoder__octets, (by show 1 < 1000; decide), ?_⟩
    generalize g153 : upd H146 p_self _ = H154
    obtain ⟨x155, h156⟩ := gen_mut g153
    have h157 : H154 p_self = some (.ins AD.c_Decoder dx_self [("_probabilities", V.ref p127), ("_octets", V.ref p143)]) := h156
    have S158 := S151.mut1 x155 (.tail _ (.tail _ (.tail _ (.head _)))) h157
    refine ⟨_, rfl, _, _, _, _, rfl, h157, T.cl_Decoder, T.n_Decoder__place, (by show 2 < 1000; decide), ?_⟩
    generalize g159 : upd H154 p_self _ = H160
    obtain ⟨x161, h162⟩ := gen_mut g159
    have h163 : H160 p_self = some (.ins AD.c_Decoder dx_self [("_probabilities", V.ref p127), ("_octets", V.ref p143), ("_place", V.int (0))]) := h162
    have S164 := S158.mut1 x161 (.tail _ (.tail _ (.tail _ (.head _)))) h163
    have hw := cW_bnd hw
    refine ⟨_, _, rfl, rfl, _, rfl, _, _, _, _, rfl, h163, T.cl_Decoder, T.n_Decoder__span, (by show 3 < 1000; decide), ?_⟩
    generalize g166 : upd H160 p_self _ = H167
    obtain ⟨x168, h169⟩ := gen_mut g166
    have h170 : H167 p_self = some (.ins AD.c_Decoder dx_self [("_probabilities", V.ref p127), ("_octets", V.ref p143), ("_place", V.int (0)), ("_span", V.int ((4294967296 - 1)))]) := h169
    have S171 := S164.mut1 x168 (.tail _ (.tail _ (.tail _ (.head _)))) h170
    refine ⟨_, rfl, _, _, _, _, rfl, h170, T.cl_Decoder, T.n_Decoder__value, (by show 4 < 1000; decide), ?_⟩
    generalize g172 : upd H167 p_self _ = H173
    obtain ⟨x174, h175⟩ := gen_mut g172
    have h176 : H173 p_self = some (.ins AD.c_Decoder dx_self [("_probabilities", V.ref p127), ("_octets", V.ref p143), ("_place", V.int (0)), ("_span", V.int ((4294967296 - 1))), ("_value", V.int (0))]) := h175
    have S177 := S171.mut1 x174 (.tail _ (.tail _ (.tail _ (.head _)))) h176
    obtain ⟨K178, hK179, hw⟩ := cW_push hw
    refine ⟨_, rfl, (by decide), (by decide), for_range (lo := 0) (n := Int.toNat (4)) (fun i σ H' => ∃ (self_180 : St_Decoder) (u181 : Option V) (G' : Hp), σ = [some (V.ref p_self), some (V.ref a_octets), u181] ∧ Same G G' ∧ Sep [p_self] H G G' H' [p_self, p127, p143] ∧ H' p_self = some (.ins AD.c_Decoder dx_self [("_probabilities", V.ref p127), ("_octets", V.ref p143), ("_place", V.int (self_180.place)), ("_span", V.int (self_180.span)), ("_value", V.int (self_180.value))]) ∧ H' p127 = some (.lst ((self_180.probs : (List Int)).map V.int)) ∧ H' p143 = some (.lst ((self_180.octs : (List Int)).map V.int)) ∧ cW (forS (List.drop i (rng (0) (Int.toNat (4)))) self_180 (fun s x => F_Decoder___init___b1  s x)) K178 EE) ?_ ?_ ?_⟩
    · have h182 := (x174 _ _ (x168 _ _ (x161 _ _ (x155 _ _ (e147 _ _ (x139 _ _ h133 (ne_of_none (e121 _ _ h_self) n128).symm)) (ne_of_none (e121 _ _ h_self) n128).symm) (ne_of_none (e121 _ _ h_self) n128).symm) (ne_of_none (e121 _ _ h_self) n128).symm) (ne_of_none (e121 _ _ h_self) n128).symm)
      have h183 := (x174 _ _ (x168 _ _ (x161 _ _ (x155 _ _ h149 (ne_of_none h141 n144).symm) (ne_of_none h141 n144).symm) (ne_of_none h141 n144).symm) (ne_of_none h141 n144).symm)
      exact ⟨((⟨repL ([2048]) (256), octets', 0, (4294967296 - 1), 0⟩ : St_Decoder)), _, _, rfl, (Same.refl _), (S177.sub (all_cons (.tail _ (.tail _ (.tail _ (.head _)))) (all_cons (.tail _ (.head _)) (all_cons (.head _) all_nil)))), h176, h182, h183, hw⟩
    · intro i σ H184 hi hw
      obtain ⟨self_180, u181, G189, rfl, eG190, S185, h186, h187, h188, hw⟩ := hw
      have hw := cW_forS (rng_get hi) hw
      generalize (0 + (i : Int)) = x191 at hw ⊢
      have hw : cW (F_Decoder___init___b1  (self_180) (x191)) _ EE := hw
      unfold F_Decoder___init___b1 at hw
      obtain ⟨K193, hK194, hw⟩ := cW_name hw
      refine ⟨_, rfl, _, _, _, rfl, h186, rfl, rfl, rfl, G189, _, _, _, _, self_180, rfl, S185.sG, (S185.gno (all_cons (.head _) (all_cons (.tail _ (.head _)) (all_cons (.tail _ (.tail _ (.head _))) all_nil)))), h186, h187, h188, (ne_of_none (x139 _ _ h133 (ne_of_none (e121 _ _ h_self) n128).symm) n144), cW_callN hw (fun v196 hw H197 x198 h200 h201 h202  => ?_) trivial⟩
      have S199 := S185.mut x198 (all_cons (.head _) (all_cons (.tail _ (.head _)) (all_cons (.tail _ (.tail _ (.head _))) all_nil))) (all_cons (some_ne h200) (all_cons (some_ne h201) (all_cons (some_ne h202) all_nil)))
      have hw := cW_ok hw
      have hw := hK194 _ hw
      exact ⟨(v196), _, _, rfl, eG190, S199, h200, h201, h202, hw⟩
    · intro σ H207 hw
      obtain ⟨self_180, u181, G212, rfl, eG213, S208, h209, h210, h211, hw⟩ := hw
      have hw := hK179 _ (cW_forS0 (rng_len _ _).symm hw)
      have hw : cW (F_Decoder___init___r1  (self_180)) _ EE := hw
      unfold F_Decoder___init___r1 at hw
      have hw := cW_bnd hw
      refine ⟨_, rfl, _, _, _, _, _, rfl, h209, T.cl_Decoder, T.n_Decoder__value, rfl, _, _, rfl, rfl, _, _, rfl, _, rfl, _, _, _, _, rfl, h209, T.cl_Decoder, T.n_Decoder__value, (by show 5 < 1000; decide), ?_⟩
      generalize g216 : upd H207 p_self _ = H217
      obtain ⟨x218, h219⟩ := gen_mut g216
      have h220 : H217 p_self = some (.ins AD.c_Decoder dx_self [("_probabilities", V.ref p127), ("_octets", V.ref p143), ("_place", V.int (self_180.place)), ("_span", V.int (self_180.span)), ("_value", V.int ((if (4294967296 - 2) < self_180.value then (4294967296 - 2) else self_180.value)))]) := h219
      have S221 := S208.mut1 x218 (.head _) h220
      have h222 := (x218 _ _ h210 (ne_of_none (e121 _ _ h_self) n128).symm)
      have h223 := (x218 _ _ h211 (ne_of_none h141 n144).symm)
      have hw := cW_ok hw
      exact hK0 _ hw _ _ _ (sameX_of S221.base) fr134 fr150 (ne_of_none (x139 _ _ h133 (ne_of_none (e121 _ _ h_self) n128).symm) n144) h220 h222 h223

abbrev N__law_start : List Str := ["octets", "value"]
theorem sc__law_start : FnScope N__law_start ["octets"] (defScope s__law_start) := ⟨rfl, rfl, rfl, by decide +kernel, rfl, by decide +kernel, by decide +kernel⟩
theorem ok__law_start (D : DefX K mg "_law_start" s__law_start ["octets"] pats__law_start) (T : Txt K mg AD)  : CalX P w K mg base 1 "_law_start" (sp__law_start K AD) pats__law_start := by
  refine D.ok sc__law_start (fun vs H Q E h => ?_) (fun f cdv A_ outer s H vs Q E hr h => ?_)
  · obtain ⟨G, a_octets, octets', rfl, _⟩ := h
    rfl
  · obtain ⟨G, a_octets, octets', rfl, sG, q_octets, hw⟩ := h
    refine ⟨_, (pss_cons (ps_set (i := 0) sc__law_start.nd rfl (Or.inl rfl) (pe_op op_cat (pv 0) (pe_op op_rep (pe_lst (pa_cons pe_int pa_nil)) pe_int)))
      (pss_cons (ps_set (i := 1) sc__law_start.nd rfl (Or.inl rfl) (pe_op op_add (pe_op op_add (pe_op op_add (pe_op op_mul (pe_ix (ix_listK (K := K)) (pv 0) pe_int (fun _ _ => rfl)) (pe_op op_pow pe_int pe_int)) (pe_op op_mul (pe_ix (ix_listK (K := K)) (pv 0) pe_int (fun _ _ => rfl)) (pe_op op_pow pe_int pe_int))) (pe_op op_mul (pe_ix (ix_listK (K := K)) (pv 0) pe_int (fun _ _ => rfl)) pe_int)) (pe_ix (ix_listK (K := K)) (pv 0) pe_int (fun _ _ => rfl))))
      (pss_one (ps_ret (pe_lst (pa_cons (pe_callB (call_min2 rfl) (by rfl) T.b_min (by decide +kernel) (pa_cons (pv 1) (pa_cons (pe_op op_sub (pe_op op_pow pe_int pe_int) pe_int) pa_nil))) (pa_cons (pe_op op_sub (pe_op op_pow pe_int pe_int) pe_int) (pa_cons pe_int (pa_cons (pv 0) pa_nil))))))))), ?_⟩
    obtain ⟨KK, EE, hK0, hE, hw⟩ := cW_gen hw
    have S0 := Sep.startG sG
    unfold F__law_start at hw
    refine ⟨_, rfl, (by show 1 ≤ sizeLine; decide), fun p224 n225 => ?_⟩
    generalize g226 : upd H p224 _ = H227
    obtain ⟨e228, h229⟩ := gen_new n225 g226
    have h230 : H227 p224 = some (.lst (([0] : (List Int)).map V.int)) := h229
    have fr231 := S0.free n225
    have S232 := S0.new n225 e228 h230 fr231
    obtain ⟨g233, hw⟩ := cW_grd hw
    refine ⟨_, _, _, rfl, rfl, h230, g233.1, g233.2.1, (rep_lenM g233.2.2), fun p234 n235 => ?_⟩
    generalize g236 : upd H227 p234 _ = H237
    obtain ⟨e238, h239⟩ := gen_new n235 g236
    have h240 : H237 p234 = some (.lst ((repL ([0]) (4) : (List Int)).map V.int)) := rep_map h239
    have fr241 := S232.free n235
    have S242 := S232.new n235 e238 h240 fr241
    obtain ⟨g243, hw⟩ := cW_grd hw
    refine ⟨_, _, _, _, rfl, rfl, (S242.bM _ _ q_octets), h240, (cat_lenM g243), fun p244 n245 => ?_⟩
    generalize g246 : upd H237 p244 _ = H247
    obtain ⟨e248, h249⟩ := gen_new n245 g246
    have h250 : H247 p244 = some (.lst (((octets') ++ (repL ([0]) (4)) : (List Int)).map V.int)) := cat_map h249
    have fr251 := S242.free n245
    have S252 := S242.new n245 e248 h250 fr251
    obtain ⟨g253, hw⟩ := cW_grd hw
    obtain ⟨g254, hw⟩ := cW_grd hw
    obtain ⟨g255, hw⟩ := cW_grd hw
    obtain ⟨g256, hw⟩ := cW_grd hw
    refine ⟨_, rfl, _, _, _, _, rfl, rfl, (SqL.of h250), (atI_map g253), _, _, rfl, rfl, ⟨by decide, by decide, by decide⟩, _, _, rfl, rfl, (.inr ⟨by decide, by decide⟩), _, rfl, _, _, _, _, rfl, rfl, (SqL.of h250), (atI_map g254), _, _, rfl, rfl, ⟨by decide, by decide, by decide⟩, _, _, rfl, rfl, (.inr ⟨by decide, by decide⟩), _, _, rfl, rfl, _, rfl, _, _, _, _, rfl, rfl, (SqL.of h250), (atI_map g255), _, _, rfl, rfl, (.inr ⟨by decide, by decide⟩), _, _, rfl, rfl, _, rfl, _, _, _, _, rfl, rfl, (SqL.of h250), (atI_map g256), _, _, rfl, rfl, ?_⟩
    have hw := cW_bnd hw
    refine ⟨_, rfl, _, _, rfl, rfl, ⟨by decide, by decide, by decide⟩, _, _, rfl, rfl, _, _, rfl, _, _, rfl, rfl, ⟨by decide, by decide, by decide⟩, _, _, rfl, rfl, _, rfl, (by show 4 ≤ sizeLine; decide), fun p258 n259 => ?_⟩
    generalize g260 : upd H247 p258 _ = H261
    obtain ⟨e262, h263⟩ := gen_new n259 g260
    have h264 : H261 p258 = some (.lst [V.int ((if (4294967296 - 2) < (((((itD ((octets') ++ (repL ([0]) (4))) (0)) * 16777216) + ((itD ((octets') ++ (repL ([0]) (4))) (1)) * 65536)) + ((itD ((octets') ++ (repL ([0]) (4))) (2)) * 256)) + (itD ((octets') ++ (repL ([0]) (4))) (3))) then (4294967296 - 2) else (((((itD ((octets') ++ (repL ([0]) (4))) (0)) * 16777216) + ((itD ((octets') ++ (repL ([0]) (4))) (1)) * 65536)) + ((itD ((octets') ++ (repL ([0]) (4))) (2)) * 256)) + (itD ((octets') ++ (repL ([0]) (4))) (3))))), V.int ((4294967296 - 1)), V.int (4), V.ref p244]) := h263
    have fr265 := S252.free n259
    have S266 := S252.new n259 e262 h264 fr265
    have h267 := (e262 _ _ h250)
    have hw := cW_ok hw
    exact hK0 _ hw _ _ _ S266.b0 fr265 fr251 (ne_of_none h250 n259).symm h264 h267

abbrev N__law_items : List Str := ["script", "most", "items", "cell", "draws", "context", "bits", "k"]
theorem sc__law_items : FnScope N__law_items ["script", "most"] (defScope s__law_items) := ⟨rfl, rfl, rfl, by decide +kernel, rfl, by decide +kernel, by decide +kernel⟩
theorem ok__law_items (D : DefX K mg "_law_items" s__law_items ["script", "most"] pats__law_items) (T : Txt K mg AD) (c__law_draws : CalX P w K mg base 1 "_law_draws" (sp__law_draws K AD) pats__law_draws) : CalX P w K mg base 2 "_law_items" (sp__law_items K AD) pats__law_items := by
  refine D.ok sc__law_items (fun vs H Q E h => ?_) (fun f cdv A_ outer s H vs Q E hr h => ?_)
  · obtain ⟨G, a_script, script', most', rfl, _⟩ := h
    rfl
  · obtain ⟨G, a_script, script', most', rfl, sG, q_script, hw⟩ := h
    refine ⟨_, (pss_cons (ps_set (i := 2) sc__law_items.nd rfl (Or.inl rfl) (pe_lst pa_nil))
      (pss_cons (ps_for (passes_of rfl) rfl (pi_listK (K := K) (pv 0)) (pg_name (i := 3) sc__law_items.nd rfl (Or.inl rfl)) (pss_cons (ps_set (i := 4) sc__law_items.nd rfl (Or.inl rfl) (vx_callX c__law_draws pat__law_draws_0 (.head _) hr (by decide) (takes_of rfl rfl rfl rfl) rfl (pa_cons (pv 3) (pa_cons (pe_lst (pa_cons pe_int (pa_cons pe_int (pa_cons pe_int (pa_cons pe_int (pa_cons pe_int pa_nil)))))) pa_nil)) pk_nil))
      (pss_cons (ps_set (i := 5) sc__law_items.nd rfl (Or.inr rfl) (pe_ix (ix_listK (K := K)) (pe_lst (pa_cons pe_int (pa_cons pe_int (pa_cons pe_int (pa_cons pe_int (pa_cons (pe_ix (ix_listK (K := K)) (pv 4) pe_int (fun _ _ => rfl)) (pa_cons (pe_ix (ix_listK (K := K)) (pv 4) pe_int (fun _ _ => rfl)) (pa_cons (pe_ix (ix_listK (K := K)) (pv 4) pe_int (fun _ _ => rfl)) (pa_cons (pe_un un_neg pe_int) pa_nil))))))))) (pe_ix (ix_listK (K := K)) (pv 4) pe_int (fun _ _ => rfl)) (fun _ _ => rfl)))
      (pss_one (ps_if (pt_cmp (pc_lt (pe_ix (ix_listK (K := K)) (pv 4) pe_int (fun _ _ => rfl)) pe_int)) (pss_one (ps_set (i := 2) sc__law_items.nd rfl (Or.inl rfl) (pe_op op_cat (pv 2) (pe_op op_rep (pe_lst (pa_cons (pe_tup (pa_cons (pv 5) (pa_cons (pe_ix (ix_listK (K := K)) (pv 4) pe_int (fun _ _ => rfl)) pa_nil))) pa_nil)) (pe_ix (ix_listK (K := K)) (pv 4) pe_int (fun _ _ => rfl)))))) (pss_cons (ps_set (i := 6) sc__law_items.nd rfl (Or.inr rfl) (vx_callX c__law_draws pat__law_draws_0 (.head _) hr (by decide) (takes_of rfl rfl rfl rfl) rfl (pa_cons (pe_op op_fdivW (pe_callTy call_int1 (by rfl) T.b_int (by decide +kernel) (pa_cons (pv 3) pa_nil)) pe_int) (pa_cons (pe_op op_rep (pe_lst (pa_cons pe_int pa_nil)) (pe_ix (ix_listK (K := K)) (pv 4) pe_int (fun _ _ => rfl))) pa_nil)) pk_nil))
      (pss_one (ps_set (i := 2) sc__law_items.nd rfl (Or.inl rfl) (pe_op op_cat (pv 2) (pe_lc (own := [("k", 7)]) (g := gName 7) (by rfl) sc__law_items.nd (pi_range1 rfl T.b_range (pa_cons (pe_callB (call_lenLiK (K := K)) (by rfl) T.b_len (by decide +kernel) (pa_cons (pv 6) pa_nil)) pa_nil)) (blkOk_by (own := [("k", 7)]) (N := N__law_items) (sc := defScope s__law_items) (by decide +kernel)) (fun _ _ _ _ _ => (pg_name (i := 7) sc__law_items.nd rfl (Or.inl rfl))) (fun _ _ _ _ _ => pts_nil) (fun _ _ _ _ _ => (pe_tup (pa_cons (pe_op op_sub (pe_op op_mul (pe_op op_add (pv 5) pe_int) (pe_callTy call_int1 (by rfl) T.b_int (by decide +kernel) (pa_cons (pe_cmp (pc_gt (pe_op op_mod (pe_callTy call_int1 (by rfl) T.b_int (by decide +kernel) (pa_cons (pv 7) pa_nil)) pe_int) pe_int)) pa_nil))) pe_int) (pa_cons (pe_ix (ix_listK (K := K)) (pv 6) (pv 7) (fun _ _ => rfl)) pa_nil))))))))))))))
      (pss_one (ps_ret (pe_slice (sl_listK (K := K)) (pv 2) po_none (po_some (pv 1))))))), ?_⟩
    obtain ⟨KK, EE, hK0, hE, hw⟩ := cW_gen hw
    have S0 := Sep.startG sG
    unfold F__law_items at hw
    refine ⟨(by show 0 ≤ sizeLine; decide), fun p268 n269 => ?_⟩
    generalize g270 : upd H p268 _ = H271
    obtain ⟨e272, h273⟩ := gen_new n269 g270
    have h274 : H271 p268 = some (.lst ([])) := h273
    have fr275 := S0.free n269
    have S276 := S0.new n269 e272 h274 fr275
    have d277 : RpAll G ([]) ((([] : (List (Int × Int))) : (List (Int × Int))).map (encT2 PyData.int PyData.int)) := RpAll.nil
    obtain ⟨K279, hK280, hw⟩ := cW_push hw
    refine ⟨_, rfl, _, rfl, ⟨_, (S276.b0.seq q_script)⟩, for_list (K := K) (a := a_script) (xs := (script' : List Int).map V.int) (fun i σ H' => ∃ (items_281 : (List (Int × Int))) (u282 : V) (u283 : Option V) (u284 : Option V) (u285 : Option V) (u286 : Option V) (G' : Hp), σ = [some (V.ref a_script), some (V.int (most')), some u282, u283, u284, u285, u286, none] ∧ Same G G' ∧ Sep [] H G G' H' [] ∧ Rp G' u282 ((encL (encT2 PyData.int PyData.int)) items_281) ∧ cW (forS (List.drop i (script')) items_281 (fun s x => F__law_items_b1  s x)) K279 EE) ?_ ?_ ?_ ?_⟩
    · obtain ⟨G287, eG288, hg289, S290⟩ := Sep.freeze (O' := []) S276 (.head _) h274 fr275 (all_nil)
      exact ⟨(([] : (List (Int × Int)))), _, _, _, _, _, _, rfl, eG288, S290, (rp_mk_list hg289 (RpAll.mono eG288 d277)), hw⟩
    · intro i σ H291 _ hw
      obtain ⟨items_281, u282, u283, u284, u285, u286, G294, rfl, eG295, S292, r293, hw⟩ := hw
      obtain ⟨a296, vs297, rfl, h298, d299⟩ := rp_list r293
      exact (S292.b0.seq q_script)
    · intro i x σ H300 hj hw
      obtain ⟨items_281, u282, u283, u284, u285, u286, G303, rfl, eG304, S301, r302, hw⟩ := hw
      obtain ⟨a305, vs306, rfl, h307, d308⟩ := rp_list r302
      obtain ⟨x309, hx, rfl⟩ := map_get hj
      have hw := cW_forS hx hw
      have hw : cW (F__law_items_b1  (items_281) (x309)) _ EE := hw
      unfold F__law_items_b1 at hw
      obtain ⟨K311, hK312, hw⟩ := cW_name hw
      refine ⟨_, rfl, (by show 5 ≤ sizeLine; decide), fun p314 n315 => ?_⟩
      generalize g316 : upd H300 p314 _ = H317
      obtain ⟨e318, h319⟩ := gen_new n315 g316
      have h320 : H317 p314 = some (.lst (([4, 8, 256, 2, 40] : (List Int)).map V.int)) := h319
      have fr321 := S301.free n315
      have S322 := S301.new n315 e318 h320 fr321
      refine ⟨rfl, rfl, G303, _, _, _, rfl, S322.sG, (hide_nil h320), cW_call hw (fun v323 hw p326 H324 n327 e325 h328 => ?_) (fun e he H2 e2 => hE e he H2 (Same.trans S322.b0 e2))⟩
      have h329 : H324 p326 = some (.lst ((v323 : (List Int)).map V.int)) := h328
      have fr330 := S322.free n327
      have S331 := S322.new n327 e325 h329 fr330
      obtain ⟨g332, hw⟩ := cW_grd hw
      obtain ⟨g333, hw⟩ := cW_grd hw
      obtain ⟨g334, hw⟩ := cW_grd hw
      refine ⟨_, rfl, _, _, _, _, rfl, rfl, (SqL.of h329), (atI_map g332), _, rfl, _, _, _, _, rfl, rfl, (SqL.of h329), (atI_map g333), _, rfl, _, _, _, _, rfl, rfl, (SqL.of h329), (atI_map g334), _, rfl, (by show 8 ≤ sizeLine; decide), fun p335 n336 => ?_⟩
      generalize g337 : upd H324 p335 _ = H338
      obtain ⟨e339, h340⟩ := gen_new n336 g337
      have h341 : H338 p335 = some (.lst (([0, 255, 1, 128, (itD (v323) (2)), (itD (v323) (2)), (itD (v323) (2)), (-1)] : (List Int)).map V.int)) := h340
      have fr342 := S331.free n336
      have S343 := S331.new n336 e339 h341 fr342
      obtain ⟨g344, hw⟩ := cW_grd hw
      have h345 := (e339 _ _ h329)
      obtain ⟨g346, hw⟩ := cW_grd hw
      refine ⟨_, rfl, _, _, _, _, rfl, rfl, (SqL.of h345), (atI_map g344), _, _, _, _, rfl, rfl, (SqL.of h341), (atI_map g346), ?_⟩
      have hw := cW_bnd hw
      obtain ⟨g348, hw⟩ := cW_grd hw
      refine ⟨_, rfl, _, _, _, _, rfl, rfl, (SqL.of h345), (atI_map g348), _, _, rfl, rfl, _, rfl, ?_⟩
      refine iteD (fun c349 => ?_) (fun c349 => ?_)
      · have hw := cW_pos c349 hw
        obtain ⟨g350, hw⟩ := cW_grd hw
        refine ⟨_, rfl, _, rfl, _, rfl, _, _, _, _, rfl, rfl, (SqL.of h345), (atI_map g350), (by show 2 ≤ sizeLine; decide), fun p351 n352 => ?_⟩
        generalize g353 : upd H338 p351 _ = H354
        obtain ⟨e355, h356⟩ := gen_new n352 g353
        have h357 : H354 p351 = some (.tup [V.int ((itD ([0, 255, 1, 128, (itD (v323) (2)), (itD (v323) (2)), (itD (v323) (2)), (-1)]) ((itD (v323) (1))))), V.int ((itD (v323) (3)))]) := h356
        have fr358 := S343.free n352
        obtain ⟨G360, eG361, hg362, S359⟩ := S343.grow n352 e355 h357 fr358
        refine ⟨(by show 1 ≤ sizeLine; decide), fun p363 n364 => ?_⟩
        generalize g365 : upd H354 p363 _ = H366
        obtain ⟨e367, h368⟩ := gen_new n364 g365
        have h369 : H366 p363 = some (.lst ([V.ref p351])) := h368
        have fr370 := S359.free n364
        have S371 := S359.new n364 e367 h369 fr370
        have d372 : RpAll G360 ([V.ref p351]) (([((itD ([0, 255, 1, 128, (itD (v323) (2)), (itD (v323) (2)), (itD (v323) (2)), (-1)]) ((itD (v323) (1)))), (itD (v323) (3)))] : (List (Int × Int))).map (encT2 PyData.int PyData.int)) := (RpAll.cons (rp_mk2 hg362 (.int _) (.int _)) RpAll.nil)
        obtain ⟨g373, hw⟩ := cW_grd hw
        have h374 := (e367 _ _ (e355 _ _ h345))
        obtain ⟨g375, hw⟩ := cW_grd hw
        refine ⟨_, rfl, _, _, _, _, rfl, rfl, (SqL.of h374), (atI_map g373), _, _, _, rfl, rfl, h369, g375.1, g375.2.1, (rep_len d372 g375.2.2), fun p376 n377 => ?_⟩
        generalize g378 : upd H366 p376 _ = H379
        obtain ⟨e380, h381⟩ := gen_new n377 g378
        have h382 : H379 p376 = some (.lst ((List.replicate (Int.toNat ((itD (v323) (4)))) ([V.ref p351])).flatten)) := h381
        have fr383 := S371.free n377
        have S384 := S371.new n377 e380 h382 fr383
        have d385 : RpAll G360 ((List.replicate (Int.toNat ((itD (v323) (4)))) ([V.ref p351])).flatten) ((repL ([((itD ([0, 255, 1, 128, (itD (v323) (2)), (itD (v323) (2)), (itD (v323) (2)), (-1)]) ((itD (v323) (1)))), (itD (v323) (3)))]) ((itD (v323) (4))) : (List (Int × Int))).map (encT2 PyData.int PyData.int)) := rep_all ((itD (v323) (4))) d372
        obtain ⟨g386, hw⟩ := cW_grd hw
        obtain ⟨G387, eG388, hg389, S390⟩ := Sep.freeze (O' := [p363, p335, p326, p314]) S384 (.head _) h382 fr383 ((all_cons ⟨(.tail _ (.head _)), (ne_of_none h369 n377)⟩ (all_cons ⟨(.tail _ (.tail _ (.head _))), (ne_of_none (e367 _ _ (e355 _ _ h341)) n377)⟩ (all_cons ⟨(.tail _ (.tail _ (.tail _ (.head _)))), (ne_of_none h374 n377)⟩ (all_cons ⟨(.tail _ (.tail _ (.tail _ (.tail _ (.head _))))), (ne_of_none (e367 _ _ (e355 _ _ (e339 _ _ (e325 _ _ h320)))) n377)⟩ all_nil)))))
        refine ⟨_, _, _, _, rfl, rfl, (S384.sG _ _ (eG361 _ _ h307)), h382, (cat_len (RpAll.mono eG361 d308) d385 g386), fun p391 n392 => ?_⟩
        generalize g393 : upd H379 p391 _ = H394
        obtain ⟨e395, h396⟩ := gen_new n392 g393
        have h397 : H394 p391 = some (.lst (vs306 ++ (List.replicate (Int.toNat ((itD (v323) (4)))) ([V.ref p351])).flatten)) := h396
        have fr398 := S390.free n392
        have S399 := S390.new n392 e395 h397 fr398
        have d400 : RpAll G387 (vs306 ++ (List.replicate (Int.toNat ((itD (v323) (4)))) ([V.ref p351])).flatten) (((items_281) ++ (repL ([((itD ([0, 255, 1, 128, (itD (v323) (2)), (itD (v323) (2)), (itD (v323) (2)), (-1)]) ((itD (v323) (1)))), (itD (v323) (3)))]) ((itD (v323) (4)))) : (List (Int × Int))).map (encT2 PyData.int PyData.int)) := app_map (RpAll.mono eG388 (RpAll.mono eG361 d308)) (RpAll.mono eG388 d385)
        have hw := cW_ok hw
        have hw := hK312 _ hw
        obtain ⟨G401, eG402, hg403, S404⟩ := Sep.freeze (O' := [p363, p335, p326, p314]) S399 (.head _) h397 fr398 ((all_cons ⟨(.tail _ (.head _)), (ne_of_none (e380 _ _ h369) n392)⟩ (all_cons ⟨(.tail _ (.tail _ (.head _))), (ne_of_none (e380 _ _ (e367 _ _ (e355 _ _ h341))) n392)⟩ (all_cons ⟨(.tail _ (.tail _ (.tail _ (.head _)))), (ne_of_none (e380 _ _ h374) n392)⟩ (all_cons ⟨(.tail _ (.tail _ (.tail _ (.tail _ (.head _))))), (ne_of_none (e380 _ _ (e367 _ _ (e355 _ _ (e339 _ _ (e325 _ _ h320))))) n392)⟩ all_nil)))))
        exact ⟨((items_281) ++ (repL ([((itD ([0, 255, 1, 128, (itD (v323) (2)), (itD (v323) (2)), (itD (v323) (2)), (-1)]) ((itD (v323) (1)))), (itD (v323) (3)))]) ((itD (v323) (4))))), _, _, _, _, _, _, rfl, (Same.trans (Same.trans (Same.trans eG304 eG361) eG388) eG402), (S404.sub all_nil), (rp_mk_list hg403 (RpAll.mono eG402 d400)), hw⟩
      · have hw := cW_neg c349 hw
        refine ⟨_, rfl, .inl ⟨_, rfl, ?_⟩⟩
        refine ⟨_, _, rfl, rfl, (divW_lit (by decide) (by decide)), (by show 1 ≤ sizeLine; decide), fun p405 n406 => ?_⟩
        generalize g407 : upd H338 p405 _ = H408
        obtain ⟨e409, h410⟩ := gen_new n406 g407
        have h411 : H408 p405 = some (.lst (([2] : (List Int)).map V.int)) := h410
        have fr412 := S343.free n406
        have S413 := S343.new n406 e409 h411 fr412
        obtain ⟨g414, hw⟩ := cW_grd hw
        have h415 := (e409 _ _ h345)
        obtain ⟨g416, hw⟩ := cW_grd hw
        refine ⟨_, rfl, _, _, _, _, rfl, rfl, (SqL.of h415), (atI_map g414), _, _, _, rfl, rfl, h411, g416.1, g416.2.1, (rep_lenM g416.2.2), fun p417 n418 => ?_⟩
        generalize g419 : upd H408 p417 _ = H420
        obtain ⟨e421, h422⟩ := gen_new n418 g419
        have h423 : H420 p417 = some (.lst ((repL ([2]) ((itD (v323) (4))) : (List Int)).map V.int)) := rep_map h422
        have fr424 := S413.free n418
        have S425 := S413.new n418 e421 h423 fr424
        refine ⟨rfl, rfl, G303, _, _, _, rfl, S425.sG, (hide_nil h423), cW_call hw (fun v426 hw p429 H427 n430 e428 h431 => ?_) (fun e he H2 e2 => hE e he H2 (Same.trans S425.b0 e2))⟩
        have h432 : H427 p429 = some (.lst ((v426 : (List Int)).map V.int)) := h431
        have fr433 := S425.free n430
        have S434 := S425.new n430 e428 h432 fr433
        refine ⟨_, rfl, _, rfl, _, _, rfl, (SqL.of h432), ?_⟩
        generalize (((v426) : (List Int)).length : Int) = z435 at hw ⊢
        obtain ⟨g436, hw⟩ := cW_grd hw
        obtain ⟨K440, hK441, hw⟩ := cW_push hw
        refine ⟨_, rfl, g436.1, g436.2, fun D442 n443 => lc_range (lo := 0) (n := Int.toNat (z435)) (fun i H' => ∃ (G' : Hp) (acc444 : (List (Int × Int))) (vs445 : List V), Same G303 G' ∧ Sep [] H G G' H' [D442, p326, p429] ∧ H' p326 = some (.lst ((v323 : (List Int)).map V.int)) ∧ H' p429 = some (.lst ((v426 : (List Int)).map V.int)) ∧ H' D442 = some (.lst vs445) ∧ RpAll G' vs445 ((acc444 : (List (Int × Int))).map (encT2 PyData.int PyData.int)) ∧ cW (mapA (List.drop i (rng (0) (Int.toNat (z435)))) acc444 (fun x => noEr (F__law_items_c2 ((itD ([0, 255, 1, 128, (itD (v323) (2)), (itD (v323) (2)), (itD (v323) (2)), (-1)]) ((itD (v323) (1))))) (v426) x))) K440 EE) ?_ ?_ ?_⟩
        · generalize g446 : upd H427 D442 _ = H447
          obtain ⟨e448, h449⟩ := gen_new n443 g446
          have fr450 := S434.free n443
          have S451 := S434.new n443 e448 h449 fr450
          have h452 := (e448 _ _ (e428 _ _ (e421 _ _ h415)))
          have h453 := (e448 _ _ h432)
          exact ⟨_, [], [], Same.refl _, (S451.sub (all_cons (.head _) (all_cons (.tail _ (.tail _ (.tail _ (.tail _ (.tail _ (.head _)))))) (all_cons (.tail _ (.head _)) all_nil)))), h452, h453, h449, RpAll.nil, hw⟩
        · intro i H454 hi hw
          obtain ⟨G457, acc459, vs460, eG458, S455, h462, h463, h456, d461, hw⟩ := hw
          obtain ⟨z464, hw⟩ := cW_mapA (rng_get hi) hw
          generalize (0 + (i : Int)) = x465 at hw ⊢
          have hw := cW_noEr hw
          have hw : cW (F__law_items_c2 ((itD ([0, 255, 1, 128, (itD (v323) (2)), (itD (v323) (2)), (itD (v323) (2)), (-1)]) ((itD (v323) (1))))) (v426) (x465)) _ (fun _ => False) := hw
          unfold F__law_items_c2 at hw
          refine ⟨rfl, ?_⟩
          refine tyes_go ?_
          refine ⟨_, rfl, _, _, rfl, rfl, _, rfl, .inl ⟨_, rfl, ?_⟩⟩
          refine ⟨_, _, rfl, rfl, (show (0 : Int) < 3 by decide), _, _, rfl, rfl, .inr ⟨_, rfl, ?_⟩⟩
          obtain ⟨g467, hw⟩ := cW_grd hw
          obtain ⟨g468, hw⟩ := cW_grd hw
          refine ⟨_, _, rfl, rfl, g467, _, _, rfl, rfl, _, rfl, _, rfl, _, _, _, _, rfl, rfl, (SqL.of h463), (atI_map g468), (by show 2 ≤ sizeLine; decide), fun p469 n470 => ?_⟩
          generalize g471 : upd H454 p469 _ = H472
          obtain ⟨e473, h474⟩ := gen_new n470 g471
          have h475 : H472 p469 = some (.tup [V.int (((((itD ([0, 255, 1, 128, (itD (v323) (2)), (itD (v323) (2)), (itD (v323) (2)), (-1)]) ((itD (v323) (1)))) + 1) * (if decide (0 < (x465 % 3)) = true then 1 else 0)) - 1)), V.int ((itD (v426) (x465)))]) := h474
          have fr476 := S455.free n470
          obtain ⟨G478, eG479, hg480, S477⟩ := S455.grow n470 e473 h475 fr476
          have h481 := (e473 _ _ h456)
          refine ⟨_, h481, (app_len (RpAll.mono eG479 d461) z464), ?_⟩
          generalize g482 : upd H472 D442 _ = H483
          obtain ⟨x484, h485⟩ := gen_mut g482
          have S486 := S477.mut1 x484 (.head _) h485
          have hw := cW_ok hw
          have h487 := (x484 _ _ (e473 _ _ h462) (ne_of_none (e428 _ _ (e421 _ _ h415)) n443))
          have h488 := (x484 _ _ (e473 _ _ h463) (ne_of_none h432 n443))
          exact ⟨_, (acc459 ++ [(((((itD ([0, 255, 1, 128, (itD (v323) (2)), (itD (v323) (2)), (itD (v323) (2)), (-1)]) ((itD (v323) (1)))) + 1) * (if decide (0 < (x465 % 3)) = true then 1 else 0)) - 1), (itD (v426) (x465)))]), _, (Same.trans eG458 eG479), S486, h487, h488, h485, (app_map (RpAll.mono eG479 d461) (RpAll.one (rp_mk2 hg480 (.int _) (.int _)))), hw⟩
        intro H489 hw
        obtain ⟨G492, acc494, vs495, eG493, S490, h497, h498, h491, d496, hw⟩ := hw
        have hw := hK441 _ (cW_mapA0 (rng_len _ _).symm hw)
        have fr499 := S434.free n443
        obtain ⟨g500, hw⟩ := cW_grd hw
        obtain ⟨G501, eG502, hg503, S504⟩ := Sep.freeze (O' := [p326, p429]) S490 (.head _) h491 fr499 ((all_cons ⟨(.tail _ (.head _)), (ne_of_none (e428 _ _ (e421 _ _ h415)) n443)⟩ (all_cons ⟨(.tail _ (.tail _ (.head _))), (ne_of_none h432 n443)⟩ all_nil)))
        refine ⟨_, _, _, _, rfl, rfl, (S490.sG _ _ (eG493 _ _ h307)), h491, (cat_len (RpAll.mono eG493 d308) d496 g500), fun p505 n506 => ?_⟩
        generalize g507 : upd H489 p505 _ = H508
        obtain ⟨e509, h510⟩ := gen_new n506 g507
        have h511 : H508 p505 = some (.lst (vs306 ++ vs495)) := h510
        have fr512 := S504.free n506
        have S513 := S504.new n506 e509 h511 fr512
        have d514 : RpAll G501 (vs306 ++ vs495) (((items_281) ++ (acc494) : (List (Int × Int))).map (encT2 PyData.int PyData.int)) := app_map (RpAll.mono eG502 (RpAll.mono eG493 d308)) (RpAll.mono eG502 d496)
        have hw := cW_ok hw
        have hw := hK312 _ hw
        obtain ⟨G515, eG516, hg517, S518⟩ := Sep.freeze (O' := [p326, p429]) S513 (.head _) h511 fr512 ((all_cons ⟨(.tail _ (.head _)), (ne_of_none h497 n506)⟩ (all_cons ⟨(.tail _ (.tail _ (.head _))), (ne_of_none h498 n506)⟩ all_nil)))
        exact ⟨((items_281) ++ (acc494)), _, _, _, _, _, _, rfl, (Same.trans (Same.trans (Same.trans eG304 eG493) eG502) eG516), (S518.sub all_nil), (rp_mk_list hg517 (RpAll.mono eG516 d514)), hw⟩
    · intro σ H519 hw
      obtain ⟨items_281, u282, u283, u284, u285, u286, G522, rfl, eG523, S520, r521, hw⟩ := hw
      obtain ⟨a524, vs525, rfl, h526, d527⟩ := rp_list r521
      have hw := hK280 _ (cW_forS0 (by rw [List.length_map]) hw)
      have hw : cW (F__law_items_r1 (most') (items_281)) _ EE := hw
      unfold F__law_items_r1 at hw
      refine ⟨_, rfl, _, rfl, _, rfl, _, _, rfl, (SqL.of (S520.sG _ _ h526)), fun p529 n530 => ?_⟩
      generalize g531 : upd H519 p529 _ = H532
      obtain ⟨e533, h534⟩ := gen_new n530 g531
      have h535 : H532 p529 = some (.lst (cutV (vs525) none (some (most')))) := h534
      have fr536 := S520.free n530
      have S537 := S520.new n530 e533 h535 fr536
      have d538 : RpAll G522 (cutV (vs525) none (some (most'))) ((cutL (items_281) none (some (most')) : (List (Int × Int))).map (encT2 PyData.int PyData.int)) := cut_all none (some (most')) d527
      obtain ⟨G539, eG540, hg541, S542⟩ := Sep.freeze (O' := []) S537 (.head _) h535 fr536 (all_nil)
      have hw := cW_ok hw
      exact hK0 _ hw _ _ _ S542.b0 S542.g0 S542.sG S542.gn (rp_mk_list hg541 (RpAll.mono eG540 d538))

abbrev N__law_cell : List Str := ["script", "k"]
theorem sc__law_cell : FnScope N__law_cell ["script", "k"] (defScope s__law_cell) := ⟨rfl, rfl, rfl, by decide +kernel, rfl, by decide +kernel, by decide +kernel⟩
theorem ok__law_cell (D : DefX K mg "_law_cell" s__law_cell ["script", "k"] pats__law_cell) (T : Txt K mg AD)  : CalX P w K mg base 1 "_law_cell" (sp__law_cell K AD) pats__law_cell := by
  refine D.ok sc__law_cell (fun vs H Q E h => ?_) (fun f cdv A_ outer s H vs Q E hr h => ?_)
  · obtain ⟨G, a_script, script', k', rfl, _⟩ := h
    rfl
  · obtain ⟨G, a_script, script', k', rfl, sG, q_script, hw⟩ := h
    refine ⟨_, (pss_cons (ps_if (pt_cmp (pc_lt (pv 1) (pe_callB (call_lenLiK (K := K)) (by rfl) T.b_len (by decide +kernel) (pa_cons (pv 0) pa_nil)))) (pss_one (ps_ret (pe_callTy call_int1 (by rfl) T.b_int (by decide +kernel) (pa_cons (pe_ix (ix_listK (K := K)) (pv 0) (pv 1) (fun _ _ => rfl)) pa_nil)))) pss_nil)
      (pss_one (ps_ret pe_int))), ?_⟩
    obtain ⟨KK, EE, hK0, hE, hw⟩ := cW_gen hw
    have S0 := Sep.startG sG
    unfold F__law_cell at hw
    refine ⟨_, rfl, _, rfl, _, _, rfl, (S0.b0.seq q_script), _, _, rfl, rfl, _, rfl, ?_⟩
    refine iteD (fun c543 => ?_) (fun c543 => ?_)
    · have hw := cW_pos c543 hw
      obtain ⟨g544, hw⟩ := cW_grd hw
      refine ⟨_, rfl, _, rfl, _, _, _, _, rfl, rfl, (S0.b0.seq q_script), (atI_map g544), .inl ⟨_, rfl, ?_⟩⟩
      have hw := cW_ok hw
      exact hK0 _ hw
    · have hw := cW_neg c543 hw
      have hw := cW_ok hw
      exact hK0 _ hw

abbrev N__check_context : List Str := ["context"]
theorem sc__check_context : FnScope N__check_context ["context"] (defScope s__check_context) := ⟨rfl, rfl, rfl, by decide +kernel, rfl, by decide +kernel, by decide +kernel⟩
theorem ok__check_context (D : DefX K mg "_check_context" s__check_context ["context"] pats__check_context) (T : Txt K mg AD)  : CalX P w K mg base 1 "_check_context" (sp__check_context K AD) pats__check_context := by
  refine D.ok sc__check_context (fun vs H Q E h => ?_) (fun f cdv A_ outer s H vs Q E hr h => ?_)
  · obtain ⟨G, context', rfl, _⟩ := h
    rfl
  · obtain ⟨G, context', rfl, sG, hw⟩ := h
    refine ⟨_, (pss_one (ps_if (pt_not (pt_chain op_le op_lt pe_int (pv 0) (C8.pe_gc rfl T.g_CONTEXTS))) (pss_one (ps_raise rfl (takes_of rfl rfl rfl rfl) (pmk_own PySem.F.excBase_ValueError T.xx_OutOfRange T.xg_OutOfRange T.xk_OutOfRange (raises_own T.xb_OutOfRange T.xt_OutOfRange) rfl))) pss_nil)), ?_⟩
    obtain ⟨KK, EE, hK0, hE, hw⟩ := cW_gen hw
    have S0 := Sep.startG sG
    unfold F__check_context at hw
    refine ⟨_, rfl, _, _, rfl, rfl, _, rfl, ?_⟩
    refine iteD (fun c545 => ?_) (fun c545 => ?_)
    · have hw := cW_pos c545 hw
      refine ⟨_, _, rfl, rfl, _, rfl, ?_⟩
      refine iteN (fun c546 => ?_) (fun c546 => ?_)
      · have hw := cW_neg c546 hw
        exact hE 1 (cW_er hw)
      · have hw := cW_pos c546 hw
        have hw := cW_ok hw
        exact hK0 _ hw
    · have hw := cW_neg c545 hw
      refine ⟨_, rfl, ?_⟩
      refine iteT ?_
      exact hE 1 (cW_er hw)

abbrev N_Decoder_probability : List Str := ["self", "context"]
theorem sc_Decoder_probability : FnScope N_Decoder_probability ["self", "context"] (defScope s_Decoder_probability) := ⟨rfl, rfl, rfl, by decide +kernel, rfl, by decide +kernel, by decide +kernel⟩
theorem ok_Decoder_probability (D : MethX K AD.c_Decoder "Decoder.probability" "probability" s_Decoder_probability ["self", "context"] pats_Decoder_probability) (T : Txt K mg AD) (c__check_context : CalX P w K mg base 1 "_check_context" (sp__check_context K AD) pats__check_context) : MetX P w K mg base 2 AD.c_Decoder "probability" (sp_Decoder_probability K AD) pats_Decoder_probability := by
  refine D.ok T.cl_Decoder sc_Decoder_probability (fun vs H Q E h => ?_) (fun f cdv A_ outer s H vs Q E hr h => ?_)
  · obtain ⟨G, p_self, l_self_probs, l_self_octs, dx_self, self', context', rfl, _⟩ := h
    rfl
  · obtain ⟨G, p_self, l_self_probs, l_self_octs, dx_self, self', context', rfl, sG, h_p_self, h_l_self_probs, h_l_self_octs, hw⟩ := h
    refine ⟨_, (pss_cons (ps_expr (vx_callX c__check_context pat__check_context_0 (.head _) hr (by decide) (takes_of rfl rfl rfl rfl) rfl (pa_cons (pv 1) pa_nil) pk_nil))
      (pss_one (ps_ret (pe_ix (ix_listK (K := K)) (fldK (K := K) (pv 0)) (pv 1) (fun _ _ => rfl))))), ?_⟩
    obtain ⟨KK, EE, hK0, hE, hw⟩ := cW_gen hw
    have S0 := Sep.startG sG
    unfold F_Decoder_probability at hw
    refine ⟨_, rfl, rfl, rfl, G, _, rfl, S0.sG, cW_call hw (fun v547 hw => ?_) (fun e he => hE e he _ S0.b0)⟩
    obtain ⟨g548, hw⟩ := cW_grd hw
    refine ⟨_, rfl, _, _, _, _, _, rfl, (S0.bM _ _ h_p_self), T.cl_Decoder, T.n_Decoder__probabilities, rfl, _, rfl, _, _, _, _, rfl, rfl, (SqL.of (S0.bM _ _ h_l_self_probs)), (atI_map g548), ?_⟩
    have hw := cW_ok hw
    exact hK0 _ hw _ S0.b0

abbrev N__adapted : List Str := ["chance", "decision"]
theorem sc__adapted : FnScope N__adapted ["chance", "decision"] (defScope s__adapted) := ⟨rfl, rfl, rfl, by decide +kernel, rfl, by decide +kernel, by decide +kernel⟩
theorem ok__adapted (D : DefX K mg "_adapted" s__adapted ["chance", "decision"] pats__adapted) (T : Txt K mg AD)  : CalX P w K mg base 1 "_adapted" (sp__adapted K AD) pats__adapted := by
  refine D.ok sc__adapted (fun vs H Q E h => ?_) (fun f cdv A_ outer s H vs Q E hr h => ?_)
  · obtain ⟨G, chance', decision', rfl, _⟩ := h
    rfl
  · obtain ⟨G, chance', decision', rfl, sG, hw⟩ := h
    refine ⟨_, (pss_cons (ps_if (pt_cmp (pc_eqI (pv 1) pe_int)) (pss_one (ps_ret (pe_op op_add (pv 0) (pe_op op_shr (pe_op op_sub (C8.pe_gc rfl T.g_SCALE) (pv 0)) (C8.pe_gc rfl T.g_RATE))))) pss_nil)
      (pss_one (ps_ret (pe_op op_sub (pv 0) (pe_op op_shr (pv 0) (C8.pe_gc rfl T.g_RATE)))))), ?_⟩
    obtain ⟨KK, EE, hK0, hE, hw⟩ := cW_gen hw
    have S0 := Sep.startG sG
    unfold F__adapted at hw
    refine ⟨_, rfl, _, _, rfl, rfl, _, rfl, ?_⟩
    refine iteD (fun c549 => ?_) (fun c549 => ?_)
    · have hw := cW_pos c549 hw
      refine ⟨_, rfl, _, rfl, _, _, rfl, rfl, _, _, rfl, rfl, (show (0 : Int) ≤ 5 by decide), _, _, rfl, rfl, ?_⟩
      have hw := cW_ok hw
      exact hK0 _ hw
    · have hw := cW_neg c549 hw
      refine ⟨_, rfl, _, rfl, _, _, rfl, rfl, (show (0 : Int) ≤ 5 by decide), _, _, rfl, rfl, ?_⟩
      have hw := cW_ok hw
      exact hK0 _ hw

abbrev N_Decoder__decide : List Str := ["self", "chance", "part", "decision"]
theorem sc_Decoder__decide : FnScope N_Decoder__decide ["self", "chance"] (defScope s_Decoder__decide) := ⟨rfl, rfl, rfl, by decide +kernel, rfl, by decide +kernel, by decide +kernel⟩
theorem ok_Decoder__decide (D : MethX K AD.c_Decoder "Decoder._decide" "_decide" s_Decoder__decide ["self", "chance"] pats_Decoder__decide) (T : Txt K mg AD) (c_Decoder__shift : MetX P w K mg base 1 AD.c_Decoder "_shift" (sp_Decoder__shift K AD) pats_Decoder__shift) : MetX P w K mg base 2 AD.c_Decoder "_decide" (sp_Decoder__decide K AD) pats_Decoder__decide := by
  refine D.ok T.cl_Decoder sc_Decoder__decide (fun vs H Q E h => ?_) (fun f cdv A_ outer s H vs Q E hr h => ?_)
  · obtain ⟨G, p_self, l_self_probs, l_self_octs, dx_self, self', chance', rfl, _⟩ := h
    rfl
  · obtain ⟨G, p_self, l_self_probs, l_self_octs, dx_self, self', chance', rfl, sG, gM, h_p_self, h_l_self_probs, h_l_self_octs, ne_self_0, hw⟩ := h
    refine ⟨_, (pss_cons (ps_set (i := 2) sc_Decoder__decide.nd rfl (Or.inl rfl) (pe_op op_mul (pe_op op_shr (fldK (K := K) (pv 0)) (C8.pe_gc rfl T.g_SCALE_BITS)) (pv 1)))
      (pss_cons (ps_set (i := 3) sc_Decoder__decide.nd rfl (Or.inl rfl) (pe_ifExp (pt_cmp (pc_lt (fldK (K := K) (pv 0)) (pv 2))) pe_int pe_int))
      (C8.pss_cut (ps_if (pt_cmp (pc_eqI (pv 3) pe_int)) (pss_one (ps_fld (pv 0) (pv 2) rfl)) (pss_cons (ps_fldaug (pv 0) (pv 2) (pip iop_sub))
      (pss_one (ps_fldaug (pv 0) (pv 2) (pip iop_sub)))))
      (pss_cons (ps_while (passes_of rfl) (pt_cmp (pc_lt (fldK (K := K) (pv 0)) (C8.pe_gc rfl T.g_LEAST_SPAN))) (pss_cons (ps_expr (vx_methX0 c_Decoder__shift pat_Decoder__shift_0 (.head _) hr (by decide) (takes_of rfl rfl rfl rfl) (pv 0)))
      (pss_one (ps_fldaug (pv 0) pe_int (pip iop_shlW)))))
      (pss_one (ps_ret (pv 3))))))), ?_⟩
    obtain ⟨KK, EE, hK0, hE, hw⟩ := cW_gen hw
    have S0 := Sep.startM (M := [p_self, l_self_probs, l_self_octs]) sG (all_cons (some_ne h_p_self) (all_cons (some_ne h_l_self_probs) (all_cons (some_ne h_l_self_octs) all_nil))) gM
    unfold F_Decoder__decide at hw
    obtain ⟨g550, hw⟩ := cW_grd hw
    refine ⟨_, rfl, _, _, _, _, _, rfl, h_p_self, T.cl_Decoder, T.n_Decoder__span, rfl, _, _, rfl, rfl, (show (0 : Int) ≤ 12 by decide), _, rfl, _, _, rfl, rfl, g550, ?_⟩
    have hw := cW_bnd hw
    refine vv_if (vt_cmp (vv_cmp (val_fld (val_var rfl) h_p_self T.cl_Decoder T.n_Decoder__value rfl) (val_var rfl) (fun Q q => ⟨_, _, rfl, rfl, q⟩))) val_c val_c _ ?_
    have hw := cW_bnd hw
    refine ⟨fun σ H' => ∃ (self_558 : St_Decoder) (G' : Hp), σ = [some (V.ref p_self), some (V.int (chance')), some (V.int (((self'.span / 4096) * chance'))), some (V.int ((if self'.value < ((self'.span / 4096) * chance') then 0 else 1)))] ∧ Same G G' ∧ Sep [p_self, l_self_probs, l_self_octs] H G G' H' [p_self, l_self_probs, l_self_octs] ∧ H' p_self = some (.ins AD.c_Decoder dx_self [("_probabilities", V.ref l_self_probs), ("_octets", V.ref l_self_octs), ("_place", V.int (self_558.place)), ("_span", V.int (self_558.span)), ("_value", V.int (self_558.value))]) ∧ H' l_self_probs = some (.lst ((self_558.probs : (List Int)).map V.int)) ∧ H' l_self_octs = some (.lst ((self_558.octs : (List Int)).map V.int)) ∧ cW (F_Decoder__decide_k1 ((if self'.value < ((self'.span / 4096) * chance') then 0 else 1)) self_558) KK EE, ?_, ?_⟩
    · obtain ⟨K559, hK560, hw⟩ := cW_push hw
      refine ⟨_, rfl, _, _, rfl, rfl, _, rfl, ?_⟩
      refine iteD (fun c561 => ?_) (fun c561 => ?_)
      · have hw := cW_pos c561 hw
        refine ⟨_, rfl, _, rfl, _, _, _, _, rfl, h_p_self, T.cl_Decoder, T.n_Decoder__span, (by show 5 < 1000; decide), ?_⟩
        generalize g562 : upd H p_self _ = H563
        obtain ⟨x564, h565⟩ := gen_mut g562
        have h566 : H563 p_self = some (.ins AD.c_Decoder dx_self [("_probabilities", V.ref l_self_probs), ("_octets", V.ref l_self_octs), ("_place", V.int (self'.place)), ("_span", V.int (((self'.span / 4096) * chance'))), ("_value", V.int (self'.value))]) := h565
        have S567 := S0.mut1 x564 (.head _) h566
        have hw := cW_ok hw
        have hw := hK560 _ hw
        have h568 := (x564 _ _ h_l_self_probs (ne_of h_l_self_probs h_p_self (fun z => nomatch z)))
        have h569 := (x564 _ _ h_l_self_octs (ne_of h_l_self_octs h_p_self (fun z => nomatch z)))
        exact ⟨((⟨self'.probs, self'.octs, self'.place, ((self'.span / 4096) * chance'), self'.value⟩ : St_Decoder)), _, rfl, (Same.refl _), S567, h566, h568, h569, hw⟩
      · have hw := cW_neg c561 hw
        have hw := cW_bnd hw
        refine ⟨_, rfl, _, _, _, _, _, rfl, h_p_self, T.cl_Decoder, T.n_Decoder__value, rfl, _, rfl, _, _, rfl, rfl, _, _, h_p_self, (by show 5 < 1000; decide), ?_⟩
        generalize g571 : upd H p_self _ = H572
        obtain ⟨x573, h574⟩ := gen_mut g571
        have h575 : H572 p_self = some (.ins AD.c_Decoder dx_self [("_probabilities", V.ref l_self_probs), ("_octets", V.ref l_self_octs), ("_place", V.int (self'.place)), ("_span", V.int (self'.span)), ("_value", V.int ((self'.value - ((self'.span / 4096) * chance'))))]) := h574
        have S576 := S0.mut1 x573 (.head _) h575
        have hw := cW_bnd hw
        refine ⟨_, rfl, _, _, _, _, _, rfl, h575, T.cl_Decoder, T.n_Decoder__span, rfl, _, rfl, _, _, rfl, rfl, _, _, h575, (by show 5 < 1000; decide), ?_⟩
        generalize g578 : upd H572 p_self _ = H579
        obtain ⟨x580, h581⟩ := gen_mut g578
        have h582 : H579 p_self = some (.ins AD.c_Decoder dx_self [("_probabilities", V.ref l_self_probs), ("_octets", V.ref l_self_octs), ("_place", V.int (self'.place)), ("_span", V.int ((self'.span - ((self'.span / 4096) * chance')))), ("_value", V.int ((self'.value - ((self'.span / 4096) * chance'))))]) := h581
        have S583 := S576.mut1 x580 (.head _) h582
        have hw := cW_ok hw
        have hw := hK560 _ hw
        have h584 := (x580 _ _ (x573 _ _ h_l_self_probs (ne_of h_l_self_probs h_p_self (fun z => nomatch z))) (ne_of h_l_self_probs h_p_self (fun z => nomatch z)))
        have h585 := (x580 _ _ (x573 _ _ h_l_self_octs (ne_of h_l_self_octs h_p_self (fun z => nomatch z))) (ne_of h_l_self_octs h_p_self (fun z => nomatch z)))
        exact ⟨((⟨self'.probs, self'.octs, self'.place, (self'.span - ((self'.span / 4096) * chance')), (self'.value - ((self'.span / 4096) * chance'))⟩ : St_Decoder)), _, rfl, (Same.refl _), S583, h582, h584, h585, hw⟩
    · intro σ H586 hw
      obtain ⟨self_558, G591, rfl, eG592, S587, h588, h589, h590, hw⟩ := hw
      unfold F_Decoder__decide_k1 at hw
      obtain ⟨K594, hK595, hw⟩ := cW_push hw
      refine ⟨fun m σ H' => ∃ (self_596 : St_Decoder) (G' : Hp), σ = [some (V.ref p_self), some (V.int (chance')), some (V.int (((self'.span / 4096) * chance'))), some (V.int ((if self'.value < ((self'.span / 4096) * chance') then 0 else 1)))] ∧ Same G591 G' ∧ Sep [p_self, l_self_probs, l_self_octs] H G G' H' [p_self, l_self_probs, l_self_octs] ∧ H' p_self = some (.ins AD.c_Decoder dx_self [("_probabilities", V.ref l_self_probs), ("_octets", V.ref l_self_octs), ("_place", V.int (self_596.place)), ("_span", V.int (self_596.span)), ("_value", V.int (self_596.value))]) ∧ H' l_self_probs = some (.lst ((self_596.probs : (List Int)).map V.int)) ∧ H' l_self_octs = some (.lst ((self_596.octs : (List Int)).map V.int)) ∧ cW (whileR m self_596 (fun s => F_Decoder__decide_b2  s)) K594 EE, ?_, ?_⟩
      · exact ⟨_, ⟨(self_558), _, rfl, (Same.refl _), S587, h588, h589, h590, hw⟩⟩
      · intro m σ H597 hw
        obtain ⟨self_596, G602, rfl, eG603, S598, h599, h600, h601, hw⟩ := hw
        obtain ⟨m604, rfl, hw2⟩ := cW_whileR hw
        have hw := hw2
        have hw : cW (F_Decoder__decide_b2  (self_596)) _ EE := hw
        unfold F_Decoder__decide_b2 at hw
        obtain ⟨K606, hK607, hw⟩ := cW_name hw
        refine ⟨_, rfl, _, _, _, _, _, rfl, h599, T.cl_Decoder, T.n_Decoder__span, rfl, _, _, rfl, rfl, _, rfl, ?_⟩
        refine iteD (fun c608 => ?_) (fun c608 => ?_)
        · have hw := cW_pos c608 hw
          refine ⟨(fun σ H' => ∃ m, (∃ (self_596 : St_Decoder) (G' : Hp), σ = [some (V.ref p_self), some (V.int (chance')), some (V.int (((self'.span / 4096) * chance'))), some (V.int ((if self'.value < ((self'.span / 4096) * chance') then 0 else 1)))] ∧ Same G591 G' ∧ Sep [p_self, l_self_probs, l_self_octs] H G G' H' [p_self, l_self_probs, l_self_octs] ∧ H' p_self = some (.ins AD.c_Decoder dx_self [("_probabilities", V.ref l_self_probs), ("_octets", V.ref l_self_octs), ("_place", V.int (self_596.place)), ("_span", V.int (self_596.span)), ("_value", V.int (self_596.value))]) ∧ H' l_self_probs = some (.lst ((self_596.probs : (List Int)).map V.int)) ∧ H' l_self_octs = some (.lst ((self_596.octs : (List Int)).map V.int)) ∧ cW (whileR m self_596 (fun s => F_Decoder__decide_b2  s)) K594 EE) ∧ m < m604 + 1), (fun _ _ ⟨m', a, b⟩ => ⟨m', b, a⟩), ?_⟩
          refine ⟨_, rfl, _, _, _, rfl, h599, rfl, rfl, rfl, G602, _, _, _, _, self_596, rfl, S598.sG, (S598.gno (all_cons (.head _) (all_cons (.tail _ (.head _)) (all_cons (.tail _ (.tail _ (.head _))) all_nil)))), h599, h600, h601, ne_self_0, cW_callN hw (fun v609 hw H610 x611 h613 h614 h615  => ?_) trivial⟩
          have S612 := S598.mut x611 (all_cons (.head _) (all_cons (.tail _ (.head _)) (all_cons (.tail _ (.tail _ (.head _))) all_nil))) (all_cons (some_ne h613) (all_cons (some_ne h614) (all_cons (some_ne h615) all_nil)))
          obtain ⟨g620, hw⟩ := cW_grd hw
          have hw := cW_bnd hw
          refine ⟨_, rfl, _, _, _, _, _, rfl, h613, T.cl_Decoder, T.n_Decoder__span, rfl, _, _, rfl, rfl, (shl_side g620.1 g620.2.1 g620.2.2.1 g620.2.2.2), _, _, h613, (by show 5 < 1000; decide), ?_⟩
          generalize g622 : upd H610 p_self _ = H623
          obtain ⟨x624, h625⟩ := gen_mut g622
          have h626 : H623 p_self = some (.ins AD.c_Decoder dx_self [("_probabilities", V.ref l_self_probs), ("_octets", V.ref l_self_octs), ("_place", V.int (v609.place)), ("_span", V.int ((v609.span * 2 ^ Int.toNat (8)))), ("_value", V.int (v609.value))]) := h625
          have S627 := S612.mut1 x624 (.head _) h626
          have hw := cW_ok hw
          have hw := hK607 _ hw
          have h628 := (x624 _ _ h614 (ne_of h614 h613 (fun z => nomatch z)))
          have h629 := (x624 _ _ h615 (ne_of h615 h613 (fun z => nomatch z)))
          exact ⟨m604, ⟨((⟨v609.probs, v609.octs, v609.place, (v609.span * 2 ^ Int.toNat (8)), v609.value⟩ : St_Decoder)), _, rfl, eG603, S627, h626, h628, h629, hw⟩, Nat.lt_succ_self _⟩
        · have hw := cW_neg c608 hw
          have hw := cW_ok hw
          have hw := hK607 _ hw
          have hw := hK595 (.go _) hw
          have hw : cW (F_Decoder__decide_r2 ((if self'.value < ((self'.span / 4096) * chance') then 0 else 1)) (self_596)) _ EE := hw
          unfold F_Decoder__decide_r2 at hw
          refine ⟨_, rfl, ?_⟩
          have hw := cW_ok hw
          exact hK0 _ hw _ S598.base h599 h600 h601

abbrev N_Decoder_read : List Str := ["self", "context", "chance", "decision"]
theorem sc_Decoder_read : FnScope N_Decoder_read ["self", "context"] (defScope s_Decoder_read) := ⟨rfl, rfl, rfl, by decide +kernel, rfl, by decide +kernel, by decide +kernel⟩
theorem ok_Decoder_read (D : MethX K AD.c_Decoder "Decoder.read" "read" s_Decoder_read ["self", "context"] pats_Decoder_read) (T : Txt K mg AD) (c__check_context : CalX P w K mg base 1 "_check_context" (sp__check_context K AD) pats__check_context) (c_Decoder__decide : MetX P w K mg base 2 AD.c_Decoder "_decide" (sp_Decoder__decide K AD) pats_Decoder__decide) (c__adapted : CalX P w K mg base 1 "_adapted" (sp__adapted K AD) pats__adapted) : MetX P w K mg base 3 AD.c_Decoder "read" (sp_Decoder_read K AD) pats_Decoder_read := by
  refine D.ok T.cl_Decoder sc_Decoder_read (fun vs H Q E h => ?_) (fun f cdv A_ outer s H vs Q E hr h => ?_)
  · obtain ⟨G, p_self, l_self_probs, l_self_octs, dx_self, self', context', rfl, _⟩ := h
    rfl
  · obtain ⟨G, p_self, l_self_probs, l_self_octs, dx_self, self', context', rfl, sG, gM, h_p_self, h_l_self_probs, h_l_self_octs, ne_self_0, hw⟩ := h
    refine ⟨_, (pss_cons (ps_expr (vx_callX c__check_context pat__check_context_0 (.head _) hr (by decide) (takes_of rfl rfl rfl rfl) rfl (pa_cons (pv 1) pa_nil) pk_nil))
      (pss_cons (ps_set (i := 2) sc_Decoder_read.nd rfl (Or.inl rfl) (pe_ix (ix_listK (K := K)) (fldK (K := K) (pv 0)) (pv 1) (fun _ _ => rfl)))
      (pss_cons (ps_set (i := 3) sc_Decoder_read.nd rfl (Or.inl rfl) (vx_methX c_Decoder__decide pat_Decoder__decide_0 (.head _) hr (by decide) (takes_of rfl rfl rfl rfl) (pv 0) (pa_cons (pv 2) pa_nil) pk_nil))
      (pss_cons (ps_asg (vx_callX c__adapted pat__adapted_0 (.head _) hr (by decide) (takes_of rfl rfl rfl rfl) rfl (pa_cons (pv 2) (pa_cons (pv 3) pa_nil)) pk_nil) (pg_sub (fldK (K := K) (pv 0)) (pv 1) set_list))
      (pss_one (ps_ret (pv 3))))))), ?_⟩
    obtain ⟨KK, EE, hK0, hE, hw⟩ := cW_gen hw
    have S0 := Sep.startM (M := [p_self, l_self_probs, l_self_octs]) sG (all_cons (some_ne h_p_self) (all_cons (some_ne h_l_self_probs) (all_cons (some_ne h_l_self_octs) all_nil))) gM
    unfold F_Decoder_read at hw
    refine ⟨_, rfl, rfl, rfl, G, _, rfl, S0.sG, cW_call hw (fun v631 hw => ?_) (fun e he => hE e he _ (Same.refl _))⟩
    obtain ⟨g632, hw⟩ := cW_grd hw
    refine ⟨_, rfl, _, _, _, _, _, rfl, h_p_self, T.cl_Decoder, T.n_Decoder__probabilities, rfl, _, rfl, _, _, _, _, rfl, rfl, (SqL.of h_l_self_probs), (atI_map g632), ?_⟩
    have hw := cW_bnd hw
    refine ⟨_, rfl, _, _, _, rfl, h_p_self, rfl, _, rfl, rfl, rfl, G, _, _, _, _, self', _, rfl, S0.sG, (S0.gno (all_cons (.head _) (all_cons (.tail _ (.head _)) (all_cons (.tail _ (.tail _ (.head _))) all_nil)))), h_p_self, h_l_self_probs, h_l_self_octs, ne_self_0, cW_call hw (fun v634 hw H635 x636 h638 h639 h640  => ?_) (fun e he H2 e2 => hE e he H2 (Same.trans (Same.refl _) e2))⟩
    have S637 := S0.mut x636 (all_cons (.head _) (all_cons (.tail _ (.head _)) (all_cons (.tail _ (.tail _ (.head _))) all_nil))) (all_cons (some_ne h638) (all_cons (some_ne h639) (all_cons (some_ne h640) all_nil)))
    refine ⟨_, rfl, _, rfl, rfl, rfl, G, _, _, rfl, S637.sG, cW_callN hw (fun v645 hw => ?_) trivial⟩
    obtain ⟨g646, hw⟩ := cW_grd hw
    refine ⟨_, rfl, _, _, _, _, _, rfl, h638, T.cl_Decoder, T.n_Decoder__probabilities, rfl, _, rfl, _, _, _, _, rfl, rfl, h639, (ixN_map g646), ?_⟩
    generalize g647 : upd H635 l_self_probs _ = H648
    obtain ⟨x649, h650⟩ := gen_mut g647
    have h651 : H648 l_self_probs = some (.lst ((setL (v634.2.probs) (context') (v645) : (List Int)).map V.int)) := set_map h650
    have S652 := S637.mut1 x649 (.tail _ (.head _)) h651
    have hw := cW_bnd hw
    refine ⟨_, rfl, ?_⟩
    have h654 := (x649 _ _ h638 (ne_of h638 h639 (fun z => nomatch z)))
    have h655 := (x649 _ _ h640 (ne_self_0).symm)
    have hw := cW_ok hw
    exact hK0 _ hw _ S652.base h654 h651 h655

abbrev N_Decoder_read_even : List Str := ["self"]
theorem sc_Decoder_read_even : FnScope N_Decoder_read_even ["self"] (defScope s_Decoder_read_even) := ⟨rfl, rfl, rfl, by decide +kernel, rfl, by decide +kernel, by decide +kernel⟩
theorem ok_Decoder_read_even (D : MethX K AD.c_Decoder "Decoder.read_even" "read_even" s_Decoder_read_even ["self"] pats_Decoder_read_even) (T : Txt K mg AD) (c_Decoder__decide : MetX P w K mg base 2 AD.c_Decoder "_decide" (sp_Decoder__decide K AD) pats_Decoder__decide) : MetX P w K mg base 3 AD.c_Decoder "read_even" (sp_Decoder_read_even K AD) pats_Decoder_read_even := by
  refine D.ok T.cl_Decoder sc_Decoder_read_even (fun vs H Q E h => ?_) (fun f cdv A_ outer s H vs Q E hr h => ?_)
  · obtain ⟨G, p_self, l_self_probs, l_self_octs, dx_self, self', rfl, _⟩ := h
    rfl
  · obtain ⟨G, p_self, l_self_probs, l_self_octs, dx_self, self', rfl, sG, gM, h_p_self, h_l_self_probs, h_l_self_octs, ne_self_0, hw⟩ := h
    refine ⟨_, (pss_one (ps_ret (vx_methX c_Decoder__decide pat_Decoder__decide_0 (.head _) hr (by decide) (takes_of rfl rfl rfl rfl) (pv 0) (pa_cons (C8.pe_gc rfl T.g_EVEN) pa_nil) pk_nil))), ?_⟩
    obtain ⟨KK, EE, hK0, hE, hw⟩ := cW_gen hw
    have S0 := Sep.startM (M := [p_self, l_self_probs, l_self_octs]) sG (all_cons (some_ne h_p_self) (all_cons (some_ne h_l_self_probs) (all_cons (some_ne h_l_self_octs) all_nil))) gM
    unfold F_Decoder_read_even at hw
    refine ⟨_, rfl, _, _, _, rfl, h_p_self, rfl, rfl, rfl, G, _, _, _, _, self', _, rfl, S0.sG, (S0.gno (all_cons (.head _) (all_cons (.tail _ (.head _)) (all_cons (.tail _ (.tail _ (.head _))) all_nil)))), h_p_self, h_l_self_probs, h_l_self_octs, ne_self_0, cW_call hw (fun v656 hw H657 x658 h660 h661 h662  => ?_) (fun e he H2 e2 => hE e he H2 (Same.trans (Same.refl _) e2))⟩
    have S659 := S0.mut x658 (all_cons (.head _) (all_cons (.tail _ (.head _)) (all_cons (.tail _ (.tail _ (.head _))) all_nil))) (all_cons (some_ne h660) (all_cons (some_ne h661) (all_cons (some_ne h662) all_nil)))
    have hw := cW_ok hw
    exact hK0 _ hw _ S659.base h660 h661 h662

abbrev N__law_moved : List Str := ["p", "decision"]
theorem sc__law_moved : FnScope N__law_moved ["p", "decision"] (defScope s__law_moved) := ⟨rfl, rfl, rfl, by decide +kernel, rfl, by decide +kernel, by decide +kernel⟩
theorem ok__law_moved (D : DefX K mg "_law_moved" s__law_moved ["p", "decision"] pats__law_moved) (T : Txt K mg AD)  : CalX P w K mg base 1 "_law_moved" (sp__law_moved K AD) pats__law_moved := by
  refine D.ok sc__law_moved (fun vs H Q E h => ?_) (fun f cdv A_ outer s H vs Q E hr h => ?_)
  · obtain ⟨G, p', decision', rfl, _⟩ := h
    rfl
  · obtain ⟨G, p', decision', rfl, sG, hw⟩ := h
    refine ⟨_, (pss_cons (ps_if (pt_cmp (pc_eqI (pv 1) pe_int)) (pss_one (ps_ret (pe_op op_add (pv 0) (pe_op op_shr (pe_op op_sub pe_int (pv 0)) pe_int)))) pss_nil)
      (pss_one (ps_ret (pe_op op_sub (pv 0) (pe_op op_shr (pv 0) pe_int))))), ?_⟩
    obtain ⟨KK, EE, hK0, hE, hw⟩ := cW_gen hw
    have S0 := Sep.startG sG
    unfold F__law_moved at hw
    refine ⟨_, rfl, _, _, rfl, rfl, _, rfl, ?_⟩
    refine iteD (fun c667 => ?_) (fun c667 => ?_)
    · have hw := cW_pos c667 hw
      refine ⟨_, rfl, _, rfl, _, _, rfl, rfl, _, _, rfl, rfl, (show (0 : Int) ≤ 5 by decide), _, _, rfl, rfl, ?_⟩
      have hw := cW_ok hw
      exact hK0 _ hw
    · have hw := cW_neg c667 hw
      refine ⟨_, rfl, _, rfl, _, _, rfl, rfl, (show (0 : Int) ≤ 5 by decide), _, _, rfl, rfl, ?_⟩
      have hw := cW_ok hw
      exact hK0 _ hw

abbrev N__law_next : List Str := ["state", "chances", "context", "part", "decision", "k", "octet"]
theorem sc__law_next : FnScope N__law_next ["state", "chances", "context"] (defScope s__law_next) := ⟨rfl, rfl, rfl, by decide +kernel, rfl, by decide +kernel, by decide +kernel⟩
theorem ok__law_next (D : DefX K mg "_law_next" s__law_next ["state", "chances", "context"] pats__law_next) (T : Txt K mg AD) (c__law_moved : CalX P w K mg base 1 "_law_moved" (sp__law_moved K AD) pats__law_moved) : CalX P w K mg base 2 "_law_next" (sp__law_next K AD) pats__law_next := by
  refine D.ok sc__law_next (fun vs H Q E h => ?_) (fun f cdv A_ outer s H vs Q E hr h => ?_)
  · obtain ⟨G, p_state, l_state_3, state', a_chances, chances', context', rfl, _⟩ := h
    rfl
  · obtain ⟨G, p_state, l_state_3, state', a_chances, chances', context', rfl, sG, gM, h_p_state, h_l_state_3, ne_state_0, h_a_chances, nx_0, nx_1, hw⟩ := h
    refine ⟨_, (pss_cons (ps_set (i := 3) sc__law_next.nd rfl (Or.inl rfl) (pe_op op_mul (pe_op op_shr (pe_ix (ix_listK (K := K)) (pv 0) pe_int (fun _ _ => rfl)) pe_int) (pe_ix (ix_listK (K := K)) (pv 1) (pv 2) (fun _ _ => rfl))))
      (pss_cons (ps_set (i := 4) sc__law_next.nd rfl (Or.inl rfl) (pe_callTy call_int1 (by rfl) T.b_int (by decide +kernel) (pa_cons (pe_cmp (pc_ge (pe_ix (ix_listK (K := K)) (pv 0) pe_int (fun _ _ => rfl)) (pv 3))) pa_nil)))
      (C8.pss_cut (ps_if (pt_cmp (pc_eqI (pv 4) pe_int)) (pss_one (ps_asg (pv 3) (pg_sub (pv 0) pe_int set_list))) (pss_cons (ps_asg (pe_op op_sub (pe_ix (ix_listK (K := K)) (pv 0) pe_int (fun _ _ => rfl)) (pv 3)) (pg_sub (pv 0) pe_int set_list))
      (pss_one (ps_asg (pe_op op_sub (pe_ix (ix_listK (K := K)) (pv 0) pe_int (fun _ _ => rfl)) (pv 3)) (pg_sub (pv 0) pe_int set_list)))))
      (pss_cons (ps_for (passes_of rfl) rfl (pi_range1 rfl T.b_range (pa_cons pe_int pa_nil)) (pg_name (i := 5) sc__law_next.nd rfl (Or.inl rfl)) (pss_one (ps_if (pt_cmp (pc_lt (pe_ix (ix_listK (K := K)) (pv 0) pe_int (fun _ _ => rfl)) (pe_op op_pow pe_int pe_int))) (pss_cons (ps_set (i := 6) sc__law_next.nd rfl (Or.inl rfl) pe_int)
      (C8.pss_cut (ps_if (pt_cmp (pc_lt (pe_ix (ix_listK (K := K)) (pv 0) pe_int (fun _ _ => rfl)) (pe_callB (call_lenLiK (K := K)) (by rfl) T.b_len (by decide +kernel) (pa_cons (pe_ix (ix_listK (K := K)) (pv 0) pe_int (fun _ _ => rfl)) pa_nil)))) (pss_one (ps_set (i := 6) sc__law_next.nd rfl (Or.inl rfl) (pe_ix (ix_listK (K := K)) (pe_ix (ix_listK (K := K)) (pv 0) pe_int (fun _ _ => rfl)) (pe_ix (ix_listK (K := K)) (pv 0) pe_int (fun _ _ => rfl)) (fun _ _ => rfl)))) pss_nil)
      (pss_cons (ps_asg (pe_op op_add (pe_op op_mul (pe_ix (ix_listK (K := K)) (pv 0) pe_int (fun _ _ => rfl)) pe_int) (pv 6)) (pg_sub (pv 0) pe_int set_list))
      (pss_cons (ps_asg (pe_op op_mul (pe_ix (ix_listK (K := K)) (pv 0) pe_int (fun _ _ => rfl)) pe_int) (pg_sub (pv 0) pe_int set_list))
      (pss_one (ps_asg (pe_op op_add (pe_ix (ix_listK (K := K)) (pv 0) pe_int (fun _ _ => rfl)) pe_int) (pg_sub (pv 0) pe_int set_list))))))) pss_nil)))
      (C8.pss_cut (ps_if (pt_cmp (pc_lt (pv 2) pe_int)) (pss_one (ps_asg (vx_callX c__law_moved pat__law_moved_0 (.head _) hr (by decide) (takes_of rfl rfl rfl rfl) rfl (pa_cons (pe_ix (ix_listK (K := K)) (pv 1) (pv 2) (fun _ _ => rfl)) (pa_cons (pv 4) pa_nil)) pk_nil) (pg_sub (pv 1) (pv 2) set_list))) pss_nil)
      (pss_one (ps_ret (pv 4)))))))), ?_⟩
    obtain ⟨KK, EE, hK0, hE, hw⟩ := cW_gen hw
    have S0 := Sep.startM (M := [p_state, l_state_3, a_chances]) sG (all_cons (some_ne h_p_state) (all_cons (some_ne h_l_state_3) (all_cons (some_ne h_a_chances) all_nil))) gM
    unfold F__law_next at hw
    obtain ⟨g668, hw⟩ := cW_grd hw
    obtain ⟨g669, hw⟩ := cW_grd hw
    refine ⟨_, rfl, _, _, _, _, rfl, rfl, (SqL.of h_p_state), rfl, _, _, rfl, rfl, (show (0 : Int) ≤ 12 by decide), _, rfl, _, rfl, _, _, _, _, rfl, rfl, (SqL.of h_a_chances), (atI_map g668), _, _, rfl, rfl, g669, ?_⟩
    have hw := cW_bnd hw
    refine ⟨_, rfl, _, _, _, _, rfl, rfl, (SqL.of h_p_state), rfl, _, rfl, _, _, rfl, rfl, .inr ⟨_, rfl, ?_⟩⟩
    have hw := cW_bnd hw
    refine ⟨fun σ H' => ∃ (state_676 : (Int × Int × Int × (List Int))) (G' : Hp), σ = [some (V.ref p_state), some (V.ref a_chances), some (V.int (context')), some (V.int (((state'.2.1 / 4096) * (itD (chances') (context'))))), some (V.int ((if decide (((state'.2.1 / 4096) * (itD (chances') (context'))) ≤ state'.1) = true then 1 else 0))), none, none] ∧ Same G G' ∧ Sep [p_state, l_state_3, a_chances] H G G' H' [p_state, l_state_3, a_chances] ∧ H' p_state = some (.lst [V.int (state_676.1), V.int (state_676.2.1), V.int (state_676.2.2.1), V.ref l_state_3]) ∧ H' l_state_3 = some (.lst ((state_676.2.2.2 : (List Int)).map V.int)) ∧ H' a_chances = some (.lst ((chances' : (List Int)).map V.int)) ∧ cW (F__law_next_k1 (chances') (context') ((if decide (((state'.2.1 / 4096) * (itD (chances') (context'))) ≤ state'.1) = true then 1 else 0)) state_676) KK EE, ?_, ?_⟩
    · obtain ⟨K677, hK678, hw⟩ := cW_push hw
      refine ⟨_, rfl, _, _, rfl, rfl, _, rfl, ?_⟩
      refine iteD (fun c679 => ?_) (fun c679 => ?_)
      · have hw := cW_pos c679 hw
        refine ⟨_, rfl, _, rfl, _, _, _, _, rfl, rfl, h_p_state, rfl, ?_⟩
        generalize g680 : upd H p_state _ = H681
        obtain ⟨x682, h683⟩ := gen_mut g680
        have h684 : H681 p_state = some (.lst [V.int (state'.1), V.int (((state'.2.1 / 4096) * (itD (chances') (context')))), V.int (state'.2.2.1), V.ref l_state_3]) := h683
        have S685 := S0.mut1 x682 (.head _) h684
        have hw := cW_ok hw
        have hw := hK678 _ hw
        have h686 := (x682 _ _ h_l_state_3 (ne_state_0).symm)
        have h687 := (x682 _ _ h_a_chances (nx_0).symm)
        exact ⟨((state'.1, ((state'.2.1 / 4096) * (itD (chances') (context'))), state'.2.2.1, state'.2.2.2)), _, rfl, (Same.refl _), S685, h684, h686, h687, hw⟩
      · have hw := cW_neg c679 hw
        have hw := cW_bnd hw
        refine ⟨_, rfl, _, _, _, _, rfl, rfl, (SqL.of h_p_state), rfl, _, rfl, _, _, rfl, rfl, _, rfl, _, _, _, _, rfl, rfl, h_p_state, rfl, ?_⟩
        generalize g689 : upd H p_state _ = H690
        obtain ⟨x691, h692⟩ := gen_mut g689
        have h693 : H690 p_state = some (.lst [V.int ((state'.1 - ((state'.2.1 / 4096) * (itD (chances') (context'))))), V.int (state'.2.1), V.int (state'.2.2.1), V.ref l_state_3]) := h692
        have S694 := S0.mut1 x691 (.head _) h693
        have hw := cW_bnd hw
        refine ⟨_, rfl, _, _, _, _, rfl, rfl, (SqL.of h693), rfl, _, rfl, _, _, rfl, rfl, _, rfl, _, _, _, _, rfl, rfl, h693, rfl, ?_⟩
        generalize g696 : upd H690 p_state _ = H697
        obtain ⟨x698, h699⟩ := gen_mut g696
        have h700 : H697 p_state = some (.lst [V.int ((state'.1 - ((state'.2.1 / 4096) * (itD (chances') (context'))))), V.int ((state'.2.1 - ((state'.2.1 / 4096) * (itD (chances') (context'))))), V.int (state'.2.2.1), V.ref l_state_3]) := h699
        have S701 := S694.mut1 x698 (.head _) h700
        have hw := cW_ok hw
        have hw := hK678 _ hw
        have h702 := (x698 _ _ (x691 _ _ h_l_state_3 (ne_state_0).symm) (ne_state_0).symm)
        have h703 := (x698 _ _ (x691 _ _ h_a_chances (nx_0).symm) (nx_0).symm)
        exact ⟨(((state'.1 - ((state'.2.1 / 4096) * (itD (chances') (context')))), (state'.2.1 - ((state'.2.1 / 4096) * (itD (chances') (context')))), state'.2.2.1, state'.2.2.2)), _, rfl, (Same.refl _), S701, h700, h702, h703, hw⟩
    · intro σ H704 hw
      obtain ⟨state_676, G709, rfl, eG710, S705, h706, h707, h708, hw⟩ := hw
      unfold F__law_next_k1 at hw
      obtain ⟨K714, hK715, hw⟩ := cW_push hw
      refine ⟨_, rfl, (by decide), (by decide), for_range (lo := 0) (n := Int.toNat (4)) (fun i σ H' => ∃ (state_716 : (Int × Int × Int × (List Int))) (u717 : Option V) (u718 : Option V) (G' : Hp), σ = [some (V.ref p_state), some (V.ref a_chances), some (V.int (context')), some (V.int (((state'.2.1 / 4096) * (itD (chances') (context'))))), some (V.int ((if decide (((state'.2.1 / 4096) * (itD (chances') (context'))) ≤ state'.1) = true then 1 else 0))), u717, u718] ∧ Same G709 G' ∧ Sep [p_state, l_state_3, a_chances] H G G' H' [p_state, l_state_3, a_chances] ∧ H' p_state = some (.lst [V.int (state_716.1), V.int (state_716.2.1), V.int (state_716.2.2.1), V.ref l_state_3]) ∧ H' l_state_3 = some (.lst ((state_716.2.2.2 : (List Int)).map V.int)) ∧ H' a_chances = some (.lst ((chances' : (List Int)).map V.int)) ∧ cW (forS (List.drop i (rng (0) (Int.toNat (4)))) state_716 (fun s x => F__law_next_b2  s x)) K714 EE) ?_ ?_ ?_⟩
      · exact ⟨(state_676), _, _, _, rfl, (Same.refl _), S705, h706, h707, h708, hw⟩
      · intro i σ H719 hi hw
        obtain ⟨state_716, u717, u718, G724, rfl, eG725, S720, h721, h722, h723, hw⟩ := hw
        have hw := cW_forS (rng_get hi) hw
        generalize (0 + (i : Int)) = x726 at hw ⊢
        have hw : cW (F__law_next_b2  (state_716) (x726)) _ EE := hw
        unfold F__law_next_b2 at hw
        obtain ⟨K728, hK729, hw⟩ := cW_name hw
        refine ⟨_, rfl, _, _, _, _, rfl, rfl, (SqL.of h721), rfl, _, _, rfl, rfl, ⟨by decide, by decide, by decide⟩, _, _, rfl, rfl, _, rfl, ?_⟩
        refine iteD (fun c731 => ?_) (fun c731 => ?_)
        · have hw := cW_pos c731 hw
          refine ⟨fun σ H' => ∃ (octet_734 : Int) (G' : Hp), σ = [some (V.ref p_state), some (V.ref a_chances), some (V.int (context')), some (V.int (((state'.2.1 / 4096) * (itD (chances') (context'))))), some (V.int ((if decide (((state'.2.1 / 4096) * (itD (chances') (context'))) ≤ state'.1) = true then 1 else 0))), some (V.int (x726)), some (V.int octet_734)] ∧ Same G724 G' ∧ Sep [p_state, l_state_3, a_chances] H G G' H' [p_state, l_state_3, a_chances] ∧ H' p_state = some (.lst [V.int (state_716.1), V.int (state_716.2.1), V.int (state_716.2.2.1), V.ref l_state_3]) ∧ H' l_state_3 = some (.lst ((state_716.2.2.2 : (List Int)).map V.int)) ∧ H' a_chances = some (.lst ((chances' : (List Int)).map V.int)) ∧ cW (F__law_next_k3 (state_716) octet_734) K728 EE, ?_, ?_⟩
          · obtain ⟨K735, hK736, hw⟩ := cW_push hw
            refine ⟨_, rfl, _, _, _, _, rfl, rfl, (SqL.of h721), rfl, _, rfl, _, _, _, _, rfl, rfl, (SqL.of h721), rfl, _, _, rfl, (SqL.of h722), _, _, rfl, rfl, _, rfl, ?_⟩
            refine iteD (fun c737 => ?_) (fun c737 => ?_)
            · have hw := cW_pos c737 hw
              obtain ⟨g738, hw⟩ := cW_grd hw
              refine ⟨_, rfl, _, _, _, _, rfl, rfl, (SqL.of h721), rfl, _, rfl, _, _, _, _, rfl, rfl, (SqL.of h721), rfl, _, _, _, _, rfl, rfl, (SqL.of h722), (atI_map g738), ?_⟩
              have hw := cW_bnd hw
              have hw := cW_ok hw
              have hw := hK736 _ hw
              exact ⟨((itD (state_716.2.2.2) (state_716.2.2.1))), _, rfl, (Same.refl _), S720, h721, h722, h723, hw⟩
            · have hw := cW_neg c737 hw
              have hw := cW_ok hw
              have hw := hK736 _ hw
              exact ⟨(0), _, rfl, (Same.refl _), S720, h721, h722, h723, hw⟩
          · intro σ H740 hw
            obtain ⟨octet_734, G745, rfl, eG746, S741, h742, h743, h744, hw⟩ := hw
            unfold F__law_next_k3 at hw
            have hw := cW_bnd hw
            refine ⟨_, rfl, _, _, _, _, rfl, rfl, (SqL.of h742), rfl, _, _, rfl, rfl, (.inr ⟨by decide, by decide⟩), _, rfl, _, _, rfl, rfl, _, rfl, _, _, _, _, rfl, rfl, h742, rfl, ?_⟩
            generalize g748 : upd H740 p_state _ = H749
            obtain ⟨x750, h751⟩ := gen_mut g748
            have h752 : H749 p_state = some (.lst [V.int (((state_716.1 * 256) + octet_734)), V.int (state_716.2.1), V.int (state_716.2.2.1), V.ref l_state_3]) := h751
            have S753 := S741.mut1 x750 (.head _) h752
            have hw := cW_bnd hw
            refine ⟨_, rfl, _, _, _, _, rfl, rfl, (SqL.of h752), rfl, _, _, rfl, rfl, (.inr ⟨by decide, by decide⟩), _, rfl, _, _, _, _, rfl, rfl, h752, rfl, ?_⟩
            generalize g755 : upd H749 p_state _ = H756
            obtain ⟨x757, h758⟩ := gen_mut g755
            have h759 : H756 p_state = some (.lst [V.int (((state_716.1 * 256) + octet_734)), V.int ((state_716.2.1 * 256)), V.int (state_716.2.2.1), V.ref l_state_3]) := h758
            have S760 := S753.mut1 x757 (.head _) h759
            have hw := cW_bnd hw
            refine ⟨_, rfl, _, _, _, _, rfl, rfl, (SqL.of h759), rfl, _, _, rfl, rfl, _, rfl, _, _, _, _, rfl, rfl, h759, rfl, ?_⟩
            generalize g762 : upd H756 p_state _ = H763
            obtain ⟨x764, h765⟩ := gen_mut g762
            have h766 : H763 p_state = some (.lst [V.int (((state_716.1 * 256) + octet_734)), V.int ((state_716.2.1 * 256)), V.int ((state_716.2.2.1 + 1)), V.ref l_state_3]) := h765
            have S767 := S760.mut1 x764 (.head _) h766
            have hw := cW_ok hw
            have hw := hK729 _ hw
            have h768 := (x764 _ _ (x757 _ _ (x750 _ _ h743 (ne_state_0).symm) (ne_state_0).symm) (ne_state_0).symm)
            have h769 := (x764 _ _ (x757 _ _ (x750 _ _ h744 (nx_0).symm) (nx_0).symm) (nx_0).symm)
            exact ⟨((((state_716.1 * 256) + octet_734), (state_716.2.1 * 256), (state_716.2.2.1 + 1), state_716.2.2.2)), _, _, _, rfl, (Same.trans eG725 eG746), S767, h766, h768, h769, hw⟩
        · have hw := cW_neg c731 hw
          have hw := cW_ok hw
          have hw := hK729 _ hw
          exact ⟨(state_716), _, _, _, rfl, eG725, S720, h721, h722, h723, hw⟩
      · intro σ H770 hw
        obtain ⟨state_716, u717, u718, G775, rfl, eG776, S771, h772, h773, h774, hw⟩ := hw
        have hw := hK715 _ (cW_forS0 (rng_len _ _).symm hw)
        have hw : cW (F__law_next_r2 (chances') (context') ((if decide (((state'.2.1 / 4096) * (itD (chances') (context'))) ≤ state'.1) = true then 1 else 0)) (state_716)) _ EE := hw
        unfold F__law_next_r2 at hw
        refine ⟨fun σ H' => ∃ (chances_781 : (List Int)) (G' : Hp), σ = [some (V.ref p_state), some (V.ref a_chances), some (V.int (context')), some (V.int (((state'.2.1 / 4096) * (itD (chances') (context'))))), some (V.int ((if decide (((state'.2.1 / 4096) * (itD (chances') (context'))) ≤ state'.1) = true then 1 else 0))), u717, u718] ∧ Same G775 G' ∧ Sep [p_state, l_state_3, a_chances] H G G' H' [p_state, l_state_3, a_chances] ∧ H' p_state = some (.lst [V.int (state_716.1), V.int (state_716.2.1), V.int (state_716.2.2.1), V.ref l_state_3]) ∧ H' l_state_3 = some (.lst ((state_716.2.2.2 : (List Int)).map V.int)) ∧ H' a_chances = some (.lst ((chances_781 : (List Int)).map V.int)) ∧ cW (F__law_next_k4 (state_716) ((if decide (((state'.2.1 / 4096) * (itD (chances') (context'))) ≤ state'.1) = true then 1 else 0)) chances_781) KK EE, ?_, ?_⟩
        · obtain ⟨K782, hK783, hw⟩ := cW_push hw
          refine ⟨_, rfl, _, _, rfl, rfl, _, rfl, ?_⟩
          refine iteD (fun c784 => ?_) (fun c784 => ?_)
          · have hw := cW_pos c784 hw
            obtain ⟨g785, hw⟩ := cW_grd hw
            refine ⟨_, rfl, _, rfl, _, _, _, _, rfl, rfl, (SqL.of h774), (atI_map g785), _, rfl, rfl, rfl, G775, _, _, rfl, S771.sG, cW_callN hw (fun v786 hw => ?_) trivial⟩
            obtain ⟨g787, hw⟩ := cW_grd hw
            refine ⟨_, rfl, _, rfl, _, _, _, _, rfl, rfl, h774, (ixN_map g787), ?_⟩
            generalize g788 : upd H770 a_chances _ = H789
            obtain ⟨x790, h791⟩ := gen_mut g788
            have h792 : H789 a_chances = some (.lst ((setL (chances') (context') (v786) : (List Int)).map V.int)) := set_map h791
            have S793 := S771.mut1 x790 (.tail _ (.tail _ (.head _))) h792
            have hw := cW_bnd hw
            have hw := cW_ok hw
            have hw := hK783 _ hw
            have h795 := (x790 _ _ h772 nx_0)
            have h796 := (x790 _ _ h773 nx_1)
            exact ⟨(setL (chances') (context') (v786)), _, rfl, (Same.refl _), S793, h795, h796, h792, hw⟩
          · have hw := cW_neg c784 hw
            have hw := cW_ok hw
            have hw := hK783 _ hw
            exact ⟨(chances'), _, rfl, (Same.refl _), S771, h772, h773, h774, hw⟩
        · intro σ H797 hw
          obtain ⟨chances_781, G802, rfl, eG803, S798, h799, h800, h801, hw⟩ := hw
          unfold F__law_next_k4 at hw
          refine ⟨_, rfl, ?_⟩
          have hw := cW_ok hw
          exact hK0 _ hw _ S798.base h799 h800 h801

abbrev N_law : List Str := ["script", "first", "octets", "kept", "decoder", "k", "state", "chances", "items", "item", "context", "actual", "chance"]
theorem sc_law : FnScope N_law ["script"] (defScope s_law) := ⟨rfl, rfl, rfl, by decide +kernel, rfl, by decide +kernel, by decide +kernel⟩
theorem ok_law {f : Addr} {fd : FuncData} (F : Fun K "law" "law" s_law f fd) (T : Txt K mg AD) (c__law_cell : CalX P w K mg base 1 "_law_cell" (sp__law_cell K AD) pats__law_cell) (c__law_draws : CalX P w K mg base 1 "_law_draws" (sp__law_draws K AD) pats__law_draws) (c_Decoder___init__ : MakX P w K mg base 2 "Decoder" AD.c_Decoder (sp_Decoder___init__ K AD) pats_Decoder___init__) (c__law_start : CalX P w K mg base 1 "_law_start" (sp__law_start K AD) pats__law_start) (c__law_items : CalX P w K mg base 2 "_law_items" (sp__law_items K AD) pats__law_items) (c_Decoder_read : MetX P w K mg base 3 AD.c_Decoder "read" (sp_Decoder_read K AD) pats_Decoder_read) (c_Decoder_read_even : MetX P w K mg base 3 AD.c_Decoder "read_even" (sp_Decoder_read_even K AD) pats_Decoder_read_even) (c__law_next : CalX P w K mg base 2 "_law_next" (sp__law_next K AD) pats__law_next) (c_Decoder_probability : MetX P w K mg base 2 AD.c_Decoder "probability" (sp_Decoder_probability K AD) pats_Decoder_probability) : FnOk P w K mg base CX0 4 f fd ["script"] (sp_law K AD) := by
  refine F.ok sc_law (fun vs H Q E h => ?_) (fun cdv A_ outer s H vs Q E hr h => ?_)
  · obtain ⟨a_script, script, rfl, _⟩ := h
    rfl
  · obtain ⟨a_script, script', rfl, q_script, hw, k⟩ := h
    refine ⟨_, (pss_cons (ps_set (i := 1) sc_law.nd rfl (Or.inl rfl) (pe_callTy call_int1 (by rfl) T.b_int (by decide +kernel) (pa_cons (vx_callX c__law_cell pat__law_cell_0 (.head _) hr (by decide) takes0 rfl (pa_cons (pv 0) (pa_cons pe_int pa_nil)) pk_nil) pa_nil)))
      (pss_cons (ps_set (i := 2) sc_law.nd rfl (Or.inl rfl) (vx_callX c__law_draws pat__law_draws_0 (.head _) hr (by decide) takes0 rfl (pa_cons (vx_callX c__law_cell pat__law_cell_0 (.head _) hr (by decide) takes0 rfl (pa_cons (pv 0) (pa_cons pe_int pa_nil)) pk_nil) (pa_cons (pe_op op_rep (pe_lst (pa_cons pe_int pa_nil)) (pe_op op_mod (pv 1) pe_int)) pa_nil)) pk_nil))
      (C8.pss_cut (ps_if (pt_cmp (pc_eqI (pe_op op_mod (pe_op op_fdivW (pv 1) pe_int) pe_int) pe_int)) (pss_one (ps_set (i := 2) sc_law.nd rfl (Or.inl rfl) (pe_op op_rep (pv 2) pe_int))) pss_nil)
      (C8.pss_cut (ps_if (pt_cmp (pc_eqI (pe_op op_mod (pe_op op_fdivW (pv 1) pe_int) pe_int) pe_int)) (pss_one (ps_set (i := 2) sc_law.nd rfl (Or.inl rfl) (pe_op op_rep (pe_lst (pa_cons pe_int pa_nil)) (pe_op op_mod (pv 1) pe_int)))) pss_nil)
      (C8.pss_cut (ps_if (pt_cmp (pc_eqI (pe_op op_mod (pe_op op_fdivW (pv 1) pe_int) pe_int) pe_int)) (pss_one (ps_set (i := 2) sc_law.nd rfl (Or.inl rfl) (pe_op op_rep (pe_lst (pa_cons pe_int pa_nil)) (pe_op op_mod (pv 1) pe_int)))) pss_nil)
      (pss_cons (ps_set (i := 3) sc_law.nd rfl (Or.inl rfl) (pe_callTy (call_listLK (K := K)) (by rfl) T.b_list (by decide +kernel) (pa_cons (pv 2) pa_nil)))
      (pss_cons (ps_set (i := 4) sc_law.nd rfl (Or.inl rfl) (vx_makeX c_Decoder___init__ pat_Decoder___init___0 (.head _) hr (by decide) takes0 rfl (pa_cons (pv 2) pa_nil) pk_nil))
      (pss_cons (ps_for PassesOwn.never rfl (pi_range1 rfl T.b_range (pa_cons (pe_callB (call_lenLiK (K := K)) (by rfl) T.b_len (by decide +kernel) (pa_cons (pv 2) pa_nil)) pa_nil)) (pg_name (i := 5) sc_law.nd rfl (Or.inl rfl)) (pss_one (ps_asg (pe_op op_sub pe_int (pe_ix (ix_listK (K := K)) (pv 2) (pv 5) (fun _ _ => rfl))) (pg_sub (pv 2) (pv 5) set_list))))
      (pss_cons (ps_expr (pe_bm PySem.F.plainAttrs_list PySem.F.slot_list_append PySem.F.type_list_append mt_append (pv 2) (pa_cons pe_int pa_nil)))
      (pss_cons (ps_set (i := 6) sc_law.nd rfl (Or.inl rfl) (vx_callX c__law_start pat__law_start_0 (.head _) hr (by decide) takes0 rfl (pa_cons (pv 3) pa_nil) pk_nil))
      (pss_cons (ps_set (i := 7) sc_law.nd rfl (Or.inl rfl) (pe_op op_rep (pe_lst (pa_cons pe_int pa_nil)) pe_int))
      (pss_cons (ps_set (i := 8) sc_law.nd rfl (Or.inl rfl) (vx_callX c__law_items pat__law_items_0 (.head _) hr (by decide) takes0 rfl (pa_cons (pe_slice (sl_listK (K := K)) (pv 0) (po_some pe_int) po_none) (pa_cons pe_int pa_nil)) pk_nil))
      (C8.pss_cut (ps_if (pt_cmp (pc_eqI (pe_op op_mod (pe_op op_fdivW (pv 1) pe_int) pe_int) pe_int)) (pss_one (ps_set (i := 8) sc_law.nd rfl (Or.inl rfl) (pe_op op_rep (pv 8) pe_int))) pss_nil)
      (pss_cons (ps_for PassesOwn.never rfl (pi_listK (K := K) (pv 8)) (pg_name (i := 9) sc_law.nd rfl (Or.inl rfl)) (pss_cons (ps_set (i := 10) sc_law.nd rfl (Or.inl rfl) (pe_ix (ix_tupK (K := K)) (pv 9) pe_int (fun _ _ => rfl)))
      (C8.pss_cut (ps_if (pt_cmp (pc_ge (pv 10) pe_int)) (pss_one (ps_set (i := 11) sc_law.nd rfl (Or.inl rfl) (vx_methX c_Decoder_read pat_Decoder_read_0 (.head _) hr (by decide) takes0 (pv 4) (pa_cons (pv 10) pa_nil) pk_nil))) (pss_cons (ps_set (i := 10) sc_law.nd rfl (Or.inl rfl) pe_int)
      (pss_one (ps_set (i := 11) sc_law.nd rfl (Or.inl rfl) (vx_methX0 c_Decoder_read_even pat_Decoder_read_even_0 (.head _) hr (by decide) takes0 (pv 4))))))
      (pss_one (ps_if (PW.pt (pw_or (pt_val (pe_callB call_isi (by rfl) T.b_isinstance (by decide +kernel) (pa_cons (pv 11) (pa_cons (pe_bltn (v := V.ty "bool") (u := Value.type "bool") (by rfl) T.b_bool (by decide +kernel) rfl) pa_nil)))) (pw_or1 (pt_cmp (pc_neI (pv 11) (vx_callX c__law_next pat__law_next_0 (.head _) hr (by decide) takes0 rfl (pa_cons (pv 6) (pa_cons (pv 7) (pa_cons (pv 10) pa_nil))) pk_nil)))))) (pss_one (ps_ret pe_bl)) pss_nil)))))
      (pss_cons (ps_for PassesOwn.never rfl (pi_range1 rfl T.b_range (pa_cons pe_int pa_nil)) (pg_name (i := 10) sc_law.nd rfl (Or.inl rfl)) (pss_cons (ps_set (i := 12) sc_law.nd rfl (Or.inl rfl) (vx_methX c_Decoder_probability pat_Decoder_probability_0 (.head _) hr (by decide) takes0 (pv 4) (pa_cons (pv 10) pa_nil) pk_nil))
      (pss_one (ps_if (PW.pt (pw_or (pt_cmp (pc_neI (pv 12) (pe_ix (ix_listK (K := K)) (pv 7) (pv 10) (fun _ _ => rfl)))) (pw_or1 (pt_not (pt_chain op_le op_le pe_int (pv 12) pe_int))))) (pss_one (ps_ret pe_bl)) pss_nil))))
      (pss_one (ps_ret pe_bl))))))))))))))))), ?_⟩
    obtain ⟨KK, EE, hK0, hE, hw⟩ := cW_gen hw
    have S0 := Sep.start0 H
    unfold F_law at hw
    refine ⟨_, rfl, rfl, rfl, H, _, _, _, rfl, S0.sG, (S0.b0.seq q_script), cW_call hw (fun v804 hw => ?_) (fun e he => (hE e he).elim)⟩
    refine .inl ⟨_, rfl, ?_⟩
    refine ⟨_, rfl, rfl, rfl, H, _, _, _, rfl, S0.sG, (S0.b0.seq q_script), cW_call hw (fun v805 hw => ?_) (fun e he => (hE e he).elim)⟩
    refine ⟨(by show 1 ≤ sizeLine; decide), fun p806 n807 => ?_⟩
    generalize g808 : upd H p806 _ = H809
    obtain ⟨e810, h811⟩ := gen_new n807 g808
    have h812 : H809 p806 = some (.lst (([256] : (List Int)).map V.int)) := h811
    have fr813 := S0.free n807
    have S814 := S0.new n807 e810 h812 fr813
    obtain ⟨g815, hw⟩ := cW_grd hw
    refine ⟨_, rfl, _, _, rfl, rfl, (show (0 : Int) < 31 by decide), _, _, _, rfl, rfl, h812, g815.1, g815.2.1, (rep_lenM g815.2.2), fun p816 n817 => ?_⟩
    generalize g818 : upd H809 p816 _ = H819
    obtain ⟨e820, h821⟩ := gen_new n817 g818
    have h822 : H819 p816 = some (.lst ((repL ([256]) ((v804 % 31)) : (List Int)).map V.int)) := rep_map h821
    have fr823 := S814.free n817
    have S824 := S814.new n817 e820 h822 fr823
    refine ⟨rfl, rfl, H, _, _, _, rfl, S824.sG, (hide_nil h822), cW_call hw (fun v825 hw p828 H826 n829 e827 h830 => ?_) (fun e he => (hE e he).elim)⟩
    have h831 : H826 p828 = some (.lst ((v825 : (List Int)).map V.int)) := h830
    have fr832 := S824.free n829
    have S833 := S824.new n829 e827 h831 fr832
    refine ⟨fun σ H' => ∃ (p838 : Addr) (octets_837 : (List Int)) (G' : Hp), σ = [some (V.ref a_script), some (V.int (v804)), some (V.ref p838), none, none, none, none, none, none, none, none, none, none] ∧ Same H G' ∧ Sep [] H H G' H' [p838] ∧ H' p838 = some (.lst ((octets_837 : (List Int)).map V.int)) ∧ H p838 = none ∧ cW (F_law_k1 (script') (v804) octets_837) KK EE, ?_, ?_⟩
    · obtain ⟨K839, hK840, hw⟩ := cW_push hw
      refine ⟨_, rfl, _, _, rfl, rfl, (divW_lit (by decide) (by decide)), _, _, rfl, rfl, (show (0 : Int) < 4 by decide), _, _, rfl, rfl, _, rfl, ?_⟩
      refine iteD (fun c841 => ?_) (fun c841 => ?_)
      · have hw := cW_pos c841 hw
        obtain ⟨g842, hw⟩ := cW_grd hw
        refine ⟨_, rfl, _, _, _, rfl, rfl, h831, g842.1, g842.2.1, (rep_lenM g842.2.2), fun p843 n844 => ?_⟩
        generalize g845 : upd H826 p843 _ = H846
        obtain ⟨e847, h848⟩ := gen_new n844 g845
        have h849 : H846 p843 = some (.lst ((repL (v825) (9) : (List Int)).map V.int)) := rep_map h848
        have fr850 := S833.free n844
        have S851 := S833.new n844 e847 h849 fr850
        have hw := cW_ok hw
        have hw := hK840 _ hw
        exact ⟨_, (repL (v825) (9)), _, rfl, (Same.refl _), (S851.sub (all_cons (.head _) all_nil)), h849, fr850, hw⟩
      · have hw := cW_neg c841 hw
        have hw := cW_ok hw
        have hw := hK840 _ hw
        exact ⟨_, (v825), _, rfl, (Same.refl _), (S833.sub (all_cons (.head _) all_nil)), h831, fr832, hw⟩
    · intro σ H852 hw
      obtain ⟨p838, octets_837, G856, rfl, eG857, S853, h854, fr855, hw⟩ := hw
      unfold F_law_k1 at hw
      refine ⟨fun σ H' => ∃ (p862 : Addr) (octets_861 : (List Int)) (G' : Hp), σ = [some (V.ref a_script), some (V.int (v804)), some (V.ref p862), none, none, none, none, none, none, none, none, none, none] ∧ Same G856 G' ∧ Sep [] H H G' H' [p862] ∧ H' p862 = some (.lst ((octets_861 : (List Int)).map V.int)) ∧ H p862 = none ∧ cW (F_law_k2 (script') (v804) octets_861) KK EE, ?_, ?_⟩
      · obtain ⟨K863, hK864, hw⟩ := cW_push hw
        refine ⟨_, rfl, _, _, rfl, rfl, (divW_lit (by decide) (by decide)), _, _, rfl, rfl, (show (0 : Int) < 4 by decide), _, _, rfl, rfl, _, rfl, ?_⟩
        refine iteD (fun c865 => ?_) (fun c865 => ?_)
        · have hw := cW_pos c865 hw
          refine ⟨(by show 1 ≤ sizeLine; decide), fun p866 n867 => ?_⟩
          generalize g868 : upd H852 p866 _ = H869
          obtain ⟨e870, h871⟩ := gen_new n867 g868
          have h872 : H869 p866 = some (.lst (([255] : (List Int)).map V.int)) := h871
          have fr873 := S853.free n867
          have S874 := S853.new n867 e870 h872 fr873
          obtain ⟨g875, hw⟩ := cW_grd hw
          refine ⟨_, rfl, _, _, rfl, rfl, (show (0 : Int) < 31 by decide), _, _, _, rfl, rfl, h872, g875.1, g875.2.1, (rep_lenM g875.2.2), fun p876 n877 => ?_⟩
          generalize g878 : upd H869 p876 _ = H879
          obtain ⟨e880, h881⟩ := gen_new n877 g878
          have h882 : H879 p876 = some (.lst ((repL ([255]) ((v804 % 31)) : (List Int)).map V.int)) := rep_map h881
          have fr883 := S874.free n877
          have S884 := S874.new n877 e880 h882 fr883
          have hw := cW_ok hw
          have hw := hK864 _ hw
          exact ⟨_, (repL ([255]) ((v804 % 31))), _, rfl, (Same.refl _), (S884.sub (all_cons (.head _) all_nil)), h882, fr883, hw⟩
        · have hw := cW_neg c865 hw
          have hw := cW_ok hw
          have hw := hK864 _ hw
          exact ⟨_, (octets_837), _, rfl, (Same.refl _), S853, h854, fr855, hw⟩
      · intro σ H885 hw
        obtain ⟨p862, octets_861, G889, rfl, eG890, S886, h887, fr888, hw⟩ := hw
        unfold F_law_k2 at hw
        refine ⟨fun σ H' => ∃ (p895 : Addr) (octets_894 : (List Int)) (G' : Hp), σ = [some (V.ref a_script), some (V.int (v804)), some (V.ref p895), none, none, none, none, none, none, none, none, none, none] ∧ Same G889 G' ∧ Sep [] H H G' H' [p895] ∧ H' p895 = some (.lst ((octets_894 : (List Int)).map V.int)) ∧ H p895 = none ∧ cW (F_law_k3 (script') (v804) octets_894) KK EE, ?_, ?_⟩
        · obtain ⟨K896, hK897, hw⟩ := cW_push hw
          refine ⟨_, rfl, _, _, rfl, rfl, (divW_lit (by decide) (by decide)), _, _, rfl, rfl, (show (0 : Int) < 4 by decide), _, _, rfl, rfl, _, rfl, ?_⟩
          refine iteD (fun c898 => ?_) (fun c898 => ?_)
          · have hw := cW_pos c898 hw
            refine ⟨(by show 1 ≤ sizeLine; decide), fun p899 n900 => ?_⟩
            generalize g901 : upd H885 p899 _ = H902
            obtain ⟨e903, h904⟩ := gen_new n900 g901
            have h905 : H902 p899 = some (.lst (([0] : (List Int)).map V.int)) := h904
            have fr906 := S886.free n900
            have S907 := S886.new n900 e903 h905 fr906
            obtain ⟨g908, hw⟩ := cW_grd hw
            refine ⟨_, rfl, _, _, rfl, rfl, (show (0 : Int) < 31 by decide), _, _, _, rfl, rfl, h905, g908.1, g908.2.1, (rep_lenM g908.2.2), fun p909 n910 => ?_⟩
            generalize g911 : upd H902 p909 _ = H912
            obtain ⟨e913, h914⟩ := gen_new n910 g911
            have h915 : H912 p909 = some (.lst ((repL ([0]) ((v804 % 31)) : (List Int)).map V.int)) := rep_map h914
            have fr916 := S907.free n910
            have S917 := S907.new n910 e913 h915 fr916
            have hw := cW_ok hw
            have hw := hK897 _ hw
            exact ⟨_, (repL ([0]) ((v804 % 31))), _, rfl, (Same.refl _), (S917.sub (all_cons (.head _) all_nil)), h915, fr916, hw⟩
          · have hw := cW_neg c898 hw
            have hw := cW_ok hw
            have hw := hK897 _ hw
            exact ⟨_, (octets_861), _, rfl, (Same.refl _), S886, h887, fr888, hw⟩
        · intro σ H918 hw
          obtain ⟨p895, octets_894, G922, rfl, eG923, S919, h920, fr921, hw⟩ := hw
          unfold F_law_k3 at hw
          refine ⟨_, rfl, _, _, rfl, (SqL.of h920), fun p924 n925 => ?_⟩
          generalize g926 : upd H918 p924 _ = H927
          obtain ⟨e928, h929⟩ := gen_new n925 g926
          have h930 : H927 p924 = some (.lst ((octets_894 : (List Int)).map V.int)) := h929
          have fr931 := S919.free n925
          have S932 := S919.new n925 e928 h930 fr931
          refine ⟨_, rfl, rfl, rfl, fun x933 dx934 n935 n936 n937 => ?_⟩
          generalize g938 : upd (upd H927 dx934 _) x933 _ = H939
          obtain ⟨e940, h941⟩ := gen_obj n935 n936 n937 g938
          have fr942 := S932.free n935
          have S943 := S932.new n935 e940 h941 fr942
          have h944 := (e940 _ _ (e928 _ _ h920))
          refine ⟨G922, _, _, _, _, rfl, S943.sG, (S943.gno (all_cons (.head _) all_nil)), h941, ((hideL_out (ni1 (ne_of_none (e928 _ _ h920) n935))).trans h944), cW_call hw (fun v945 hw H948 l946 l947 x949 n954 n955 ne956 h950 h952 h953 => ⟨rfl, ?_⟩) (fun e he => (hE e he).elim)⟩
          have fr957 := S943.free n954
          have fr958 := S943.free n955
          have S951 : Sep _ _ _ _ H948 [l946, l947, x933, p924, p895] := Sep.init S943 x949 (.head _) h950 [l946, l947] (all_cons ⟨n954, some_ne h952, fr957⟩ (all_cons ⟨n955, some_ne h953, fr958⟩ all_nil))
          have h959 := ((SameXs.of x949) _ _ h944 (ni1 (ne_of_none (e928 _ _ h920) n935)))
          refine ⟨_, rfl, _, _, rfl, (SqL.of h959), ?_⟩
          generalize (((octets_894) : (List Int)).length : Int) = z960 at hw ⊢
          obtain ⟨g961, hw⟩ := cW_grd hw
          obtain ⟨K966, hK967, hw⟩ := cW_push hw
          refine ⟨_, rfl, g961.1, g961.2, for_range (lo := 0) (n := Int.toNat (z960)) (fun i σ H' => ∃ (octets_968 : (List Int)) (u969 : Option V) (G' : Hp), σ = [some (V.ref a_script), some (V.int (v804)), some (V.ref p895), some (V.ref p924), some (V.ref x933), u969, none, none, none, none, none, none, none] ∧ Same G922 G' ∧ Sep [] H H G' H' [p895, p924, x933, l946, l947] ∧ H' p895 = some (.lst ((octets_968 : (List Int)).map V.int)) ∧ H' p924 = some (.lst ((octets_894 : (List Int)).map V.int)) ∧ H' x933 = some (.ins AD.c_Decoder dx934 [("_probabilities", V.ref l946), ("_octets", V.ref l947), ("_place", V.int (v945.place)), ("_span", V.int (v945.span)), ("_value", V.int (v945.value))]) ∧ H' l946 = some (.lst ((v945.probs : (List Int)).map V.int)) ∧ H' l947 = some (.lst ((v945.octs : (List Int)).map V.int)) ∧ cW (forS (List.drop i (rng (0) (Int.toNat (z960)))) octets_968 (fun s x => F_law_b4  s x)) K966 EE) ?_ ?_ ?_⟩
          · have h970 := ((SameXs.of x949) _ _ (e940 _ _ h930) (ni1 (ne_of_none h930 n935)))
            exact ⟨(octets_894), _, _, rfl, (Same.refl _), (S951.sub (all_cons (.tail _ (.tail _ (.tail _ (.tail _ (.head _))))) (all_cons (.tail _ (.tail _ (.tail _ (.head _)))) (all_cons (.tail _ (.tail _ (.head _))) (all_cons (.head _) (all_cons (.tail _ (.head _)) all_nil)))))), h959, h970, h950, h952, h953, hw⟩
          · intro i σ H971 hi hw
            obtain ⟨octets_968, u969, G978, rfl, eG979, S972, h973, h974, h975, h976, h977, hw⟩ := hw
            have hw := cW_forS (rng_get hi) hw
            generalize (0 + (i : Int)) = x980 at hw ⊢
            have hw : cW (F_law_b4  (octets_968) (x980)) _ EE := hw
            unfold F_law_b4 at hw
            obtain ⟨K982, hK983, hw⟩ := cW_name hw
            obtain ⟨g985, hw⟩ := cW_grd hw
            obtain ⟨g986, hw⟩ := cW_grd hw
            refine ⟨_, rfl, _, rfl, _, _, _, _, rfl, rfl, (SqL.of h973), (atI_map g985), _, _, rfl, rfl, _, rfl, _, rfl, _, _, _, _, rfl, rfl, h973, (ixN_map g986), ?_⟩
            generalize g987 : upd H971 p895 _ = H988
            obtain ⟨x989, h990⟩ := gen_mut g987
            have h991 : H988 p895 = some (.lst ((setL (octets_968) (x980) ((255 - (itD (octets_968) (x980)))) : (List Int)).map V.int)) := set_map h990
            have S992 := S972.mut1 x989 (.head _) h991
            have hw := cW_bnd hw
            have hw := cW_ok hw
            have hw := hK983 _ hw
            have h994 := (x989 _ _ h974 (ne_of_none h920 n925).symm)
            have h995 := (x989 _ _ h975 (ne_of_none (e928 _ _ h920) n935).symm)
            have h996 := (x989 _ _ h976 (ne_of_none h944 n954).symm)
            have h997 := (x989 _ _ h977 (ne_of_none h944 n955).symm)
            exact ⟨(setL (octets_968) (x980) ((255 - (itD (octets_968) (x980))))), _, _, rfl, eG979, S992, h991, h994, h995, h996, h997, hw⟩
          · intro σ H998 hw
            obtain ⟨octets_968, u969, G1005, rfl, eG1006, S999, h1000, h1001, h1002, h1003, h1004, hw⟩ := hw
            have hw := hK967 _ (cW_forS0 (rng_len _ _).symm hw)
            have hw : cW (F_law_r4 (script') (v804) (octets_894) (v945) (octets_968)) _ EE := hw
            unfold F_law_r4 at hw
            obtain ⟨g1008, hw⟩ := cW_grd hw
            refine ⟨_, rfl, (.inl ⟨rfl, _, SqL.of h1000⟩), _, _, _, rfl, rfl, h1000, (app_lenM g1008), ?_⟩
            generalize g1009 : upd H998 p895 _ = H1010
            obtain ⟨x1011, h1012⟩ := gen_mut g1009
            have h1013 : H1010 p895 = some (.lst (((octets_968) ++ [99] : (List Int)).map V.int)) := snoc_map h1012
            have S1014 := S999.mut1 x1011 (.head _) h1013
            have hw := cW_bnd hw
            have h1016 := (x1011 _ _ h1001 (ne_of_none h920 n925).symm)
            refine ⟨_, rfl, rfl, rfl, G1005, _, _, rfl, S1014.sG, (hide_nil h1016), cW_call hw (fun v1017 hw H1018 p1020 l1021 e1019 n1022 n1023 ne1026 h1024 h1025 => ?_) (fun e he => (hE e he).elim)⟩
            have fr1027 := S1014.free n1022
            have fr1028 := S1014.free n1023
            have S1029 : Sep _ _ _ _ H1018 [p1020, l1021, p895, p924, x933, l946, l947] := Sep.news S1014 e1019 [p1020, l1021] (all_cons ⟨n1022, some_ne h1024, fr1027⟩ (all_cons ⟨n1023, some_ne h1025, fr1028⟩ all_nil))
            refine ⟨(by show 1 ≤ sizeLine; decide), fun p1030 n1031 => ?_⟩
            generalize g1032 : upd H1018 p1030 _ = H1033
            obtain ⟨e1034, h1035⟩ := gen_new n1031 g1032
            have h1036 : H1033 p1030 = some (.lst (([2048] : (List Int)).map V.int)) := h1035
            have fr1037 := S1029.free n1031
            have S1038 := S1029.new n1031 e1034 h1036 fr1037
            obtain ⟨g1039, hw⟩ := cW_grd hw
            refine ⟨_, _, _, rfl, rfl, h1036, g1039.1, g1039.2.1, (rep_lenM g1039.2.2), fun p1040 n1041 => ?_⟩
            generalize g1042 : upd H1033 p1040 _ = H1043
            obtain ⟨e1044, h1045⟩ := gen_new n1041 g1042
            have h1046 : H1043 p1040 = some (.lst ((repL ([2048]) (257) : (List Int)).map V.int)) := rep_map h1045
            have fr1047 := S1038.free n1041
            have S1048 := S1038.new n1041 e1044 h1046 fr1047
            refine ⟨_, rfl, _, rfl, _, _, rfl, (S1048.b0.seq q_script), fun p1049 n1050 => ?_⟩
            generalize g1051 : upd H1043 p1049 _ = H1052
            obtain ⟨e1053, h1054⟩ := gen_new n1050 g1051
            have h1055 : H1052 p1049 = some (.lst ((cutL (script') (some (2)) none : (List Int)).map V.int)) := cut_map h1054
            have fr1056 := S1048.free n1050
            have S1057 := S1048.new n1050 e1053 h1055 fr1056
            refine ⟨rfl, rfl, G1005, _, _, _, rfl, S1057.sG, (SqL.of h1055), cW_call hw (fun v1058 hw v1061 H1059 G1062 e1060 eG1063 sG1064 hn1065 r1066 => ?_) (fun e he => (hE e he).elim)⟩
            have S1067 := S1057.step e1060 eG1063 sG1064 hn1065
            obtain ⟨a1068, vs1069, rfl, h1070, d1071⟩ := rp_list r1066
            refine ⟨fun σ H' => ∃ (items_1076 : (List (Int × Int))) (u1077 : V) (G' : Hp), σ = [some (V.ref a_script), some (V.int (v804)), some (V.ref p895), some (V.ref p924), some (V.ref x933), u969, some (V.ref p1020), some (V.ref p1040), some u1077, none, none, none, none] ∧ Same G1062 G' ∧ Sep [] H H G' H' [p895, p924, x933, l946, l947, p1020, l1021, p1040] ∧ H' p895 = some (.lst (((octets_968) ++ [99] : (List Int)).map V.int)) ∧ H' p924 = some (.lst ((octets_894 : (List Int)).map V.int)) ∧ H' x933 = some (.ins AD.c_Decoder dx934 [("_probabilities", V.ref l946), ("_octets", V.ref l947), ("_place", V.int (v945.place)), ("_span", V.int (v945.span)), ("_value", V.int (v945.value))]) ∧ H' l946 = some (.lst ((v945.probs : (List Int)).map V.int)) ∧ H' l947 = some (.lst ((v945.octs : (List Int)).map V.int)) ∧ H' p1020 = some (.lst [V.int (v1017.1), V.int (v1017.2.1), V.int (v1017.2.2.1), V.ref l1021]) ∧ H' l1021 = some (.lst ((v1017.2.2.2 : List Int).map V.int)) ∧ H' p1040 = some (.lst ((repL ([2048]) (257) : (List Int)).map V.int)) ∧ Rp G' u1077 ((encL (encT2 PyData.int PyData.int)) items_1076) ∧ cW (F_law_k5 (v945) (v1017) (repL ([2048]) (257)) items_1076) KK EE, ?_, ?_⟩
            · obtain ⟨K1078, hK1079, hw⟩ := cW_push hw
              refine ⟨_, rfl, _, _, rfl, rfl, (divW_lit (by decide) (by decide)), _, _, rfl, rfl, (show (0 : Int) < 4 by decide), _, _, rfl, rfl, _, rfl, ?_⟩
              refine iteD (fun c1080 => ?_) (fun c1080 => ?_)
              · have hw := cW_pos c1080 hw
                obtain ⟨g1081, hw⟩ := cW_grd hw
                refine ⟨_, rfl, _, _, _, rfl, rfl, (S1067.sG _ _ h1070), g1081.1, g1081.2.1, (rep_len d1071 g1081.2.2), fun p1082 n1083 => ?_⟩
                generalize g1084 : upd H1059 p1082 _ = H1085
                obtain ⟨e1086, h1087⟩ := gen_new n1083 g1084
                have h1088 : H1085 p1082 = some (.lst ((List.replicate (Int.toNat (6)) (vs1069)).flatten)) := h1087
                have fr1089 := S1067.free n1083
                have S1090 := S1067.new n1083 e1086 h1088 fr1089
                have d1091 : RpAll G1062 ((List.replicate (Int.toNat (6)) (vs1069)).flatten) ((repL (v1058) (6) : (List (Int × Int))).map (encT2 PyData.int PyData.int)) := rep_all (6) d1071
                have hw := cW_ok hw
                have hw := hK1079 _ hw
                obtain ⟨G1092, eG1093, hg1094, S1095⟩ := Sep.freeze (O' := [p1049, p1040, p1030, p1020, l1021, p895, p924, x933, l946, l947]) S1090 (.head _) h1088 fr1089 ((all_cons ⟨(.tail _ (.head _)), (ne_of_none (e1060 _ _ h1055) n1083)⟩ (all_cons ⟨(.tail _ (.tail _ (.head _))), (ne_of_none (e1060 _ _ (e1053 _ _ h1046)) n1083)⟩ (all_cons ⟨(.tail _ (.tail _ (.tail _ (.head _)))), (ne_of_none (e1060 _ _ (e1053 _ _ (e1044 _ _ h1036))) n1083)⟩ (all_cons ⟨(.tail _ (.tail _ (.tail _ (.tail _ (.head _))))), (ne_of_none (e1060 _ _ (e1053 _ _ (e1044 _ _ (e1034 _ _ h1024)))) n1083)⟩ (all_cons ⟨(.tail _ (.tail _ (.tail _ (.tail _ (.tail _ (.head _)))))), (ne_of_none (e1060 _ _ (e1053 _ _ (e1044 _ _ (e1034 _ _ h1025)))) n1083)⟩ (all_cons ⟨(.tail _ (.tail _ (.tail _ (.tail _ (.tail _ (.tail _ (.head _))))))), (ne_of_none (e1060 _ _ (e1053 _ _ (e1044 _ _ (e1034 _ _ (e1019 _ _ h1013))))) n1083)⟩ (all_cons ⟨(.tail _ (.tail _ (.tail _ (.tail _ (.tail _ (.tail _ (.tail _ (.head _)))))))), (ne_of_none (e1060 _ _ (e1053 _ _ (e1044 _ _ (e1034 _ _ (e1019 _ _ h1016))))) n1083)⟩ (all_cons ⟨(.tail _ (.tail _ (.tail _ (.tail _ (.tail _ (.tail _ (.tail _ (.tail _ (.head _))))))))), (ne_of_none (e1060 _ _ (e1053 _ _ (e1044 _ _ (e1034 _ _ (e1019 _ _ (x1011 _ _ h1002 (ne_of_none (e928 _ _ h920) n935).symm)))))) n1083)⟩ (all_cons ⟨(.tail _ (.tail _ (.tail _ (.tail _ (.tail _ (.tail _ (.tail _ (.tail _ (.tail _ (.head _)))))))))), (ne_of_none (e1060 _ _ (e1053 _ _ (e1044 _ _ (e1034 _ _ (e1019 _ _ (x1011 _ _ h1003 (ne_of_none h944 n954).symm)))))) n1083)⟩ (all_cons ⟨(.tail _ (.tail _ (.tail _ (.tail _ (.tail _ (.tail _ (.tail _ (.tail _ (.tail _ (.tail _ (.head _))))))))))), (ne_of_none (e1060 _ _ (e1053 _ _ (e1044 _ _ (e1034 _ _ (e1019 _ _ (x1011 _ _ h1004 (ne_of_none h944 n955).symm)))))) n1083)⟩ all_nil)))))))))))
                have h1096 := (e1086 _ _ (e1060 _ _ (e1053 _ _ (e1044 _ _ (e1034 _ _ (e1019 _ _ h1013))))))
                have h1097 := (e1086 _ _ (e1060 _ _ (e1053 _ _ (e1044 _ _ (e1034 _ _ (e1019 _ _ h1016))))))
                have h1098 := (e1086 _ _ (e1060 _ _ (e1053 _ _ (e1044 _ _ (e1034 _ _ (e1019 _ _ (x1011 _ _ h1002 (ne_of_none (e928 _ _ h920) n935).symm)))))))
                have h1099 := (e1086 _ _ (e1060 _ _ (e1053 _ _ (e1044 _ _ (e1034 _ _ (e1019 _ _ (x1011 _ _ h1003 (ne_of_none h944 n954).symm)))))))
                have h1100 := (e1086 _ _ (e1060 _ _ (e1053 _ _ (e1044 _ _ (e1034 _ _ (e1019 _ _ (x1011 _ _ h1004 (ne_of_none h944 n955).symm)))))))
                have h1101 := (e1086 _ _ (e1060 _ _ (e1053 _ _ (e1044 _ _ (e1034 _ _ h1024)))))
                have h1102 := (e1086 _ _ (e1060 _ _ (e1053 _ _ (e1044 _ _ (e1034 _ _ h1025)))))
                have h1103 := (e1086 _ _ (e1060 _ _ (e1053 _ _ h1046)))
                exact ⟨(repL (v1058) (6)), _, _, rfl, eG1093, (S1095.sub (all_cons (.tail _ (.tail _ (.tail _ (.tail _ (.tail _ (.head _)))))) (all_cons (.tail _ (.tail _ (.tail _ (.tail _ (.tail _ (.tail _ (.head _))))))) (all_cons (.tail _ (.tail _ (.tail _ (.tail _ (.tail _ (.tail _ (.tail _ (.head _)))))))) (all_cons (.tail _ (.tail _ (.tail _ (.tail _ (.tail _ (.tail _ (.tail _ (.tail _ (.head _))))))))) (all_cons (.tail _ (.tail _ (.tail _ (.tail _ (.tail _ (.tail _ (.tail _ (.tail _ (.tail _ (.head _)))))))))) (all_cons (.tail _ (.tail _ (.tail _ (.head _)))) (all_cons (.tail _ (.tail _ (.tail _ (.tail _ (.head _))))) (all_cons (.tail _ (.head _)) all_nil))))))))), h1096, h1097, h1098, h1099, h1100, h1101, h1102, h1103, (rp_mk_list hg1094 (RpAll.mono eG1093 d1091)), hw⟩
              · have hw := cW_neg c1080 hw
                have hw := cW_ok hw
                have hw := hK1079 _ hw
                have h1104 := (e1060 _ _ (e1053 _ _ (e1044 _ _ (e1034 _ _ (e1019 _ _ h1013)))))
                have h1105 := (e1060 _ _ (e1053 _ _ (e1044 _ _ (e1034 _ _ (e1019 _ _ h1016)))))
                have h1106 := (e1060 _ _ (e1053 _ _ (e1044 _ _ (e1034 _ _ (e1019 _ _ (x1011 _ _ h1002 (ne_of_none (e928 _ _ h920) n935).symm))))))
                have h1107 := (e1060 _ _ (e1053 _ _ (e1044 _ _ (e1034 _ _ (e1019 _ _ (x1011 _ _ h1003 (ne_of_none h944 n954).symm))))))
                have h1108 := (e1060 _ _ (e1053 _ _ (e1044 _ _ (e1034 _ _ (e1019 _ _ (x1011 _ _ h1004 (ne_of_none h944 n955).symm))))))
                have h1109 := (e1060 _ _ (e1053 _ _ (e1044 _ _ (e1034 _ _ h1024))))
                have h1110 := (e1060 _ _ (e1053 _ _ (e1044 _ _ (e1034 _ _ h1025))))
                have h1111 := (e1060 _ _ (e1053 _ _ h1046))
                exact ⟨(v1058), _, _, rfl, (Same.refl _), (S1067.sub (all_cons (.tail _ (.tail _ (.tail _ (.tail _ (.tail _ (.head _)))))) (all_cons (.tail _ (.tail _ (.tail _ (.tail _ (.tail _ (.tail _ (.head _))))))) (all_cons (.tail _ (.tail _ (.tail _ (.tail _ (.tail _ (.tail _ (.tail _ (.head _)))))))) (all_cons (.tail _ (.tail _ (.tail _ (.tail _ (.tail _ (.tail _ (.tail _ (.tail _ (.head _))))))))) (all_cons (.tail _ (.tail _ (.tail _ (.tail _ (.tail _ (.tail _ (.tail _ (.tail _ (.tail _ (.head _)))))))))) (all_cons (.tail _ (.tail _ (.tail _ (.head _)))) (all_cons (.tail _ (.tail _ (.tail _ (.tail _ (.head _))))) (all_cons (.tail _ (.head _)) all_nil))))))))), h1104, h1105, h1106, h1107, h1108, h1109, h1110, h1111, (rp_mk_list h1070 d1071), hw⟩
            · intro σ H1112 hw
              obtain ⟨items_1076, u1077, G1123, rfl, eG1124, S1113, h1114, h1115, h1116, h1117, h1118, h1119, h1120, h1121, r1122, hw⟩ := hw
              obtain ⟨a1125, vs1126, rfl, h1127, d1128⟩ := rp_list r1122
              unfold F_law_k5 at hw
              obtain ⟨K1129, hK1130, hw⟩ := cW_push hw
              refine ⟨_, rfl, _, rfl, ⟨_, (SqL.of (S1113.sG _ _ h1127))⟩, for_list (K := K) (a := a1125) (xs := vs1126) (fun i σ H' => ∃ (decoder_1131 : St_Decoder) (state_1132 : (Int × Int × Int × (List Int))) (chances_1133 : (List Int)) (u1134 : Option V) (u1135 : Option V) (u1136 : Option V) (G' : Hp), σ = [some (V.ref a_script), some (V.int (v804)), some (V.ref p895), some (V.ref p924), some (V.ref x933), u969, some (V.ref p1020), some (V.ref p1040), some (V.ref a1125), u1134, u1135, u1136, none] ∧ Same G1123 G' ∧ Sep [] H H G' H' [p895, p924, x933, l946, l947, p1020, l1021, p1040] ∧ H' p895 = some (.lst (((octets_968) ++ [99] : (List Int)).map V.int)) ∧ H' p924 = some (.lst ((octets_894 : (List Int)).map V.int)) ∧ H' x933 = some (.ins AD.c_Decoder dx934 [("_probabilities", V.ref l946), ("_octets", V.ref l947), ("_place", V.int (decoder_1131.place)), ("_span", V.int (decoder_1131.span)), ("_value", V.int (decoder_1131.value))]) ∧ H' l946 = some (.lst ((decoder_1131.probs : (List Int)).map V.int)) ∧ H' l947 = some (.lst ((decoder_1131.octs : (List Int)).map V.int)) ∧ H' p1020 = some (.lst [V.int (state_1132.1), V.int (state_1132.2.1), V.int (state_1132.2.2.1), V.ref l1021]) ∧ H' l1021 = some (.lst ((state_1132.2.2.2 : (List Int)).map V.int)) ∧ H' p1040 = some (.lst ((chances_1133 : (List Int)).map V.int)) ∧ cW (forR (List.drop i (items_1076)) (decoder_1131, state_1132, chances_1133) (fun s x => F_law_b6  (s.1) (s.2.1) (s.2.2) x)) K1129 EE) ?_ ?_ ?_ ?_⟩
              · exact ⟨(v945), (v1017), (repL ([2048]) (257)), _, _, _, _, rfl, (Same.refl _), S1113, h1114, h1115, h1116, h1117, h1118, h1119, h1120, h1121, hw⟩
              · intro i σ H1137 _ hw
                obtain ⟨decoder_1131, state_1132, chances_1133, u1134, u1135, u1136, G1147, rfl, eG1148, S1138, h1139, h1140, h1141, h1142, h1143, h1144, h1145, h1146, hw⟩ := hw
                exact (SqL.of (S1138.sG _ _ (eG1148 _ _ h1127)))
              · intro i x σ H1149 hj hw
                obtain ⟨decoder_1131, state_1132, chances_1133, u1134, u1135, u1136, G1159, rfl, eG1160, S1150, h1151, h1152, h1153, h1154, h1155, h1156, h1157, h1158, hw⟩ := hw
                obtain ⟨x1161, hx, r1162⟩ := RpAll.get (RpAll.mono eG1160 d1128) hj
                obtain ⟨a1163, v1165, v1166, rfl, h1164, r1167, r1168⟩ := rp_tup2 r1162
                obtain rfl := rp_int r1167
                obtain rfl := rp_int r1168
                have hw := cW_forR hx hw
                have hw : cW (F_law_b6  (decoder_1131) (state_1132) (chances_1133) (x1161)) _ EE := hw
                unfold F_law_b6 at hw
                obtain ⟨K1172, hK1173, hw⟩ := cW_name hw
                refine ⟨_, rfl, _, _, _, _, rfl, rfl, (SqT.of (S1150.sG _ _ h1164)), rfl, ⟨fun σ H' => ∃ (decoder_1180 : St_Decoder) (context_1181 : Int) (actual_1182 : Int) (G' : Hp), σ = [some (V.ref a_script), some (V.int (v804)), some (V.ref p895), some (V.ref p924), some (V.ref x933), u969, some (V.ref p1020), some (V.ref p1040), some (V.ref a1125), some (V.ref a1163), some (V.int context_1181), some (V.int actual_1182), none] ∧ Same G1159 G' ∧ Sep [] H H G' H' [p895, p924, x933, l946, l947, p1020, l1021, p1040] ∧ H' p895 = some (.lst (((octets_968) ++ [99] : (List Int)).map V.int)) ∧ H' p924 = some (.lst ((octets_894 : (List Int)).map V.int)) ∧ H' x933 = some (.ins AD.c_Decoder dx934 [("_probabilities", V.ref l946), ("_octets", V.ref l947), ("_place", V.int (decoder_1180.place)), ("_span", V.int (decoder_1180.span)), ("_value", V.int (decoder_1180.value))]) ∧ H' l946 = some (.lst ((decoder_1180.probs : (List Int)).map V.int)) ∧ H' l947 = some (.lst ((decoder_1180.octs : (List Int)).map V.int)) ∧ H' p1020 = some (.lst [V.int (state_1132.1), V.int (state_1132.2.1), V.int (state_1132.2.2.1), V.ref l1021]) ∧ H' l1021 = some (.lst ((state_1132.2.2.2 : (List Int)).map V.int)) ∧ H' p1040 = some (.lst ((chances_1133 : (List Int)).map V.int)) ∧ cW (F_law_k7 (state_1132) (chances_1133) decoder_1180 context_1181 actual_1182) K1172 EE, ?_, ?_⟩⟩
                · obtain ⟨K1183, hK1184, hw⟩ := cW_push hw
                  refine ⟨_, rfl, _, _, rfl, rfl, _, rfl, ?_⟩
                  refine iteD (fun c1185 => ?_) (fun c1185 => ?_)
                  · have hw := cW_pos c1185 hw
                    refine ⟨_, rfl, _, _, _, rfl, h1153, rfl, _, rfl, rfl, rfl, G1159, _, _, _, _, decoder_1131, _, rfl, S1150.sG, (S1150.gno (all_cons (.tail _ (.tail _ (.head _))) (all_cons (.tail _ (.tail _ (.tail _ (.head _)))) (all_cons (.tail _ (.tail _ (.tail _ (.tail _ (.head _))))) all_nil)))), h1153, h1154, h1155, ne956, cW_call hw (fun v1186 hw H1187 x1188 h1190 h1191 h1192  => ?_) (fun e he => (hE e he).elim)⟩
                    have S1189 := S1150.mut x1188 (all_cons (.tail _ (.tail _ (.head _))) (all_cons (.tail _ (.tail _ (.tail _ (.head _)))) (all_cons (.tail _ (.tail _ (.tail _ (.tail _ (.head _))))) all_nil))) (all_cons (some_ne h1190) (all_cons (some_ne h1191) (all_cons (some_ne h1192) all_nil)))
                    have hw := cW_ok hw
                    have hw := hK1184 _ hw
                    have h1197 := (x1188 _ _ h1151 (ni3 (ne_of_none (e928 _ _ h920) n935) (ne_of_none h944 n954) (ne_of_none h944 n955)))
                    have h1198 := (x1188 _ _ h1152 (ni3 (ne_of_none h930 n935) (ne_of_none (e940 _ _ h930) n954) (ne_of_none (e940 _ _ h930) n955)))
                    have h1199 := (x1188 _ _ h1156 (ni3 (ne_of_none (x1011 _ _ h1002 (ne_of_none (e928 _ _ h920) n935).symm) n1022).symm (ne_of_none (x1011 _ _ h1003 (ne_of_none h944 n954).symm) n1022).symm (ne_of_none (x1011 _ _ h1004 (ne_of_none h944 n955).symm) n1022).symm))
                    have h1200 := (x1188 _ _ h1157 (ni3 (ne_of_none (x1011 _ _ h1002 (ne_of_none (e928 _ _ h920) n935).symm) n1023).symm (ne_of_none (x1011 _ _ h1003 (ne_of_none h944 n954).symm) n1023).symm (ne_of_none (x1011 _ _ h1004 (ne_of_none h944 n955).symm) n1023).symm))
                    have h1201 := (x1188 _ _ h1158 (ni3 (ne_of_none (e1034 _ _ (e1019 _ _ (x1011 _ _ h1002 (ne_of_none (e928 _ _ h920) n935).symm))) n1041).symm (ne_of_none (e1034 _ _ (e1019 _ _ (x1011 _ _ h1003 (ne_of_none h944 n954).symm))) n1041).symm (ne_of_none (e1034 _ _ (e1019 _ _ (x1011 _ _ h1004 (ne_of_none h944 n955).symm))) n1041).symm))
                    exact ⟨(v1186.2), (x1161.1), (v1186.1), _, rfl, (Same.refl _), S1189, h1197, h1198, h1190, h1191, h1192, h1199, h1200, h1201, hw⟩
                  · have hw := cW_neg c1185 hw
                    refine ⟨_, rfl, _, _, _, rfl, h1153, rfl, rfl, rfl, G1159, _, _, _, _, decoder_1131, rfl, S1150.sG, (S1150.gno (all_cons (.tail _ (.tail _ (.head _))) (all_cons (.tail _ (.tail _ (.tail _ (.head _)))) (all_cons (.tail _ (.tail _ (.tail _ (.tail _ (.head _))))) all_nil)))), h1153, h1154, h1155, ne956, cW_call hw (fun v1202 hw H1203 x1204 h1206 h1207 h1208  => ?_) (fun e he => (hE e he).elim)⟩
                    have S1205 := S1150.mut x1204 (all_cons (.tail _ (.tail _ (.head _))) (all_cons (.tail _ (.tail _ (.tail _ (.head _)))) (all_cons (.tail _ (.tail _ (.tail _ (.tail _ (.head _))))) all_nil))) (all_cons (some_ne h1206) (all_cons (some_ne h1207) (all_cons (some_ne h1208) all_nil)))
                    have hw := cW_ok hw
                    have hw := hK1184 _ hw
                    have h1213 := (x1204 _ _ h1151 (ni3 (ne_of_none (e928 _ _ h920) n935) (ne_of_none h944 n954) (ne_of_none h944 n955)))
                    have h1214 := (x1204 _ _ h1152 (ni3 (ne_of_none h930 n935) (ne_of_none (e940 _ _ h930) n954) (ne_of_none (e940 _ _ h930) n955)))
                    have h1215 := (x1204 _ _ h1156 (ni3 (ne_of_none (x1011 _ _ h1002 (ne_of_none (e928 _ _ h920) n935).symm) n1022).symm (ne_of_none (x1011 _ _ h1003 (ne_of_none h944 n954).symm) n1022).symm (ne_of_none (x1011 _ _ h1004 (ne_of_none h944 n955).symm) n1022).symm))
                    have h1216 := (x1204 _ _ h1157 (ni3 (ne_of_none (x1011 _ _ h1002 (ne_of_none (e928 _ _ h920) n935).symm) n1023).symm (ne_of_none (x1011 _ _ h1003 (ne_of_none h944 n954).symm) n1023).symm (ne_of_none (x1011 _ _ h1004 (ne_of_none h944 n955).symm) n1023).symm))
                    have h1217 := (x1204 _ _ h1158 (ni3 (ne_of_none (e1034 _ _ (e1019 _ _ (x1011 _ _ h1002 (ne_of_none (e928 _ _ h920) n935).symm))) n1041).symm (ne_of_none (e1034 _ _ (e1019 _ _ (x1011 _ _ h1003 (ne_of_none h944 n954).symm))) n1041).symm (ne_of_none (e1034 _ _ (e1019 _ _ (x1011 _ _ h1004 (ne_of_none h944 n955).symm))) n1041).symm))
                    exact ⟨(v1202.2), (256), (v1202.1), _, rfl, (Same.refl _), S1205, h1213, h1214, h1206, h1207, h1208, h1215, h1216, h1217, hw⟩
                · intro σ H1218 hw
                  obtain ⟨decoder_1180, context_1181, actual_1182, G1228, rfl, eG1229, S1219, h1220, h1221, h1222, h1223, h1224, h1225, h1226, h1227, hw⟩ := hw
                  unfold F_law_k7 at hw
                  refine ⟨_, rfl, _, _, _, _, _, rfl, (.ty _), (.base (.int _)), rfl, _, rfl, ?_⟩
                  refine iteF ?_
                  refine ⟨_, rfl, _, rfl, _, rfl, _, rfl, rfl, rfl, G1228, _, _, state_1132, _, chances_1133, _, rfl, S1219.sG, (S1219.gno (all_cons (.tail _ (.tail _ (.tail _ (.tail _ (.tail _ (.head _)))))) (all_cons (.tail _ (.tail _ (.tail _ (.tail _ (.tail _ (.tail _ (.head _))))))) (all_cons (.tail _ (.tail _ (.tail _ (.tail _ (.tail _ (.tail _ (.tail _ (.head _)))))))) all_nil)))), h1225, h1226, ne1026, h1227, (ne_of_none (e1034 _ _ h1024) n1041), (ne_of_none (e1034 _ _ h1025) n1041), cW_call hw (fun v1230 hw H1231 x1232 h1234 h1235 h1236  => ?_) (fun e he => (hE e he).elim)⟩
                  have S1233 := S1219.mut x1232 (all_cons (.tail _ (.tail _ (.tail _ (.tail _ (.tail _ (.head _)))))) (all_cons (.tail _ (.tail _ (.tail _ (.tail _ (.tail _ (.tail _ (.head _))))))) (all_cons (.tail _ (.tail _ (.tail _ (.tail _ (.tail _ (.tail _ (.tail _ (.head _)))))))) all_nil))) (all_cons (some_ne h1234) (all_cons (some_ne h1235) (all_cons (some_ne h1236) all_nil)))
                  refine ⟨_, _, rfl, rfl, _, rfl, ?_⟩
                  refine iteN (fun c1241 => ?_) (fun c1241 => ?_)
                  · have hw := cW_neg c1241 hw
                    have hw := cW_ok hw
                    have hw := hK1173 (.rt _) hw
                    have hw := hK1130 (.rt _) hw
                    have hw := cW_ok hw
                    exact eq_bl (k _) (hK0 _ hw).symm
                  · have hw := cW_pos c1241 hw
                    have hw := cW_ok hw
                    have hw := hK1173 _ hw
                    have h1242 := (x1232 _ _ h1220 (ni3 (ne_of_none h1013 n1022) (ne_of_none h1013 n1023) (ne_of_none (e1034 _ _ (e1019 _ _ h1013)) n1041)))
                    have h1243 := (x1232 _ _ h1221 (ni3 (ne_of_none h1016 n1022) (ne_of_none h1016 n1023) (ne_of_none (e1034 _ _ (e1019 _ _ h1016)) n1041)))
                    have h1244 := (x1232 _ _ h1222 (ni3 (ne_of_none (x1011 _ _ h1002 (ne_of_none (e928 _ _ h920) n935).symm) n1022) (ne_of_none (x1011 _ _ h1002 (ne_of_none (e928 _ _ h920) n935).symm) n1023) (ne_of_none (e1034 _ _ (e1019 _ _ (x1011 _ _ h1002 (ne_of_none (e928 _ _ h920) n935).symm))) n1041)))
                    have h1245 := (x1232 _ _ h1223 (ni3 (ne_of_none (x1011 _ _ h1003 (ne_of_none h944 n954).symm) n1022) (ne_of_none (x1011 _ _ h1003 (ne_of_none h944 n954).symm) n1023) (ne_of_none (e1034 _ _ (e1019 _ _ (x1011 _ _ h1003 (ne_of_none h944 n954).symm))) n1041)))
                    have h1246 := (x1232 _ _ h1224 (ni3 (ne_of_none (x1011 _ _ h1004 (ne_of_none h944 n955).symm) n1022) (ne_of_none (x1011 _ _ h1004 (ne_of_none h944 n955).symm) n1023) (ne_of_none (e1034 _ _ (e1019 _ _ (x1011 _ _ h1004 (ne_of_none h944 n955).symm))) n1041)))
                    exact ⟨(decoder_1180), (v1230.2.1), (v1230.2.2), _, _, _, _, rfl, (Same.trans eG1160 eG1229), S1233, h1242, h1243, h1244, h1245, h1246, h1234, h1235, h1236, hw⟩
              · intro σ H1247 hw
                obtain ⟨decoder_1131, state_1132, chances_1133, u1134, u1135, u1136, G1257, rfl, eG1258, S1248, h1249, h1250, h1251, h1252, h1253, h1254, h1255, h1256, hw⟩ := hw
                have hw := hK1130 _ (cW_forR0 (by rw [(RpAll.mono eG1258 d1128).len, List.length_map]) hw)
                have hw : cW (F_law_r6  (decoder_1131) (state_1132) (chances_1133)) _ EE := hw
                unfold F_law_r6 at hw
                obtain ⟨K1264, hK1265, hw⟩ := cW_push hw
                refine ⟨_, rfl, (by decide), (by decide), for_range (lo := 0) (n := Int.toNat (256)) (fun i σ H' => ∃ (u1266 : Option V) (u1267 : Option V) (G' : Hp), σ = [some (V.ref a_script), some (V.int (v804)), some (V.ref p895), some (V.ref p924), some (V.ref x933), u969, some (V.ref p1020), some (V.ref p1040), some (V.ref a1125), u1134, u1266, u1136, u1267] ∧ Same G1257 G' ∧ Sep [] H H G' H' [p895, p924, x933, l946, l947, p1020, l1021, p1040] ∧ H' p895 = some (.lst (((octets_968) ++ [99] : (List Int)).map V.int)) ∧ H' p924 = some (.lst ((octets_894 : (List Int)).map V.int)) ∧ H' x933 = some (.ins AD.c_Decoder dx934 [("_probabilities", V.ref l946), ("_octets", V.ref l947), ("_place", V.int (decoder_1131.place)), ("_span", V.int (decoder_1131.span)), ("_value", V.int (decoder_1131.value))]) ∧ H' l946 = some (.lst ((decoder_1131.probs : (List Int)).map V.int)) ∧ H' l947 = some (.lst ((decoder_1131.octs : (List Int)).map V.int)) ∧ H' p1020 = some (.lst [V.int (state_1132.1), V.int (state_1132.2.1), V.int (state_1132.2.2.1), V.ref l1021]) ∧ H' l1021 = some (.lst ((state_1132.2.2.2 : (List Int)).map V.int)) ∧ H' p1040 = some (.lst ((chances_1133 : (List Int)).map V.int)) ∧ cW (forR (List.drop i (rng (0) (Int.toNat (256)))) () (fun s x => F_law_b8 (decoder_1131) (chances_1133)  x)) K1264 EE) ?_ ?_ ?_⟩
                · exact ⟨_, _, _, rfl, (Same.refl _), S1248, h1249, h1250, h1251, h1252, h1253, h1254, h1255, h1256, hw⟩
                · intro i σ H1268 hi hw
                  obtain ⟨u1266, u1267, G1278, rfl, eG1279, S1269, h1270, h1271, h1272, h1273, h1274, h1275, h1276, h1277, hw⟩ := hw
                  have hw := cW_forR (rng_get hi) hw
                  generalize (0 + (i : Int)) = x1280 at hw ⊢
                  have hw : cW (F_law_b8 (decoder_1131) (chances_1133)  (x1280)) _ EE := hw
                  unfold F_law_b8 at hw
                  obtain ⟨K1281, hK1282, hw⟩ := cW_name hw
                  refine ⟨_, rfl, _, _, _, rfl, h1272, rfl, _, rfl, rfl, rfl, G1278, _, _, _, _, decoder_1131, _, rfl, S1269.sG, (hide_nil h1272), (hide_nil h1273), (hide_nil h1274), cW_call hw (fun v1284 hw H1285 e1286 => ?_) (fun e he => (hE e he).elim)⟩
                  have S1287 := S1269.same e1286
                  obtain ⟨g1288, hw⟩ := cW_grd hw
                  have h1289 := (e1286 _ _ h1277)
                  refine ⟨_, rfl, _, rfl, _, rfl, _, _, _, _, rfl, rfl, (SqL.of h1289), (atI_map g1288), _, _, rfl, rfl, _, rfl, ?_⟩
                  refine iteN (fun c1290 => ?_) (fun c1290 => ?_)
                  · have hw := cW_neg c1290 hw
                    refine iteT ?_
                    have hw := cW_ok hw
                    have hw := hK1282 (.rt _) hw
                    have hw := hK1265 (.rt _) hw
                    have hw := cW_ok hw
                    exact eq_bl (k _) (hK0 _ hw).symm
                  · have hw := cW_pos c1290 hw
                    refine ⟨_, rfl, _, _, rfl, rfl, _, rfl, ?_⟩
                    refine iteD (fun c1291 => ?_) (fun c1291 => ?_)
                    · have hw := cW_pos c1291 hw
                      refine ⟨_, _, rfl, rfl, _, rfl, ?_⟩
                      refine iteN (fun c1292 => ?_) (fun c1292 => ?_)
                      · have hw := cW_neg c1292 hw
                        have hw := cW_ok hw
                        have hw := hK1282 (.rt _) hw
                        have hw := hK1265 (.rt _) hw
                        have hw := cW_ok hw
                        exact eq_bl (k _) (hK0 _ hw).symm
                      · have hw := cW_pos c1292 hw
                        have hw := cW_ok hw
                        have hw := hK1282 _ hw
                        have h1293 := (e1286 _ _ h1270)
                        have h1294 := (e1286 _ _ h1271)
                        have h1295 := (e1286 _ _ h1272)
                        have h1296 := (e1286 _ _ h1273)
                        have h1297 := (e1286 _ _ h1274)
                        have h1298 := (e1286 _ _ h1275)
                        have h1299 := (e1286 _ _ h1276)
                        exact ⟨_, _, _, rfl, eG1279, S1287, h1293, h1294, h1295, h1296, h1297, h1298, h1299, h1289, hw⟩
                    · have hw := cW_neg c1291 hw
                      refine ⟨_, rfl, ?_⟩
                      refine iteT ?_
                      have hw := cW_ok hw
                      have hw := hK1282 (.rt _) hw
                      have hw := hK1265 (.rt _) hw
                      have hw := cW_ok hw
                      exact eq_bl (k _) (hK0 _ hw).symm
                · intro σ H1300 hw
                  obtain ⟨u1266, u1267, G1310, rfl, eG1311, S1301, h1302, h1303, h1304, h1305, h1306, h1307, h1308, h1309, hw⟩ := hw
                  have hw := hK1265 _ (cW_forR0 (rng_len _ _).symm hw)
                  have hw : cW (F_law_r8  ) _ EE := hw
                  unfold F_law_r8 at hw
                  have hw := cW_ok hw
                  exact eq_bl (k _) (hK0 _ hw).symm
end
def spL (K : PySem.W.Frag) : Sp := fun vs H Q _ => ∃ (a_script : Addr) (script : List Int), vs = [.ref a_script] ∧ SqL K H a_script (script.map V.int) ∧ script.length ≤ 63 ∧ ∀ H', Q (.bl true) H'
theorem all_mk {l : PySem.W.OpenLaw} {w : World} {K : PySem.W.Frag} {h : Heap} {mg : Str → Option Value} {fa : Addr} (X : K.In h) (G : h.Ns mainGlobals mg) (hfa : mg "law" = some (.ref fa))
    {f0 f1 f2 f3 f4 f5 f6 f7 f8 f9 f10 f11 f12 f13 f14 CDecoder XOutOfRange : Addr} {od0 an0 od1 an1 od2 an2 od3 an3 od4 an4 od5 an5 od6 an6 od7 an7 od8 an8 od9 an9 od10 an10 od11 an11 od12 an12 od13 an13 od14 an14 : Option Addr} {sl0 sl1 sl2 sl3 sl4 sl5 sl6 sl7 sl8 sl9 sl10 sl11 sl12 sl13 sl14 : Array (Option Value)} {oc0 kV0 dc0 pm0 cd0 ct0 oc1 kV1 dc1 pm1 cd1 ct1 oc2 kV2 dc2 pm2 cd2 ct2 oc3 kV3 dc3 pm3 cd3 ct3 oc4 kV4 dc4 pm4 cd4 ct4 oc5 kV5 dc5 pm5 cd5 ct5 oc6 kV6 dc6 pm6 cd6 ct6 oc7 kV7 dc7 pm7 cd7 ct7 oc8 kV8 dc8 pm8 cd8 ct8 oc9 kV9 dc9 pm9 cd9 ct9 oc10 kV10 dc10 pm10 cd10 ct10 oc11 kV11 dc11 pm11 cd11 ct11 oc12 kV12 dc12 pm12 cd12 ct12 oc13 kV13 dc13 pm13 cd13 ct13 oc14 kV14 dc14 pm14 cd14 ct14 : Value} {tk3 tk4 tk6 tk9 tk10 tk11 tk12 : Tok}
    (wDecoder : PySem.W.nsIn K mainGlobals "Decoder" = some (some (.ref CDecoder))) (vOutOfRange : PySem.W.nsIn K mainGlobals "OutOfRange" = some (some (.ref XOutOfRange))) (a0 : PySem.W.nsIn K mainGlobals "_law_draws" = some (some (.ref f0))) (l0 : K.lookup f0 = some ⟨oc0, od0, .func (PySem.W.fnOf "_law_draws" "_law_draws" (defArgs s__law_draws) (defBody s__law_draws) (defScope s__law_draws) .none kV0 dc0 pm0 an0 cd0 ct0), sl0⟩) (c0 : PySem.W.codeIn K cd0 "_law_draws" = true) (k0 : PySem.W.keepIn K (.ref f0) = true) (a1 : PySem.W.findIn K (.ref CDecoder) "_shift" = some (some (.ref f1))) (b1 : PySem.W.isFn K (.ref f1) = true) (l1 : K.lookup f1 = some ⟨oc1, od1, .func (PySem.W.fnOf "_shift" "Decoder._shift" (defArgs s_Decoder__shift) (defBody s_Decoder__shift) (defScope s_Decoder__shift) .none kV1 dc1 pm1 an1 cd1 ct1), sl1⟩) (c1 : PySem.W.codeIn K cd1 "Decoder._shift" = true) (k1 : PySem.W.keepIn K (.ref f1) = true) (a2 : PySem.W.findIn K (.ref CDecoder) "__init__" = some (some (.ref f2))) (b2 : PySem.W.isFn K (.ref f2) = true) (d2 : PySem.W.makesIn K CDecoder = true) (e2 : PySem.W.keepIn K (.ref CDecoder) = true) (l2 : K.lookup f2 = some ⟨oc2, od2, .func (PySem.W.fnOf "__init__" "Decoder.__init__" (defArgs s_Decoder___init__) (defBody s_Decoder___init__) (defScope s_Decoder___init__) .none kV2 dc2 pm2 an2 cd2 ct2), sl2⟩) (c2 : PySem.W.codeIn K cd2 "Decoder.__init__" = true) (k2 : PySem.W.keepIn K (.ref f2) = true) (a3 : PySem.W.nsIn K mainGlobals "_law_start" = some (some (.ref f3))) (l3 : K.lookup f3 = some ⟨oc3, od3, .func (PySem.W.fnOf "_law_start" "_law_start" (defArgs s__law_start) (defBody s__law_start) (defScope s__law_start) .none kV3 dc3 pm3 an3 cd3 ct3), sl3⟩) (c3 : PySem.W.codeIn K cd3 "_law_start" = true) (k3 : PySem.W.keepIn K (.ref f3) = true) (a4 : PySem.W.nsIn K mainGlobals "_law_items" = some (some (.ref f4))) (l4 : K.lookup f4 = some ⟨oc4, od4, .func (PySem.W.fnOf "_law_items" "_law_items" (defArgs s__law_items) (defBody s__law_items) (defScope s__law_items) .none kV4 dc4 pm4 an4 cd4 ct4), sl4⟩) (c4 : PySem.W.codeIn K cd4 "_law_items" = true) (k4 : PySem.W.keepIn K (.ref f4) = true) (a5 : PySem.W.nsIn K mainGlobals "_law_cell" = some (some (.ref f5))) (l5 : K.lookup f5 = some ⟨oc5, od5, .func (PySem.W.fnOf "_law_cell" "_law_cell" (defArgs s__law_cell) (defBody s__law_cell) (defScope s__law_cell) .none kV5 dc5 pm5 an5 cd5 ct5), sl5⟩) (c5 : PySem.W.codeIn K cd5 "_law_cell" = true) (k5 : PySem.W.keepIn K (.ref f5) = true) (a6 : PySem.W.nsIn K mainGlobals "_check_context" = some (some (.ref f6))) (l6 : K.lookup f6 = some ⟨oc6, od6, .func (PySem.W.fnOf "_check_context" "_check_context" (defArgs s__check_context) (defBody s__check_context) (defScope s__check_context) .none kV6 dc6 pm6 an6 cd6 ct6), sl6⟩) (c6 : PySem.W.codeIn K cd6 "_check_context" = true) (k6 : PySem.W.keepIn K (.ref f6) = true) (a7 : PySem.W.findIn K (.ref CDecoder) "probability" = some (some (.ref f7))) (b7 : PySem.W.isFn K (.ref f7) = true) (l7 : K.lookup f7 = some ⟨oc7, od7, .func (PySem.W.fnOf "probability" "Decoder.probability" (defArgs s_Decoder_probability) (defBody s_Decoder_probability) (defScope s_Decoder_probability) .none kV7 dc7 pm7 an7 cd7 ct7), sl7⟩) (c7 : PySem.W.codeIn K cd7 "Decoder.probability" = true) (k7 : PySem.W.keepIn K (.ref f7) = true) (a8 : PySem.W.nsIn K mainGlobals "_adapted" = some (some (.ref f8))) (l8 : K.lookup f8 = some ⟨oc8, od8, .func (PySem.W.fnOf "_adapted" "_adapted" (defArgs s__adapted) (defBody s__adapted) (defScope s__adapted) .none kV8 dc8 pm8 an8 cd8 ct8), sl8⟩) (c8 : PySem.W.codeIn K cd8 "_adapted" = true) (k8 : PySem.W.keepIn K (.ref f8) = true) (a9 : PySem.W.findIn K (.ref CDecoder) "_decide" = some (some (.ref f9))) (b9 : PySem.W.isFn K (.ref f9) = true) (l9 : K.lookup f9 = some ⟨oc9, od9, .func (PySem.W.fnOf "_decide" "Decoder._decide" (defArgs s_Decoder__decide) (defBody s_Decoder__decide) (defScope s_Decoder__decide) .none kV9 dc9 pm9 an9 cd9 ct9), sl9⟩) (c9 : PySem.W.codeIn K cd9 "Decoder._decide" = true) (k9 : PySem.W.keepIn K (.ref f9) = true) (a10 : PySem.W.findIn K (.ref CDecoder) "read" = some (some (.ref f10))) (b10 : PySem.W.isFn K (.ref f10) = true) (l10 : K.lookup f10 = some ⟨oc10, od10, .func (PySem.W.fnOf "read" "Decoder.read" (defArgs s_Decoder_read) (defBody s_Decoder_read) (defScope s_Decoder_read) .none kV10 dc10 pm10 an10 cd10 ct10), sl10⟩) (c10 : PySem.W.codeIn K cd10 "Decoder.read" = true) (k10 : PySem.W.keepIn K (.ref f10) = true) (a11 : PySem.W.findIn K (.ref CDecoder) "read_even" = some (some (.ref f11))) (b11 : PySem.W.isFn K (.ref f11) = true) (l11 : K.lookup f11 = some ⟨oc11, od11, .func (PySem.W.fnOf "read_even" "Decoder.read_even" (defArgs s_Decoder_read_even) (defBody s_Decoder_read_even) (defScope s_Decoder_read_even) .none kV11 dc11 pm11 an11 cd11 ct11), sl11⟩) (c11 : PySem.W.codeIn K cd11 "Decoder.read_even" = true) (k11 : PySem.W.keepIn K (.ref f11) = true) (a12 : PySem.W.nsIn K mainGlobals "_law_moved" = some (some (.ref f12))) (l12 : K.lookup f12 = some ⟨oc12, od12, .func (PySem.W.fnOf "_law_moved" "_law_moved" (defArgs s__law_moved) (defBody s__law_moved) (defScope s__law_moved) .none kV12 dc12 pm12 an12 cd12 ct12), sl12⟩) (c12 : PySem.W.codeIn K cd12 "_law_moved" = true) (k12 : PySem.W.keepIn K (.ref f12) = true) (a13 : PySem.W.nsIn K mainGlobals "_law_next" = some (some (.ref f13))) (l13 : K.lookup f13 = some ⟨oc13, od13, .func (PySem.W.fnOf "_law_next" "_law_next" (defArgs s__law_next) (defBody s__law_next) (defScope s__law_next) .none kV13 dc13 pm13 an13 cd13 ct13), sl13⟩) (c13 : PySem.W.codeIn K cd13 "_law_next" = true) (k13 : PySem.W.keepIn K (.ref f13) = true) (a14 : PySem.W.nsIn K mainGlobals "law" = some (some (.ref f14))) (l14 : K.lookup f14 = some ⟨oc14, od14, .func (PySem.W.fnOf "law" "law" (defArgs s_law) (defBody s_law) (defScope s_law) .none kV14 dc14 pm14 an14 cd14 ct14), sl14⟩) (c14 : PySem.W.codeIn K cd14 "law" = true) (k14 : PySem.W.keepIn K (.ref f14) = true)
    (z0 : PySem.W.nsIn K mainGlobals "abs" = some none) (z1 : PySem.W.nsIn K mainGlobals "int" = some none) (z2 : PySem.W.nsIn K mainGlobals "len" = some none) (z3 : PySem.W.nsIn K mainGlobals "EVEN" = some (some (.int 2048 tk3))) (z4 : PySem.W.nsIn K mainGlobals "CONTEXTS" = some (some (.int 256 tk4))) (z5 : PySem.W.nsIn K mainGlobals "list" = some none) (z6 : PySem.W.nsIn K mainGlobals "WORD" = some (some (.int 4294967296 tk6))) (z7 : PySem.W.nsIn K mainGlobals "range" = some none) (z8 : PySem.W.nsIn K mainGlobals "min" = some none) (z9 : PySem.W.nsIn K mainGlobals "SCALE" = some (some (.int 4096 tk9))) (z10 : PySem.W.nsIn K mainGlobals "RATE" = some (some (.int 5 tk10))) (z11 : PySem.W.nsIn K mainGlobals "SCALE_BITS" = some (some (.int 12 tk11))) (z12 : PySem.W.nsIn K mainGlobals "LEAST_SPAN" = some (some (.int 16777216 tk12))) (z13 : PySem.W.nsIn K mainGlobals "isinstance" = some none) (z14 : PySem.W.nsIn K mainGlobals "bool" = some none) (yDecoder0 : PySem.W.plainGet K CDecoder Str.empty = true) (yDecoder1 : PySem.W.hasDictIn K CDecoder = true) (yDecoder2 : PySem.W.plainOver K CDecoder = true) (yDecoder3 : PySem.W.findIn K (.ref CDecoder) "__setattr__" = some (some (.builtin "object.__setattr__"))) (xDecoder0 : PySem.W.findIn K (.ref CDecoder) "_probabilities" = some none) (xDecoder1 : PySem.W.findIn K (.ref CDecoder) "_octets" = some none) (xDecoder2 : PySem.W.findIn K (.ref CDecoder) "_place" = some none) (xDecoder3 : PySem.W.findIn K (.ref CDecoder) "_span" = some none) (xDecoder4 : PySem.W.findIn K (.ref CDecoder) "_value" = some none) (exOutOfRange : PySem.W.excIn K XOutOfRange [.type "ValueError", .type "Exception", .type "BaseException", .type "object"] "ValueError.__new__" = true) (ekOutOfRange : PySem.W.keepIn K (.ref XOutOfRange) = true) (ebOutOfRange : PySem.W.subIn K (.ref XOutOfRange) (.type "BaseException") = some true) (etOutOfRange : PySem.W.typeIn K (.ref XOutOfRange) = some (.type "type")) :
    ∃ fd : FuncData, (∀ (s : Shared) (v : Value), BindsTo s fd ⟨[v], []⟩ [("script", v)]) ∧ ∀ base : Heap, K.In base → base.Ns mainGlobals mg → FnOk l.prog w K mg base CX0 4 fa fd ["script"] (spL K) := by
  have e := hfa.symm.trans (PySem.W.mg_of X G a14)
  cases e
  have T : Txt K mg ⟨CDecoder, fa, XOutOfRange, fa⟩ := ⟨PySem.W.mg_none_of X G z0, PySem.W.mg_none_of X G z1, PySem.W.mg_none_of X G z2, ⟨_, PySem.W.mg_of X G z3, ⟨_, rfl⟩⟩, ⟨_, PySem.W.mg_of X G z4, ⟨_, rfl⟩⟩, PySem.W.mg_none_of X G z5, ⟨_, PySem.W.mg_of X G z6, ⟨_, rfl⟩⟩, PySem.W.mg_none_of X G z7, PySem.W.mg_none_of X G z8, ⟨_, PySem.W.mg_of X G z9, ⟨_, rfl⟩⟩, ⟨_, PySem.W.mg_of X G z10, ⟨_, rfl⟩⟩, ⟨_, PySem.W.mg_of X G z11, ⟨_, rfl⟩⟩, ⟨_, PySem.W.mg_of X G z12, ⟨_, rfl⟩⟩, PySem.W.mg_none_of X G z13, PySem.W.mg_none_of X G z14, ⟨yDecoder0, yDecoder1, yDecoder2, yDecoder3⟩, xDecoder0, xDecoder1, xDecoder2, xDecoder3, xDecoder4, PySem.W.mg_of X G vOutOfRange, exOutOfRange, ekOutOfRange, ebOutOfRange, etOutOfRange⟩
  have F0 : FunD K "_law_draws" "_law_draws" (defArgs s__law_draws) (defBody s__law_draws) (defScope s__law_draws) [] [] f0 _ := ⟨⟨_, _, _, _, _, _, _, _, _, _, rfl, l0, c0, .inl ⟨rfl, rfl⟩, .inl rfl⟩, k0⟩
  have D_0 : DefX K mg "_law_draws" s__law_draws ["cell", "limits"] pats__law_draws := ⟨_, _, _, _, F0, PySem.W.mg_of X G a0, (all_consQ (Bnd.all fun us ws vs zs l1 l2 r rz => by
      obtain ⟨u0, u1, rfl⟩ := len2 (r.length.symm.trans l1)
      obtain rfl := len0 (rz.length.symm.trans l2)
      cases r with | cons r0 r =>
        cases r with | cons r1 r =>
          cases r
          cases rz
          exact ⟨[u0, u1], rfl, (.cons r0 (.cons r1 .nil))⟩) all_nilQ)⟩
  have F1 : FunD K "_shift" "Decoder._shift" (defArgs s_Decoder__shift) (defBody s_Decoder__shift) (defScope s_Decoder__shift) [] [] f1 _ := ⟨⟨_, _, _, _, _, _, _, _, _, _, rfl, l1, c1, .inl ⟨rfl, rfl⟩, .inl rfl⟩, k1⟩
  have D_1 : MethX K CDecoder "Decoder._shift" "_shift" s_Decoder__shift ["self"] pats_Decoder__shift := ⟨_, _, _, _, F1, ⟨a1, b1, k1⟩, (all_consQ (Bnd.all fun us ws vs zs l1 l2 r rz => by
      obtain ⟨u0, rfl⟩ := len1 (r.length.symm.trans l1)
      obtain rfl := len0 (rz.length.symm.trans l2)
      cases r with | cons r0 r =>
        cases r
        cases rz
        exact ⟨[u0], rfl, (.cons r0 .nil)⟩) all_nilQ)⟩
  have F2 : FunD K "__init__" "Decoder.__init__" (defArgs s_Decoder___init__) (defBody s_Decoder___init__) (defScope s_Decoder___init__) [] [] f2 _ := ⟨⟨_, _, _, _, _, _, _, _, _, _, rfl, l2, c2, .inl ⟨rfl, rfl⟩, .inl rfl⟩, k2⟩
  have D_2 : InitX K mg CDecoder "Decoder" "Decoder.__init__" s_Decoder___init__ ["self", "octets"] pats_Decoder___init__ := ⟨_, _, _, _, F2, ⟨d2, a2, b2, e2⟩, PySem.W.mg_of X G wDecoder, (all_consQ (Bnd.all fun us ws vs zs l1 l2 r rz => by
      obtain ⟨u0, u1, rfl⟩ := len2 (r.length.symm.trans l1)
      obtain rfl := len0 (rz.length.symm.trans l2)
      cases r with | cons r0 r =>
        cases r with | cons r1 r =>
          cases r
          cases rz
          exact ⟨[u0, u1], rfl, (.cons r0 (.cons r1 .nil))⟩) all_nilQ)⟩
  have F3 : FunD K "_law_start" "_law_start" (defArgs s__law_start) (defBody s__law_start) (defScope s__law_start) [] [] f3 _ := ⟨⟨_, _, _, _, _, _, _, _, _, _, rfl, l3, c3, .inl ⟨rfl, rfl⟩, .inl rfl⟩, k3⟩
  have D_3 : DefX K mg "_law_start" s__law_start ["octets"] pats__law_start := ⟨_, _, _, _, F3, PySem.W.mg_of X G a3, (all_consQ (Bnd.all fun us ws vs zs l1 l2 r rz => by
      obtain ⟨u0, rfl⟩ := len1 (r.length.symm.trans l1)
      obtain rfl := len0 (rz.length.symm.trans l2)
      cases r with | cons r0 r =>
        cases r
        cases rz
        exact ⟨[u0], rfl, (.cons r0 .nil)⟩) all_nilQ)⟩
  have F4 : FunD K "_law_items" "_law_items" (defArgs s__law_items) (defBody s__law_items) (defScope s__law_items) [] [] f4 _ := ⟨⟨_, _, _, _, _, _, _, _, _, _, rfl, l4, c4, .inl ⟨rfl, rfl⟩, .inl rfl⟩, k4⟩
  have D_4 : DefX K mg "_law_items" s__law_items ["script", "most"] pats__law_items := ⟨_, _, _, _, F4, PySem.W.mg_of X G a4, (all_consQ (Bnd.all fun us ws vs zs l1 l2 r rz => by
      obtain ⟨u0, u1, rfl⟩ := len2 (r.length.symm.trans l1)
      obtain rfl := len0 (rz.length.symm.trans l2)
      cases r with | cons r0 r =>
        cases r with | cons r1 r =>
          cases r
          cases rz
          exact ⟨[u0, u1], rfl, (.cons r0 (.cons r1 .nil))⟩) all_nilQ)⟩
  have F5 : FunD K "_law_cell" "_law_cell" (defArgs s__law_cell) (defBody s__law_cell) (defScope s__law_cell) [] [] f5 _ := ⟨⟨_, _, _, _, _, _, _, _, _, _, rfl, l5, c5, .inl ⟨rfl, rfl⟩, .inl rfl⟩, k5⟩
  have D_5 : DefX K mg "_law_cell" s__law_cell ["script", "k"] pats__law_cell := ⟨_, _, _, _, F5, PySem.W.mg_of X G a5, (all_consQ (Bnd.all fun us ws vs zs l1 l2 r rz => by
      obtain ⟨u0, u1, rfl⟩ := len2 (r.length.symm.trans l1)
      obtain rfl := len0 (rz.length.symm.trans l2)
      cases r with | cons r0 r =>
        cases r with | cons r1 r =>
          cases r
          cases rz
          exact ⟨[u0, u1], rfl, (.cons r0 (.cons r1 .nil))⟩) all_nilQ)⟩
  have F6 : FunD K "_check_context" "_check_context" (defArgs s__check_context) (defBody s__check_context) (defScope s__check_context) [] [] f6 _ := ⟨⟨_, _, _, _, _, _, _, _, _, _, rfl, l6, c6, .inl ⟨rfl, rfl⟩, .inl rfl⟩, k6⟩
  have D_6 : DefX K mg "_check_context" s__check_context ["context"] pats__check_context := ⟨_, _, _, _, F6, PySem.W.mg_of X G a6, (all_consQ (Bnd.all fun us ws vs zs l1 l2 r rz => by
      obtain ⟨u0, rfl⟩ := len1 (r.length.symm.trans l1)
      obtain rfl := len0 (rz.length.symm.trans l2)
      cases r with | cons r0 r =>
        cases r
        cases rz
        exact ⟨[u0], rfl, (.cons r0 .nil)⟩) all_nilQ)⟩
  have F7 : FunD K "probability" "Decoder.probability" (defArgs s_Decoder_probability) (defBody s_Decoder_probability) (defScope s_Decoder_probability) [] [] f7 _ := ⟨⟨_, _, _, _, _, _, _, _, _, _, rfl, l7, c7, .inl ⟨rfl, rfl⟩, .inl rfl⟩, k7⟩
  have D_7 : MethX K CDecoder "Decoder.probability" "probability" s_Decoder_probability ["self", "context"] pats_Decoder_probability := ⟨_, _, _, _, F7, ⟨a7, b7, k7⟩, (all_consQ (Bnd.all fun us ws vs zs l1 l2 r rz => by
      obtain ⟨u0, u1, rfl⟩ := len2 (r.length.symm.trans l1)
      obtain rfl := len0 (rz.length.symm.trans l2)
      cases r with | cons r0 r =>
        cases r with | cons r1 r =>
          cases r
          cases rz
          exact ⟨[u0, u1], rfl, (.cons r0 (.cons r1 .nil))⟩) all_nilQ)⟩
  have F8 : FunD K "_adapted" "_adapted" (defArgs s__adapted) (defBody s__adapted) (defScope s__adapted) [] [] f8 _ := ⟨⟨_, _, _, _, _, _, _, _, _, _, rfl, l8, c8, .inl ⟨rfl, rfl⟩, .inl rfl⟩, k8⟩
  have D_8 : DefX K mg "_adapted" s__adapted ["chance", "decision"] pats__adapted := ⟨_, _, _, _, F8, PySem.W.mg_of X G a8, (all_consQ (Bnd.all fun us ws vs zs l1 l2 r rz => by
      obtain ⟨u0, u1, rfl⟩ := len2 (r.length.symm.trans l1)
      obtain rfl := len0 (rz.length.symm.trans l2)
      cases r with | cons r0 r =>
        cases r with | cons r1 r =>
          cases r
          cases rz
          exact ⟨[u0, u1], rfl, (.cons r0 (.cons r1 .nil))⟩) all_nilQ)⟩
  have F9 : FunD K "_decide" "Decoder._decide" (defArgs s_Decoder__decide) (defBody s_Decoder__decide) (defScope s_Decoder__decide) [] [] f9 _ := ⟨⟨_, _, _, _, _, _, _, _, _, _, rfl, l9, c9, .inl ⟨rfl, rfl⟩, .inl rfl⟩, k9⟩
  have D_9 : MethX K CDecoder "Decoder._decide" "_decide" s_Decoder__decide ["self", "chance"] pats_Decoder__decide := ⟨_, _, _, _, F9, ⟨a9, b9, k9⟩, (all_consQ (Bnd.all fun us ws vs zs l1 l2 r rz => by
      obtain ⟨u0, u1, rfl⟩ := len2 (r.length.symm.trans l1)
      obtain rfl := len0 (rz.length.symm.trans l2)
      cases r with | cons r0 r =>
        cases r with | cons r1 r =>
          cases r
          cases rz
          exact ⟨[u0, u1], rfl, (.cons r0 (.cons r1 .nil))⟩) all_nilQ)⟩
  have F10 : FunD K "read" "Decoder.read" (defArgs s_Decoder_read) (defBody s_Decoder_read) (defScope s_Decoder_read) [] [] f10 _ := ⟨⟨_, _, _, _, _, _, _, _, _, _, rfl, l10, c10, .inl ⟨rfl, rfl⟩, .inl rfl⟩, k10⟩
  have D_10 : MethX K CDecoder "Decoder.read" "read" s_Decoder_read ["self", "context"] pats_Decoder_read := ⟨_, _, _, _, F10, ⟨a10, b10, k10⟩, (all_consQ (Bnd.all fun us ws vs zs l1 l2 r rz => by
      obtain ⟨u0, u1, rfl⟩ := len2 (r.length.symm.trans l1)
      obtain rfl := len0 (rz.length.symm.trans l2)
      cases r with | cons r0 r =>
        cases r with | cons r1 r =>
          cases r
          cases rz
          exact ⟨[u0, u1], rfl, (.cons r0 (.cons r1 .nil))⟩) all_nilQ)⟩
  have F11 : FunD K "read_even" "Decoder.read_even" (defArgs s_Decoder_read_even) (defBody s_Decoder_read_even) (defScope s_Decoder_read_even) [] [] f11 _ := ⟨⟨_, _, _, _, _, _, _, _, _, _, rfl, l11, c11, .inl ⟨rfl, rfl⟩, .inl rfl⟩, k11⟩
  have D_11 : MethX K CDecoder "Decoder.read_even" "read_even" s_Decoder_read_even ["self"] pats_Decoder_read_even := ⟨_, _, _, _, F11, ⟨a11, b11, k11⟩, (all_consQ (Bnd.all fun us ws vs zs l1 l2 r rz => by
      obtain ⟨u0, rfl⟩ := len1 (r.length.symm.trans l1)
      obtain rfl := len0 (rz.length.symm.trans l2)
      cases r with | cons r0 r =>
        cases r
        cases rz
        exact ⟨[u0], rfl, (.cons r0 .nil)⟩) all_nilQ)⟩
  have F12 : FunD K "_law_moved" "_law_moved" (defArgs s__law_moved) (defBody s__law_moved) (defScope s__law_moved) [] [] f12 _ := ⟨⟨_, _, _, _, _, _, _, _, _, _, rfl, l12, c12, .inl ⟨rfl, rfl⟩, .inl rfl⟩, k12⟩
  have D_12 : DefX K mg "_law_moved" s__law_moved ["p", "decision"] pats__law_moved := ⟨_, _, _, _, F12, PySem.W.mg_of X G a12, (all_consQ (Bnd.all fun us ws vs zs l1 l2 r rz => by
      obtain ⟨u0, u1, rfl⟩ := len2 (r.length.symm.trans l1)
      obtain rfl := len0 (rz.length.symm.trans l2)
      cases r with | cons r0 r =>
        cases r with | cons r1 r =>
          cases r
          cases rz
          exact ⟨[u0, u1], rfl, (.cons r0 (.cons r1 .nil))⟩) all_nilQ)⟩
  have F13 : FunD K "_law_next" "_law_next" (defArgs s__law_next) (defBody s__law_next) (defScope s__law_next) [] [] f13 _ := ⟨⟨_, _, _, _, _, _, _, _, _, _, rfl, l13, c13, .inl ⟨rfl, rfl⟩, .inl rfl⟩, k13⟩
  have D_13 : DefX K mg "_law_next" s__law_next ["state", "chances", "context"] pats__law_next := ⟨_, _, _, _, F13, PySem.W.mg_of X G a13, (all_consQ (Bnd.all fun us ws vs zs l1 l2 r rz => by
      obtain ⟨u0, u1, u2, rfl⟩ := len3 (r.length.symm.trans l1)
      obtain rfl := len0 (rz.length.symm.trans l2)
      cases r with | cons r0 r =>
        cases r with | cons r1 r =>
          cases r with | cons r2 r =>
            cases r
            cases rz
            exact ⟨[u0, u1, u2], rfl, (.cons r0 (.cons r1 (.cons r2 .nil)))⟩) all_nilQ)⟩
  have F14 := fun_mk (st := s_law) l14 c14 k14
  have R__law_draws : ∀ base : Heap, CalX l.prog w K mg base 1 "_law_draws" (sp__law_draws K ⟨CDecoder, fa, XOutOfRange, fa⟩) pats__law_draws := fun base => ok__law_draws D_0 T 
  have R_Decoder__shift : ∀ base : Heap, MetX l.prog w K mg base 1 (⟨CDecoder, fa, XOutOfRange, fa⟩ : Ads).c_Decoder "_shift" (sp_Decoder__shift K ⟨CDecoder, fa, XOutOfRange, fa⟩) pats_Decoder__shift := fun base => ok_Decoder__shift D_1 T 
  have R_Decoder___init__ : ∀ base : Heap, MakX l.prog w K mg base 2 "Decoder" (⟨CDecoder, fa, XOutOfRange, fa⟩ : Ads).c_Decoder (sp_Decoder___init__ K ⟨CDecoder, fa, XOutOfRange, fa⟩) pats_Decoder___init__ := fun base => ok_Decoder___init__ D_2 T (R_Decoder__shift base)
  have R__law_start : ∀ base : Heap, CalX l.prog w K mg base 1 "_law_start" (sp__law_start K ⟨CDecoder, fa, XOutOfRange, fa⟩) pats__law_start := fun base => ok__law_start D_3 T 
  have R__law_items : ∀ base : Heap, CalX l.prog w K mg base 2 "_law_items" (sp__law_items K ⟨CDecoder, fa, XOutOfRange, fa⟩) pats__law_items := fun base => ok__law_items D_4 T (R__law_draws base)
  have R__law_cell : ∀ base : Heap, CalX l.prog w K mg base 1 "_law_cell" (sp__law_cell K ⟨CDecoder, fa, XOutOfRange, fa⟩) pats__law_cell := fun base => ok__law_cell D_5 T 
  have R__check_context : ∀ base : Heap, CalX l.prog w K mg base 1 "_check_context" (sp__check_context K ⟨CDecoder, fa, XOutOfRange, fa⟩) pats__check_context := fun base => ok__check_context D_6 T 
  have R_Decoder_probability : ∀ base : Heap, MetX l.prog w K mg base 2 (⟨CDecoder, fa, XOutOfRange, fa⟩ : Ads).c_Decoder "probability" (sp_Decoder_probability K ⟨CDecoder, fa, XOutOfRange, fa⟩) pats_Decoder_probability := fun base => ok_Decoder_probability D_7 T (R__check_context base)
  have R__adapted : ∀ base : Heap, CalX l.prog w K mg base 1 "_adapted" (sp__adapted K ⟨CDecoder, fa, XOutOfRange, fa⟩) pats__adapted := fun base => ok__adapted D_8 T 
  have R_Decoder__decide : ∀ base : Heap, MetX l.prog w K mg base 2 (⟨CDecoder, fa, XOutOfRange, fa⟩ : Ads).c_Decoder "_decide" (sp_Decoder__decide K ⟨CDecoder, fa, XOutOfRange, fa⟩) pats_Decoder__decide := fun base => ok_Decoder__decide D_9 T (R_Decoder__shift base)
  have R_Decoder_read : ∀ base : Heap, MetX l.prog w K mg base 3 (⟨CDecoder, fa, XOutOfRange, fa⟩ : Ads).c_Decoder "read" (sp_Decoder_read K ⟨CDecoder, fa, XOutOfRange, fa⟩) pats_Decoder_read := fun base => ok_Decoder_read D_10 T (R__check_context base) (R_Decoder__decide base) (R__adapted base)
  have R_Decoder_read_even : ∀ base : Heap, MetX l.prog w K mg base 3 (⟨CDecoder, fa, XOutOfRange, fa⟩ : Ads).c_Decoder "read_even" (sp_Decoder_read_even K ⟨CDecoder, fa, XOutOfRange, fa⟩) pats_Decoder_read_even := fun base => ok_Decoder_read_even D_11 T (R_Decoder__decide base)
  have R__law_moved : ∀ base : Heap, CalX l.prog w K mg base 1 "_law_moved" (sp__law_moved K ⟨CDecoder, fa, XOutOfRange, fa⟩) pats__law_moved := fun base => ok__law_moved D_12 T 
  have R__law_next : ∀ base : Heap, CalX l.prog w K mg base 2 "_law_next" (sp__law_next K ⟨CDecoder, fa, XOutOfRange, fa⟩) pats__law_next := fun base => ok__law_next D_13 T (R__law_moved base)

  refine ⟨PySem.W.fnOf "law" "law" (defArgs s_law) (defBody s_law) (defScope s_law) .none kV14 dc14 pm14 an14 cd14 ct14, fun s v => .of_eq rfl, fun base _ _ => (ok_law (AD := ⟨CDecoder, fa, XOutOfRange, fa⟩) F14 T (R__law_cell base) (R__law_draws base) (R_Decoder___init__ base) (R__law_start base) (R__law_items base) (R_Decoder_read base) (R_Decoder_read_even base) (R__law_next base) (R_Decoder_probability base)).imp ?_⟩
  rintro vs H Q E ⟨a, xs, rfl, hs, hl, q⟩
  exact ⟨a, xs, rfl, hs, by rw [law_true xs hl]; rfl, q⟩
theorem walk {l : PySem.W.OpenLaw} {q : Program} {loose : List Str} {XP : (Str → Option Value) → Heap → Prop} {YP : World → Heap → Prop} {d : DefRec} {K : Params → PySem.W.Frag} (hn : l.most = some 63) (hdf : d.params.defaults = [])
    (hY : ∀ (w : World) (h : Heap), YP w h → (K w.params).In h)
    (F : ∀ (w : World) (mg : Str → Option Value) (fa : Addr) (h : Heap), (K w.params).In h → h.Ns mainGlobals mg → mg d.name = some (.ref fa) →
      ∃ fd : FuncData, (∀ (s : Shared) (u : Value), BindsTo s fd ⟨[u], []⟩ [("script", u)]) ∧ ∀ base : Heap, (K w.params).In base → base.Ns mainGlobals mg → FnOk l.prog w (K w.params) mg base CX0 4 fa fd ["script"] (spL (K w.params))) :
    PySem.W.WalkO q loose XP YP l.row.toRowW d [] (fun f vs => PySem.call f vs) :=
  L2.walk_of (n := 63) (k := 4) (x := "script") (CX := fun _ => CX0) (sp := fun w => spL (K w.params)) hn (by decide) hdf ⟨rfl, by decide, by decide⟩ hY F (fun _ _ a ns hl _ hS => ⟨a, ns, rfl, hS, hl, fun _ => rfl⟩) fun _ _ _ _ _ z => z
end Vx
open PySem PySem.W PyProof.Rows
set_option maxRecDepth 100000 in
set_option maxHeartbeats 0 in
theorem PySem.Challenge.cw_thaumatrope_k14_any_octets_read_as_decis_holds : PySem.Challenge.rw_thaumatrope_k14_any_octets_read_as_decis.Holds := by
  w_on; o_law; k_head; (case hw => w_witness2)
  k_fill
  refine Vx.walk (l := PySem.Challenge.rw_thaumatrope_k14_any_octets_read_as_decis) rfl rfl (fun w h Y => PySem.W.kIn_of Y) ?F
  case F =>
    intro w mg fa h KX G hmg
    refine' Vx.all_mk KX G hmg ?wDecoder ?vOutOfRange ?a0 ?l0 ?c0 ?k0 ?a1 ?b1 ?l1 ?c1 ?k1 ?a2 ?b2 ?d2 ?e2 ?l2 ?c2 ?k2 ?a3 ?l3 ?c3 ?k3 ?a4 ?l4 ?c4 ?k4 ?a5 ?l5 ?c5 ?k5 ?a6 ?l6 ?c6 ?k6 ?a7 ?b7 ?l7 ?c7 ?k7 ?a8 ?l8 ?c8 ?k8 ?a9 ?b9 ?l9 ?c9 ?k9 ?a10 ?b10 ?l10 ?c10 ?k10 ?a11 ?b11 ?l11 ?c11 ?k11 ?a12 ?l12 ?c12 ?k12 ?a13 ?l13 ?c13 ?k13 ?a14 ?l14 ?c14 ?k14 ?z0 ?z1 ?z2 ?z3 ?z4 ?z5 ?z6 ?z7 ?z8 ?z9 ?z10 ?z11 ?z12 ?z13 ?z14 ?yDecoder0 ?yDecoder1 ?yDecoder2 ?yDecoder3 ?xDecoder0 ?xDecoder1 ?xDecoder2 ?xDecoder3 ?xDecoder4 ?exOutOfRange ?ekOutOfRange ?ebOutOfRange ?etOutOfRange
    (case wDecoder => k_is)
    (case vOutOfRange => k_is)
    (case a0 => k_is)
    (case l0 => k_is)
    (case c0 => k_is)
    (case k0 => k_is)
    (case a1 => k_is)
    (case b1 => k_is)
    (case l1 => k_is)
    (case c1 => k_is)
    (case k1 => k_is)
    (case a2 => k_is)
    (case b2 => k_is)
    (case d2 => k_is)
    (case e2 => k_is)
    (case l2 => k_is)
    (case c2 => k_is)
    (case k2 => k_is)
    (case a3 => k_is)
    (case l3 => k_is)
    (case c3 => k_is)
    (case k3 => k_is)
    (case a4 => k_is)
    (case l4 => k_is)
    (case c4 => k_is)
    (case k4 => k_is)
    (case a5 => k_is)
    (case l5 => k_is)
    (case c5 => k_is)
    (case k5 => k_is)
    (case a6 => k_is)
    (case l6 => k_is)
    (case c6 => k_is)
    (case k6 => k_is)
    (case a7 => k_is)
    (case b7 => k_is)
    (case l7 => k_is)
    (case c7 => k_is)
    (case k7 => k_is)
    (case a8 => k_is)
    (case l8 => k_is)
    (case c8 => k_is)
    (case k8 => k_is)
    (case a9 => k_is)
    (case b9 => k_is)
    (case l9 => k_is)
    (case c9 => k_is)
    (case k9 => k_is)
    (case a10 => k_is)
    (case b10 => k_is)
    (case l10 => k_is)
    (case c10 => k_is)
    (case k10 => k_is)
    (case a11 => k_is)
    (case b11 => k_is)
    (case l11 => k_is)
    (case c11 => k_is)
    (case k11 => k_is)
    (case a12 => k_is)
    (case l12 => k_is)
    (case c12 => k_is)
    (case k12 => k_is)
    (case a13 => k_is)
    (case l13 => k_is)
    (case c13 => k_is)
    (case k13 => k_is)
    (case a14 => k_is)
    (case l14 => k_is)
    (case c14 => k_is)
    (case k14 => k_is)
    (case z0 => k_is)
    (case z1 => k_is)
    (case z2 => k_is)
    (case z3 => k_is)
    (case z4 => k_is)
    (case z5 => k_is)
    (case z6 => k_is)
    (case z7 => k_is)
    (case z8 => k_is)
    (case z9 => k_is)
    (case z10 => k_is)
    (case z11 => k_is)
    (case z12 => k_is)
    (case z13 => k_is)
    (case z14 => k_is)
    (case yDecoder0 => k_is)
    (case yDecoder1 => k_is)
    (case yDecoder2 => k_is)
    (case yDecoder3 => k_is)
    (case xDecoder0 => k_is)
    (case xDecoder1 => k_is)
    (case xDecoder2 => k_is)
    (case xDecoder3 => k_is)
    (case xDecoder4 => k_is)
    (case exOutOfRange => k_exc)
    (case ekOutOfRange => k_is)
    (case ebOutOfRange => k_is)
    (case etOutOfRange => k_is)
