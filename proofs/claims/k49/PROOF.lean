import PyProof.Rows.All
import Wide.All
import OpenK.AllK
import Wide.FinOn
import HandS.ForMost
import HandS.Codes
import HandS.Steps
import HandS.IsInst
import HandS.Property
import HandS.Wide
import HandS.WideBits
import HandS.Exc
import HandS.Defaults
import HandS.ExcCtx
import HandS.ExcOwn
import HandS.TryOnly
import HandS.WordsExc
import HandS.ExcIs
import HandS.MakeKwOnly
import HandS.RaiseMore
import HandS.Style
import HandS.Zip
import HandS.Iter
import HandS.Walk
import HandS.HotCalls
import HandS.Head0
import HandS.Head1
import HandS.Head2
import HandS.HeadEnd
import HandS.HeadHook1
import HandS.HeadHook2
import HandS.HeadHook3
import HandS.HeadNt
import KE.KStateDown
import PySem.Challenge.RW_thaumatrope_k49_any_octets_read_as_level
set_option Elab.async false
set_option linter.all false
set_option maxRecDepth 100000
set_option maxHeartbeats 8000000
namespace Vx
open PySem PySem.Spec PyProof.Rows L2

/-! ### heaps -/
def SameX (m : Addr) (H H' : Hp) : Prop := ∀ b o, H b = some o → b ≠ m → H' b = some o
theorem gen_new {H H' : Hp} {p : Addr} {o : HO} (n : H p = none) (h : upd H p o = H') : Same H H' ∧ H' p = some o := by
  subst h
  exact ⟨fun b u e => by rw [upd_ne (ne_of_none e n)]; exact e, upd_same⟩
theorem gen_mut {H H' : Hp} {m : Addr} {o : HO} (h : upd H m o = H') : SameX m H H' ∧ H' m = some o := by
  subst h
  exact ⟨fun b u e n => by rw [upd_ne n]; exact e, upd_same⟩
theorem same_mut {H0 H H' : Hp} {m : Addr} (B : Same H0 H) (x : SameX m H H') (f : H0 m = none) : Same H0 H' :=
  fun b o e => x b o (B b o e) (ne_of_none e f)
theorem map_get {xs : List Int} {i : Nat} {x : V} (h : (xs.map V.int)[i]? = some x) : ∃ o, xs[i]? = some o ∧ x = .int o := by
  rw [List.getElem?_map] at h
  cases e : xs[i]? with
  | none => rw [e] at h; cases h
  | some z => rw [e] at h; exact ⟨z, rfl, (Option.some.inj h).symm⟩
theorem get_len {α : Type} {xs : List α} {i : Nat} {x : α} (h : xs[i]? = some x) : i < xs.length := (List.getElem?_eq_some_iff.mp h).1
theorem eq_int {Q : VK} {H : Hp} {a b : Int} (h : Q (.int a) H) (e : a = b) : Q (.int b) H := e ▸ h
theorem eq_bl {Q : VK} {H : Hp} {a b : Bool} (h : Q (.bl a) H) (e : a = b) : Q (.bl b) H := e ▸ h
theorem small {n : Nat} (h : n ≤ 1000000) : n < sizeLine := Nat.lt_of_le_of_lt h (by decide)
theorem smallE {n : Nat} (h : n ≤ 1000000) : n ≤ sizeLine := Nat.le_of_lt (small h)
theorem snoc_int {xs : List Int} {y : Int} {H : Hp} {p : Addr} (h : H p = some (.lst (xs.map V.int ++ [V.int y]))) : H p = some (.lst ((xs ++ [y]).map V.int)) := by
  rw [List.map_append]; exact h
theorem cat_int {xs ys : List Int} {H : Hp} {p : Addr} (h : H p = some (.lst (xs.map V.int ++ ys.map V.int))) : H p = some (.lst ((xs ++ ys).map V.int)) := by
  rw [List.map_append]; exact h
theorem cast_lst {xs ys : List Int} {H : Hp} {p : Addr} (h : H p = some (.lst (xs.map V.int))) (e : xs = ys) : H p = some (.lst (ys.map V.int)) := e ▸ h

/-! ### tests -/
theorem dT {p : Prop} [Decidable p] (h : decide p = true) : p := of_decide_eq_true h
theorem dF {p : Prop} [Decidable p] (h : ¬ decide p = true) : ¬ p := fun x => h (decide_eq_true x)
theorem iteD {p A B : Prop} [Decidable p] (h1 : p → A) (h2 : ¬ p → B) : if decide p = true then A else B := by
  by_cases h : p
  · rw [if_pos (decide_eq_true h)]; exact h1 h
  · rw [if_neg (fun x => h (of_decide_eq_true x))]; exact h2 h
theorem iteN {p A B : Prop} [Decidable p] (h1 : ¬ p → A) (h2 : p → B) : if (!decide p) = true then A else B := by
  by_cases h : p
  · rw [decide_eq_true h]; exact iteF (h2 h)
  · rw [decide_eq_false h]; exact iteT (h1 h)
theorem iteB {b : Bool} {A B : Prop} (h1 : b = true → A) (h2 : b = false → B) : if b = true then A else B := by
  cases b with
  | true => exact iteT (h1 rfl)
  | false => exact iteF (h2 rfl)
theorem iteBN {b : Bool} {A B : Prop} (h1 : b = false → A) (h2 : b = true → B) : if (!b) = true then A else B := by
  cases b with
  | true => exact iteF (h2 rfl)
  | false => exact iteT (h1 rfl)
theorem iteDT {p A B : Prop} [Decidable p] (h : p) (k : A) : if decide p = true then A else B := by
  rw [if_pos (decide_eq_true h)]; exact k
theorem iteDF {p A B : Prop} [Decidable p] (h : ¬ p) (k : B) : if decide p = true then A else B := by
  rw [if_neg (fun x => h (of_decide_eq_true x))]; exact k
theorem iteNT {p A B : Prop} [Decidable p] (h : ¬ p) (k : A) : if (!decide p) = true then A else B := iteN (fun _ => k) (fun x => (h x).elim)
theorem iteNF {p A B : Prop} [Decidable p] (h : p) (k : B) : if (!decide p) = true then A else B := iteN (fun x => (x h).elim) (fun _ => k)

/-! ### equality of lists of ints -/
theorem eqvAll_ints : ∀ xs ys : List Int, PyData.eqvAll (xs.map PyData.int) (ys.map PyData.int) = decide (xs = ys)
  | [], [] => by simp [PyData.eqvAll]
  | [], y :: ys => by simp [PyData.eqvAll]
  | x :: xs, [] => by simp [PyData.eqvAll]
  | x :: xs, y :: ys => by
    have ih := eqvAll_ints xs ys
    simp only [List.map_cons, PyData.eqvAll, PyData.eqv, ih]
    by_cases h : x = y <;> by_cases h2 : xs = ys <;> simp [h, h2]
end Vx

namespace Vx
open PySem PySem.Spec PyProof.Rows L2
section
variable {X : Cx}
def rEqLi (K : PySem.W.Frag) : R2 := fun x y H Q => ∃ (a b : Addr) (xs ys : List Int), x = .ref a ∧ y = .ref b ∧ SqL K H a (xs.map V.int) ∧ SqL K H b (ys.map V.int) ∧ Q (.bl (decide (xs = ys))) H
def rNeLi (K : PySem.W.Frag) : R2 := fun x y H Q => ∃ (a b : Addr) (xs ys : List Int), x = .ref a ∧ y = .ref b ∧ SqL K H a (xs.map V.int) ∧ SqL K H b (ys.map V.int) ∧ Q (.bl (!decide (xs = ys))) H
theorem dpAll_ints {K : PySem.W.Frag} {H : Hp} : ∀ xs : List Int, DpAll K H (xs.map V.int) (xs.map PyData.int)
  | [] => .nil
  | x :: xs => .cons (.int x) (dpAll_ints xs)
theorem dp_ints {K : PySem.W.Frag} {H : Hp} {a : Addr} {xs : List Int} (h : SqL K H a (xs.map V.int)) : Dp K H (.ref a) (.list (xs.map PyData.int)) := .lst h (dpAll_ints xs)
theorem canLay_ints : ∀ xs : List Int, PyData.canLayAll0 (xs.map PyData.int) = true
  | [] => by simp [PyData.canLayAll0]
  | x :: xs => by simp [PyData.canLayAll0, PyData.canLay0, canLay_ints xs]
theorem depth_ints : ∀ xs : List Int, PyData.depthAll (xs.map PyData.int) = 0
  | [] => by simp [PyData.depthAll]
  | x :: xs => by simp [PyData.depthAll, PyData.depth, depth_ints xs]
theorem shaped_ints (xs : List Int) : SeqAt.shaped (.list (xs.map PyData.int)) = true := by
  unfold SeqAt.shaped
  simp [PyData.canLay0, canLay_ints, PyData.depth, depth_ints]
theorem eqv_ints (xs ys : List Int) : PyData.eqv (.list (xs.map PyData.int)) (.list (ys.map PyData.int)) = decide (xs = ys) := by
  simp only [PyData.eqv]
  exact eqvAll_ints xs ys
theorem op_eqLi (hu : X.A.units + 64 < cLine) : OpR X (compareOp .Eq) (rEqLi X.K) := by
  intro pins s σ H x y v u Q I rx ry h
  obtain ⟨a, b, xs, ys, rfl, rfl, h1, h2, q⟩ := h
  exact op_eqD hu pins s σ H _ _ v u Q I rx ry ⟨_, _, dp_ints h1, dp_ints h2, shaped_ints xs, shaped_ints ys, by rw [eqv_ints]; exact q⟩
theorem op_neLi (hu : X.A.units + 64 < cLine) : OpR X (compareOp .NotEq) (rNeLi X.K) := by
  intro pins s σ H x y v u Q I rx ry h
  obtain ⟨a, b, xs, ys, rfl, rfl, h1, h2, q⟩ := h
  exact op_neD hu pins s σ H _ _ v u Q I rx ry ⟨_, _, dp_ints h1, dp_ints h2, shaped_ints xs, shaped_ints ys, by rw [eqv_ints]; exact q⟩

/-! ### items, slices, repetition, comprehensions of ints -/
def itI (xs : List Int) (i : Int) : Int := (atI xs i).getD 0
theorem atI_int {xs : List Int} {i : Int} (h : -(xs.length : Int) ≤ i ∧ i < xs.length) : atI (xs.map V.int) i = some (.int (itI xs i)) := by
  unfold itI atI
  rw [List.length_map]
  have hk : ∃ j, ixN xs.length i = some j ∧ j < xs.length := by
    unfold ixN
    by_cases h0 : 0 ≤ i
    · refine ⟨i.toNat, ?_, by omega⟩
      rw [if_pos h0, if_pos h.2]
    · refine ⟨(i + xs.length).toNat, ?_, by omega⟩
      rw [if_neg h0, if_pos h.1]
  obtain ⟨j, e, hj⟩ := hk
  rw [e]
  show (xs.map V.int)[j]? = some (V.int ((xs[j]?).getD 0))
  rw [List.getElem?_map, List.getElem?_eq_getElem hj] <;> rfl
def cutI (xs : List Int) (lo hi : Option Int) : List Int := (xs.drop (HT.sIx xs.length 0 lo)).take (HT.sIx xs.length xs.length hi - HT.sIx xs.length 0 lo)
theorem cut_int {xs : List Int} {lo hi : Option Int} {H : Hp} {p : Addr} (h : H p = some (.lst (cutV (xs.map V.int) lo hi))) : H p = some (.lst ((cutI xs lo hi).map V.int)) := by
  rw [h]
  unfold cutV cutI
  rw [List.length_map, List.map_take, List.map_drop]
def rep (xs : List Int) (k : Int) : List Int := (List.replicate k.toNat xs).flatten
theorem rep_int {xs : List Int} {k : Int} {H : Hp} {p : Addr} (h : H p = some (.lst (List.replicate k.toNat (xs.map V.int)).flatten)) : H p = some (.lst ((rep xs k).map V.int)) := by
  rw [h]
  unfold rep
  rw [List.map_flatten, List.map_replicate]
theorem divW_lit {i j : Int} (h : 0 < j) (h2 : j.natAbs.log2 < 9000) : CDivW i j := ⟨h, h2⟩
theorem divW_small {i j : Int} (h : 0 < j) (h2 : j < 2 ^ 128) : CDivW i j := wide_div h (show j.natAbs < 2 ^ 128 by omega) (by decide) (by decide)
theorem comp_list {xs : List Int} {i : Nat} {x y : Int} {f : Int → Int} {H : Hp} {D : Addr} (hi : xs[i]? = some x) (h : H D = some (.lst (((xs.take i).map f).map V.int ++ [V.int y]))) (e : f x = y) : H D = some (.lst (((xs.take (i + 1)).map f).map V.int)) := by
  rw [h, ← e, List.take_succ, hi, List.map_append, List.map_append] <;> rfl
theorem comp_done {xs : List Int} {f : Int → Int} {H : Hp} {D : Addr} (h : H D = some (.lst (((xs.take (xs.map V.int).length).map f).map V.int))) : H D = some (.lst ((xs.map f).map V.int)) := by
  rw [List.length_map, List.take_length] at h
  exact h
theorem comp_range {i : Nat} {y : Int} {f : Nat → Int} {H : Hp} {D : Addr} (h : H D = some (.lst (((List.range i).map f).map V.int ++ [V.int y]))) (e : f i = y) : H D = some (.lst (((List.range (i + 1)).map f).map V.int)) := by
  rw [h, ← e, List.range_succ, List.map_append, List.map_append] <;> rfl
theorem iteBT {b : Bool} {A B : Prop} (h : b = true) (k : A) : if b = true then A else B := by rw [if_pos h]; exact k
theorem iteBF {b : Bool} {A B : Prop} (h : b = false) (k : B) : if b = true then A else B := by rw [if_neg (by rw [h]; decide)]; exact k
theorem take_succ_get {α : Type} {xs : List α} {i : Nat} {x : α} (hi : xs[i]? = some x) : xs.take (i + 1) = xs.take i ++ [x] := by rw [List.take_succ, hi] <;> rfl
end

/-! ### defs of the module, as callers see them -/
section
variable {P : Program} {w : World} {K : PySem.W.Frag} {mg : Str → Option Value} {base : Heap}
structure DefIn (K : PySem.W.Frag) (mg : Str → Option Value) (x : Str) (st : Stmt) (ps : List Str) : Prop where
  ex : ∃ (f : Addr) (fd : FuncData), Fun K x x st f fd ∧ mg x = some (.ref f) ∧ Binds K fd ps []
structure Cal (P : Program) (w : World) (K : PySem.W.Frag) (mg : Str → Option Value) (base : Heap) (k : Nat) (x : Str) (sp : Sp) : Prop where
  ex : ∃ (f : Addr) (fd : FuncData) (ps : List Str), FnOk P w K mg base CX0 k f fd ps sp ∧ mg x = some (.ref f) ∧ PySem.W.keepIn K (.ref f) = true ∧ Binds K fd ps []
theorem DefIn.ok {x : Str} {st : Stmt} {N ps : List Str} {k : Nat} {sp : Sp} (D : DefIn K mg x st ps) (S : FnScope N ps (defScope st)) (len : ∀ vs H Q E, sp vs H Q E → vs.length = ps.length)
    (hbody : ∀ (f : Addr) (cdv : Value) (A : Around) (outer : List Env) (s : Shared) (H : Hp) (vs : List V) (Q : VK) (E : XK), Room k (A.deeper (envOfC x (defScope st) s.heap.objs.size f cdv)) → sp vs H Q E →
      ∃ t, PSs (cxOf CX0 P w K mg base N x (defScope st) f cdv A outer s H E).nox (defBody st) t ∧ t { nx := fun _ H' => Q .non H', rt := Q } (start N vs) H) : Cal P w K mg base (k + 1) x sp := by
  obtain ⟨f, fd, F, hm, b⟩ := D.ex
  exact ⟨f, fd, ps, F.ok S len (fun cdv A outer s H vs Q E hr h => hbody f cdv A outer s H vs Q E hr h), hm, F.kp, b⟩
end
section
variable {X : Cx} {k j : Nat} {x : Str} {sp : Sp} {p pos : Pos} {e : Expr} {es : List Expr} {t : TA}
theorem vx_call (c : Cal X.prog X.w X.K X.mg X.base k x sp) (hr : Room j X.A) (hk : k ≤ j) (hg : Gl X x) (ha : PA X (e :: es) t)
    (hdb : (x == ("__debug__" : Str)) = false := by decide) (he : starEach (e :: es) X.env = (false, eval e X.env) :: starEach es X.env := by rfl) (hpl : (backTo pos (starEach es X.env)).any (·.1) = false := by rfl) :
    PE X (.Call (.Name x p) (e :: es) [] pos) (tCall sp [] E0 t) := by
  obtain ⟨f, fd, ps, F, hm, kp, b⟩ := c.ex
  exact pe_call F (hr.mono hk) hg hm kp b .nil pass0 ha hdb he hpl
end
end Vx

namespace Vx
open PySem PySem.Spec PyProof.Rows L2
section
variable {σ : L2.St} {H : Hp} {ta tb : TE} {x y z : V} {t : TT}
theorem vv_and {a b : Bool} (h1 : Val ta σ H (.bl a)) (h2 : Val tb σ H (.bl b)) : Val (tAndV ta tb) σ H (.bl (a && b)) := fun Q q => h1 _ ⟨a, rfl, by
  cases a with
  | true => exact iteT (h2 Q q)
  | false => exact iteF q⟩
theorem vv_or {a b : Bool} (h1 : Val ta σ H (.bl a)) (h2 : Val tb σ H (.bl b)) : Val (tOrV ta tb) σ H (.bl (a || b)) := fun Q q => h1 _ ⟨a, rfl, by
  cases a with
  | true => exact iteT q
  | false => exact iteF (h2 Q q)⟩
theorem vv_not {a : Bool} (h1 : Val ta σ H (.bl a)) : Val (tNotV ta) σ H (.bl (!a)) := fun Q q => h1 _ ⟨a, rfl, q⟩
theorem vv_un {r : V → Hp → VK → Prop} (ha : Val ta σ H x) (hr : ∀ Q : VK, Q z H → r x H Q) : Val (tUn r ta) σ H z := fun Q q => ha _ (hr Q q)
theorem vv_cmp {p : Int → Int → Bool} (ha : Val ta σ H x) (hb : Val tb σ H y) (hr : ∀ Q : VK, Q z H → ∃ i j, x = .int i ∧ y = .int j ∧ Q (.bl (p i j)) H) : Val (tCmp p ta tb) σ H z := fun Q q => ha _ (hb _ (hr Q q))
theorem vv_call1 {r : List V → Hp → VK → Prop} (ha : Val ta σ H x) (hr : ∀ Q : VK, Q z H → r [x] H Q) : Val (tCB r (tCons ta tNil)) σ H z := fun Q q => ha _ (hr Q q)
theorem vt_cmp {b : Bool} (h : Val ta σ H (.bl b)) : Ans (tB ta) σ H b := fun Q q => h _ ⟨b, rfl, q⟩
theorem vt_val {b : Bool} (h : Val ta σ H (.bl b)) : Ans (tB ta) σ H b := fun Q q => h _ ⟨b, rfl, q⟩
theorem vt_int {i : Int} {K : PySem.W.Frag} (h : Val ta σ H (.int i)) : Ans (fun σ H Q => ta σ H fun x H' => ∃ k, TruV K x H' k ∧ Q k H') σ H (i != 0) := fun Q q => h _ ⟨_, rfl, q⟩
theorem vv_if {p : Prop} [Decidable p] {a b : Int} (ht : Ans t σ H (decide p)) (hx : Val ta σ H (.int a)) (hy : Val tb σ H (.int b)) : Val (tIf t ta tb) σ H (.int (if p then a else b)) := fun Q q => ht _ (by
  by_cases h : p
  · rw [if_pos h] at q; exact iteDT h (hx Q q)
  · rw [if_neg h] at q; exact iteDF h (hy Q q))
theorem vv_ifb {c : Bool} {a b : Int} (ht : Ans t σ H c) (hx : Val ta σ H (.int a)) (hy : Val tb σ H (.int b)) : Val (tIf t ta tb) σ H (.int (if c = true then a else b)) := fun Q q => ht _ (by
  cases c with
  | true => exact iteT (hx Q q)
  | false => exact iteF (hy Q q))
end
end Vx

namespace Vx
open PySem PySem.Spec PyProof.Rows L2
def rLenLi (K : PySem.W.Frag) : List V → Hp → VK → Prop := fun xs H Q => ∃ (p : Addr) (ns : List Int), xs = [.ref p] ∧ SqL K H p (ns.map V.int) ∧ Q (.int (ns.length : Int)) H
theorem call_lenLi {X : Cx} : CallR X (.builtin "len") (rLenLi X.K) := by
  intro pins s σ H xs us Q I r h
  obtain ⟨p, ns, rfl, hs, q⟩ := h
  exact call_len_seq pins s σ H _ us Q I r ⟨p, _, rfl, Or.inl hs, by rw [List.length_map]; exact q⟩
end Vx

namespace Vx
open PySem PySem.Spec PyProof.Rows L2
section
variable {X : Cx} {K : PySem.W.Frag}
theorem ix_listK (hK : X.K = K := by rfl) : IxR X (rIxL K) := hK ▸ ix_list
theorem sl_listK (hK : X.K = K := by rfl) : SlR X (rSlL K) := hK ▸ sl_list
theorem call_lenLiK (hK : X.K = K := by rfl) : CallR X (.builtin "len") (rLenLi K) := hK ▸ call_lenLi
theorem op_eqLiK (hu : X.A.units + 64 < cLine) (hK : X.K = K := by rfl) : OpR X (compareOp .Eq) (rEqLi K) := hK ▸ op_eqLi hu
theorem op_neLiK (hu : X.A.units + 64 < cLine) (hK : X.K = K := by rfl) : OpR X (compareOp .NotEq) (rNeLi K) := hK ▸ op_neLi hu
theorem pi_listK {tg l : Expr} {tl : TE} (hl : PE X l tl) (hK : X.K = K := by rfl) : PI X tg l (iList K tl) := hK ▸ pi_list hl
theorem cr_sumK (hc : X.calm = true) (hK : X.K = K := by rfl) : CallR X (.builtin "sum") (rSum K) := hK ▸ cr_sum hc
theorem cr_maxK (hc : X.calm = true) (hK : X.K = K := by rfl) : CallR X (.builtin "max") (rMax K) := hK ▸ cr_max hc
theorem cr_minK (hc : X.calm = true) (hK : X.K = K := by rfl) : CallR X (.builtin "min") (rMin K) := hK ▸ cr_min hc
end
end Vx

namespace Vx
open PySem PySem.Spec PyProof.Rows L2
theorem tyes_go {σ : L2.St} {H : Hp} {f g : Hp → Prop} (h : f H) : tYes σ H (fun b H3 => if b = true then f H3 else g H3) := by
  show if true = true then f H else g H
  exact iteT h
end Vx

/-! # second part: data of any depth, the stable heap G, the owned addresses O -/
namespace Vx
open PySem PySem.Spec PyProof.Rows L2
mutual
inductive Rp (H : Hp) : V → PyData → Prop
  | non : Rp H .non .none
  | bl (b : Bool) : Rp H (.bl b) (.bool b)
  | int (i : Int) : Rp H (.int i) (.int i)
  | str (x : Str) : Rp H (.str x) (.str x)
  | lst {a : Addr} {xs : List V} {ds : List PyData} : H a = some (.lst xs) → RpAll H xs ds → Rp H (.ref a) (.list ds)
  | tup {a : Addr} {xs : List V} {ds : List PyData} : H a = some (.tup xs) → RpAll H xs ds → Rp H (.ref a) (.tuple ds)
inductive RpAll (H : Hp) : List V → List PyData → Prop
  | nil : RpAll H [] []
  | cons {v : V} {vs : List V} {d : PyData} {ds : List PyData} : Rp H v d → RpAll H vs ds → RpAll H (v :: vs) (d :: ds)
end
mutual
theorem Rp.mono {H H' : Hp} (e : Same H H') : ∀ {v : V} {d : PyData}, Rp H v d → Rp H' v d
  | _, _, .non => .non
  | _, _, .bl b => .bl b
  | _, _, .int i => .int i
  | _, _, .str x => .str x
  | _, _, .lst h r => .lst (e _ _ h) (RpAll.mono e r)
  | _, _, .tup h r => .tup (e _ _ h) (RpAll.mono e r)
theorem RpAll.mono {H H' : Hp} (e : Same H H') : ∀ {vs : List V} {ds : List PyData}, RpAll H vs ds → RpAll H' vs ds
  | _, _, .nil => .nil
  | _, _, .cons a b => .cons (Rp.mono e a) (RpAll.mono e b)
end
mutual
theorem Rp.dp {K : PySem.W.Frag} {H : Hp} : ∀ {v : V} {d : PyData}, Rp H v d → Dp K H v d
  | _, _, .non => .non
  | _, _, .bl b => .bl b
  | _, _, .int i => .int i
  | _, _, .str x => .str x
  | _, _, .lst h r => .lst (SqL.of h) (RpAll.dp r)
  | _, _, .tup h r => .tup (SqT.of h) (RpAll.dp r)
theorem RpAll.dp {K : PySem.W.Frag} {H : Hp} : ∀ {vs : List V} {ds : List PyData}, RpAll H vs ds → DpAll K H vs ds
  | _, _, .nil => .nil
  | _, _, .cons a b => .cons (Rp.dp a) (RpAll.dp b)
end
theorem RpAll.append {H : Hp} : ∀ {xs ys : List V} {ds es : List PyData}, RpAll H xs ds → RpAll H ys es → RpAll H (xs ++ ys) (ds ++ es)
  | _, _, _, _, .nil, s => s
  | _, _, _, _, .cons r t, s => .cons r (RpAll.append t s)
theorem RpAll.ints {H : Hp} : ∀ xs : List Int, RpAll H (xs.map V.int) (xs.map PyData.int)
  | [] => .nil
  | x :: xs => .cons (.int x) (RpAll.ints xs)
theorem RpAll.bls {H : Hp} : ∀ xs : List Bool, RpAll H (xs.map V.bl) (xs.map PyData.bool)
  | [] => .nil
  | x :: xs => .cons (.bl x) (RpAll.bls xs)
theorem RpAll.one {H : Hp} {v : V} {d : PyData} (h : Rp H v d) : RpAll H [v] [d] := .cons h .nil
theorem RpAll.len {H : Hp} : ∀ {vs : List V} {ds : List PyData}, RpAll H vs ds → vs.length = ds.length
  | _, _, .nil => rfl
  | _, _, .cons _ t => by rw [List.length_cons, List.length_cons, RpAll.len t]
theorem RpAll.at {H : Hp} : ∀ {vs : List V} {ds : List PyData} {i : Nat} {v : V}, RpAll H vs ds → vs[i]? = some v → ∃ d, ds[i]? = some d ∧ Rp H v d
  | _, _, _, _, .nil, h => by simp at h
  | _, _, 0, _, .cons r _, h => by
    simp at h
    subst h
    exact ⟨_, rfl, r⟩
  | _, _, i + 1, _, .cons _ t, h => by
    obtain ⟨d, h1, h2⟩ := RpAll.at (i := i) t (by simpa using h)
    exact ⟨d, by simpa using h1, h2⟩
theorem RpAll.at' {H : Hp} : ∀ {vs : List V} {ds : List PyData} {i : Nat} {d : PyData}, RpAll H vs ds → ds[i]? = some d → ∃ v, vs[i]? = some v ∧ Rp H v d
  | _, _, _, _, .nil, h => by simp at h
  | _, _, 0, _, .cons r _, h => by
    simp at h
    subst h
    exact ⟨_, rfl, r⟩
  | _, _, i + 1, _, .cons _ t, h => by
    obtain ⟨v, h1, h2⟩ := RpAll.at' (i := i) t (by simpa using h)
    exact ⟨v, by simpa using h1, h2⟩
theorem RpAll.take {H : Hp} : ∀ (n : Nat) {vs : List V} {ds : List PyData}, RpAll H vs ds → RpAll H (vs.take n) (ds.take n)
  | 0, _, _, _ => by simpa using RpAll.nil
  | n + 1, _, _, .nil => by simpa using RpAll.nil
  | n + 1, _, _, .cons r t => .cons r (RpAll.take n t)
theorem RpAll.drop {H : Hp} : ∀ (n : Nat) {vs : List V} {ds : List PyData}, RpAll H vs ds → RpAll H (vs.drop n) (ds.drop n)
  | 0, _, _, r => r
  | n + 1, _, _, .nil => by simpa using RpAll.nil
  | n + 1, _, _, .cons r t => RpAll.drop n t
theorem RpAll.set {H : Hp} {v : V} {d : PyData} (h : Rp H v d) : ∀ (n : Nat) {vs : List V} {ds : List PyData}, RpAll H vs ds → RpAll H (vs.set n v) (ds.set n d)
  | _, _, _, .nil => .nil
  | 0, _, _, .cons _ t => .cons h t
  | n + 1, _, _, .cons r t => .cons r (RpAll.set h n t)
theorem RpAll.rep {H : Hp} {vs : List V} {ds : List PyData} (h : RpAll H vs ds) : ∀ n : Nat, RpAll H (List.replicate n vs).flatten (List.replicate n ds).flatten
  | 0 => by simpa using RpAll.nil
  | n + 1 => by
    rw [List.replicate_succ, List.flatten_cons, List.replicate_succ, List.flatten_cons]
    exact RpAll.append h (RpAll.rep h n)
theorem RpAll.get {α : Type} {f : α → PyData} {H : Hp} {vs : List V} {xs : List α} {i : Nat} {v : V} (r : RpAll H vs (xs.map f)) (h : vs[i]? = some v) : ∃ x, xs[i]? = some x ∧ Rp H v (f x) := by
  obtain ⟨d, h1, h2⟩ := RpAll.at r h
  rw [List.getElem?_map] at h1
  cases e : xs[i]? with
  | none => rw [e] at h1; cases h1
  | some x =>
    rw [e] at h1
    have : f x = d := Option.some.inj h1
    exact ⟨x, rfl, this ▸ h2⟩
/-- the item at an index, data -/
theorem RpAll.ix {α : Type} {f : α → PyData} {H : Hp} {vs : List V} {xs : List α} {k : Int} (r : RpAll H vs (xs.map f)) (h : -(xs.length : Int) ≤ k ∧ k < xs.length) : ∃ v x, atI vs k = some v ∧ atI xs k = some x ∧ Rp H v (f x) := by
  have hl : vs.length = xs.length := by rw [r.len, List.length_map]
  have hk : ∃ j, ixN xs.length k = some j ∧ j < xs.length := by
    unfold ixN
    by_cases h0 : 0 ≤ k
    · refine ⟨k.toNat, ?_, by omega⟩
      rw [if_pos h0, if_pos h.2]
    · refine ⟨(k + xs.length).toNat, ?_, by omega⟩
      rw [if_neg h0, if_pos h.1]
  obtain ⟨j, e, hj⟩ := hk
  have hx := List.getElem?_eq_getElem hj
  obtain ⟨v, h1, h2⟩ := RpAll.at' (i := j) (d := f xs[j]) r (by rw [List.getElem?_map, hx] <;> rfl)
  refine ⟨v, xs[j], ?_, ?_, h2⟩
  · unfold atI
    rw [hl, e]
    exact h1
  · unfold atI
    rw [e]
    exact hx

/-! ### types -/
def encL {α : Type} (f : α → PyData) (xs : List α) : PyData := .list (xs.map f)
def encT2 {α β : Type} (f : α → PyData) (g : β → PyData) (p : α × β) : PyData := .tuple [f p.1, g p.2]
def encT3 {α β γ : Type} (f : α → PyData) (g : β → PyData) (h : γ → PyData) (p : α × β × γ) : PyData := .tuple [f p.1, g p.2.1, h p.2.2]
def encT4 {α β γ δ : Type} (f : α → PyData) (g : β → PyData) (h : γ → PyData) (i : δ → PyData) (p : α × β × γ × δ) : PyData := .tuple [f p.1, g p.2.1, h p.2.2.1, i p.2.2.2]
structure EncOk {α : Type} [DecidableEq α] (n : Nat) (f : α → PyData) : Prop where
  lay : ∀ x, PyData.canLay0 (f x) = true
  dep : ∀ x, PyData.depth (f x) ≤ n
  eqv : ∀ x y, PyData.eqv (f x) (f y) = decide (x = y)
theorem encOk_int : EncOk 0 PyData.int := ⟨fun _ => by simp [PyData.canLay0], fun _ => by simp [PyData.depth], fun x y => by simp [PyData.eqv]; by_cases h : x = y <;> simp [h]⟩
theorem encOk_bool : EncOk 0 PyData.bool := ⟨fun _ => by simp [PyData.canLay0], fun _ => by simp [PyData.depth], fun x y => by cases x <;> cases y <;> simp [PyData.eqv]⟩
section
variable {α β γ δ : Type} [DecidableEq α] [DecidableEq β] [DecidableEq γ] [DecidableEq δ] {n m l o : Nat} {f : α → PyData} {g : β → PyData} {h : γ → PyData} {i : δ → PyData}
theorem lay_map (ok : EncOk n f) : ∀ xs : List α, PyData.canLayAll0 (xs.map f) = true
  | [] => by simp [PyData.canLayAll0]
  | x :: xs => by simp [PyData.canLayAll0, ok.lay x, lay_map ok xs]
theorem dep_map (ok : EncOk n f) : ∀ xs : List α, PyData.depthAll (xs.map f) ≤ n
  | [] => by simp [PyData.depthAll]
  | x :: xs => by
    have h1 := ok.dep x
    have h2 := dep_map ok xs
    simp only [List.map_cons, PyData.depthAll]
    omega
theorem eqv_map (ok : EncOk n f) : ∀ xs ys : List α, PyData.eqvAll (xs.map f) (ys.map f) = decide (xs = ys)
  | [], [] => by simp [PyData.eqvAll]
  | [], y :: ys => by simp [PyData.eqvAll]
  | x :: xs, [] => by simp [PyData.eqvAll]
  | x :: xs, y :: ys => by
    have ih := eqv_map ok xs ys
    simp only [List.map_cons, PyData.eqvAll, ok.eqv, ih]
    by_cases h : x = y <;> by_cases h2 : xs = ys <;> simp [h, h2]
theorem encOk_L (ok : EncOk n f) : EncOk (n + 1) (encL f) := ⟨fun xs => by simp [encL, PyData.canLay0, lay_map ok], fun xs => by
  have := dep_map ok xs
  simp only [encL, PyData.depth]
  omega, fun xs ys => by simp only [encL, PyData.eqv]; exact eqv_map ok xs ys⟩
theorem encOk_T2 (ok : EncOk n f) (ok2 : EncOk m g) : EncOk (max n m + 1) (encT2 f g) := ⟨fun x => by simp [encT2, PyData.canLay0, PyData.canLayAll0, ok.lay, ok2.lay], fun x => by
  have h1 := ok.dep x.1
  have h2 := ok2.dep x.2
  simp only [encT2, PyData.depth, PyData.depthAll]
  omega, fun x y => by
  obtain ⟨a, b⟩ := x
  obtain ⟨c, d⟩ := y
  simp only [encT2, PyData.eqv, PyData.eqvAll, ok.eqv, ok2.eqv, Prod.mk.injEq]
  by_cases h1 : a = c <;> by_cases h2 : b = d <;> simp [h1, h2]⟩
theorem encOk_T3 (ok : EncOk n f) (ok2 : EncOk m g) (ok3 : EncOk l h) : EncOk (max n (max m l) + 1) (encT3 f g h) := ⟨fun x => by simp [encT3, PyData.canLay0, PyData.canLayAll0, ok.lay, ok2.lay, ok3.lay], fun x => by
  have h1 := ok.dep x.1
  have h2 := ok2.dep x.2.1
  have h3 := ok3.dep x.2.2
  simp only [encT3, PyData.depth, PyData.depthAll]
  omega, fun x y => by
  obtain ⟨a, b, e⟩ := x
  obtain ⟨c, d, e'⟩ := y
  simp only [encT3, PyData.eqv, PyData.eqvAll, ok.eqv, ok2.eqv, ok3.eqv, Prod.mk.injEq]
  by_cases h1 : a = c <;> by_cases h2 : b = d <;> by_cases h3 : e = e' <;> simp [h1, h2, h3]⟩
theorem encOk_T4 (ok : EncOk n f) (ok2 : EncOk m g) (ok3 : EncOk l h) (ok4 : EncOk o i) : EncOk (max n (max m (max l o)) + 1) (encT4 f g h i) := ⟨fun x => by simp [encT4, PyData.canLay0, PyData.canLayAll0, ok.lay, ok2.lay, ok3.lay, ok4.lay], fun x => by
  have h1 := ok.dep x.1
  have h2 := ok2.dep x.2.1
  have h3 := ok3.dep x.2.2.1
  have h4 := ok4.dep x.2.2.2
  simp only [encT4, PyData.depth, PyData.depthAll]
  omega, fun x y => by
  obtain ⟨a, b, e, u⟩ := x
  obtain ⟨c, d, e', u'⟩ := y
  simp only [encT4, PyData.eqv, PyData.eqvAll, ok.eqv, ok2.eqv, ok3.eqv, ok4.eqv, Prod.mk.injEq]
  by_cases h1 : a = c <;> by_cases h2 : b = d <;> by_cases h3 : e = e' <;> by_cases h4 : u = u' <;> simp [h1, h2, h3, h4]⟩
end
section
variable {X : Cx} {α : Type} [DecidableEq α] {n : Nat} {f : α → PyData}
def rEqT (f : α → PyData) : R2 := fun x y H Q => ∃ (a b : α), Rp H x (f a) ∧ Rp H y (f b) ∧ Q (.bl (decide (a = b))) H
def rNeT (f : α → PyData) : R2 := fun x y H Q => ∃ (a b : α), Rp H x (f a) ∧ Rp H y (f b) ∧ Q (.bl (!decide (a = b))) H
theorem shaped_of (ok : EncOk n f) (hn : n ≤ 64) (a : α) : SeqAt.shaped (f a) = true := by
  unfold SeqAt.shaped
  have h := ok.dep a
  rw [ok.lay]
  simp
  omega
theorem op_eqT (ok : EncOk n f) (hu : X.A.units + 64 < cLine) (hn : n ≤ 64 := by decide) : OpR X (compareOp .Eq) (rEqT f) := by
  intro pins s σ H x y v u Q I rx ry h
  obtain ⟨a, b, h1, h2, q⟩ := h
  exact op_eqD hu pins s σ H _ _ v u Q I rx ry ⟨_, _, h1.dp, h2.dp, shaped_of ok hn a, shaped_of ok hn b, by rw [ok.eqv]; exact q⟩
theorem op_neT (ok : EncOk n f) (hu : X.A.units + 64 < cLine) (hn : n ≤ 64 := by decide) : OpR X (compareOp .NotEq) (rNeT f) := by
  intro pins s σ H x y v u Q I rx ry h
  obtain ⟨a, b, h1, h2, q⟩ := h
  exact op_neD hu pins s σ H _ _ v u Q I rx ry ⟨_, _, h1.dp, h2.dp, shaped_of ok hn a, shaped_of ok hn b, by rw [ok.eqv]; exact q⟩
end
section
variable {H : Hp} {v : V} {α β γ δ : Type} {f : α → PyData} {g : β → PyData} {h : γ → PyData} {i : δ → PyData}
theorem rp_int {x : Int} (r : Rp H v (.int x)) : v = .int x := by cases r; rfl
theorem rp_bool {x : Bool} (r : Rp H v (.bool x)) : v = .bl x := by cases r; rfl
theorem rp_str {x : Str} (r : Rp H v (.str x)) : v = .str x := by cases r; rfl
theorem rp_list {xs : List α} (r : Rp H v (encL f xs)) : ∃ a vs, v = .ref a ∧ H a = some (.lst vs) ∧ RpAll H vs (xs.map f) := by
  unfold encL at r
  cases r with
  | lst h1 h2 => exact ⟨_, _, rfl, h1, h2⟩
theorem rpAll_ints : ∀ {vs : List V} {xs : List Int}, RpAll H vs (xs.map PyData.int) → vs = xs.map V.int
  | _, [], .nil => rfl
  | _, x :: xs, .cons r t => by rw [rp_int r, rpAll_ints t] <;> rfl
theorem rp_ints {xs : List Int} (r : Rp H v (encL PyData.int xs)) : ∃ a, v = .ref a ∧ H a = some (.lst (xs.map V.int)) := by
  obtain ⟨a, vs, e, h1, h2⟩ := rp_list r
  rw [rpAll_ints h2] at h1
  exact ⟨a, e, h1⟩
theorem rp_tup2 {x : α × β} (r : Rp H v (encT2 f g x)) : ∃ a v1 v2, v = .ref a ∧ H a = some (.tup [v1, v2]) ∧ Rp H v1 (f x.1) ∧ Rp H v2 (g x.2) := by
  unfold encT2 at r
  cases r with
  | tup h1 h2 =>
    cases h2 with
    | cons a b =>
      cases b with
      | cons b c =>
        cases c
        exact ⟨_, _, _, rfl, h1, a, b⟩
theorem rp_tup3 {x : α × β × γ} (r : Rp H v (encT3 f g h x)) : ∃ a v1 v2 v3, v = .ref a ∧ H a = some (.tup [v1, v2, v3]) ∧ Rp H v1 (f x.1) ∧ Rp H v2 (g x.2.1) ∧ Rp H v3 (h x.2.2) := by
  unfold encT3 at r
  cases r with
  | tup h1 h2 =>
    cases h2 with
    | cons a b =>
      cases b with
      | cons b c =>
        cases c with
        | cons c d =>
          cases d
          exact ⟨_, _, _, _, rfl, h1, a, b, c⟩
theorem rp_mk_list {a : Addr} {vs : List V} {xs : List α} (h1 : H a = some (.lst vs)) (h2 : RpAll H vs (xs.map f)) : Rp H (.ref a) (encL f xs) := .lst h1 h2
theorem rp_mk_ints {a : Addr} {xs : List Int} (h1 : H a = some (.lst (xs.map V.int))) : Rp H (.ref a) (encL PyData.int xs) := .lst h1 (RpAll.ints xs)
theorem rp_mk2 {a : Addr} {v1 v2 : V} {x : α} {y : β} (h1 : H a = some (.tup [v1, v2])) (r1 : Rp H v1 (f x)) (r2 : Rp H v2 (g y)) : Rp H (.ref a) (encT2 f g (x, y)) := .tup h1 (.cons r1 (.cons r2 .nil))
theorem rp_mk3 {a : Addr} {v1 v2 v3 : V} {x : α} {y : β} {z : γ} (h1 : H a = some (.tup [v1, v2, v3])) (r1 : Rp H v1 (f x)) (r2 : Rp H v2 (g y)) (r3 : Rp H v3 (h z)) : Rp H (.ref a) (encT3 f g h (x, y, z)) := .tup h1 (.cons r1 (.cons r2 (.cons r3 .nil)))
end

/-! ### the two heaps -/
def SameXs (L : List Addr) (H H' : Hp) : Prop := ∀ b o, H b = some o → b ∉ L → H' b = some o
theorem SameXs.of {H H' : Hp} {m : Addr} (x : SameX m H H') : SameXs [m] H H' := fun b o e n => x b o e (fun z => n (by rw [z]; exact List.mem_cons_self))
theorem ni1 {b m : Addr} (h : b ≠ m) : b ∉ [m] := by simpa using h
theorem ni2 {b m n : Addr} (h : b ≠ m) (h2 : b ≠ n) : b ∉ [m, n] := by simp [h, h2]
theorem ni3 {b m n o : Addr} (h : b ≠ m) (h2 : b ≠ n) (h3 : b ≠ o) : b ∉ [m, n, o] := by simp [h, h2, h3]
theorem ni4 {b m n o p : Addr} (h : b ≠ m) (h2 : b ≠ n) (h3 : b ≠ o) (h4 : b ≠ p) : b ∉ [m, n, o, p] := by simp [h, h2, h3, h4]
def hideL (L : List Addr) (H : Hp) : Hp := fun b => if b ∈ L then none else H b
theorem hideL_same (L : List Addr) (H : Hp) : Same (hideL L H) H := fun b o e => by
  unfold hideL at e
  split at e
  · cases e
  · exact e
theorem hideL_in {L : List Addr} {H : Hp} {b : Addr} (h : b ∈ L) : hideL L H b = none := if_pos h
theorem hideL_out {L : List Addr} {H : Hp} {b : Addr} (h : b ∉ L) : hideL L H b = H b := if_neg h
/-- M: owned from outside; H0, G0: at the entry; G: what stays as it is; O: what may change -/
structure Sep (M : List Addr) (H0 G0 G H : Hp) (O : List Addr) : Prop where
  base : SameXs M H0 H
  pm : ∀ a ∈ M, H a ≠ none
  sG : Same G H
  g0 : Same G0 G
  gn : ∀ b, H0 b ≠ none → G0 b = none → G b = none
  ow : ∀ a ∈ O, G a = none ∧ H a ≠ none ∧ (a ∈ M ∨ H0 a = none)
theorem all_nil {P : Addr → Prop} : ∀ x ∈ ([] : List Addr), P x := fun x h => by cases h
theorem all_cons {P : Addr → Prop} {a : Addr} {l : List Addr} (h : P a) (t : ∀ x ∈ l, P x) : ∀ x ∈ a :: l, P x := fun x hx => by
  cases hx with
  | head => exact h
  | tail _ hx => exact t x hx
theorem some_ne {H : Hp} {a : Addr} {o : HO} (h : H a = some o) : H a ≠ none := by
  rw [h]
  exact fun z => nomatch z
theorem same_ne {H H' : Hp} {a : Addr} (e : Same H H') (h : H a ≠ none) : H' a ≠ none := by
  cases q : H a with
  | none => exact absurd q h
  | some o => exact some_ne (e a o q)
section
variable {M : List Addr} {H0 G0 G H H' : Hp} {O : List Addr} {p m : Addr} {o : HO}
theorem Sep.start (M : List Addr) (H : Hp) (hM : ∀ a ∈ M, H a ≠ none) : Sep M H (hideL M H) (hideL M H) H M :=
  ⟨fun _ _ e _ => e, hM, hideL_same M H, Same.refl _, fun _ _ e => e, fun a ha => ⟨hideL_in ha, hM a ha, .inl ha⟩⟩
theorem Sep.startG {G H : Hp} (e : Same G H) : Sep [] H G G H [] := ⟨fun _ _ e _ => e, all_nil, e, Same.refl _, fun _ _ e => e, fun a ha => by cases ha⟩
theorem Sep.start0 (H : Hp) : Sep [] H H H H [] := Sep.startG (Same.refl H)
theorem Sep.b0 (S : Sep [] H0 G0 G H O) : Same H0 H := fun b o e => S.base b o e List.not_mem_nil
theorem Sep.free (S : Sep M H0 G0 G H O) {q : Addr} (n : H q = none) : H0 q = none := by
  cases e : H0 q with
  | none => rfl
  | some o =>
    by_cases h : q ∈ M
    · exact absurd n (S.pm q h)
    · rw [S.base q o e h] at n
      cases n
theorem Sep.same (S : Sep M H0 G0 G H O) (e : Same H H') : Sep M H0 G0 G H' O :=
  ⟨fun b o h n => e b o (S.base b o h n), fun a ha => same_ne e (S.pm a ha), S.sG.trans e, S.g0, S.gn, fun a ha => ⟨(S.ow a ha).1, same_ne e (S.ow a ha).2.1, (S.ow a ha).2.2⟩⟩
theorem Sep.gfree (S : Sep M H0 G0 G H O) {q : Addr} (n : H q = none) : G q = none := by
  cases e : G q with
  | none => rfl
  | some o => rw [S.sG q o e] at n; cases n
theorem Sep.new (S : Sep M H0 G0 G H O) (n : H p = none) (e : Same H H') (h : H' p = some o) (hm : H0 p = none) : Sep M H0 G0 G H' (p :: O) := by
  have S1 := S.same e
  refine ⟨S1.base, S1.pm, S1.sG, S1.g0, S1.gn, fun a ha => ?_⟩
  cases ha with
  | head => exact ⟨S.gfree n, some_ne h, .inr hm⟩
  | tail _ ha => exact S1.ow a ha
theorem Sep.grow (S : Sep M H0 G0 G H O) (n : H p = none) (e : Same H H') (h : H' p = some o) (hm : H0 p = none) : ∃ G', Same G G' ∧ G' p = some o ∧ Sep M H0 G0 G' H' O := by
  have S1 := S.same e
  have ng := S.gfree n
  refine ⟨upd G p o, fun b u q => by rw [upd_ne (ne_of_none q ng)]; exact q, upd_same, S1.base, S1.pm, fun b u q => ?_, fun b u q => ?_, fun b hb gb => ?_, fun a ha => ?_⟩
  · by_cases z : b = p
    · subst z
      rw [upd_same] at q
      exact q ▸ h
    · rw [upd_ne z] at q
      exact S1.sG b u q
  · have := S.g0 b u q
    rw [upd_ne (ne_of_none this ng)]
    exact this
  · by_cases z : b = p
    · subst z
      exact absurd hm hb
    · rw [upd_ne z]
      exact S.gn b hb gb
  · have hne : a ≠ p := fun z => (S.ow a ha).2.1 (by rw [z]; exact n)
    rw [upd_ne hne]
    exact S1.ow a ha
theorem Sep.mut (S : Sep M H0 G0 G H O) {L : List Addr} (x : SameXs L H H') (hL : ∀ a ∈ L, a ∈ O) (hs : ∀ a ∈ L, H' a ≠ none) : Sep M H0 G0 G H' O := by
  have keep : ∀ a, H a ≠ none → H' a ≠ none := fun a h => by
    by_cases hb : a ∈ L
    · exact hs a hb
    · cases q : H a with
      | none => exact absurd q h
      | some o => exact some_ne (x a o q hb)
  refine ⟨fun b o e n => ?_, fun a ha => keep a (S.pm a ha), fun b o e => ?_, S.g0, S.gn, fun a ha => ⟨(S.ow a ha).1, keep a (S.ow a ha).2.1, (S.ow a ha).2.2⟩⟩
  · refine x b o (S.base b o e n) fun hb => ?_
    rcases (S.ow b (hL b hb)).2.2 with z | z
    · exact n z
    · rw [e] at z; cases z
  · refine x b o (S.sG b o e) fun hb => ?_
    have := (S.ow b (hL b hb)).1
    rw [e] at this
    cases this
theorem Sep.mut1 (S : Sep M H0 G0 G H O) (x : SameX m H H') (hm : m ∈ O) (h : H' m = some o) : Sep M H0 G0 G H' O :=
  S.mut (SameXs.of x) (all_cons hm all_nil) (all_cons (some_ne h) all_nil)
theorem Sep.sub (S : Sep M H0 G0 G H O) {O' : List Addr} (h : ∀ a ∈ O', a ∈ O) : Sep M H0 G0 G H O' := ⟨S.base, S.pm, S.sG, S.g0, S.gn, fun a ha => S.ow a (h a ha)⟩
/-- what was owned and is to stay as it is from now on -/
theorem Sep.freeze (S : Sep M H0 G0 G H O) {O' : List Addr} (hp : p ∈ O) (h : H p = some o) (hm : H0 p = none) (hO : ∀ a ∈ O', a ∈ O ∧ a ≠ p) : ∃ G', Same G G' ∧ G' p = some o ∧ Sep M H0 G0 G' H O' := by
  have ng := (S.ow p hp).1
  refine ⟨upd G p o, fun b u q => by rw [upd_ne (ne_of_none q ng)]; exact q, upd_same, S.base, S.pm, fun b u q => ?_, fun b u q => ?_, fun b hb gb => ?_, fun a ha => ?_⟩
  · by_cases z : b = p
    · subst z
      rw [upd_same] at q
      exact q ▸ h
    · rw [upd_ne z] at q
      exact S.sG b u q
  · have := S.g0 b u q
    rw [upd_ne (ne_of_none this ng)]
    exact this
  · by_cases z : b = p
    · subst z
      exact absurd hm hb
    · rw [upd_ne z]
      exact S.gn b hb gb
  · rw [upd_ne (hO a ha).2]
    exact S.ow a (hO a ha).1
/-- a callee that hands on data in a stable heap of its own -/
theorem Sep.step (S : Sep M H0 G0 G H O) {G' : Hp} (e : Same H H') (eG : Same G G') (sG : Same G' H') (hn : ∀ b, H b ≠ none → G b = none → G' b = none) : Sep M H0 G0 G' H' O := by
  have S1 := S.same e
  refine ⟨S1.base, S1.pm, sG, S.g0.trans eG, fun b hb gb => ?_, fun a ha => ⟨hn a (S.ow a ha).2.1 (S.ow a ha).1, (S1.ow a ha).2⟩⟩
  refine hn b (fun z => ?_) (S.gn b hb gb)
  exact hb (S.free z)
theorem Sep.hid (S : Sep M H0 G0 G H O) {L : List Addr} (h : ∀ a ∈ L, a ∈ O) : Same G (hideL L H) := fun b o e => by
  rw [hideL_out fun z => by
    have := (S.ow b (h b z)).1
    rw [e] at this
    cases this]
  exact S.sG b o e
end
end Vx

namespace Vx
open PySem PySem.Spec PyProof.Rows L2
/-! ### lists of plain things (f : V.int, V.bl, V.str) -/
section
variable {α : Type} {f : α → V} {H : Hp} {p : Addr}
theorem cat_map {xs ys : List α} (h : H p = some (.lst (xs.map f ++ ys.map f))) : H p = some (.lst ((xs ++ ys).map f)) := by
  rw [List.map_append]; exact h
theorem snoc_map {xs : List α} {y : α} (h : H p = some (.lst (xs.map f ++ [f y]))) : H p = some (.lst ((xs ++ [y]).map f)) := by
  rw [List.map_append]; exact h
def repL (xs : List α) (k : Int) : List α := (List.replicate k.toNat xs).flatten
theorem rep_map {xs : List α} {k : Int} (h : H p = some (.lst (List.replicate k.toNat (xs.map f)).flatten)) : H p = some (.lst ((repL xs k).map f)) := by
  rw [h]
  unfold repL
  rw [List.map_flatten, List.map_replicate]
def cutL (xs : List α) (lo hi : Option Int) : List α := (xs.drop (HT.sIx xs.length 0 lo)).take (HT.sIx xs.length xs.length hi - HT.sIx xs.length 0 lo)
theorem cut_map {xs : List α} {lo hi : Option Int} (h : H p = some (.lst (cutV (xs.map f) lo hi))) : H p = some (.lst ((cutL xs lo hi).map f)) := by
  rw [h]
  unfold cutV cutL
  rw [List.length_map, List.map_take, List.map_drop]
theorem cast_map {xs ys : List α} (h : H p = some (.lst (xs.map f))) (e : xs = ys) : H p = some (.lst (ys.map f)) := e ▸ h
theorem drop_map {xs : List α} (h : H p = some (.lst (xs.map f).dropLast)) : H p = some (.lst (xs.dropLast.map f)) := by
  rw [h, List.map_dropLast]
theorem ixN_some {n : Nat} {k : Int} (h : -(n : Int) ≤ k ∧ k < n) : ∃ j, ixN n k = some j ∧ j < n := by
  unfold ixN
  by_cases h0 : 0 ≤ k
  · exact ⟨k.toNat, by rw [if_pos h0, if_pos h.2], by omega⟩
  · exact ⟨(k + n).toNat, by rw [if_neg h0, if_pos h.1], by omega⟩
def itD [Inhabited α] (xs : List α) (k : Int) : α := (atI xs k).getD default
theorem atI_map [Inhabited α] {xs : List α} {k : Int} (h : -(xs.length : Int) ≤ k ∧ k < xs.length) : atI (xs.map f) k = some (f (itD xs k)) := by
  obtain ⟨j, e, hj⟩ := ixN_some h
  unfold itD atI
  rw [List.length_map, e]
  show (xs.map f)[j]? = some (f ((xs[j]?).getD default))
  rw [List.getElem?_map, List.getElem?_eq_getElem hj] <;> rfl
def setL (xs : List α) (k : Int) (y : α) : List α := xs.set ((ixN xs.length k).getD 0) y
theorem ixN_map {xs : List α} {k : Int} (h : -(xs.length : Int) ≤ k ∧ k < xs.length) : ixN (xs.map f).length k = some ((ixN xs.length k).getD 0) := by
  obtain ⟨j, e, hj⟩ := ixN_some h
  rw [List.length_map, e] <;> rfl
theorem set_map {xs : List α} {k : Int} {y : α} (h : H p = some (.lst ((xs.map f).set ((ixN xs.length k).getD 0) (f y)))) : H p = some (.lst ((setL xs k y).map f)) := by
  rw [h]
  unfold setL
  rw [List.map_set]
def lastD [Inhabited α] (xs : List α) : α := xs.getLastD default
theorem pop_map [Inhabited α] {xs : List α} (h : xs ≠ []) : (xs.map f)[(xs.map f).length - 1]? = some (f (lastD xs)) := by
  rw [← List.getLast?_eq_getElem?, List.getLast?_map]
  unfold lastD
  cases e : xs.getLast? with
  | none => exact absurd (List.getLast?_eq_none_iff.mp e) h
  | some y =>
    rw [List.getLastD_eq_getLast?, e] <;> rfl
end
/-! ### lists of data -/
section
variable {α β : Type} {f : α → PyData} {g : β → PyData} {G : Hp} {vs ws : List V} {xs ys : List α}
theorem app_map (a : RpAll G vs (xs.map f)) (b : RpAll G ws (ys.map f)) : RpAll G (vs ++ ws) ((xs ++ ys).map f) := by
  rw [List.map_append]; exact a.append b
theorem one_map {v : V} {y : α} (a : RpAll G vs (xs.map f)) (b : Rp G v (f y)) : RpAll G (vs ++ [v]) ((xs ++ [y]).map f) := by
  rw [List.map_append]; exact a.append (.one b)
theorem rep_all (k : Int) (a : RpAll G vs (xs.map f)) : RpAll G (List.replicate k.toNat vs).flatten ((repL xs k).map f) := by
  unfold repL
  rw [List.map_flatten, List.map_replicate]
  exact a.rep _
theorem cut_all (lo hi : Option Int) (a : RpAll G vs (xs.map f)) : RpAll G (cutV vs lo hi) ((cutL xs lo hi).map f) := by
  unfold cutV cutL
  rw [a.len, List.length_map, List.map_take, List.map_drop]
  exact (a.drop _).take _
theorem rp_cast {v : V} {d e : PyData} (r : Rp G v d) (h : d = e) : Rp G v e := h ▸ r
theorem comp_listD {i : Nat} {x : α} {y : β} {v : V} {h : α → β} (hi : xs[i]? = some x) (a : RpAll G vs (((xs.take i).map h).map g)) (r : Rp G v (g y)) (e : h x = y) : RpAll G (vs ++ [v]) (((xs.take (i + 1)).map h).map g) := by
  rw [take_succ_get hi, List.map_append, List.map_append]
  exact a.append (.one (e ▸ r))
theorem comp_rangeD {i : Nat} {y : β} {v : V} {h : Nat → β} (a : RpAll G vs (((List.range i).map h).map g)) (r : Rp G v (g y)) (e : h i = y) : RpAll G (vs ++ [v]) (((List.range (i + 1)).map h).map g) := by
  rw [List.range_succ, List.map_append, List.map_append]
  exact a.append (.one (e ▸ r))
theorem comp_doneD {n : Nat} {h : List α → List β} (hl : n = xs.length) (a : RpAll G vs ((h (xs.take n)).map g)) : RpAll G vs ((h xs).map g) := by
  rw [hl, List.take_length] at a
  exact a
theorem comp_listFD {i : Nat} {x : α} {y : β} {v : V} {h : α → β} {q : α → Bool} (hi : xs[i]? = some x) (hq : q x = true) (a : RpAll G vs ((((xs.take i).filter q).map h).map g)) (r : Rp G v (g y)) (e : h x = y) : RpAll G (vs ++ [v]) ((((xs.take (i + 1)).filter q).map h).map g) := by
  rw [take_succ_get hi, List.filter_append, List.filter_cons, if_pos hq, List.map_append, List.map_append]
  exact a.append (.one (e ▸ r))
theorem skip_listD {i : Nat} {x : α} {h : α → β} {q : α → Bool} (hi : xs[i]? = some x) (hq : q x = false) (a : RpAll G vs ((((xs.take i).filter q).map h).map g)) : RpAll G vs ((((xs.take (i + 1)).filter q).map h).map g) := by
  rw [take_succ_get hi, List.filter_append, List.filter_cons, if_neg (by rw [hq]; decide), List.filter_nil, List.append_nil]
  exact a
end
section
variable {α β : Type} {f : β → V} {H : Hp} {D : Addr} {xs : List α}
theorem compM_list {i : Nat} {x : α} {y : β} {h : α → β} (hi : xs[i]? = some x) (a : H D = some (.lst (((xs.take i).map h).map f ++ [f y]))) (e : h x = y) : H D = some (.lst (((xs.take (i + 1)).map h).map f)) := by
  rw [a, ← e, take_succ_get hi, List.map_append, List.map_append] <;> rfl
theorem compM_range {i : Nat} {y : β} {h : Nat → β} (a : H D = some (.lst (((List.range i).map h).map f ++ [f y]))) (e : h i = y) : H D = some (.lst (((List.range (i + 1)).map h).map f)) := by
  rw [a, ← e, List.range_succ, List.map_append, List.map_append] <;> rfl
theorem compM_done {n : Nat} {h : List α → List β} (hl : n = xs.length) (a : H D = some (.lst ((h (xs.take n)).map f))) : H D = some (.lst ((h xs).map f)) := by
  rw [hl, List.take_length] at a
  exact a
theorem compM_listF {i : Nat} {x : α} {y : β} {h : α → β} {q : α → Bool} (hi : xs[i]? = some x) (hq : q x = true) (a : H D = some (.lst ((((xs.take i).filter q).map h).map f ++ [f y]))) (e : h x = y) : H D = some (.lst ((((xs.take (i + 1)).filter q).map h).map f)) := by
  rw [a, ← e, take_succ_get hi, List.filter_append, List.filter_cons, if_pos hq, List.map_append, List.map_append] <;> rfl
theorem skipM_list {i : Nat} {x : α} {h : α → β} {q : α → Bool} (hi : xs[i]? = some x) (hq : q x = false) (a : H D = some (.lst ((((xs.take i).filter q).map h).map f))) : H D = some (.lst ((((xs.take (i + 1)).filter q).map h).map f)) := by
  rw [a, take_succ_get hi, List.filter_append, List.filter_cons, if_neg (by rw [hq]; decide), List.filter_nil, List.append_nil]
theorem compM_rangeF {i : Nat} {y : β} {h : Nat → β} {q : Nat → Bool} (hq : q i = true) (a : H D = some (.lst ((((List.range i).filter q).map h).map f ++ [f y]))) (e : h i = y) : H D = some (.lst ((((List.range (i + 1)).filter q).map h).map f)) := by
  rw [a, ← e, List.range_succ, List.filter_append, List.filter_cons, if_pos hq, List.map_append, List.map_append] <;> rfl
theorem skipM_range {i : Nat} {h : Nat → β} {q : Nat → Bool} (hq : q i = false) (a : H D = some (.lst ((((List.range i).filter q).map h).map f))) : H D = some (.lst ((((List.range (i + 1)).filter q).map h).map f)) := by
  rw [a, List.range_succ, List.filter_append, List.filter_cons, if_neg (by rw [hq]; decide), List.filter_nil, List.append_nil]
end
/-! ### more rules -/
section
variable {X : Cx} {K : PySem.W.Frag}
theorem ix_tupK (hK : X.K = K := by rfl) : IxR X (rIxT K) := hK ▸ ix_tup
def rLenLK (K : PySem.W.Frag) : List V → Hp → VK → Prop := fun xs H Q => ∃ (p : Addr) (vs : List V) (n : Nat), xs = [.ref p] ∧ SqL K H p vs ∧ vs.length = n ∧ Q (.int (n : Int)) H
theorem call_lenLK (hK : X.K = K := by rfl) : CallR X (.builtin "len") (rLenLK K) := by
  subst hK
  intro pins s σ H xs us Q I r h
  obtain ⟨p, vs, n, rfl, hs, hn, q⟩ := h
  exact call_len_seq pins s σ H _ us Q I r ⟨p, _, rfl, Or.inl hs, by rw [hn]; exact q⟩
def rListLK (K : PySem.W.Frag) : List V → Hp → VK → Prop := fun xs H Q => ∃ (p : Addr) (vs : List V), xs = [.ref p] ∧ SqL K H p vs ∧ ∀ l, H l = none → Q (.ref l) (upd H l (.lst vs))
theorem call_listLK (hK : X.K = K := by rfl) : CallR X (.type "list") (rListLK K) := by
  subst hK
  intro pins s σ H xs us Q I r h
  obtain ⟨p, vs, rfl, hs, q⟩ := h
  exact call_list_of pins s σ H _ us Q I r ⟨p, _, rfl, Or.inl hs, q⟩
theorem cr_anyK (hc : X.calm = true) (hK : X.K = K := by rfl) : CallR X (.builtin "any") (rAny K) := hK ▸ cr_any hc
theorem cr_allK (hc : X.calm = true) (hK : X.K = K := by rfl) : CallR X (.builtin "all") (rAll K) := hK ▸ cr_all hc
theorem pi_tupK {tg l : Expr} {tl : TE} (hl : PE X l tl) (hK : X.K = K := by rfl) : PI X tg l (iTup K tl) := hK ▸ pi_tup hl
theorem pip {op : Operator} {r : R2} (h : OpR X (inplaceOp op) r) : PIp X op r := fun pins s σ H x y v u Q I rx ry q => h pins s σ H x y v u Q I rx ry q
/-- an item at a place from 0 on, by itself (ahead of o[i] op= e) -/
def rIxP (K : PySem.W.Frag) : R2 := fun x y H Q => ∃ (p : Addr) (xs : List V) (k : Int) (v : V), x = .ref p ∧ y = .int k ∧ SqL K H p xs ∧ 0 ≤ k ∧ k < 2 ^ 62 ∧ atI xs k = some v ∧ Q v H
theorem pget_list (hK : X.K = K := by rfl) : PGet X (rIxP K) := by
  subst hK
  intro pins s σ H o i ov iv Q I ro ri h
  obtain ⟨p, xs, k, v, rfl, rfl, hq, h0, h62, ha, q⟩ := h
  cases ro
  obtain ⟨t, rfl⟩ := ri
  obtain ⟨its, r, pl, hz⟩ := I.list hq
  obtain ⟨j, h1, h2, h3, h4, h5⟩ := atI_get ha
  obtain ⟨w, ew, rw'⟩ := r.get h2
  have hj : k.toNat = j := by
    rw [seqIndex_of h0 h5] at h1
    exact Option.some.inj h1
  exact getItem_listL pl.isList h0 (by omega) (by rw [hj]; simpa using ew) ⟨v, H, I, rw', q⟩
theorem tru_map {α : Type} [DecidableEq α] {f : α → V} {xs : List α} : (!decide (xs = [])) = !(xs.map f).isEmpty := by
  cases xs <;> simp
end
end Vx

namespace Vx
open PySem PySem.Spec PyProof.Rows L2
/-! ### objects -/
section
variable {M : List Addr} {H0 G0 G H H' : Hp} {O : List Addr} {p m : Addr} {o : HO}
theorem gen_obj {x dx : Addr} {o1 o2 : HO} (nx : H x = none) (nd : H dx = none) (ne : dx ≠ x) (h : upd (upd H dx o1) x o2 = H') : Same H H' ∧ H' x = some o2 := by
  subst h
  exact ⟨fun b u e => by rw [upd_ne (ne_of_none e nx), upd_ne (ne_of_none e nd)]; exact e, upd_same⟩
theorem sameX_of {m : Addr} (x : SameXs [m] H H') : SameX m H H' := fun b o e n => x b o e (by simpa using n)
theorem g_ne {a b : Addr} (h : G a = some o) (S : Sep M H0 G0 G H O) (hb : b ∈ O) : a ≠ b := fun z => by
  have := (S.ow b hb).1
  rw [← z, h] at this
  cases this
/-- an object whose making has laid some lists -/
theorem Sep.mutnew (S : Sep M H0 G0 G H O) {L : List Addr} (x : SameXs L H H') (hL : ∀ a ∈ L, a ∈ O) (hs : ∀ a ∈ L, H' a ≠ none) (hn : H p = none) (hp : H' p ≠ none) (h0 : H0 p = none) : Sep M H0 G0 G H' (p :: O) := by
  have S1 := S.mut x hL hs
  refine ⟨S1.base, S1.pm, S1.sG, S1.g0, S1.gn, all_cons ⟨S.gfree hn, hp, .inr h0⟩ S1.ow⟩
theorem Sep.init (S : Sep M H0 G0 G H O) (x : SameX m H H') (hm : m ∈ O) (h : H' m = some o) (L : List Addr) (hL : ∀ a ∈ L, H a = none ∧ H' a ≠ none ∧ H0 a = none) : Sep M H0 G0 G H' (L ++ O) := by
  have S1 := S.mut1 x hm h
  refine ⟨S1.base, S1.pm, S1.sG, S1.g0, S1.gn, fun a ha => ?_⟩
  rcases List.mem_append.mp ha with z | z
  · obtain ⟨h1, h2, h3⟩ := hL a z
    exact ⟨S.gfree h1, h2, .inr h3⟩
  · exact S1.ow a z
end
section
variable {P : Program} {w : World} {K : PySem.W.Frag} {mg : Str → Option Value} {base : Heap}
structure MethIn (K : PySem.W.Frag) (C : Addr) (q m : Str) (st : Stmt) (ps : List Str) : Prop where
  ex : ∃ (f : Addr) (fd : FuncData), Fun K m q st f fd ∧ Meth K C m f ∧ Binds K fd ps []
structure PropIn (K : PySem.W.Frag) (C : Addr) (q m : Str) (st : Stmt) (ps : List Str) : Prop where
  ex : ∃ (r f : Addr) (fd : FuncData), Fun K m q st f fd ∧ PropOf K C m r f ∧ Binds K fd ps []
structure InitIn (K : PySem.W.Frag) (mg : Str → Option Value) (C : Addr) (cn q : Str) (st : Stmt) (ps : List Str) : Prop where
  ex : ∃ (f : Addr) (fd : FuncData), Fun K "__init__" q st f fd ∧ Mk K C f ∧ mg cn = some (.ref C) ∧ Binds K fd ps []
structure MetC (P : Program) (w : World) (K : PySem.W.Frag) (mg : Str → Option Value) (base : Heap) (k : Nat) (C : Addr) (m : Str) (sp : Sp) : Prop where
  ex : ∃ (f : Addr) (fd : FuncData) (ps : List Str), Cls K C ∧ Meth K C m f ∧ FnOk P w K mg base CX0 k f fd ps sp ∧ Binds K fd ps []
structure PropC (P : Program) (w : World) (K : PySem.W.Frag) (mg : Str → Option Value) (base : Heap) (k : Nat) (C : Addr) (m : Str) (sp : Sp) : Prop where
  ex : ∃ (q f : Addr) (fd : FuncData) (ps : List Str), Cls K C ∧ PropOf K C m q f ∧ FnOk P w K mg base CX0 k f fd ps sp ∧ Binds K fd ps []
structure MakC (P : Program) (w : World) (K : PySem.W.Frag) (mg : Str → Option Value) (base : Heap) (k : Nat) (cn : Str) (C : Addr) (sp : Sp) : Prop where
  ex : ∃ (f : Addr) (fd : FuncData) (ps : List Str), Mk K C f ∧ FnOk P w K mg base CX0 k f fd ps sp ∧ mg cn = some (.ref C) ∧ Binds K fd ps []
abbrev Body (P : Program) (w : World) (K : PySem.W.Frag) (mg : Str → Option Value) (base : Heap) (x : Str) (st : Stmt) (N : List Str) (k : Nat) (sp : Sp) : Prop :=
  ∀ (f : Addr) (cdv : Value) (A : Around) (outer : List Env) (s : Shared) (H : Hp) (vs : List V) (Q : VK) (E : XK), Room k (A.deeper (envOfC x (defScope st) s.heap.objs.size f cdv)) → sp vs H Q E →
    ∃ t, PSs (cxOf CX0 P w K mg base N x (defScope st) f cdv A outer s H E).nox (defBody st) t ∧ t { nx := fun _ H' => Q .non H', rt := Q } (start N vs) H
theorem MethIn.ok {C : Addr} {q m : Str} {st : Stmt} {N ps : List Str} {k : Nat} {sp : Sp} (D : MethIn K C q m st ps) (c : Cls K C) (S : FnScope N ps (defScope st)) (len : ∀ vs H Q E, sp vs H Q E → vs.length = ps.length)
    (hbody : Body P w K mg base q st N k sp) : MetC P w K mg base (k + 1) C m sp := by
  obtain ⟨f, fd, F, me, b⟩ := D.ex
  exact ⟨f, fd, ps, c, me, F.ok S len (fun cdv A outer s H vs Q E hr h => hbody f cdv A outer s H vs Q E hr h), b⟩
theorem PropIn.ok {C : Addr} {q m : Str} {st : Stmt} {N ps : List Str} {k : Nat} {sp : Sp} (D : PropIn K C q m st ps) (c : Cls K C) (S : FnScope N ps (defScope st)) (len : ∀ vs H Q E, sp vs H Q E → vs.length = ps.length)
    (hbody : Body P w K mg base q st N k sp) : PropC P w K mg base (k + 1) C m sp := by
  obtain ⟨r, f, fd, F, me, b⟩ := D.ex
  exact ⟨r, f, fd, ps, c, me, F.ok S len (fun cdv A outer s H vs Q E hr h => hbody f cdv A outer s H vs Q E hr h), b⟩
theorem InitIn.ok {C : Addr} {cn q : Str} {st : Stmt} {N ps : List Str} {k : Nat} {sp : Sp} (D : InitIn K mg C cn q st ps) (S : FnScope N ps (defScope st)) (len : ∀ vs H Q E, sp vs H Q E → vs.length = ps.length)
    (hbody : Body P w K mg base q st N k sp) : MakC P w K mg base (k + 1) cn C sp := by
  obtain ⟨f, fd, F, me, hm, b⟩ := D.ex
  exact ⟨f, fd, ps, me, F.ok S len (fun cdv A outer s H vs Q E hr h => hbody f cdv A outer s H vs Q E hr h), hm, b⟩
end
section
variable {X : Cx} {k j : Nat} {C : Addr} {x m : Str} {sp : Sp} {p pos apos : Pos} {e o : Expr} {es : List Expr} {ta : TE} {t : TA}
theorem vx_call0 (c : Cal X.prog X.w X.K X.mg X.base k x sp) (hr : Room j X.A) (hk : k ≤ j) (hg : Gl X x) (hdb : (x == ("__debug__" : Str)) = false := by decide) : PE X (.Call (.Name x p) [] [] pos) (tCall sp [] E0 tNil) := by
  obtain ⟨f, fd, ps, F, hm, kp, b⟩ := c.ex
  exact pe_call0 F (hr.mono hk) hg hm kp b .nil pass0 hdb
theorem vx_make (c : MakC X.prog X.w X.K X.mg X.base k x C sp) (hr : Room j X.A) (hk : k + 1 ≤ j) (hg : Gl X x) (ha : PA X (e :: es) t)
    (hdb : (x == ("__debug__" : Str)) = false := by decide) (he : starEach (e :: es) X.env = (false, eval e X.env) :: starEach es X.env := by rfl) (hpl : (backTo pos (starEach es X.env)).any (·.1) = false := by rfl) :
    PE X (.Call (.Name x p) (e :: es) [] pos) (tMake C sp [] E0 t) := by
  obtain ⟨f, fd, ps, M, F, hm, b⟩ := c.ex
  exact pe_make M F (hr.mono hk) hg hm b .nil pass0 ha hdb he hpl
theorem vx_make0 (c : MakC X.prog X.w X.K X.mg X.base k x C sp) (hr : Room j X.A) (hk : k + 1 ≤ j) (hg : Gl X x) (hdb : (x == ("__debug__" : Str)) = false := by decide) :
    PE X (.Call (.Name x p) [] [] pos) (tMake C sp [] E0 tNil) := by
  obtain ⟨f, fd, ps, M, F, hm, b⟩ := c.ex
  exact pe_make0 M F (hr.mono hk) hg hm b .nil pass0 hdb
theorem vx_meth {pl : Sem Bool} (c : MetC X.prog X.w X.K X.mg X.base k C m sp) (hr : Room j X.A) (hk : k ≤ j) (he : PE X o ta) (ha : PA X (e :: es) t)
    (hst : starEach (e :: es) X.env = (false, eval e X.env) :: starEach es X.env := by rfl) (hpl : (backTo pos (starEach es X.env)).any (·.1) = false := by rfl)
    (ht : eval (.Call (.Attribute o m apos) (e :: es) [] pos) X.env = (do
      let ov ← eval o X.env
      standAt apos.atName
      let (f, first) ← holding [ov] (getMethod ov m pl)
      callWith pos f first (backTo pos (starEach (e :: es) X.env)) (backToKw pos (keywordEach [] X.env))) := by rfl) :
    PE X (.Call (.Attribute o m apos) (e :: es) [] pos) (tMeth C m sp [] E0 ta t) := by
  obtain ⟨f, fd, ps, hc, hm, F, b⟩ := c.ex
  exact pe_meth he hc hm F (hr.mono hk) b .nil pass0 ha hst hpl ht
theorem vx_meth0 {pl : Sem Bool} (c : MetC X.prog X.w X.K X.mg X.base k C m sp) (hr : Room j X.A) (hk : k ≤ j) (he : PE X o ta)
    (ht : eval (.Call (.Attribute o m apos) [] [] pos) X.env = (do
      let ov ← eval o X.env
      standAt apos.atName
      let (f, first) ← holding [ov] (getMethod ov m pl)
      callWith pos f first (backTo pos (starEach [] X.env)) (backToKw pos (keywordEach [] X.env))) := by rfl) :
    PE X (.Call (.Attribute o m apos) [] [] pos) (tMeth C m sp [] E0 ta tNil) := by
  obtain ⟨f, fd, ps, hc, hm, F, b⟩ := c.ex
  exact pe_meth0 he hc hm F (hr.mono hk) b .nil pass0 ht
theorem vx_prop (c : PropC X.prog X.w X.K X.mg X.base k C m sp) (hr : Room j X.A) (hk : k + 1 ≤ j) (he : PE X o ta) (hab : attributeBase o m X.env (eval o X.env) = eval o X.env) : PE X (.Attribute o m pos) (tProp C sp [] E0 ta) := by
  obtain ⟨q, f, fd, ps, hc, hp, F, b⟩ := c.ex
  exact pe_prop he hc hp F (hr.mono hk) b .nil pass0 hab
end
theorem iteBNT {b : Bool} {A B : Prop} (h : b = false) (k : A) : if (!b) = true then A else B := by rw [h]; exact iteT k
theorem iteNN {b : Bool} {A B : Prop} (h : if b = true then A else B) : if (!!b) = true then A else B := by rw [Bool.not_not]; exact h
theorem iteBNF {b : Bool} {A B : Prop} (h : b = true) (k : B) : if (!b) = true then A else B := by rw [h]; exact iteF k
theorem shl_side {i j : Int} (h0 : 0 ≤ j) (h1 : j ≤ 4096) (h2 : -(2 ^ 4096) < i) (h3 : i < 2 ^ 4096) : CShl i j := by
  obtain ⟨k, rfl⟩ := Int.eq_ofNat_of_zero_le h0
  exact shl_ok (n := 4096) (by omega) (by omega)
end Vx

namespace Vx
open PySem PySem.Spec PyProof.Rows L2
section
variable {X : Cx} {K : PySem.W.Frag}
theorem fldK {e : Expr} {f : Str} {pos : Pos} {ta : TE} (he : PE X e ta) (hb : attributeBase e f X.env (eval e X.env) = eval e X.env := by rfl) (hK : X.K = K := by rfl) : PE X (.Attribute e f pos) (tFld K ta f) := hK ▸ pe_fld he hb
theorem pg_tupK {es : List Expr} {k : Nat} {t : TGs} {n : Nat} {pos : Pos} (h : PGs X es t) (hc : X.calm = true := by rfl)
    (hn : (assignEach es X.env).length = n := by rfl) (hst : (assignEach es X.env).findIdx? (·.1) = none := by rfl) (hK : X.K = K := by rfl) : PG X (.Tuple es k pos) (gTup K n t) := hK ▸ pg_tup hc h hn hst
end
end Vx

namespace Vx
open PySem PySem.Spec PyProof.Rows L2
section
variable {α β : Type} {f : α → PyData} {g : β → PyData} {fv : α → V} {gv : β → V} {G : Hp} {vs ws : List V} {xs : List α} {ys : List β}
theorem big1 {n : Nat} (h : n ≤ 1000000) : n ≤ sizeLine := smallE h
theorem cat_len (a : RpAll G vs (xs.map f)) (b : RpAll G ws (ys.map g)) (h : xs.length + ys.length ≤ 1000000) : vs.length + ws.length ≤ sizeLine := by
  rw [a.len, b.len, List.length_map, List.length_map]; exact smallE h
theorem cat_lenM (h : xs.length + ys.length ≤ 1000000) : (xs.map fv).length + (ys.map gv).length ≤ sizeLine := by
  rw [List.length_map, List.length_map]; exact smallE h
theorem rep_len {k : Nat} (a : RpAll G vs (xs.map f)) (h : xs.length * k ≤ 1000000) : vs.length * k ≤ sizeLine := by
  rw [a.len, List.length_map]; exact smallE h
theorem rep_lenM {k : Nat} (h : xs.length * k ≤ 1000000) : (xs.map fv).length * k ≤ sizeLine := by
  rw [List.length_map]; exact smallE h
theorem app_len (a : RpAll G vs (xs.map f)) (h : xs.length ≤ 1000000) : vs.length < sizeLine := by
  rw [a.len, List.length_map]; exact small h
theorem app_lenM (h : xs.length ≤ 1000000) : (xs.map fv).length < sizeLine := by
  rw [List.length_map]; exact small h
theorem cutL_len {α : Type} (xs : List α) (lo hi : Option Int) : (cutL xs lo hi).length ≤ xs.length := by
  unfold cutL
  rw [List.length_take, List.length_drop]
  omega
theorem repL_len {α : Type} (xs : List α) (k : Int) : (repL xs k).length = k.toNat * xs.length := by
  unfold repL
  simp
end
end Vx
/-! # promises of defs that know that nothing is being shown (so that repr may be called) -/
namespace Vx
open PySem PySem.Spec PyProof.Rows L2
structure RoomG (k : Nat) (A : Around) : Prop extends Room k A where
  gd : A.guards = some []
theorem RoomG.low {j k : Nat} {A : Around} (r : RoomG k A) (h : j ≤ k) : RoomG j A := ⟨r.toRoom.mono h, r.gd⟩
theorem RoomG.one {k : Nat} {A : Around} (r : RoomG (k + 1) A) : RoomG k A.in1 := ⟨r.toRoom.in1, r.gd⟩
theorem make_gd {A : Around} (C : Addr) (us : List Value) (kw : List (Str × Value)) (h : A.guards = some []) : (A.under (.builtin "type.__call__" ⟨.ref C :: us, kw⟩)).guards = some [] := by
  obtain ⟨hd, d, fr, gs, u⟩ := A
  subst h
  simp [Around.under, Code.guards, Code.isGuard, guardIds, pushGuards]
theorem RoomG.made {k : Nat} {A : Around} (r : RoomG (k + 1) A) (C : Addr) (us : List Value) (kw : List (Str × Value)) : RoomG k (A.under (.builtin "type.__call__" ⟨.ref C :: us, kw⟩)) := ⟨r.toRoom.make C us kw, make_gd C us kw r.gd⟩
structure FnG (P : Program) (w : World) (K : PySem.W.Frag) (mg : Str → Option Value) (base : Heap) (cx : CXT) (k : Nat) (f : Addr) (fd : FuncData) (ps : List Str) (sp : Sp) : Prop where
  len : ∀ vs H Q E, sp vs H Q E → vs.length = ps.length
  run : ∀ (A : Around) (outer : List Env) (s : Shared) (H : Hp) (args : Args) (us : List Value) (vs : List V) (Q : VK) (E : XK), RoomG k A → Env0 P w K mg base A outer s H → BindsTo s fd args (ps.zip us) → Vals vs us → sp vs H Q E → codeAny (model P w) A (.call (.ref f) args) (CR cx outer P w H s Q E) s
section
variable {P : Program} {w : World} {K : PySem.W.Frag} {mg : Str → Option Value} {base : Heap} {cx : CXT} {j k : Nat} {f : Addr} {fd : FuncData} {ps : List Str} {sp sp' : Sp}
theorem FnG.imp (F : FnG P w K mg base cx k f fd ps sp) (h : ∀ vs H Q E, sp' vs H Q E → sp vs H Q E) : FnG P w K mg base cx k f fd ps sp' := ⟨fun vs H Q E q => F.len vs H Q E (h vs H Q E q), fun A o s H a us vs Q E r e b v q => F.run A o s H a us vs Q E r e b v (h vs H Q E q)⟩
/-- the body's promise is the def's -/
theorem FnG.body {x qual : Str} {params : Arguments} {body : List Stmt} {scope : Scope} {dvs : List V} {kws : List (Str × V)} {N : List Str} (F : FunD K x qual params body scope dvs kws f fd) (S : FnScope N ps scope) (len : ∀ vs H Q E, sp vs H Q E → vs.length = ps.length)
    (hb : ∀ (cdv : Value) (A : Around) (outer : List Env) (s : Shared) (H : Hp) (vs : List V) (Q : VK) (E : XK), RoomG k (A.deeper (envOfC qual scope s.heap.objs.size f cdv)) → sp vs H Q E →
      ∃ t, PSs (cxOf cx P w K mg base N qual scope f cdv A outer s H E) body t ∧ t { nx := fun _ H' => Q .non H', rt := Q } (start N vs) H) : FnG P w K mg base cx (k + 1) f fd ps sp := by
  obtain ⟨oc, od, dV, kV, doc, pm, an, cdv, ct, osl, rfl, lk, code, _, _⟩ := F.ex
  constructor
  · exact len
  · intro A outer s H args us vs Q E room env binds vals prom
    have nvs := len vs H Q E prom
    have kin : K.In s.heap := env.mod.kin.keeps fun b o q => (env.bs b o q).1
    have nolim : s.heap.NoLimit := env.mod.nolimit.keeps fun b o q => (env.bs b o q).1
    have kinds : ∀ q ∈ ps.zip us, scope.names.lookup q.1 = some .local ∨ (scope.names.lookup q.1 = some .cell ∧ ((cellsFrom (s.heap.objs.size + 1) scope.names []).lookup q.1).isSome = true) := by
      rintro ⟨n, v⟩ hq
      cases S.par n (List.of_mem_zip hq).1 with
      | inl z => exact .inl z
      | inr z => exact .inr ⟨z, PySem.W.cellsFrom_some _ _ _ (.inl z)⟩
    refine codeAny_call_function room.toRoom.depth (kin _ _ lk) rfl S.co S.gen rfl (PySem.W.codeRec_of kin code) (binds _ _ _ _ ?_)
    refine wpAny_newFunctionEnv_cells S.kind kinds ?_
    rintro _ rfl s1 made
    refine ⟨nolim.keeps made.toInCall.keep, codeAny_func ?_⟩
    obtain ⟨t, pss, start_⟩ := hb cdv A outer s H vs Q E ⟨room.toRoom.deeper _, room.gd⟩ prom
    have inv := inv_start (CX := cx) (E := E) S room.hd env nvs vals made
    have close : ∀ {τ : L2.St} {H2 : Hp} {v : V} {u : Value} {s2 : Shared}, Inv (cxOf cx P w K mg base N qual scope f cdv A outer s H E) [] τ H2 s2 → RelV v u → Q v H2 → CE outer P w H s Q u s2 := fun inv2 rel q => ⟨_, _, inv2.os, inv2.bare, inv2.base, inv2.hok, rel, q⟩
    refine wpAny_mono (pss.run [] s1 (start N vs) H _ inv start_) ?_ fun _ _ z => z
    intro flow s2 out
    cases flow with
    | next =>
      obtain ⟨τ, H2, inv2, q⟩ := out
      exact close (v := .non) (u := .none) inv2 rfl q
    | ret u =>
      obtain ⟨v, τ, H2, inv2, rel, q⟩ := out
      exact close inv2 rel q
    | brk =>
      obtain ⟨_, _, _, q⟩ := out
      exact q.elim
    | cont =>
      obtain ⟨_, _, _, q⟩ := out
      exact q.elim
/-- the same of a body that nothing leaves -/
theorem FnG.bodyN {x qual : Str} {params : Arguments} {body : List Stmt} {scope : Scope} {dvs : List V} {kws : List (Str × V)} {N : List Str} (F : FunD K x qual params body scope dvs kws f fd) (S : FnScope N ps scope) (len : ∀ vs H Q E, sp vs H Q E → vs.length = ps.length)
    (hb : ∀ (cdv : Value) (A : Around) (outer : List Env) (s : Shared) (H : Hp) (vs : List V) (Q : VK) (E : XK), RoomG k (A.deeper (envOfC qual scope s.heap.objs.size f cdv)) → sp vs H Q E →
      ∃ t, PSs (cxOf CX0 P w K mg base N qual scope f cdv A outer s H E).nox body t ∧ t { nx := fun _ H' => Q .non H', rt := Q } (start N vs) H) : FnG P w K mg base CX0 (k + 1) f fd ps sp :=
  FnG.body F S len fun cdv A outer s H vs Q E r p => by
    obtain ⟨t, h, q⟩ := hb cdv A outer s H vs Q E r p
    exact ⟨t, h.nox, q⟩
end
/-- where a law's call begins: an abstract heap that tells the script at most -/
theorem law_start {P : Program} {w : World} {K : PySem.W.Frag} {mg mb : Str → Option Value} {a : Addr} {s : Shared} {vs : List Value} {ns : List Int} (kin : K.In s.heap) (top : s.heap.Ns mainGlobals mg) (blt : s.heap.Ns builtinsNs mb) (boot : ∀ y : Str, y ≠ "__name__" → mb y = bootBuiltins y)
    (lim : s.heap.NoLimit) (gens : s.gens = #[]) (script : s.heap.get? a = some { cls := .type "list", data := .seq vs.toArray }) (whole : IntsAre vs ns) (short : ns.length ≤ sizeLine) :
    ∃ (H : Hp) (base : Heap), SqL K H a (ns.map V.int) ∧ K.In base ∧ base.Ns mainGlobals mg ∧ Env0 P w K mg base callerA [] s H ∧
      ∀ (Z : V → Prop) (u : Value) (s2 : Shared), CE [] P w H s (fun v _ => Z v) u s2 → (∃ v, RelV v u ∧ Z v) ∧ OldK s.heap s2.heap ∧ s2.os = s.os ∧ AllBare s2.gens := by
  have rel := vals_ints whole
  have lenV := whole.length
  -- any H that tells no more than the script, and that only where the written part does not hold it, will do
  have fits : ∀ H : Hp, (∀ b, H b = none ∨ ∃ o xs, H b = some (.frz o (.lst xs))) → SqL K H a (ns.map V.int) → HOk P w H s.heap → (∀ b, b ≠ a → H b = none) → (∀ o, K.lookup a = some o → H a = none) →
      ∃ (H : Hp) (base : Heap), SqL K H a (ns.map V.int) ∧ K.In base ∧ base.Ns mainGlobals mg ∧ Env0 P w K mg base callerA [] s H ∧
        ∀ (Z : V → Prop) (u : Value) (s2 : Shared), CE [] P w H s (fun v _ => Z v) u s2 → (∃ v, RelV v u ∧ Z v) ∧ OldK s.heap s2.heap ∧ s2.os = s.os ∧ AllBare s2.gens := by
    intro H only seq ok else_ apart
    have dictFree : ∀ (b : Addr) (o : Obj) (es : Array DictEntry) (n : Nat), s.heap.get? b = some o → o.data = .dict es n → H b = none := by
      intro b o es n e d
      by_cases z : b = a
      · subst z
        rw [script] at e
        injection e with e
        subst e
        cases d
      · exact else_ b z
    have nsOf : ∀ {b : Addr} {m : Str → Option Value}, s.heap.Ns b m → (hidT s.heap H).Ns b m := by
      rintro b m ⟨o, es, n, e, d, r⟩
      exact ⟨o, es, n, hidT_get e (dictFree b o es n e d), d, r⟩
    have kinB : K.In (hidT s.heap H) := by
      intro b o e
      refine hidT_get (kin b o e) ?_
      by_cases z : b = a
      · subst z
        exact apart o e
      · exact else_ b z
    obtain ⟨mc, lim1, lim2⟩ := lim
    refine ⟨H, hidT s.heap H, seq, kinB, nsOf top, ⟨rfl, ⟨kinB, nsOf top, ⟨mb, nsOf blt, boot⟩, mc, nsOf lim1, lim2⟩, fun b o e => of_hidT e, Nat.le_of_eq (hidT_size _ _), trivial, fun b hb => (nomatch (show b ∈ ([] : List Addr) from hb)), ok, .of_eq gens⟩, ?_⟩
    rintro Z u s2 ⟨v, H2, os, bare, un, ok2, r, z⟩
    refine ⟨⟨v, r, z⟩, OldK.of_keep fun b o e => ?_, os, bare⟩
    rcases only b with n | ⟨o1, xs, n⟩
    · exact un.keep b o e n (fun y => nomatch (show b ∈ ([] : List Addr) from y)) (fun y => nomatch y)
    · obtain ⟨e1, _⟩ := ok b _ n
      obtain ⟨e2, _⟩ := ok2 b _ (un.frzs b o1 _ n)
      rw [e] at e1
      injection e1 with e1
      subst e1
      exact e2
  cases kl : K.lookup a with
  | some o =>
    have e := kin a o kl
    rw [script] at e
    injection e with e
    subst e
    exact fits (fun _ => none) (fun _ => .inl rfl) (.inr ⟨_, vs.toArray, _, kl, rfl, rfl, rfl, by rw [List.size_toArray, lenV]; exact short, by simpa using rel⟩) (fun _ _ z => nomatch z) (fun _ _ => rfl) fun _ _ => rfl
  | none =>
    refine fits (fun b => if b = a then some (.frz { cls := .type "list", data := .seq vs.toArray } (.lst (ns.map V.int))) else none) ?_ (.inl (.inr ⟨_, if_pos rfl⟩)) ?_ (fun b n => if_neg n) fun o z => ?_
    · intro b
      by_cases z : b = a
      · exact .inr ⟨_, _, if_pos z⟩
      · exact .inl (if_neg z)
    · intro b u q
      by_cases z : b = a
      · subst z
        have q := (if_pos rfl).symm.trans q
        injection q with q
        subst q
        exact ⟨script, by rw [List.length_map]; exact short, vs, _, rel, script⟩
      · have q := (if_neg z).symm.trans q
        cases q
    · rw [kl] at z
      cases z
/-- the goal that the head leaves, from the law's promise; the script's numbers have at most 2 ^ 20 bits -/
theorem walkG {l : PySem.W.OpenLaw} {n k : Nat} {q : Program} {loose : List Str} {XP : (Str → Option Value) → Heap → Prop} {YP : World → Heap → Prop} {d : DefRec} {K : Params → PySem.W.Frag} {x : Str} (hn : l.most = some n) (hn2 : n ≤ sizeLine) (hdf : d.params.defaults = []) (room : Room k callerA)
    (hY : ∀ (w : World) (h : Heap), YP w h → (K w.params).In h)
    (F : ∀ (w : World) (mg : Str → Option Value) (fa : Addr) (h : Heap), (K w.params).In h → h.Ns mainGlobals mg → mg d.name = some (.ref fa) →
      ∃ fd : FuncData, (∀ (s : Shared) (u : Value), BindsTo s fd ⟨[u], []⟩ [(x, u)]) ∧ ∀ base : Heap, (K w.params).In base → base.Ns mainGlobals mg → FnG l.prog w (K w.params) mg base CX0 k fa fd [x] (fun vs H Q _ => ∃ (a : Addr) (ns : List Int), vs = [.ref a] ∧ SqL (K w.params) H a (ns.map V.int) ∧ ns.length ≤ n ∧ ∀ H', Q (.bl true) H')) :
    PySem.W.WalkO q loose XP YP l.row.toRowW d [] (fun f vs => PySem.call f vs) := by
  refine Att.attach_call hn hdf ?_
  intro w s₀ s₁ mg mb fa o pm cd doc a vs ns G Y _ _ _ hmg script whole short gens
  have kin := hY w _ Y
  obtain ⟨fd, bind, prom⟩ := F w mg fa _ kin G.T.g hmg
  obtain ⟨H, base, seq, kinB, nsB, env, fin⟩ := law_start (P := l.prog) (w := w) kin G.T.g G.T.b G.T.builtins G.T.nolimit gens script whole (Nat.le_trans short hn2)
  refine codeAny_mono ((prom base kinB nsB).run callerA [] s₁ H ⟨[.ref a], []⟩ [.ref a] [.ref a] (fun v _ => v = .bl true) (fun _ _ _ => False) ⟨room, rfl⟩ env (bind s₁ (.ref a)) (.cons rfl .nil) ⟨a, ns, rfl, seq, short, fun _ => rfl⟩) ?_
  intro r s2 out
  cases r with
  | error e => exact out.elim
  | ok flow =>
    cases flow with
    | ret u =>
      obtain ⟨⟨v, rv, z⟩, h1, h2, h3⟩ := fin (fun v => v = .bl true) u s2 out
      subst z
      obtain rfl : u = Value.bool true := rv
      exact ⟨rfl, h1, h2, h3⟩
    | next => exact out.elim
    | brk => exact out.elim
    | cont => exact out.elim
end Vx
/-! # third part: what a def computes, as a plain function with refusals -/
namespace Vx
open PySem PySem.Spec PyProof.Rows L2
inductive Rx (α : Type) where
  | ok (a : α)
  | er (e : Nat)
  | bad
def Rx.bind {α β : Type} (m : Rx α) (f : α → Rx β) : Rx β :=
  match m with
  | .ok a => f a
  | .er e => .er e
  | .bad => .bad
/-- what is wanted of an outcome -/
@[irreducible] def cW {α : Type} (m : Rx α) (K : α → Prop) (E : Nat → Prop) : Prop :=
  match m with
  | .ok a => K a
  | .er e => E e
  | .bad => False
def grd {α : Type} (p : Prop) [Decidable p] (m : Rx α) : Rx α := if p then m else .bad
/-- within a comprehension nothing may be raised -/
def noEr {α : Type} (m : Rx α) : Rx α :=
  match m with
  | .ok a => .ok a
  | _ => .bad
/-- what the clause does not name may not come -/
def tryR {α β : Type} (m : Rx α) (cs : List Nat) (f : α → Rx β) (h : Nat → Rx β) : Rx β :=
  match m with
  | .ok a => f a
  | .er e => if e ∈ cs then h e else .bad
  | .bad => .bad
def bnd {α β : Type} (a : α) (f : α → Rx β) : Rx β := f a
inductive Lp (σ ρ : Type) where
  | go (s : σ)
  | bk (s : σ)
  | rt (r : ρ)
def Lp.aft {σ ρ τ : Type} (l : Lp σ ρ) (kr : ρ → Rx τ) (k : σ → Rx τ) : Rx τ :=
  match l with
  | .go s => k s
  | .bk s => k s
  | .rt r => kr r
def forS {σ α : Type} : List α → σ → (σ → α → Rx σ) → Rx σ
  | [], s, _ => .ok s
  | x :: r, s, f => (f s x).bind fun s' => forS r s' f
def forR {σ α ρ : Type} : List α → σ → (σ → α → Rx (Lp σ ρ)) → Rx (Lp σ ρ)
  | [], s, _ => .ok (.go s)
  | x :: r, s, f => (f s x).bind fun l =>
    match l with
    | .go s' => forR r s' f
    | .bk s' => .ok (.go s')
    | .rt v => .ok (.rt v)
def whileR {σ ρ : Type} : Nat → σ → (σ → Rx (Lp σ ρ)) → Rx (Lp σ ρ)
  | 0, _, _ => .bad
  | n + 1, s, f => (f s).bind fun l =>
    match l with
    | .go s' => whileR n s' f
    | .bk s' => .ok (.go s')
    | .rt v => .ok (.rt v)
def mapA {α β : Type} : List α → List β → (α → Rx β) → Rx (List β)
  | [], acc, _ => .ok acc
  | x :: r, acc, f => grd (acc.length ≤ 1000000) ((f x).bind fun y => mapA r (acc ++ [y]) f)
def mapF {α β : Type} : List α → List β → (α → Rx (Option β)) → Rx (List β)
  | [], acc, _ => .ok acc
  | x :: r, acc, f => grd (acc.length ≤ 1000000) ((f x).bind fun y =>
    match y with
    | some z => mapF r (acc ++ [z]) f
    | none => mapF r acc f)
section
variable {α β γ σ ρ τ : Type} {K : α → Prop} {E : Nat → Prop}
theorem cW_ok {a : α} (h : cW (.ok a) K E) : K a := by
  unfold cW at h
  exact h
theorem cW_er {e : Nat} (h : cW (.er e : Rx α) K E) : E e := by
  unfold cW at h
  exact h
theorem cW_bad {C : Prop} (h : cW (.bad : Rx α) K E) : C := by
  unfold cW at h
  exact h.elim
theorem cW_mk {a : α} (h : K a) : cW (.ok a) K E := by
  unfold cW
  exact h
theorem cW_mkE {e : Nat} (h : E e) : cW (.er e : Rx α) K E := by
  unfold cW
  exact h
theorem cW_gen {m : Rx α} (h : cW m K E) : ∃ (K' : α → Prop) (E' : Nat → Prop), (∀ v, K' v → K v) ∧ (∀ e, E' e → E e) ∧ cW m K' E' := ⟨K, E, fun _ x => x, fun _ x => x, h⟩
theorem cW_grd {p : Prop} {dp : Decidable p} {m : Rx α} (h : cW (grd p m) K E) : p ∧ cW m K E := by
  unfold grd at h
  split at h
  · exact ⟨‹p›, h⟩
  · exact cW_bad h
theorem cW_pos {p : Prop} {dp : Decidable p} {a b : Rx α} (c : p) (h : cW (if p then a else b) K E) : cW a K E := by rwa [if_pos c] at h
theorem cW_neg {p : Prop} {dp : Decidable p} {a b : Rx α} (c : ¬ p) (h : cW (if p then a else b) K E) : cW b K E := by rwa [if_neg c] at h
theorem cW_call {m : Rx β} {f : β → Rx α} {K2 : β → Prop} {E2 : Nat → Prop} (h : cW (m.bind f) K E) (ho : ∀ v, cW (f v) K E → K2 v) (he : ∀ e, E e → E2 e) : cW m K2 E2 := by
  cases m with
  | ok a => exact cW_mk (ho a h)
  | er e => exact cW_mkE (he e (cW_er (α := α) h))
  | bad => exact cW_bad (α := α) h
theorem cW_push {m : Rx β} {f : β → Rx α} (h : cW (m.bind f) K E) : ∃ K2 : β → Prop, (∀ v, K2 v → cW (f v) K E) ∧ cW m K2 E := ⟨fun v => cW (f v) K E, fun _ x => x, cW_call h (fun _ x => x) fun _ x => x⟩
theorem cW_name {m : Rx α} (h : cW m K E) : ∃ K' : α → Prop, (∀ v, K' v → K v) ∧ cW m K' E := ⟨K, fun _ x => x, h⟩
theorem cW_noEr {m : Rx α} (h : cW (noEr m) K E) : cW m K (fun _ => False) := by
  cases m with
  | ok a => exact cW_mk (cW_ok (α := α) h)
  | er e => exact cW_bad (α := α) h
  | bad => exact cW_bad (α := α) h
theorem cW_try {m : Rx β} {cs : List Nat} {f : β → Rx α} {g : Nat → Rx α} {K2 : β → Prop} {E2 : Nat → Prop} (h : cW (tryR m cs f g) K E) (ho : ∀ v, cW (f v) K E → K2 v) (hc : ∀ e, e ∈ cs → cW (g e) K E → E2 e) : cW m K2 E2 := by
  cases m with
  | ok a => exact cW_mk (ho a h)
  | er e =>
    have h2 : cW (if e ∈ cs then g e else .bad) K E := h
    by_cases q : e ∈ cs
    · exact cW_mkE (hc e q (cW_pos q h2))
    · exact cW_bad (cW_neg q h2)
  | bad => exact cW_bad (α := α) h
theorem cW_bnd {a : β} {f : β → Rx α} (h : cW (bnd a f) K E) : cW (f a) K E := h
theorem cW_negB {b : Bool} {x y : Rx α} (c : b = false) (h : cW (if b = true then x else y) K E) : cW y K E := cW_neg (by rw [c]; decide) h
theorem cW_forS {xs : List β} {i : Nat} {x : β} {s : α} {f : α → β → Rx α} (hx : xs[i]? = some x) (h : cW (forS (xs.drop i) s f) K E) : cW (f s x) (fun s' => cW (forS (xs.drop (i + 1)) s' f) K E) E := by
  rw [List.drop_eq_getElem?_toList_append, hx] at h
  exact cW_call h (fun _ z => z) fun _ z => z
theorem cW_forS0 {xs : List β} {n : Nat} {s : α} {f : α → β → Rx α} (hn : n = xs.length) (h : cW (forS (xs.drop n) s f) K E) : K s := by
  subst hn
  rw [List.drop_length] at h
  exact cW_ok h
theorem cW_forR {K : Lp σ ρ → Prop} {xs : List β} {i : Nat} {x : β} {s : σ} {f : σ → β → Rx (Lp σ ρ)} (hx : xs[i]? = some x) (h : cW (forR (xs.drop i) s f) K E) :
    cW (f s x) (fun l => match l with | .go s' => cW (forR (xs.drop (i + 1)) s' f) K E | .bk s' => K (.go s') | .rt v => K (.rt v)) E := by
  rw [List.drop_eq_getElem?_toList_append, hx] at h
  refine cW_call h (fun l z => ?_) fun _ z => z
  cases l with
  | go s' => exact z
  | bk s' => exact cW_ok (K := K) (a := .go s') z
  | rt v => exact cW_ok (K := K) (a := .rt v) z
theorem cW_forR0 {K : Lp σ ρ → Prop} {xs : List β} {n : Nat} {s : σ} {f : σ → β → Rx (Lp σ ρ)} (hn : n = xs.length) (h : cW (forR (xs.drop n) s f) K E) : K (.go s) := by
  subst hn
  rw [List.drop_length] at h
  exact cW_ok h
theorem cW_whileR {K : Lp σ ρ → Prop} {m : Nat} {s : σ} {f : σ → Rx (Lp σ ρ)} (h : cW (whileR m s f) K E) :
    ∃ n, m = n + 1 ∧ cW (f s) (fun l => match l with | .go s' => cW (whileR n s' f) K E | .bk s' => K (.go s') | .rt v => K (.rt v)) E := by
  cases m with
  | zero => exact cW_bad h
  | succ n =>
    refine ⟨n, rfl, cW_call h (fun l z => ?_) fun _ z => z⟩
    cases l with
    | go s' => exact z
    | bk s' => exact cW_ok (K := K) (a := .go s') z
    | rt v => exact cW_ok (K := K) (a := .rt v) z
theorem cW_mapA {K : List α → Prop} {xs : List β} {acc : List α} {i : Nat} {x : β} {f : β → Rx α} (hx : xs[i]? = some x) (h : cW (mapA (xs.drop i) acc f) K E) :
    acc.length ≤ 1000000 ∧ cW (f x) (fun y => cW (mapA (xs.drop (i + 1)) (acc ++ [y]) f) K E) E := by
  rw [List.drop_eq_getElem?_toList_append, hx] at h
  obtain ⟨z, h⟩ := cW_grd h
  exact ⟨z, cW_call h (fun _ z => z) fun _ z => z⟩
theorem cW_mapA0 {K : List α → Prop} {xs : List β} {acc : List α} {n : Nat} {f : β → Rx α} (hn : n = xs.length) (h : cW (mapA (xs.drop n) acc f) K E) : K acc := by
  subst hn
  rw [List.drop_length] at h
  exact cW_ok h
theorem cW_mapF {K : List α → Prop} {xs : List β} {acc : List α} {i : Nat} {x : β} {f : β → Rx (Option α)} (hx : xs[i]? = some x) (h : cW (mapF (xs.drop i) acc f) K E) :
    acc.length ≤ 1000000 ∧ cW (f x) (fun y => match y with | some z => cW (mapF (xs.drop (i + 1)) (acc ++ [z]) f) K E | none => cW (mapF (xs.drop (i + 1)) acc f) K E) E := by
  rw [List.drop_eq_getElem?_toList_append, hx] at h
  obtain ⟨z, h⟩ := cW_grd h
  refine ⟨z, cW_call h (fun y z => ?_) fun _ z => z⟩
  cases y with
  | none => exact z
  | some w => exact z
theorem cW_mapF0 {K : List α → Prop} {xs : List β} {acc : List α} {n : Nat} {f : β → Rx (Option α)} (hn : n = xs.length) (h : cW (mapF (xs.drop n) acc f) K E) : K acc := by
  subst hn
  rw [List.drop_length] at h
  exact cW_ok h
end
/-- the numbers of a range -/
def rng (lo : Int) (n : Nat) : List Int := (List.range n).map fun (j : Nat) => lo + (j : Int)
theorem rng_get {lo : Int} {n i : Nat} (h : i < n) : (rng lo n)[i]? = some (lo + (i : Int)) := by
  unfold rng
  rw [List.getElem?_map, List.getElem?_range h] <;> rfl
theorem rng_len (lo : Int) (n : Nat) : (rng lo n).length = n := by
  unfold rng
  rw [List.length_map, List.length_range]

def rngD (lo : Int) (n : Nat) : List Int := (List.range n).map fun (j : Nat) => lo + (j : Int) * (-1)
theorem rngD_get {lo : Int} {n i : Nat} (h : i < n) : (rngD lo n)[i]? = some (lo + (i : Int) * (-1)) := by
  unfold rngD
  rw [List.getElem?_map, List.getElem?_range h] <;> rfl
theorem rngD_len (lo : Int) (n : Nat) : (rngD lo n).length = n := by
  unfold rngD
  rw [List.length_map, List.length_range]

/-! ### calls that may raise -/
/-- what a call with n values and keywords ks gives the parameters -/
structure Bnd (K : PySem.W.Frag) (fd : FuncData) (ps : List Str) (n : Nat) (ks : List Str) (g : List V → List V → List V) : Prop where
  to : ∀ (s : Shared) (us ws : List Value) (vs zs : List V), K.In s.heap → vs.length = n → zs.length = ks.length → Vals vs us → Vals zs ws → ∃ vv : List Value, BindsTo s fd ⟨us, ks.zip ws⟩ (ps.zip vv) ∧ Vals (g vs zs) vv
theorem Bnd.of_kbn {K : PySem.W.Frag} {fd : FuncData} {ps ks : List Str} {n : Nat} {g : List Value → List Value → List Value} {gV : List V → List V → List V} (b : KBn K fd ps n ks g gV) : Bnd K fd ps n ks gV :=
  ⟨fun s us ws vs zs X l1 l2 r rz => ⟨g us ws, b.to s us ws X (r.length.symm.trans l1) (rz.length.symm.trans l2), b.rel r rz⟩⟩
theorem Bnd.all {K : PySem.W.Frag} {fd : FuncData} {ps ks : List Str} {n : Nat} {g : List V → List V → List V} (h : ∀ (us ws : List Value) (vs zs : List V), vs.length = n → zs.length = ks.length → Vals vs us → Vals zs ws →
    ∃ vv : List Value, bindArgs fd ⟨us, ks.zip ws⟩ = pure (ps.zip vv) ∧ Vals (g vs zs) vv) : Bnd K fd ps n ks g :=
  ⟨fun s us ws vs zs _ l1 l2 r rz => by
    obtain ⟨vv, e, q⟩ := h us ws vs zs l1 l2 r rz
    exact ⟨vv, BindsTo.of_eq e, q⟩⟩
abbrev Pat := Nat × List Str × (List V → List V → List V)
def Bnd1 (K : PySem.W.Frag) (fd : FuncData) (ps : List Str) (p : Pat) : Prop := Bnd K fd ps p.1 p.2.1 p.2.2
section
variable {P : Program} {w : World} {K : PySem.W.Frag} {mg : Str → Option Value} {base : Heap}
/-- a def of the top, with the ways it is called -/
structure DefX (K : PySem.W.Frag) (mg : Str → Option Value) (x : Str) (st : Stmt) (ps : List Str) (pats : List Pat) : Prop where
  ex : ∃ (f : Addr) (fd : FuncData) (dvs : List V) (kws : List (Str × V)), FunD K x x (defArgs st) (defBody st) (defScope st) dvs kws f fd ∧ mg x = some (.ref f) ∧ ∀ p ∈ pats, Bnd1 K fd ps p
structure CalX (P : Program) (w : World) (K : PySem.W.Frag) (mg : Str → Option Value) (base : Heap) (k : Nat) (x : Str) (sp : Sp) (pats : List Pat) : Prop where
  ex : ∃ (f : Addr) (fd : FuncData) (ps : List Str), FnG P w K mg base (L2N.CX P w) k f fd ps sp ∧ mg x = some (.ref f) ∧ PySem.W.keepIn K (.ref f) = true ∧ ∀ p ∈ pats, Bnd1 K fd ps p
abbrev BodyX (P : Program) (w : World) (K : PySem.W.Frag) (mg : Str → Option Value) (base : Heap) (x : Str) (st : Stmt) (N : List Str) (k : Nat) (sp : Sp) : Prop :=
  ∀ (f : Addr) (cdv : Value) (A : Around) (outer : List Env) (s : Shared) (H : Hp) (vs : List V) (Q : VK) (E : XK), RoomG k (A.deeper (envOfC x (defScope st) s.heap.objs.size f cdv)) → sp vs H Q E →
    ∃ t, PSs (cxOf (L2N.CX P w) P w K mg base N x (defScope st) f cdv A outer s H E) (defBody st) t ∧ t { nx := fun _ H' => Q .non H', rt := Q } (start N vs) H
theorem DefX.ok {x : Str} {st : Stmt} {N ps : List Str} {pats : List Pat} {k : Nat} {sp : Sp} (D : DefX K mg x st ps pats) (S : FnScope N ps (defScope st)) (len : ∀ vs H Q E, sp vs H Q E → vs.length = ps.length)
    (hbody : BodyX P w K mg base x st N k sp) : CalX P w K mg base (k + 1) x sp pats := by
  obtain ⟨f, fd, dvs, kws, F, hm, b⟩ := D.ex
  exact ⟨f, fd, ps, FnG.body F S len (fun cdv A outer s H vs Q E hr h => hbody f cdv A outer s H vs Q E hr h), hm, F.kp, b⟩
end
section
variable {X : Cx} {k j n : Nat} {f : Addr} {fd : FuncData} {ps ks : List Str} {g : List V → List V → List V} {sp : Sp} {x : Str} {pos p : Pos} {e : Expr} {es : List Expr} {kws : List Keyword} {t tk : TA} {W : WX}
theorem run_X {pins : List (Addr × Obj)} {σ : L2.St} {H : Hp} {s : Shared} {Q : VK} {us ws : List Value} {vs zs : List V} (F : FnG X.prog X.w X.K X.mg X.base (L2N.CX X.prog X.w) k f fd ps sp) (hr : RoomG k X.A) (hb : Bnd X.K fd ps n ks g) (tkW : L2N.Takes X W)
    (I : Inv X pins σ H s) (r : Vals vs us) (rz : Vals zs ws) (l1 : vs.length = n) (l2 : zs.length = ks.length) (h : sp (g vs zs) H Q (WE W σ)) :
    wpAny (model X.prog X.w) X.A (call (.ref f) us (ks.zip ws)) (EP X pins σ Q) X.xe s := by
  obtain ⟨vv, b, r2⟩ := hb.to s us ws vs zs I.kIn l1 l2 r rz
  refine wpAny_call (codeAny_mono (F.run X.A X.stack s H ⟨us, ks.zip ws⟩ vv (g vs zs) Q (WE W σ) hr I.env0 b r2 h) fun rr s' hq => ?_)
  cases rr with
  | error er => exact L2N.passAt tkW σ pins H s er s' I hq
  | ok fl =>
    cases fl with
    | ret u => exact I.after hq
    | next => exact hq.elim
    | brk => exact hq.elim
    | cont => exact hq.elim
/-- f(e, .., k = v, ..) -/
def tCallX (n m : Nat) (sp : Sp) (g : List V → List V → List V) (W : WX) (t tk : TA) : TE := fun σ H Q => t σ H fun vs H1 => tk σ H1 fun zs H2 => vs.length = n ∧ zs.length = m ∧ sp (g vs zs) H2 Q (WE W σ)
theorem vx_callX {pats : List Pat} (c : CalX X.prog X.w X.K X.mg X.base k x sp pats) (pt : Pat) (hpt : pt ∈ pats) (hr : RoomG j X.A) (hk : k ≤ j) (tkW : L2N.Takes X W) (hg : Gl X x) (ha : PA X (e :: es) t) (hkw : PK X kws tk)
    (hall : (backToKw pos (keywordEach kws X.env)).all (·.1.isSome) = true := by rfl) (hks : (backToKw pos (keywordEach kws X.env)).filterMap (·.1) = pt.2.1 := by rfl)
    (hdb : (x == ("__debug__" : Str)) = false := by decide) (he : starEach (e :: es) X.env = (false, eval e X.env) :: starEach es X.env := by rfl)
    (hpl : ((backTo pos (starEach (e :: es) X.env)).any (·.1) || (backToKw pos (keywordEach kws X.env)).any (·.1.isNone)) = false := by rfl) :
    PE X (.Call (.Name x p) (e :: es) kws pos) (tCallX pt.1 pt.2.1.length sp pt.2.2 W t tk) := by
  obtain ⟨f, fd, ps, F, hm, kp, b⟩ := c.ex
  refine ⟨fun pins s σ H Q I h => ?_⟩
  refine wpAny_Call_Name_kw (ld_glob I hg hm ?_ hdb)
  refine PySem.W.callWith_KW (h₀ := X.base) I.ok.mod.kin kp hall (thn (ha.run pos pins s σ H _ I h) fun us s1 ⟨vs, H1, I1, r, q⟩ => ?_) hpl he
  refine thn (hkw.run pos pins s1 σ H1 _ I1 q) fun ws s2 ⟨zs, H2, I2, rz, l1, l2, q2⟩ => ⟨I2.kIn, ?_⟩
  rw [hks]
  exact run_X F (hr.low hk) (b pt hpt) tkW I2 r rz l1 l2 q2
theorem vx_callX0 {pats : List Pat} (c : CalX X.prog X.w X.K X.mg X.base k x sp pats) (pt : Pat) (hpt : pt ∈ pats) (hr : RoomG j X.A) (hk : k ≤ j) (tkW : L2N.Takes X W) (hg : Gl X x) (hks : pt.2.1 = [] := by rfl)
    (hdb : (x == ("__debug__" : Str)) = false := by decide) : PE X (.Call (.Name x p) [] [] pos) (tCallX pt.1 pt.2.1.length sp pt.2.2 W tNil tNil) := by
  obtain ⟨f, fd, ps, F, hm, kp, b⟩ := c.ex
  refine ⟨fun pins s σ H Q I h => ?_⟩
  refine wpAny_Call_Name_kw (ld_glob I hg hm ?_ hdb)
  obtain ⟨l1, l2, q2⟩ := h
  have hz := run_X (us := []) (ws := []) F (hr.low hk) (b pt hpt) tkW I .nil .nil l1 l2 q2
  rw [hks] at hz
  exact PySem.W.callWith_K0 I.kIn kp hz
end
/-! ### borrowed things -/
theorem Sep.bM {M : List Addr} {H0 G0 G H : Hp} {O : List (Addr)} (S : Sep M H0 G0 G H O) : Same (hideL M H0) H := fun b o e => by
  by_cases h : b ∈ M
  · rw [hideL_in h] at e
    cases e
  · rw [hideL_out h] at e
    exact S.base b o e h
theorem b_ne {M : List Addr} {H0 G0 G H : Hp} {O : List Addr} {a b : Addr} {o : HO} (h : (hideL M H0) a = some o) (S : Sep M H0 G0 G H O) (hb : b ∈ O) : a ≠ b := fun z => by
  subst z
  rcases (S.ow a hb).2.2 with q | q
  · rw [hideL_in q] at h
    cases h
  · by_cases hM : a ∈ M
    · rw [hideL_in hM] at h
      cases h
    · rw [hideL_out hM, q] at h
      cases h
theorem hide0 {H : Hp} : hideL [] H = H := by
  funext b
  unfold hideL
  rw [if_neg List.not_mem_nil]
theorem hide_nil {H : Hp} {a : Addr} {o : HO} (h : H a = some o) : (hideL [] H) a = some o := by
  rw [hide0]
  exact h
theorem Rp.hide_nil {H : Hp} {v : V} {d : PyData} (h : Rp H v d) : Rp (hideL [] H) v d := by
  rw [hide0]
  exact h
theorem Sep.startM {M : List Addr} {G H : Hp} (e : Same G H) (hM : ∀ a ∈ M, H a ≠ none) (hG : ∀ a ∈ M, G a = none) : Sep M H G G H M :=
  ⟨fun _ _ e _ => e, hM, e, Same.refl _, fun _ _ e => e, fun a ha => ⟨hG a ha, hM a ha, .inl ha⟩⟩
theorem Sep.gno {M : List Addr} {H0 G0 G H : Hp} {O L : List Addr} (S : Sep M H0 G0 G H O) (h : ∀ a ∈ L, a ∈ O) : ∀ a ∈ L, G a = none := fun a ha => (S.ow a (h a ha)).1
theorem RpAll.ixD {α : Type} [Inhabited α] {f : α → PyData} {H : Hp} {vs : List V} {xs : List α} {k : Int} (r : RpAll H vs (xs.map f)) (h : -(xs.length : Int) ≤ k ∧ k < xs.length) : ∃ v, atI vs k = some v ∧ Rp H v (f (itD xs k)) := by
  obtain ⟨v, x, h1, h2, h3⟩ := RpAll.ix r h
  refine ⟨v, h1, ?_⟩
  unfold itD
  rw [h2]
  exact h3
theorem tru_all {α : Type} [DecidableEq α] {f : α → PyData} {H : Hp} {vs : List V} {xs : List α} (r : RpAll H vs (xs.map f)) : (!decide (xs = [])) = !vs.isEmpty := by
  have h := r.len
  rw [List.length_map] at h
  cases xs <;> cases vs <;> simp_all
theorem ix_nn {α : Type} {xs : List α} {k : Int} (h0 : 0 ≤ k) (h1 : k < xs.length) : -(xs.length : Int) ≤ k ∧ k < xs.length := ⟨by omega, h1⟩
theorem all_nilQ {α : Type} {P : α → Prop} : ∀ x ∈ ([] : List α), P x := fun x h => by cases h
theorem all_consQ {α : Type} {P : α → Prop} {a : α} {l : List α} (h : P a) (t : ∀ x ∈ l, P x) : ∀ x ∈ a :: l, P x := fun x hx => by
  rcases List.mem_cons.mp hx with rfl | hx
  · exact h
  · exact t x hx
theorem mem_one {a b : Nat} (h : a ∈ [b]) : a = b := by simpa using h
theorem mem_cons2 {a b : Nat} {l : List Nat} (h : a ∈ b :: l) : a = b ∨ a ∈ l := List.mem_cons.mp h
theorem len0 {α : Type} {l : List α} (h : l.length = 0) : l = [] := List.length_eq_zero_iff.mp h
theorem len1 {α : Type} {l : List α} (h : l.length = 1) : ∃ a, l = [a] := List.length_eq_one_iff.mp h
theorem len_s {α : Type} {l : List α} {n : Nat} (h : l.length = n + 1) : ∃ a r, l = a :: r ∧ r.length = n := by
  cases l with
  | nil => cases h
  | cons a r => exact ⟨a, r, rfl, Nat.succ.inj h⟩
theorem len2 {α : Type} {l : List α} (h : l.length = 2) : ∃ a b, l = [a, b] := by
  obtain ⟨a, r, rfl, h2⟩ := len_s h
  obtain ⟨b, rfl⟩ := len1 h2
  exact ⟨a, b, rfl⟩
theorem len3 {α : Type} {l : List α} (h : l.length = 3) : ∃ a b c, l = [a, b, c] := by
  obtain ⟨a, r, rfl, h2⟩ := len_s h
  obtain ⟨b, c, rfl⟩ := len2 h2
  exact ⟨a, b, c, rfl⟩
theorem len4 {α : Type} {l : List α} (h : l.length = 4) : ∃ a b c d, l = [a, b, c, d] := by
  obtain ⟨a, r, rfl, h2⟩ := len_s h
  obtain ⟨b, c, d, rfl⟩ := len3 h2
  exact ⟨a, b, c, d, rfl⟩
theorem len5 {α : Type} {l : List α} (h : l.length = 5) : ∃ a b c d e, l = [a, b, c, d, e] := by
  obtain ⟨a, r, rfl, h2⟩ := len_s h
  obtain ⟨b, c, d, e, rfl⟩ := len4 h2
  exact ⟨a, b, c, d, e, rfl⟩
theorem len6 {α : Type} {l : List α} (h : l.length = 6) : ∃ a b c d e f, l = [a, b, c, d, e, f] := by
  obtain ⟨a, r, rfl, h2⟩ := len_s h
  obtain ⟨b, c, d, e, f, rfl⟩ := len5 h2
  exact ⟨a, b, c, d, e, f, rfl⟩
theorem len7 {α : Type} {l : List α} (h : l.length = 7) : ∃ a b c d e f g, l = [a, b, c, d, e, f, g] := by
  obtain ⟨a, r, rfl, h2⟩ := len_s h
  obtain ⟨b, c, d, e, f, g, rfl⟩ := len6 h2
  exact ⟨a, b, c, d, e, f, g, rfl⟩
def rLenTK (K : PySem.W.Frag) : List V → Hp → VK → Prop := fun xs H Q => ∃ (p : Addr) (vs : List V) (n : Nat), xs = [.ref p] ∧ SqT K H p vs ∧ vs.length = n ∧ Q (.int (n : Int)) H
theorem call_lenTK {X : Cx} {K : PySem.W.Frag} (hK : X.K = K := by rfl) : CallR X (.builtin "len") (rLenTK K) := by
  subst hK
  intro pins s σ H xs us Q I r h
  obtain ⟨p, vs, n, rfl, hs, hn, q⟩ := h
  exact call_len_seq pins s σ H _ us Q I r ⟨p, _, rfl, Or.inr hs, by rw [hn]; exact q⟩
theorem exm_mk {K : PySem.W.Frag} {S C : Addr} (h1 : PySem.W.subIn K (.ref C) (.type "BaseException") = some true) (h2 : PySem.W.isClsIn K C = true) (h3 : PySem.W.typeIn K (.ref C) = some (.type "type")) (h4 : PySem.W.subIn K (.ref S) (.ref C) = some true) :
    PySem.W.exmOne K (.ref S) (.ref C) = some true := by
  unfold PySem.W.isClsIn at h2
  unfold PySem.W.exmOne
  unfold PySem.W.kitCls
  simp only [h1, h2, h3, h4, beq_self_eq_true, Bool.and_self, if_true]
theorem kit_mk {K : PySem.W.Frag} {S C : Addr} (h2 : PySem.W.isClsIn K C = true) (h3 : PySem.W.typeIn K (.ref C) = some (.type "type")) (h4 : PySem.W.subIn K (.ref S) (.ref C) = some true) :
    PySem.W.kitOne K (.ref S) (.ref C) = some true := by
  unfold PySem.W.isClsIn at h2
  unfold PySem.W.kitOne
  split
  · rfl
  · unfold PySem.W.kitCls
    simp only [h2, h3, h4, beq_self_eq_true, Bool.and_self, if_true]
/-- isinstance(e, C) of the exception in hand -/
def rIsX (K : PySem.W.Frag) (a : Addr) (cls : Value) (d : Option Addr) : List V → Hp → VK → Prop := fun xs H Q => ∃ (D C : Addr) (b : Bool), cls = .ref D ∧ d = none ∧ ExcC K D ∧ xs = [.ref a, .ref C] ∧ PySem.W.kitOne K (.ref D) (.ref C) = some b ∧ Q (.bl b) H
theorem call_isX {X : Cx} {K : PySem.W.Frag} {a : Addr} {cls : Value} {d : Option Addr} {oe : Obj} {pn : List (Addr × Obj)} (hz : Zc cls d oe) (hf : ∃ vs, oe.data = .fields vs) (hK : X.K = K := by rfl) : CallR (X.suite a ((a, oe) :: pn)) (.builtin "isinstance") (rIsX K a cls d) := by
  subst hK
  intro pins s σ H xs us Q I r h
  obtain ⟨D, C, b, rfl, rfl, c, rfl, e, q⟩ := h
  exact call_isE c hz hf pins s σ H _ us Q I r ⟨_, _, b, rfl, fun u z => z, e, q⟩
/-! ### unpacking a list -/
section
variable {X : Cx} {K : PySem.W.Frag} {pos : Pos}
theorem pg_seqK {es : List Expr} {k : Nat} {t : TGs} {n : Nat} (h : PGs X es t) (hc : X.calm = true := by rfl) (hK : X.K = K := by rfl)
    (hn : (assignEach es X.env).length = n := by rfl) (hst : (assignEach es X.env).findIdx? (·.1) = none := by rfl) : PG X (.Tuple es k pos) (gLst K n t) := hK ▸ pg_lst hc h hn hst
end
theorem SqL.cast {K : PySem.W.Frag} {H : Hp} {a : Addr} {xs ys : List V} (h : SqL K H a xs) (e : xs = ys) : SqL K H a ys := e ▸ h
section
variable {α : Type} [Inhabited α] {f : α → V}
theorem unp2 {xs : List α} (h : xs.length = 2) : xs.map f = [f (itD xs 0), f (itD xs 1)] := by
  obtain ⟨a, b, rfl⟩ := len2 h
  rfl
theorem unp3 {xs : List α} (h : xs.length = 3) : xs.map f = [f (itD xs 0), f (itD xs 1), f (itD xs 2)] := by
  obtain ⟨a, b, c, rfl⟩ := len3 h
  rfl
theorem unp4 {xs : List α} (h : xs.length = 4) : xs.map f = [f (itD xs 0), f (itD xs 1), f (itD xs 2), f (itD xs 3)] := by
  obtain ⟨a, b, c, d, rfl⟩ := len4 h
  rfl
theorem unp6 {xs : List α} (h : xs.length = 6) : xs.map f = [f (itD xs 0), f (itD xs 1), f (itD xs 2), f (itD xs 3), f (itD xs 4), f (itD xs 5)] := by
  obtain ⟨a, b, c, d, e, g, rfl⟩ := len6 h
  rfl
theorem unp8 {xs : List α} (h : xs.length = 8) : xs.map f = [f (itD xs 0), f (itD xs 1), f (itD xs 2), f (itD xs 3), f (itD xs 4), f (itD xs 5), f (itD xs 6), f (itD xs 7)] := by
  obtain ⟨a, r, rfl, h2⟩ := len_s h
  obtain ⟨b, c, d, e, g, i, j, rfl⟩ := len7 h2
  rfl
end
/-! ### classes -/
section
variable {P : Program} {w : World} {K : PySem.W.Frag} {mg : Str → Option Value} {base : Heap}
structure MethX (K : PySem.W.Frag) (C : Addr) (q m : Str) (st : Stmt) (ps : List Str) (pats : List Pat) : Prop where
  ex : ∃ (f : Addr) (fd : FuncData) (dvs : List V) (kws : List (Str × V)), FunD K m q (defArgs st) (defBody st) (defScope st) dvs kws f fd ∧ Meth K C m f ∧ ∀ p ∈ pats, Bnd1 K fd ps p
structure InitX (K : PySem.W.Frag) (mg : Str → Option Value) (C : Addr) (cn q : Str) (st : Stmt) (ps : List Str) (pats : List Pat) : Prop where
  ex : ∃ (f : Addr) (fd : FuncData) (dvs : List V) (kws : List (Str × V)), FunD K "__init__" q (defArgs st) (defBody st) (defScope st) dvs kws f fd ∧ Mk K C f ∧ mg cn = some (.ref C) ∧ ∀ p ∈ pats, Bnd1 K fd ps p
structure PropX (K : PySem.W.Frag) (C : Addr) (q m : Str) (st : Stmt) (ps : List Str) (pats : List Pat) : Prop where
  ex : ∃ (r f : Addr) (fd : FuncData) (dvs : List V) (kws : List (Str × V)), FunD K m q (defArgs st) (defBody st) (defScope st) dvs kws f fd ∧ PropOf K C m r f ∧ Binds K fd ps []
structure MetX (P : Program) (w : World) (K : PySem.W.Frag) (mg : Str → Option Value) (base : Heap) (k : Nat) (C : Addr) (m : Str) (sp : Sp) (pats : List Pat) : Prop where
  ex : ∃ (f : Addr) (fd : FuncData) (ps : List Str), Cls K C ∧ Meth K C m f ∧ FnG P w K mg base (L2N.CX P w) k f fd ps sp ∧ ∀ p ∈ pats, Bnd1 K fd ps p
structure PropY (P : Program) (w : World) (K : PySem.W.Frag) (mg : Str → Option Value) (base : Heap) (k : Nat) (C : Addr) (m : Str) (sp : Sp) (pats : List Pat) : Prop where
  ex : ∃ (q f : Addr) (fd : FuncData) (ps : List Str), Cls K C ∧ PropOf K C m q f ∧ FnG P w K mg base (L2N.CX P w) k f fd ps sp ∧ Binds K fd ps []
structure MakX (P : Program) (w : World) (K : PySem.W.Frag) (mg : Str → Option Value) (base : Heap) (k : Nat) (cn : Str) (C : Addr) (sp : Sp) (pats : List Pat) : Prop where
  ex : ∃ (f : Addr) (fd : FuncData) (ps : List Str), Mk K C f ∧ FnG P w K mg base (L2N.CX P w) k f fd ps sp ∧ mg cn = some (.ref C) ∧ ∀ p ∈ pats, Bnd1 K fd ps p
theorem MethX.ok {C : Addr} {q m : Str} {st : Stmt} {N ps : List Str} {pats : List Pat} {k : Nat} {sp : Sp} (D : MethX K C q m st ps pats) (c : Cls K C) (S : FnScope N ps (defScope st)) (len : ∀ vs H Q E, sp vs H Q E → vs.length = ps.length)
    (hbody : BodyX P w K mg base q st N k sp) : MetX P w K mg base (k + 1) C m sp pats := by
  obtain ⟨f, fd, dvs, kws, F, me, b⟩ := D.ex
  exact ⟨f, fd, ps, c, me, FnG.body F S len (fun cdv A outer s H vs Q E hr h => hbody f cdv A outer s H vs Q E hr h), b⟩
theorem PropX.ok {C : Addr} {q m : Str} {st : Stmt} {N ps : List Str} {pats : List Pat} {k : Nat} {sp : Sp} (D : PropX K C q m st ps pats) (c : Cls K C) (S : FnScope N ps (defScope st)) (len : ∀ vs H Q E, sp vs H Q E → vs.length = ps.length)
    (hbody : BodyX P w K mg base q st N k sp) : PropY P w K mg base (k + 1) C m sp pats := by
  obtain ⟨r, f, fd, dvs, kws, F, me, b⟩ := D.ex
  exact ⟨r, f, fd, ps, c, me, FnG.body F S len (fun cdv A outer s H vs Q E hr h => hbody f cdv A outer s H vs Q E hr h), b⟩
theorem InitX.ok {C : Addr} {cn q : Str} {st : Stmt} {N ps : List Str} {pats : List Pat} {k : Nat} {sp : Sp} (D : InitX K mg C cn q st ps pats) (S : FnScope N ps (defScope st)) (len : ∀ vs H Q E, sp vs H Q E → vs.length = ps.length)
    (hbody : BodyX P w K mg base q st N k sp) : MakX P w K mg base (k + 1) cn C sp pats := by
  obtain ⟨f, fd, dvs, kws, F, me, hm, b⟩ := D.ex
  exact ⟨f, fd, ps, me, FnG.body F S len (fun cdv A outer s H vs Q E hr h => hbody f cdv A outer s H vs Q E hr h), hm, b⟩
end
theorem cW_callN {α β : Type} {m : Rx β} {f : β → Rx α} {K : α → Prop} {E : Nat → Prop} {K2 : β → Prop} {E2 : Nat → Prop} (h : cW ((noEr m).bind f) K E) (ho : ∀ v, cW (f v) K E → K2 v) (_ : True) : cW m K2 E2 := by
  cases m with
  | ok a => exact cW_mk (ho a h)
  | er e => exact cW_bad (α := α) h
  | bad => exact cW_bad (α := α) h
section
variable {X : Cx} {k j n : Nat} {f C : Addr} {fd : FuncData} {ps ks : List Str} {g : List V → List V → List V} {sp : Sp} {x m : Str} {pos p apos : Pos} {e o : Expr} {es : List Expr} {kws : List Keyword} {ta : TE} {t tk : TA} {W : WX}
theorem run_mkX {pins : List (Addr × Obj)} {σ : L2.St} {H : Hp} {s : Shared} {Q : VK} {us ws : List Value} {vs zs : List V} (M : Mk X.K C f) (F : FnG X.prog X.w X.K X.mg X.base (L2N.CX X.prog X.w) k f fd ps sp) (hr : RoomG (k + 1) X.A) (hb : Bnd X.K fd ps n ks g) (tkW : L2N.Takes X W)
    (I : Inv X pins σ H s) (r : Vals vs us) (rz : Vals zs ws) (l1 : vs.length + 1 = n) (l2 : zs.length = ks.length)
    (h : ∀ x dx, H x = none → H dx = none → dx ≠ x → sp (g (.ref x :: vs) zs) (upd (upd H dx (.own x)) x (.ins C dx [])) (fun v H2 => v = .non ∧ Q (.ref x) H2) (WE W σ)) :
    wpAny (model X.prog X.w) X.A (call (.ref C) us (ks.zip ws)) (EP X pins σ Q) X.xe s := by
  have hq := h (s.heap.objs.size + 1) s.heap.objs.size (I.hok.fresh (Nat.le_succ _)) (I.hok.fresh (Nat.le_refl _)) (Nat.ne_of_lt (Nat.lt_succ_self _))
  have I2 := Inv.made (C := C) I
  have r1 : Vals (V.ref (s.heap.objs.size + 1) :: vs) (Value.ref (s.heap.objs.size + 1) :: us) := .cons rfl r
  obtain ⟨vv, b, r2⟩ := hb.to _ (Value.ref (s.heap.objs.size + 1) :: us) ws (V.ref (s.heap.objs.size + 1) :: vs) zs I2.kIn (by rw [List.length_cons, l1]) l2 r1 rz
  refine wpAny_call (make_map (f := f) I.kIn M.makes M.init (beq_iff_eq.mp M.fn) (codeAny_mono (F.run _ X.stack _ _ ⟨Value.ref (s.heap.objs.size + 1) :: us, ks.zip ws⟩ vv _ _ (WE W σ) (hr.made C us (ks.zip ws))
    (I2.env0.make C us (ks.zip ws)) b r2 hq) fun r s' hq' => ?_))
  cases r with
  | error e => exact L2N.passAt tkW σ pins _ _ e s' I2 hq'
  | ok fl =>
    cases fl with
    | ret u =>
      obtain ⟨v, H', I3, rv, ev, q3⟩ := I2.after hq'
      subst ev
      exact ⟨rv, ⟨V.ref (s.heap.objs.size + 1), H', I3, rfl, q3⟩⟩
    | next => exact False.elim hq'
    | brk => exact False.elim hq'
    | cont => exact False.elim hq'
/-- C(e, .., k = v, ..) -/
def tMakeX (C : Addr) (n m : Nat) (sp : Sp) (g : List V → List V → List V) (W : WX) (t tk : TA) : TE := fun σ H Q => t σ H fun vs H1 => tk σ H1 fun zs H2 => vs.length + 1 = n ∧ zs.length = m ∧ ∀ x dx, H2 x = none → H2 dx = none → dx ≠ x →
  sp (g (.ref x :: vs) zs) (upd (upd H2 dx (.own x)) x (.ins C dx [])) (fun v H3 => v = .non ∧ Q (.ref x) H3) (WE W σ)
theorem vx_makeX {pats : List Pat} (c : MakX X.prog X.w X.K X.mg X.base k x C sp pats) (pt : Pat) (hpt : pt ∈ pats) (hr : RoomG j X.A) (hk : k + 1 ≤ j) (tkW : L2N.Takes X W) (hg : Gl X x) (ha : PA X (e :: es) t) (hkw : PK X kws tk)
    (hall : (backToKw pos (keywordEach kws X.env)).all (·.1.isSome) = true := by rfl) (hks : (backToKw pos (keywordEach kws X.env)).filterMap (·.1) = pt.2.1 := by rfl) (hdb : (x == ("__debug__" : Str)) = false := by decide)
    (he : starEach (e :: es) X.env = (false, eval e X.env) :: starEach es X.env := by rfl) (hpl : ((backTo pos (starEach (e :: es) X.env)).any (·.1) || (backToKw pos (keywordEach kws X.env)).any (·.1.isNone)) = false := by rfl) :
    PE X (.Call (.Name x p) (e :: es) kws pos) (tMakeX C pt.1 pt.2.1.length sp pt.2.2 W t tk) := by
  obtain ⟨f, fd, ps, M, F, hm, b⟩ := c.ex
  refine ⟨fun pins s σ H Q I h => ?_⟩
  refine wpAny_Call_Name_kw (ld_glob I hg hm ?_ hdb)
  refine PySem.W.callWith_KW (h₀ := X.base) I.ok.mod.kin M.kp hall (thn (ha.run pos pins s σ H _ I h) fun us s1 ⟨vs, H1, I1, r, q⟩ => ?_) hpl he
  refine thn (hkw.run pos pins s1 σ H1 _ I1 q) fun ws s2 ⟨zs, H2, I2, rz, l1, l2, q2⟩ => ⟨I2.kIn, ?_⟩
  rw [hks]
  exact run_mkX M F (hr.low hk) (b pt hpt) tkW I2 r rz l1 l2 q2
theorem vx_makeX0 {pats : List Pat} (c : MakX X.prog X.w X.K X.mg X.base k x C sp pats) (pt : Pat) (hpt : pt ∈ pats) (hr : RoomG j X.A) (hk : k + 1 ≤ j) (tkW : L2N.Takes X W) (hg : Gl X x) (hks : pt.2.1 = [] := by rfl)
    (hdb : (x == ("__debug__" : Str)) = false := by decide) : PE X (.Call (.Name x p) [] [] pos) (tMakeX C pt.1 pt.2.1.length sp pt.2.2 W tNil tNil) := by
  obtain ⟨f, fd, ps, M, F, hm, b⟩ := c.ex
  refine ⟨fun pins s σ H Q I h => ?_⟩
  refine wpAny_Call_Name_kw (ld_glob I hg hm ?_ hdb)
  obtain ⟨l1, l2, q2⟩ := h
  have hz := run_mkX (us := []) (ws := []) M F (hr.low hk) (b pt hpt) tkW I .nil .nil l1 l2 q2
  rw [hks] at hz
  exact PySem.W.callWith_K0 I.kIn M.kp hz
/-- o.m(e, .., k = v, ..) -/
def tMethX (C : Addr) (m : Str) (n mm : Nat) (sp : Sp) (g : List V → List V → List V) (W : WX) (ta : TE) (t tk : TA) : TE := fun σ H Q => ta σ H fun x H1 => ∃ a dx fs, x = .ref a ∧ H1 a = some (.ins C dx fs) ∧ fs.lookup m = none ∧
  t σ H1 fun vs H2 => tk σ H2 fun zs H3 => (x :: vs).length = n ∧ zs.length = mm ∧ sp (g (x :: vs) zs) H3 Q (WE W σ)
theorem vx_methX {pats : List Pat} {pl : Sem Bool} (c : MetX X.prog X.w X.K X.mg X.base k C m sp pats) (pt : Pat) (hpt : pt ∈ pats) (hr : RoomG j X.A) (hk : k ≤ j) (tkW : L2N.Takes X W) (he : PE X o ta) (ha : PA X (e :: es) t) (hkw : PK X kws tk)
    (hall : (backToKw pos (keywordEach kws X.env)).all (·.1.isSome) = true := by rfl) (hks : (backToKw pos (keywordEach kws X.env)).filterMap (·.1) = pt.2.1 := by rfl)
    (hst : starEach (e :: es) X.env = (false, eval e X.env) :: starEach es X.env := by rfl) (hpl : ((backTo pos (starEach (e :: es) X.env)).any (·.1) || (backToKw pos (keywordEach kws X.env)).any (·.1.isNone)) = false := by rfl)
    (ht : eval (.Call (.Attribute o m apos) (e :: es) kws pos) X.env = (do
      let ov ← eval o X.env
      standAt apos.atName
      let (f, first) ← holding [ov] (getMethod ov m pl)
      callWith pos f first (backTo pos (starEach (e :: es) X.env)) (backToKw pos (keywordEach kws X.env))) := by rfl) :
    PE X (.Call (.Attribute o m apos) (e :: es) kws pos) (tMethX C m pt.1 pt.2.1.length sp pt.2.2 W ta t tk) := by
  obtain ⟨f, fd, ps, hc, hm, F, b⟩ := c.ex
  refine ⟨fun pins s σ H Q I h => ?_⟩
  refine PySem.W.methodCall_KW (pl := pl) (thn (he.run pins s σ H _ I h) fun u s1 ⟨x, H1, I1, rx, a, dx, fs, ex, ea, l, q⟩ => ?_) ht
  subst ex
  obtain rfl : u = Value.ref a := rx
  refine getmeth_ok I1 ea hc hm l ?_
  refine PySem.W.callWith_KW (first := [.ref a]) (h₀ := X.base) I.ok.mod.kin hm.kp hall (thn (ha.run pos pins s1 σ H1 _ I1 q) fun us s2 ⟨vs, H2, I2, r, q2⟩ => ?_) hpl hst
  refine thn (hkw.run pos pins s2 σ H2 _ I2 q2) fun ws s3 ⟨zs, H3, I3, rz, l1, l2, q3⟩ => ⟨I3.kIn, ?_⟩
  rw [hks]
  exact run_X (us := .ref a :: us) (vs := .ref a :: vs) F (hr.low hk) (b pt hpt) tkW I3 (.cons rfl r) rz l1 l2 q3
theorem vx_methX0 {pats : List Pat} {pl : Sem Bool} (c : MetX X.prog X.w X.K X.mg X.base k C m sp pats) (pt : Pat) (hpt : pt ∈ pats) (hr : RoomG j X.A) (hk : k ≤ j) (tkW : L2N.Takes X W) (he : PE X o ta) (hks : pt.2.1 = [] := by rfl)
    (ht : eval (.Call (.Attribute o m apos) [] [] pos) X.env = (do
      let ov ← eval o X.env
      standAt apos.atName
      let (f, first) ← holding [ov] (getMethod ov m pl)
      callWith pos f first (backTo pos (starEach [] X.env)) (backToKw pos (keywordEach [] X.env))) := by rfl) :
    PE X (.Call (.Attribute o m apos) [] [] pos) (tMethX C m pt.1 pt.2.1.length sp pt.2.2 W ta tNil tNil) := by
  obtain ⟨f, fd, ps, hc, hm, F, b⟩ := c.ex
  refine ⟨fun pins s σ H Q I h => ?_⟩
  refine PySem.W.methodCall_KW (pl := pl) (thn (he.run pins s σ H _ I h) fun u s1 ⟨x, H1, I1, rx, a, dx, fs, ex, ea, l, q⟩ => ?_) ht
  subst ex
  obtain rfl : u = Value.ref a := rx
  refine getmeth_ok I1 ea hc hm l ?_
  obtain ⟨l1, l2, q3⟩ := q
  have hz := run_X (us := [.ref a]) (vs := [.ref a]) (ws := []) F (hr.low hk) (b pt hpt) tkW I1 (.cons rfl .nil) .nil l1 l2 q3
  rw [hks] at hz
  exact PySem.W.callWith_K0 (first := [.ref a]) I1.kIn hm.kp hz
theorem vx_propX {pats : List Pat} (c : PropY X.prog X.w X.K X.mg X.base k C m sp pats) (hr : RoomG j X.A) (hk : k + 1 ≤ j) (he : PE X o ta) (hab : attributeBase o m X.env (eval o X.env) = eval o X.env := by rfl) : PE X (.Attribute o m pos) (tProp C sp [] E0 ta) := by
  obtain ⟨q, f, fd, ps, cls, prop, F, bind⟩ := c.ex
  constructor
  intro pins s σ H Q I h
  refine attr_of hab (thn (he.run pins s σ H _ I h) ?_)
  rintro u s1 ⟨x, H1, I1, rx, a, dx, fs, rfl, ea, prom⟩
  cases rx
  obtain ⟨mA, O, _⟩ := ins_get I1.hok ea
  obtain ⟨od, J, _⟩ := O.look
  obtain ⟨rest, rec_⟩ := prop.rec_
  have short : [Value.ref a].length = ps.length := (F.len _ _ _ _ prom).symm ▸ rfl
  have isCls : (PySem.W.clsIn X.K C).isSome = true := by
    obtain ⟨cd, e, _⟩ := PySem.W.any_some cls.hd
    rw [e]
    rfl
  refine PySem.W.get_bind I1.kIn J (PySem.W.plainGet_of (cls.get m)).1 (PySem.W.findObj_data isCls prop.at_ prop.get prop.tak) (PySem.W.plainGet_of (cls.get m)).2 (wpAny_call (PySem.W.prop_get (s := { s1 with toks := s1.toks + 1 }) I1.kIn rec_ ?_))
  have I2 := I1.tok (s1.toks + 1)
  refine codeAny_mono (F.run X.A.in1 X.stack _ H1 ⟨[.ref a], []⟩ [.ref a] [.ref a] Q E0 (hr.low hk).one I2.env0.in1 (by simpa using bind _ [.ref a] I2.kIn (by simpa using short)) (.cons rfl .nil) prom) ?_
  intro r s2 out
  cases r with
  | error er => exact (by obtain ⟨a, B, sI, H2, cls, d, z⟩ := out; exact absurd z (by simp [E0]))
  | ok flow =>
    cases flow with
    | ret v =>
      obtain ⟨y, H2, I3, ry, qy⟩ := I2.after out
      have given := PySem.W.handedOut_of (handed_of ry)
      show wpAny _ _ (handedOut v) _ _ s2
      rw [given]
      exact wpAny_pure ⟨y, H2, I3, ry, qy⟩
    | next => exact out.elim
    | brk => exact out.elim
    | cont => exact out.elim
end
theorem Sep.news {M : List Addr} {H0 G0 G H H' : Hp} {O : List Addr} (S : Sep M H0 G0 G H O) (e : Same H H') (L : List Addr) (hL : ∀ a ∈ L, H a = none ∧ H' a ≠ none ∧ H0 a = none) : Sep M H0 G0 G H' (L ++ O) := by
  have S2 := S.same e
  refine ⟨S2.base, S2.pm, S2.sG, S2.g0, S2.gn, fun a ha => ?_⟩
  rcases List.mem_append.mp ha with h | h
  · obtain ⟨h1, h2, h3⟩ := hL a h
    exact ⟨S.gfree h1, h2, .inr h3⟩
  · exact S2.ow a h
theorem vv_chain {r r' : R2} {ta tb tc : TE} {σ : L2.St} {H : Hp} {x y z : V} {a b : Bool} (ha : Val ta σ H x) (hb : Val tb σ H y) (hc : Val tc σ H z) (h1 : ∀ Q : VK, Q (.bl a) H → r x y H Q) (h2 : ∀ Q : VK, Q (.bl b) H → r' y z H Q) :
    Val (tChain r r' ta tb tc) σ H (.bl (a && b)) := fun Q q => ha _ (hb _ (h1 _ ⟨a, rfl, by
  cases a with
  | true =>
    rw [if_pos rfl]
    exact hc _ (h2 _ q)
  | false =>
    rw [if_neg Bool.false_ne_true]
    exact q⟩))
/-! ### constants that are tuples, lists backwards, zip -/
theorem inV_ints (x : Int) : ∀ xs : List Int, inV (V.int x) (xs.map V.int) = decide (x ∈ xs)
  | [] => by simp [inV]
  | y :: r => by
    have h := inV_ints x r
    unfold inV at h ⊢
    rw [List.map_cons, List.any_cons, h]
    by_cases c : x = y
    · subst c
      simp [eqV]
    · simp [eqV, c, Ne.symm c]
theorem flat_ints : ∀ xs : List Int, (xs.map V.int).all flatV = true
  | [] => rfl
  | _ :: r => flat_ints r
def rInI (K : PySem.W.Frag) : R2 := fun x y H Q => ∃ (i : Int) (p : Addr) (xs : List Int), x = .int i ∧ y = .ref p ∧ (SqL K H p (xs.map V.int) ∨ SqT K H p (xs.map V.int)) ∧ Q (.bl (decide (i ∈ xs))) H
def rNotInI (K : PySem.W.Frag) : R2 := fun x y H Q => ∃ (i : Int) (p : Addr) (xs : List Int), x = .int i ∧ y = .ref p ∧ (SqL K H p (xs.map V.int) ∨ SqT K H p (xs.map V.int)) ∧ Q (.bl (!decide (i ∈ xs))) H
theorem op_inI {X : Cx} {K : PySem.W.Frag} (hK : X.K = K := by rfl) : OpR X (compareOp .In) (rInI K) := by
  subst hK
  intro pins s σ H x y v u Q I rx ry h
  obtain ⟨i, p, xs, rfl, rfl, hs, q⟩ := h
  refine op_in_seq pins s σ H _ _ v u Q I rx ry ⟨p, _, rfl, hs, rfl, flat_ints xs, ?_⟩
  rw [if_neg Bool.false_ne_true, inV_ints]
  exact q
theorem op_notInI {X : Cx} {K : PySem.W.Frag} (hK : X.K = K := by rfl) : OpR X (compareOp .NotIn) (rNotInI K) := by
  subst hK
  intro pins s σ H x y v u Q I rx ry h
  obtain ⟨i, p, xs, rfl, rfl, hs, q⟩ := h
  refine op_notIn_seq pins s σ H _ _ v u Q I rx ry ⟨p, _, rfl, hs, rfl, flat_ints xs, ?_⟩
  rw [if_pos rfl, inV_ints]
  exact q
theorem pe_revLK {X : Cx} {K : PySem.W.Frag} {e : Expr} {te : TE} {k : Nat} {p1 p2 p3 pos : Pos} (he : PE X e te) (hK : X.K = K := by rfl) : PE X (.Subscript e (.Slice none none (some (.UnaryOp .USub (.Constant (.int 1) k p1) p2)) p3) pos) (tRevL K te) := hK ▸ pe_revL he
theorem rev_map {α : Type} {f : α → V} {xs : List α} {H : Hp} {p : Addr} (h : H p = some (.lst (xs.map f).reverse)) : H p = some (.lst (xs.reverse.map f)) := by
  rw [List.map_reverse]
  exact h
theorem RpAll.rev {G : Hp} : ∀ {vs : List V} {ds : List PyData}, RpAll G vs ds → RpAll G vs.reverse ds.reverse
  | _, _, .nil => .nil
  | _, _, .cons h t => by
    rw [List.reverse_cons, List.reverse_cons]
    exact (RpAll.rev t).append (.one h)
theorem rev_all {α : Type} {f : α → PyData} {xs : List α} {G : Hp} {vs : List V} (a : RpAll G vs (xs.map f)) : RpAll G vs.reverse (xs.reverse.map f) := by
  rw [List.map_reverse]
  exact a.rev
theorem pi_zipK {X : Cx} {K : PySem.W.Frag} {e e2 : Expr} {ta : TA} {p pos tpos : Pos} {elts : List Expr} {kk : Nat} (hg : Gl X "zip") (hm : X.mg "zip" = none) (ha : PA X [e, e2] ta) (hK : X.K = K := by rfl)
    (hs : starEach [e, e2] X.env = (false, eval e X.env) :: starEach [e2] X.env := by rfl) (hpl : (backTo pos (starEach [e2] X.env)).any (·.1) = false := by rfl) :
    PI X (.Tuple elts kk tpos) (.Call (.Name "zip" p) [e, e2] [] pos) (RZ.iZipA K ta) := hK ▸ RZ.pi_zipA hg hm ha hs hpl
/-- a comprehension over zip of two lists of one length -/
theorem lc_zipL {K : PySem.W.Frag} {a b : Addr} {xs ys : List V} {g : TG} {tt : TT} {te : TE} {vs : List Nat} {σ : L2.St} {H1 : Hp} {D : Addr} {Qd : Hp → Prop} (hl : xs.length = ys.length) (Pv : Nat → Hp → Prop) (h0 : Pv 0 (upd H1 D (.lst []))) (hq : ∀ i H, i ≤ xs.length → Pv i H → SqL K H a xs ∧ SqL K H b ys)
    (hs : ∀ (i : Nat) (x y : V) (T : Addr) (H : Hp), xs[i]? = some x → ys[i]? = some y → H T = none → Pv i H → g (.ref T) (wipe σ vs) (upd H T (.tup [x, y])) fun σ2 H2 => wipe σ2 vs = wipe σ vs ∧ tt σ2 H2 fun b H3 =>
      if b = true then te σ2 H3 fun y H4 => ∃ acc, H4 D = some (.lst acc) ∧ acc.length < sizeLine ∧ Pv (i + 1) (upd H4 D (.lst (acc ++ [y]))) else Pv (i + 1) H3) (hd : ∀ H, Pv xs.length H → Qd H) :
    ∃ W : Nat → Nat → Hp → Prop, (∃ m, W 0 m (upd H1 D (.lst []))) ∧ ∀ i m H, W i m H →
      ((Itz K a b).stop i H ∧ Qd H) ∨ ((Itz K a b).go i H ∧ ∃ Nx : Hp → Prop, (∀ H', Nx H' → ∃ m', m' < m ∧ W (i + 1) m' H') ∧ ∀ x H', (Itz K a b).yld i H x H' → g x (wipe σ vs) H' fun σ2 H2 => wipe σ2 vs = wipe σ vs ∧ tt σ2 H2 fun b H3 =>
        if b = true then te σ2 H3 fun y H4 => ∃ acc, H4 D = some (.lst acc) ∧ acc.length < sizeLine ∧ Nx (upd H4 D (.lst (acc ++ [y]))) else Nx H3) := by
  refine ⟨fun i m H => m = xs.length - i ∧ i ≤ xs.length ∧ Pv i H, ⟨xs.length, by simp, Nat.zero_le _, h0⟩, ?_⟩
  rintro i m H ⟨rfl, hi, p⟩
  obtain ⟨qx, qy⟩ := hq i H hi p
  by_cases hlt : i < xs.length
  · have hlt2 : i < ys.length := by omega
    refine .inr ⟨⟨xs, ys, xs[i], ys[i], qx, qy, List.getElem?_eq_getElem hlt, List.getElem?_eq_getElem hlt2⟩, Pv (i + 1), fun H' p' => ⟨xs.length - (i + 1), by omega, rfl, hlt, p'⟩, fun v H' y => ?_⟩
    obtain ⟨T, x', y', rfl, hT, rfl, f1, f2⟩ := y
    exact hs i x' y' T H (f1 xs qx) (f2 ys qy) hT p
  · have e : i = xs.length := by omega
    subst e
    exact .inl ⟨⟨xs, ys, qx, qy, Or.inl (Nat.le_refl _)⟩, hd H p⟩
theorem zip_get {α β : Type} {xs : List α} {ys : List β} {i : Nat} {x : α} {y : β} (h1 : xs[i]? = some x) (h2 : ys[i]? = some y) : (xs.zip ys)[i]? = some (x, y) := by
  rw [List.getElem?_zip_eq_some]
  exact ⟨h1, h2⟩
theorem zip_len {α β : Type} {xs : List α} {ys : List β} {n : Nat} (h : xs.length = ys.length) (e : n = xs.length) : n = (xs.zip ys).length := by
  rw [List.length_zip, ← h, Nat.min_self]
  exact e
theorem zlen {α β : Type} {vs ws : List V} {xs : List α} {ys : List β} (a : vs.length = xs.length) (b : ws.length = ys.length) (h : xs.length = ys.length) : vs.length = ws.length := by rw [a, b, h]
section
variable {t : TT} {ta tb : TE} {σ : L2.St} {H : Hp}
theorem vv_ifP {p : Prop} [Decidable p] {a b : Int} (ht : Ans t σ H (decide p)) (hx : p → Val ta σ H (.int a)) (hy : ¬ p → Val tb σ H (.int b)) : Val (tIf t ta tb) σ H (.int (if p then a else b)) := by
  by_cases h : p
  · have := vv_if (p := p) (a := a) (b := a) ht (hx h) (tb := ta) (hx h)
    intro Q q
    refine ht _ ?_
    rw [decide_eq_true h, if_pos rfl]
    rw [if_pos h] at q
    exact hx h _ q
  · intro Q q
    refine ht _ ?_
    rw [decide_eq_false h, if_neg Bool.false_ne_true]
    rw [if_neg h] at q
    exact hy h _ q
theorem vv_ifQ {c : Bool} {a b : Int} (ht : Ans t σ H c) (hx : c = true → Val ta σ H (.int a)) (hy : c = false → Val tb σ H (.int b)) : Val (tIf t ta tb) σ H (.int (if c = true then a else b)) := by
  intro Q q
  refine ht _ ?_
  cases c with
  | true =>
    rw [if_pos rfl]
    rw [if_pos rfl] at q
    exact hx rfl _ q
  | false =>
    rw [if_neg Bool.false_ne_true]
    rw [if_neg Bool.false_ne_true] at q
    exact hy rfl _ q
end
theorem kit_mk0 {K : PySem.W.Frag} {S C : Addr} (h1 : (Value.ref S == Value.ref C) = false) (h2 : PySem.W.isClsIn K C = true) (h3 : PySem.W.typeIn K (.ref C) = some (.type "type")) (h4 : PySem.W.subIn K (.ref S) (.ref C) = some false) :
    PySem.W.kitOne K (.ref S) (.ref C) = some false := by
  unfold PySem.W.isClsIn at h2
  unfold PySem.W.kitOne
  rw [if_neg (by rw [h1]; exact Bool.false_ne_true)]
  unfold PySem.W.kitCls
  simp only [h2, h3, h4, beq_self_eq_true, Bool.and_self, if_true]
theorem vv_call2 {ta tb : TE} {σ : L2.St} {H : Hp} {x y z : V} {r : List V → Hp → VK → Prop} (ha : Val ta σ H x) (hb : Val tb σ H y) (hr : ∀ Q : VK, Q z H → r [x, y] H Q) : Val (tCB r (tCons ta (tCons tb tNil))) σ H z := fun Q q => ha _ (hb _ (hr Q q))
/-! ### lists of data that the caller owns; values that are a truth value or a number -/
theorem Sep.stepnew {M : List Addr} {H0 G0 G H H' : Hp} {O : List Addr} {p : Addr} {o : HO} (S : Sep M H0 G0 G H O) {G' : Hp} (e : Same H H') (eG : Same G G') (sG : Same G' H') (hn : ∀ b, H b ≠ none → G b = none → G' b = none) (_n : H p = none) (h : H' p = some o) (g : G' p = none) (hm : H0 p = none) : Sep M H0 G0 G' H' (p :: O) := by
  have S2 := S.step e eG sG hn
  refine ⟨S2.base, S2.pm, S2.sG, S2.g0, S2.gn, fun a ha => ?_⟩
  rcases List.mem_cons.mp ha with rfl | ha
  · exact ⟨g, (fun z => by rw [z] at h; cases h), .inr hm⟩
  · exact S2.ow a ha
inductive Bi where
  | b (x : Bool)
  | n (i : Int)
deriving DecidableEq
def biV : Bi → V
  | .b x => .bl x
  | .n i => .int i
def Bi.el {α : Type} (v : Bi) (f : Bool → α) (g : Int → α) : α :=
  match v with
  | .b x => f x
  | .n i => g i
theorem cW_elb {α : Type} {x : Bool} {f : Bool → Rx α} {g : Int → Rx α} {K : α → Prop} {E : Nat → Prop} (h : cW (Bi.el (.b x) f g) K E) : cW (f x) K E := h
theorem cW_eln {α : Type} {x : Int} {f : Bool → Rx α} {g : Int → Rx α} {K : α → Prop} {E : Nat → Prop} (h : cW (Bi.el (.n x) f g) K E) : cW (g x) K E := h
theorem rp_tup4 {α β γ δ : Type} {f : α → PyData} {g : β → PyData} {h : γ → PyData} {i : δ → PyData} {H : Hp} {v : V} {x : α × β × γ × δ} (r : Rp H v (encT4 f g h i x)) : ∃ a v1 v2 v3 v4, v = .ref a ∧ H a = some (.tup [v1, v2, v3, v4]) ∧ Rp H v1 (f x.1) ∧ Rp H v2 (g x.2.1) ∧ Rp H v3 (h x.2.2.1) ∧ Rp H v4 (i x.2.2.2) := by
  unfold encT4 at r
  cases r with
  | tup h1 h2 =>
    cases h2 with
    | cons a b =>
      cases b with
      | cons b c =>
        cases c with
        | cons c d =>
          cases d with
          | cons d e =>
            cases e
            exact ⟨_, _, _, _, _, rfl, h1, a, b, c, d⟩
theorem rp_mk4 {α β γ δ : Type} {f : α → PyData} {g : β → PyData} {h : γ → PyData} {i : δ → PyData} {H : Hp} {a : Addr} {v1 v2 v3 v4 : V} {x : α} {y : β} {z : γ} {w : δ} (h1 : H a = some (.tup [v1, v2, v3, v4])) (r1 : Rp H v1 (f x)) (r2 : Rp H v2 (g y)) (r3 : Rp H v3 (h z)) (r4 : Rp H v4 (i w)) : Rp H (.ref a) (encT4 f g h i (x, y, z, w)) := .tup h1 (.cons r1 (.cons r2 (.cons r3 (.cons r4 .nil))))
theorem Sep.b0M {M : List Addr} {H0 G0 G H : Hp} {O : List Addr} (S : Sep M H0 G0 G H O) (h : ∀ a ∈ M, H a = H0 a) : Same H0 H := fun b o e => by
  by_cases z : b ∈ M
  · rw [h b z]
    exact e
  · exact S.base b o e z
section
variable {X : Cx} {k j n : Nat} {f C : Addr} {fd : FuncData} {ps ks : List Str} {g : List V → List V → List V} {sp : Sp} {x m : Str} {pos p apos : Pos} {e o : Expr} {es : List Expr} {kws : List Keyword} {ta : TE} {t tk : TA} {W : WX}
/-- keywords alone -/
theorem vx_makeXK {pats : List Pat} (c : MakX X.prog X.w X.K X.mg X.base k x C sp pats) (pt : Pat) (hpt : pt ∈ pats) (hr : RoomG j X.A) (hk : k + 1 ≤ j) (tkW : L2N.Takes X W) (hg : Gl X x) (hkw : PK X kws tk)
    (hall : (backToKw pos (keywordEach kws X.env)).all (·.1.isSome) = true := by rfl) (hks : (backToKw pos (keywordEach kws X.env)).filterMap (·.1) = pt.2.1 := by rfl) (hdb : (x == ("__debug__" : Str)) = false := by decide)
    (hpl : ((backTo pos (starEach [] X.env)).any (·.1) || (backToKw pos (keywordEach kws X.env)).any (·.1.isNone)) = false := by rfl) :
    PE X (.Call (.Name x p) [] kws pos) (tMakeX C pt.1 pt.2.1.length sp pt.2.2 W tNil tk) := by
  obtain ⟨f, fd, ps, M, F, hm, b⟩ := c.ex
  refine ⟨fun pins s σ H Q I h => ?_⟩
  refine wpAny_Call_Name_kw (ld_glob I hg hm ?_ hdb)
  refine PySem.W.callWith_KW0 (h₀ := X.base) I.ok.mod.kin M.kp hall ?_ hpl
  refine thn (hkw.run pos pins s σ H _ I h) fun ws s2 ⟨zs, H2, I2, rz, l1, l2, q2⟩ => ⟨I2.kIn, ?_⟩
  rw [hks]
  exact run_mkX (us := []) (vs := []) M F (hr.low hk) (b pt hpt) tkW I2 .nil rz l1 l2 q2
theorem vx_callXK {pats : List Pat} (c : CalX X.prog X.w X.K X.mg X.base k x sp pats) (pt : Pat) (hpt : pt ∈ pats) (hr : RoomG j X.A) (hk : k ≤ j) (tkW : L2N.Takes X W) (hg : Gl X x) (hkw : PK X kws tk)
    (hall : (backToKw pos (keywordEach kws X.env)).all (·.1.isSome) = true := by rfl) (hks : (backToKw pos (keywordEach kws X.env)).filterMap (·.1) = pt.2.1 := by rfl) (hdb : (x == ("__debug__" : Str)) = false := by decide)
    (hpl : ((backTo pos (starEach [] X.env)).any (·.1) || (backToKw pos (keywordEach kws X.env)).any (·.1.isNone)) = false := by rfl) :
    PE X (.Call (.Name x p) [] kws pos) (tCallX pt.1 pt.2.1.length sp pt.2.2 W tNil tk) := by
  obtain ⟨f, fd, ps, F, hm, kp, b⟩ := c.ex
  refine ⟨fun pins s σ H Q I h => ?_⟩
  refine wpAny_Call_Name_kw (ld_glob I hg hm ?_ hdb)
  refine PySem.W.callWith_KW0 (h₀ := X.base) I.ok.mod.kin kp hall ?_ hpl
  refine thn (hkw.run pos pins s σ H _ I h) fun ws s2 ⟨zs, H2, I2, rz, l1, l2, q2⟩ => ⟨I2.kIn, ?_⟩
  rw [hks]
  exact run_X (us := []) (vs := []) F (hr.low hk) (b pt hpt) tkW I2 .nil rz l1 l2 q2
theorem vx_methXK {pats : List Pat} {pl : Sem Bool} (c : MetX X.prog X.w X.K X.mg X.base k C m sp pats) (pt : Pat) (hpt : pt ∈ pats) (hr : RoomG j X.A) (hk : k ≤ j) (tkW : L2N.Takes X W) (he : PE X o ta) (hkw : PK X kws tk)
    (hall : (backToKw pos (keywordEach kws X.env)).all (·.1.isSome) = true := by rfl) (hks : (backToKw pos (keywordEach kws X.env)).filterMap (·.1) = pt.2.1 := by rfl)
    (hpl : ((backTo pos (starEach [] X.env)).any (·.1) || (backToKw pos (keywordEach kws X.env)).any (·.1.isNone)) = false := by rfl)
    (ht : eval (.Call (.Attribute o m apos) [] kws pos) X.env = (do
      let ov ← eval o X.env
      standAt apos.atName
      let (f, first) ← holding [ov] (getMethod ov m pl)
      callWith pos f first (backTo pos (starEach [] X.env)) (backToKw pos (keywordEach kws X.env))) := by rfl) :
    PE X (.Call (.Attribute o m apos) [] kws pos) (tMethX C m pt.1 pt.2.1.length sp pt.2.2 W ta tNil tk) := by
  obtain ⟨f, fd, ps, hc, hm, F, b⟩ := c.ex
  refine ⟨fun pins s σ H Q I h => ?_⟩
  refine PySem.W.methodCall_KW (pl := pl) (thn (he.run pins s σ H _ I h) fun u s1 ⟨x, H1, I1, rx, a, dx, fs, ex, ea, l, q⟩ => ?_) ht
  subst ex
  obtain rfl : u = Value.ref a := rx
  refine getmeth_ok I1 ea hc hm l ?_
  refine PySem.W.callWith_KW0 (first := [.ref a]) (h₀ := X.base) I.ok.mod.kin hm.kp hall ?_ hpl
  refine thn (hkw.run pos pins s1 σ H1 _ I1 q) fun ws s3 ⟨zs, H3, I3, rz, l1, l2, q3⟩ => ⟨I3.kIn, ?_⟩
  rw [hks]
  exact run_X (us := [.ref a]) (vs := [.ref a]) F (hr.low hk) (b pt hpt) tkW I3 (.cons rfl .nil) rz l1 l2 q3
end
end Vx

namespace Vx
open PySem PySem.Spec PyProof.Rows L2
theorem takes0n {X : Cx} : L2N.Takes X (fun _ _ _ _ => False) := fun _ _ x => by
  obtain ⟨_, _, _, _, _, _, _, _, _, _, _, _, _, _, _, _, z⟩ := x
  exact z.elim
end Vx
/-! # lists within lists that are owned as a whole -/
namespace Vx
open PySem PySem.Spec PyProof.Rows L2
inductive Kd where
  | lst
  | tup
  | ins (C dx : Addr) (ns : List Str)
def Kd.ho : Kd → List V → HO
  | .lst, vs => .lst vs
  | .tup, vs => .tup vs
  | .ins C dx ns, vs => .ins C dx (ns.zip vs)
/-- what stands in the heap as a tree: values as they are, data that stay, nodes of its own -/
inductive Dt where
  | val (v : V)
  | frz (d : PyData)
  | nod (k : Kd) (xs : List Dt)
mutual
inductive Ow (G H : Hp) : List Addr → V → Dt → Prop
  | val (v : V) : Ow G H [] v (.val v)
  | frz {v : V} {d : PyData} : Rp G v d → Ow G H [] v (.frz d)
  | nod {a : Addr} {k : Kd} {vs : List V} {ds : List Dt} {L : List Addr} : H a = some (k.ho vs) → OwAll G H L vs ds → a ∉ L → Ow G H (a :: L) (.ref a) (.nod k ds)
inductive OwAll (G H : Hp) : List Addr → List V → List Dt → Prop
  | nil : OwAll G H [] [] []
  | cons {L1 L2 : List Addr} {v : V} {vs : List V} {d : Dt} {ds : List Dt} : Ow G H L1 v d → OwAll G H L2 vs ds → (∀ b ∈ L1, b ∉ L2) → OwAll G H (L1 ++ L2) (v :: vs) (d :: ds)
end
def Keeps (L : List Addr) (H H' : Hp) : Prop := ∀ b ∈ L, ∀ o, H b = some o → H' b = some o
mutual
theorem Ow.mono {G G' H H' : Hp} (e : Same G G') : ∀ {L : List Addr} {v : V} {d : Dt}, Keeps L H H' → Ow G H L v d → Ow G' H' L v d
  | _, _, _, _, .val v => .val v
  | _, _, _, _, .frz r => .frz (r.mono e)
  | _, _, _, k, .nod h r n => .nod (k _ List.mem_cons_self _ h) (OwAll.mono e (fun b hb => k b (List.mem_cons_of_mem _ hb)) r) n
theorem OwAll.mono {G G' H H' : Hp} (e : Same G G') : ∀ {L : List Addr} {vs : List V} {ds : List Dt}, Keeps L H H' → OwAll G H L vs ds → OwAll G' H' L vs ds
  | _, _, _, _, .nil => .nil
  | _, _, _, k, .cons a r d => .cons (Ow.mono e (fun b hb => k b (List.mem_append_left _ hb)) a) (OwAll.mono e (fun b hb => k b (List.mem_append_right _ hb)) r) d
end
mutual
theorem Ow.there {G H : Hp} : ∀ {L : List Addr} {v : V} {d : Dt}, Ow G H L v d → ∀ b ∈ L, H b ≠ none
  | _, _, _, .val _, _, hb => nomatch hb
  | _, _, _, .frz _, _, hb => nomatch hb
  | _, _, _, .nod h r n, b, hb => by
    rcases List.mem_cons.mp hb with rfl | hb
    · exact some_ne h
    · exact OwAll.there r b hb
theorem OwAll.there {G H : Hp} : ∀ {L : List Addr} {vs : List V} {ds : List Dt}, OwAll G H L vs ds → ∀ b ∈ L, H b ≠ none
  | _, _, _, .nil, _, hb => nomatch hb
  | _, _, _, .cons a r d, b, hb => by
    rcases List.mem_append.mp hb with hb | hb
    · exact Ow.there a b hb
    · exact OwAll.there r b hb
end
theorem OwAll.len {G H : Hp} : ∀ {L : List Addr} {vs : List V} {ds : List Dt}, OwAll G H L vs ds → vs.length = ds.length
  | _, _, _, .nil => rfl
  | _, _, _, .cons _ r _ => congrArg Nat.succ r.len
theorem OwAll.snoc {G H : Hp} {L1 : List Addr} {v : V} {d : Dt} (h : Ow G H L1 v d) : ∀ {L : List Addr} {vs : List V} {ds : List Dt}, OwAll G H L vs ds → (∀ b ∈ L, b ∉ L1) → OwAll G H (L ++ L1) (vs ++ [v]) (ds ++ [d])
  | _, _, _, .nil, _ => by
    have z : OwAll G H (L1 ++ []) [v] [d] := .cons h .nil (fun _ _ z => nomatch z)
    rw [List.append_nil] at z
    exact z
  | _, _, _, .cons (L1 := La) (L2 := Lb) a r n, k => by
    have z := OwAll.cons a (OwAll.snoc h r fun b hb => k b (List.mem_append_right _ hb)) (fun b hb q => by
      rcases List.mem_append.mp q with q | q
      · exact n b hb q
      · exact k b (List.mem_append_left _ hb) q)
    rw [← List.append_assoc] at z
    exact z
theorem OwAll.app {G H : Hp} {L2 : List Addr} {ws : List V} {es : List Dt} (h : OwAll G H L2 ws es) : ∀ {L : List Addr} {vs : List V} {ds : List Dt}, OwAll G H L vs ds → (∀ b ∈ L, b ∉ L2) → OwAll G H (L ++ L2) (vs ++ ws) (ds ++ es)
  | _, _, _, .nil, _ => h
  | _, _, _, .cons (L1 := La) (L2 := Lb) a r n, k => by
    have z := OwAll.cons a (OwAll.app h r fun b hb => k b (List.mem_append_right _ hb)) (fun b hb q => by
      rcases List.mem_append.mp q with q | q
      · exact n b hb q
      · exact k b (List.mem_append_left _ hb) q)
    rw [← List.append_assoc] at z
    exact z
/-! ### trees that are data -/
mutual
inductive Dd : Dt → PyData → Prop
  | non : Dd (.val .non) .none
  | bl (b : Bool) : Dd (.val (.bl b)) (.bool b)
  | int (i : Int) : Dd (.val (.int i)) (.int i)
  | str (x : Str) : Dd (.val (.str x)) (.str x)
  | frz (d : PyData) : Dd (.frz d) d
  | lst {xs : List Dt} {ds : List PyData} : DdAll xs ds → Dd (.nod .lst xs) (.list ds)
  | tup {xs : List Dt} {ds : List PyData} : DdAll xs ds → Dd (.nod .tup xs) (.tuple ds)
inductive DdAll : List Dt → List PyData → Prop
  | nil : DdAll [] []
  | cons {x : Dt} {xs : List Dt} {d : PyData} {ds : List PyData} : Dd x d → DdAll xs ds → DdAll (x :: xs) (d :: ds)
end
mutual
/-- read in any heap that holds its nodes -/
theorem Ow.rp {G H I : Hp} (e : Same G I) : ∀ {L : List Addr} {v : V} {d : Dt} {p : PyData}, Keeps L H I → Ow G H L v d → Dd d p → Rp I v p
  | _, _, _, _, _, .val _, .non => .non
  | _, _, _, _, _, .val _, .bl b => .bl b
  | _, _, _, _, _, .val _, .int i => .int i
  | _, _, _, _, _, .val _, .str x => .str x
  | _, _, _, _, _, .frz r, .frz _ => r.mono e
  | _, _, _, _, k, .nod h r _, .lst q => .lst (k _ List.mem_cons_self _ h) (OwAll.rp e (fun b hb => k b (List.mem_cons_of_mem _ hb)) r q)
  | _, _, _, _, k, .nod h r _, .tup q => .tup (k _ List.mem_cons_self _ h) (OwAll.rp e (fun b hb => k b (List.mem_cons_of_mem _ hb)) r q)
theorem OwAll.rp {G H I : Hp} (e : Same G I) : ∀ {L : List Addr} {vs : List V} {ds : List Dt} {ps : List PyData}, Keeps L H I → OwAll G H L vs ds → DdAll ds ps → RpAll I vs ps
  | _, _, _, _, _, .nil, .nil => .nil
  | _, _, _, _, k, .cons a r _, .cons x xs => .cons (Ow.rp e (fun b hb => k b (List.mem_append_left _ hb)) a x) (OwAll.rp e (fun b hb => k b (List.mem_append_right _ hb)) r xs)
end
def oI (i : Int) : Dt := .val (.int i)
def oB (b : Bool) : Dt := .val (.bl b)
def oF {α : Type} (f : α → PyData) (x : α) : Dt := .frz (f x)
def oL {α : Type} (f : α → Dt) (xs : List α) : Dt := .nod .lst (xs.map f)
def EncO {α : Type} (f : α → Dt) (g : α → PyData) : Prop := ∀ x, Dd (f x) (g x)
theorem encO_I : EncO oI PyData.int := fun i => .int i
theorem encO_B : EncO oB PyData.bool := fun i => .bl i
theorem encO_F {α : Type} {f : α → PyData} : EncO (oF f) f := fun _ => .frz _
theorem EncO.all {α : Type} {f : α → Dt} {g : α → PyData} (h : EncO f g) : ∀ xs : List α, DdAll (xs.map f) (xs.map g)
  | [] => .nil
  | x :: xs => .cons (h x) (EncO.all h xs)
theorem encO_L {α : Type} {f : α → Dt} {g : α → PyData} (h : EncO f g) : EncO (oL f) (encL g) := fun xs => .lst (h.all xs)
theorem keeps_same {L : List Addr} {H H' : Hp} (e : Same H H') : Keeps L H H' := fun b _ o q => e b o q
theorem keeps_refl {L : List Addr} {H : Hp} : Keeps L H H := fun _ _ _ q => q
theorem keeps_mut {L : List Addr} {H H' : Hp} {m : Addr} (x : SameX m H H') (n : ∀ b ∈ L, b ≠ m) : Keeps L H H' := fun b hb o q => x b o q (n b hb)
theorem keeps_muts {L M : List Addr} {H H' : Hp} (x : SameXs M H H') (n : ∀ b ∈ L, b ∉ M) : Keeps L H H' := fun b hb o q => x b o q (n b hb)
theorem keeps_hide {L M : List Addr} {H : Hp} (n : ∀ b ∈ L, b ∉ M) : Keeps L H (hideL M H) := fun b hb o q => by
  rw [hideL_out (n b hb)]
  exact q
section
variable {α : Type} {f : α → Dt} {g : α → PyData} {G H I : Hp} {L : List Addr} {vs : List V} {xs : List α}
theorem OwAll.rpA (w : OwAll G H L vs (xs.map f)) (h : EncO f g) (e : Same G H) : RpAll H vs (xs.map g) := OwAll.rp e keeps_refl w (h.all xs)
theorem OwAll.rpH (w : OwAll G H L vs (xs.map f)) (h : EncO f g) (e : Same G I) (k : Keeps L H I) : RpAll I vs (xs.map g) := OwAll.rp e k w (h.all xs)
theorem OwAll.lenM (w : OwAll G H L vs (xs.map f)) : vs.length = xs.length := by rw [w.len, List.length_map]
theorem OwAll.snocM {L1 : List Addr} {v : V} {y : α} (w : OwAll G H L vs (xs.map f)) (h : Ow G H L1 v (f y)) (n : ∀ b ∈ L, b ∉ L1) : OwAll G H (L ++ L1) (vs ++ [v]) ((xs ++ [y]).map f) := by
  rw [List.map_append]
  exact OwAll.snoc h w n
theorem Ow.ints {a : Addr} {ys : List Int} (h : H a = some (.lst (ys.map V.int))) : Ow G H [a] (.ref a) (oL oI ys) := by
  have z : ∀ ys : List Int, OwAll G H [] (ys.map V.int) (ys.map oI) := fun ys => by
    induction ys with
    | nil => exact .nil
    | cons y r ih => exact .cons (L1 := []) (L2 := []) (.val _) ih (fun _ z => nomatch z)
  exact .nod (k := .lst) h (z ys) (fun z => nomatch z)
theorem Ow.list {a : Addr} {xs : List α} {L : List Addr} {vs : List V} (h : H a = some (.lst vs)) (w : OwAll G H L vs (xs.map f)) (n : ∀ b ∈ L, b ≠ a) : Ow G H (a :: L) (.ref a) (oL f xs) := .nod (k := .lst) h w (fun z => n a z rfl)
theorem Ow.toList {v : V} {L : List Addr} {xs : List α} (w : Ow G H L v (oL f xs)) : ∃ a vs L', v = .ref a ∧ L = a :: L' ∧ H a = some (.lst vs) ∧ OwAll G H L' vs (xs.map f) ∧ ∀ b ∈ L', b ≠ a := by
  unfold oL at w
  cases w with
  | nod h r n => exact ⟨_, _, _, rfl, rfl, h, r, fun b hb z => n (z ▸ hb)⟩
theorem OwAll.toInts : ∀ {L : List Addr} {vs : List V} {xs : List Int}, OwAll G H L vs (xs.map oI) → L = [] ∧ vs = xs.map V.int
  | _, _, [], .nil => ⟨rfl, rfl⟩
  | _, _, x :: xs, .cons a r _ => by
    obtain ⟨h1, h2⟩ := OwAll.toInts r
    cases a
    exact ⟨by rw [h1] <;> rfl, by rw [h2] <;> rfl⟩
theorem Ow.toInts {v : V} {L : List Addr} {xs : List Int} (w : Ow G H L v (oL oI xs)) : ∃ a, v = .ref a ∧ L = [a] ∧ H a = some (.lst (xs.map V.int)) := by
  obtain ⟨a, vs, L', rfl, rfl, h, r, _⟩ := w.toList
  obtain ⟨rfl, rfl⟩ := r.toInts
  exact ⟨a, rfl, rfl, h⟩
/-- the part at a place, and how a change of it alone changes the whole -/
theorem OwAll.part : ∀ {L : List Addr} {vs : List V} {ds : List Dt} {i : Nat} {d : Dt}, OwAll G H L vs ds → ds[i]? = some d → ∃ v L1, vs[i]? = some v ∧ Ow G H L1 v d ∧ (∀ b ∈ L1, b ∈ L) ∧
    ∀ H' d', (∀ b ∈ L, b ∉ L1 → ∀ o, H b = some o → H' b = some o) → Ow G H' L1 v d' → OwAll G H' L vs (ds.set i d')
  | _, _, _, _, _, .nil, h => by simp at h
  | _, _, _, 0, _, .cons (L1 := La) (L2 := Lb) a r n, h => by
    simp at h
    subst h
    refine ⟨_, La, rfl, a, fun b hb => List.mem_append_left _ hb, fun H' d' k w => ?_⟩
    exact .cons w (OwAll.mono (Same.refl G) (fun b hb => k b (List.mem_append_right _ hb) fun z => n b z hb) r) n
  | _, _, _, i + 1, _, .cons (L1 := La) (L2 := Lb) a r n, h => by
    obtain ⟨v, L1, h1, h2, h3, h4⟩ := OwAll.part (i := i) r (by simpa using h)
    refine ⟨v, L1, by simpa using h1, h2, fun b hb => List.mem_append_right _ (h3 b hb), fun H' d' k w => ?_⟩
    refine .cons (Ow.mono (Same.refl G) (fun b hb => k b (List.mem_append_left _ hb) fun z => n b hb (h3 b z)) a) (h4 H' d' (fun b hb nb => k b (List.mem_append_right _ hb) nb) w) n
/-- the same, where the part grows: its new footprint is the old one and what is new -/
theorem OwAll.part2 : ∀ {L : List Addr} {vs : List V} {ds : List Dt} {i : Nat} {d : Dt}, OwAll G H L vs ds → ds[i]? = some d → ∃ v L1, vs[i]? = some v ∧ Ow G H L1 v d ∧ (∀ b ∈ L1, b ∈ L) ∧
    (∀ H' d', (∀ b ∈ L, b ∉ L1 → ∀ o, H b = some o → H' b = some o) → Ow G H' L1 v d' → OwAll G H' L vs (ds.set i d')) ∧
    ∀ G' H' d' Fv L1', Same G G' → (∀ b ∈ L, b ∉ L1 → ∀ o, H b = some o → H' b = some o) → (∀ b ∈ L1', b ∈ L1 ++ Fv) → (∀ b ∈ Fv, b ∉ L) → Ow G' H' L1' v d' → ∃ L', (∀ b ∈ L', b ∈ L ++ Fv) ∧ OwAll G' H' L' vs (ds.set i d')
  | _, _, _, _, _, .nil, h => by simp at h
  | _, _, _, 0, _, .cons (L1 := La) (L2 := Lb) a r n, h => by
    simp at h
    subst h
    refine ⟨_, La, rfl, a, fun b hb => List.mem_append_left _ hb, fun H' d' k w => ?_, fun G' H' d' Fv L1' eG k s nf w => ⟨L1' ++ Lb, fun b hb => ?_, ?_⟩⟩
    · exact .cons w (OwAll.mono (Same.refl G) (fun b hb => k b (List.mem_append_right _ hb) fun z => n b z hb) r) n
    · rcases List.mem_append.mp hb with hb | hb
      · rcases List.mem_append.mp (s b hb) with q | q
        · exact List.mem_append_left _ (List.mem_append_left _ q)
        · exact List.mem_append_right _ q
      · exact List.mem_append_left _ (List.mem_append_right _ hb)
    · refine .cons w (OwAll.mono eG (fun b hb => k b (List.mem_append_right _ hb) fun z => n b z hb) r) fun b hb q => ?_
      rcases List.mem_append.mp (s b hb) with z | z
      · exact n b z q
      · exact nf b z (List.mem_append_right _ q)
  | _, _, _, i + 1, _, .cons (L1 := La) (L2 := Lb) a r n, h => by
    obtain ⟨v, L1, h1, h2, h3, h4, h5⟩ := OwAll.part2 (i := i) r (by simpa using h)
    refine ⟨v, L1, by simpa using h1, h2, fun b hb => List.mem_append_right _ (h3 b hb), fun H' d' k w => ?_, fun G' H' d' Fv L1' eG k s nf w => ?_⟩
    · refine .cons (Ow.mono (Same.refl G) (fun b hb => k b (List.mem_append_left _ hb) fun z => n b hb (h3 b z)) a) (h4 H' d' (fun b hb nb => k b (List.mem_append_right _ hb) nb) w) n
    · obtain ⟨L', s2, z⟩ := h5 G' H' d' Fv L1' eG (fun b hb nb => k b (List.mem_append_right _ hb) nb) s (fun b hb q => nf b hb (List.mem_append_right _ q)) w
      refine ⟨La ++ L', fun b hb => ?_, .cons (Ow.mono eG (fun b hb => k b (List.mem_append_left _ hb) fun z => n b hb (h3 b z)) a) z fun b hb q => ?_⟩
      · rcases List.mem_append.mp hb with hb | hb
        · exact List.mem_append_left _ (List.mem_append_left _ hb)
        · rcases List.mem_append.mp (s2 b hb) with q | q
          · exact List.mem_append_left _ (List.mem_append_right _ q)
          · exact List.mem_append_right _ q
      · rcases List.mem_append.mp (s2 b q) with y | y
        · exact n b hb y
        · exact nf b y (List.mem_append_left _ hb)
theorem OwAll.partM [Inhabited α] {k : Int} (w : OwAll G H L vs (xs.map f)) (h : -(xs.length : Int) ≤ k ∧ k < xs.length) : ∃ v L1, atI vs k = some v ∧ Ow G H L1 v (f (itD xs k)) ∧ (∀ b ∈ L1, b ∈ L) ∧
    (∀ H' y, (∀ b ∈ L, b ∉ L1 → ∀ o, H b = some o → H' b = some o) → Ow G H' L1 v (f y) → OwAll G H' L vs ((setL xs k y).map f)) ∧
    ∀ G' H' y Fv L1', Same G G' → (∀ b ∈ L, b ∉ L1 → ∀ o, H b = some o → H' b = some o) → (∀ b ∈ L1', b ∈ L1 ++ Fv) → (∀ b ∈ Fv, b ∉ L) → Ow G' H' L1' v (f y) → ∃ L', (∀ b ∈ L', b ∈ L ++ Fv) ∧ OwAll G' H' L' vs ((setL xs k y).map f) := by
  obtain ⟨j, e, hj⟩ := ixN_some h
  have hx := List.getElem?_eq_getElem hj
  obtain ⟨v, L1, h1, h2, h3, h4, h5⟩ := OwAll.part2 (i := j) (d := f xs[j]) w (by rw [List.getElem?_map, hx] <;> rfl)
  have ei : itD xs k = xs[j] := by
    unfold itD atI
    rw [e]
    show (xs[j]?).getD default = _
    rw [hx] <;> rfl
  refine ⟨v, L1, ?_, by rw [ei]; exact h2, h3, fun H' y q w2 => ?_, fun G' H' y Fv L1' eG q s nf w2 => ?_⟩
  · unfold atI
    rw [w.lenM, e]
    exact h1
  · have z := h4 H' (f y) q w2
    unfold setL
    rw [e, List.map_set]
    exact z
  · obtain ⟨L', s2, z⟩ := h5 G' H' (f y) Fv L1' eG q s nf w2
    refine ⟨L', s2, ?_⟩
    unfold setL
    rw [e, List.map_set]
    exact z
theorem grow_keeps {L L1 : List Addr} {m : Addr} {H H1 H2 : Hp} (e : Same H H1) (x : SameX m H1 H2) (hm : m ∈ L1) : ∀ b ∈ L, b ∉ L1 → ∀ o, H b = some o → H2 b = some o := fun b _ n o q => x b o (e b o q) (fun z => n (z ▸ hm))
theorem grow_sub {a : Addr} {L' Lr Fv : List Addr} (h : ∀ b ∈ L', b ∈ Lr ++ Fv) : ∀ b ∈ a :: L', b ∈ (a :: Lr) ++ Fv := fun b hb => by
  rcases List.mem_cons.mp hb with rfl | hb
  · exact List.mem_cons_self
  · exact List.mem_cons_of_mem _ (h b hb)
/-- the item of a turn -/
theorem OwAll.turn {i : Nat} {v : V} (w : OwAll G H L vs (xs.map f)) (h : vs[i]? = some v) : ∃ x L1, xs[i]? = some x ∧ Ow G H L1 v (f x) ∧ ∀ b ∈ L1, b ∈ L := by
  have hl := get_len h
  have e := w.lenM
  have hx := List.getElem?_eq_getElem (show i < xs.length by omega)
  obtain ⟨v2, L1, h1, h2, h3, _⟩ := OwAll.part (i := i) (d := f xs[i]) w (by rw [List.getElem?_map, hx] <;> rfl)
  rw [h] at h1
  cases h1
  exact ⟨_, L1, hx, h2, h3⟩
end
/-! ### what is owned, in pieces -/
theorem all_app {P : Addr → Prop} {L l : List Addr} (h : ∀ x ∈ L, P x) (t : ∀ x ∈ l, P x) : ∀ x ∈ L ++ l, P x := fun x hx => by
  rcases List.mem_append.mp hx with q | q
  · exact h x q
  · exact t x q
theorem nm_nil {a : Addr} : a ∉ ([] : List Addr) := fun z => nomatch z
theorem nm_cons {a m : Addr} {l : List Addr} (h : a ≠ m) (t : a ∉ l) : a ∉ m :: l := fun z => by
  rcases List.mem_cons.mp z with q | q
  · exact h q
  · exact t q
theorem nm_app {a : Addr} {L l : List Addr} (h : a ∉ L) (t : a ∉ l) : a ∉ L ++ l := fun z => by
  rcases List.mem_append.mp z with q | q
  · exact h q
  · exact t q
theorem there_ne {H : Hp} {L : List Addr} {x : Addr} (t : ∀ b ∈ L, H b ≠ none) (n : H x = none) : ∀ b ∈ L, b ≠ x := fun b hb z => t b hb (z ▸ n)
theorem new_ne {H : Hp} {L : List Addr} {x : Addr} {o : HO} (n : ∀ b ∈ L, H b = none) (h : H x = some o) : ∀ b ∈ L, b ≠ x := fun b hb z => by
  have := n b hb
  rw [z, h] at this
  cases this
theorem new_nl {H : Hp} {L L2 : List Addr} (n : ∀ b ∈ L, H b = none) (t : ∀ b ∈ L2, H b ≠ none) : ∀ b ∈ L, b ∉ L2 := fun b hb z => t b z (n b hb)
theorem nl_symm {L L2 : List Addr} (h : ∀ b ∈ L, b ∉ L2) : ∀ b ∈ L2, b ∉ L := fun b hb z => h b z hb
theorem none_of_same {H H' : Hp} {x : Addr} (e : Same H H') (n : H' x = none) : H x = none := by
  cases q : H x with
  | none => rfl
  | some o =>
    rw [e x o q] at n
    cases n
section
variable {M : List Addr} {H0 G0 G H H' : Hp} {O L : List Addr} {p m : Addr} {o : HO}
theorem Sep.h0 (S : Sep M H0 G0 G H O) {b : Addr} (hb : b ∈ O) (hM : b ∉ M) : H0 b = none := (S.ow b hb).2.2.elim (fun z => (hM z).elim) id
theorem g_nl {a : Addr} {o : HO} (h : G a = some o) (S : Sep M H0 G0 G H O) (hL : ∀ b ∈ L, b ∈ O) : ∀ b ∈ L, b ≠ a := fun b hb => (g_ne h S (hL b hb)).symm
theorem b_nl {a : Addr} {o : HO} (h : (hideL M H0) a = some o) (S : Sep M H0 G0 G H O) (hL : ∀ b ∈ L, b ∈ O) : ∀ b ∈ L, b ≠ a := fun b hb => (b_ne h S (hL b hb)).symm
/-- a whole tree that is to stay as it is -/
theorem Sep.freezeL (S : Sep M H0 G0 G H O) {O' : List Addr} (hL : ∀ b ∈ L, b ∈ O) (h0 : ∀ b ∈ L, H0 b = none) (hO : ∀ b ∈ O', b ∈ O ∧ b ∉ L) : ∃ G', Same G G' ∧ Keeps L H G' ∧ Sep M H0 G0 G' H O' := by
  have gn : ∀ b ∈ L, G b = none := fun b hb => (S.ow b (hL b hb)).1
  refine ⟨fun b => if b ∈ L then H b else G b, fun b u q => ?_, fun b hb u q => ?_, S.base, S.pm, fun b u q => ?_, fun b u q => ?_, fun b hb gb => ?_, fun a ha => ?_⟩
  · have n : b ∉ L := fun z => by
      rw [gn b z] at q
      cases q
    show (if b ∈ L then H b else G b) = _
    rw [if_neg n]
    exact q
  · show (if b ∈ L then H b else G b) = _
    rw [if_pos hb]
    exact q
  · by_cases z : b ∈ L
    · exact (if_pos z).symm.trans q
    · exact S.sG b u ((if_neg z).symm.trans q)
  · have z : b ∉ L := fun z => by
      have := S.g0 b u q
      rw [gn b z] at this
      cases this
    show (if b ∈ L then H b else G b) = _
    rw [if_neg z]
    exact S.g0 b u q
  · have z : b ∉ L := fun z => hb (h0 b z)
    show (if b ∈ L then H b else G b) = _
    rw [if_neg z]
    exact S.gn b hb gb
  · obtain ⟨h1, h2⟩ := hO a ha
    refine ⟨?_, (S.ow a h1).2⟩
    show (if a ∈ L then H a else G a) = _
    rw [if_neg h2]
    exact (S.ow a h1).1
/-- a callee hands over a list of lists of its own making -/
theorem Sep.steptree (S : Sep M H0 G0 G H O) {G' : Hp} (e : Same H H') (eG : Same G G') (sG : Same G' H') (hn : ∀ b, H b ≠ none → G b = none → G' b = none) (L : List Addr) (hL : ∀ b ∈ L, H b = none ∧ G' b = none ∧ H' b ≠ none) : Sep M H0 G0 G' H' (L ++ O) := by
  have S2 := S.step e eG sG hn
  refine ⟨S2.base, S2.pm, S2.sG, S2.g0, S2.gn, all_app (fun b hb => ⟨(hL b hb).2.1, (hL b hb).2.2, .inr (S.free (hL b hb).1)⟩) S2.ow⟩
end
theorem Rp.list_of {α : Type} {g : α → PyData} {H : Hp} {a : Addr} {vs : List V} {xs : List α} (h : H a = some (.lst vs)) (r : RpAll H vs (xs.map g)) : Rp H (.ref a) (encL g xs) := .lst h r
/-! ### repr of data -/
mutual
def nodes : PyData → Nat
  | .list xs => 1 + nodesAll xs
  | .tuple xs => 1 + nodesAll xs
  | _ => 1
def nodesAll : List PyData → Nat
  | [] => 0
  | x :: xs => nodes x + nodesAll xs
end
mutual
def smallD : PyData → Bool
  | .none => true
  | .bool _ => true
  | .int i => decide (i.natAbs < 10 ^ 19)
  | .str x => decide ((reprText x).length ≤ 20)
  | .list xs => smallAll xs
  | .tuple xs => smallAll xs
  | _ => false
def smallAll : List PyData → Bool
  | [] => true
  | x :: xs => smallD x && smallAll xs
end
theorem piled_list (ts : List Str) : (listText ts).length ≤ piled ts + 2 := by
  cases ts with
  | nil => exact Nat.le_refl 2
  | cons t r =>
    have e : (listText (t :: r)).length = (textFrom 1 ("[" ++ ("" : String) ++ t) r).length + 1 := by
      show (textFrom 0 "[" (t :: r) ++ "]").length = _
      rw [strLen_append]
      rfl
    rw [e, textFrom_length_pos r 1 _ (by decide), piled_cons, strLen_append, strLen_append]
    have h1 : (("[" : String) : Str).length = 1 := rfl
    have h2 : (("" : String) : Str).length = 0 := rfl
    omega
theorem piled_tup (ts : List Str) : (tupleText ts).length ≤ piled ts + 3 := by
  unfold tupleText
  rw [strLen_append, strLen_append]
  have h1 : (("(" : String) : Str).length = 1 := rfl
  have h2 : (((if ts.length == 1 then ",)" else ")" : String) : Str)).length ≤ 2 := by split <;> decide
  by_cases h : ts = []
  · subst h
    exact Nat.le_of_lt (by decide)
  · have := join_length_add ts h
    omega
mutual
theorem small_shown : ∀ d : PyData, smallD d = true → d.shown.length + 4 ≤ 26 * nodes d ∧ d.showable = true ∧ d.hasDict = false
  | .none, _ => ⟨by simp only [PyData.shown, nodes]; decide, by simp [PyData.showable], by simp [PyData.hasDict]⟩
  | .bool b, _ => ⟨by cases b <;> simp only [PyData.shown, nodes] <;> decide, by simp [PyData.showable], by simp [PyData.hasDict]⟩
  | .int i, h => by
    have h : i.natAbs < 10 ^ 19 := by simpa [smallD] using h
    refine ⟨?_, ?_, by simp [PyData.hasDict]⟩
    · have := int_text_length_le10 (k := 19) (by decide) h
      simp only [PyData.shown, nodes]
      rw [PySem.ofString_length]
      omega
    · simp only [PyData.showable, decide_eq_true_eq]
      have : i.natAbs < 2 ^ 64 := by omega
      rcases Nat.eq_zero_or_pos i.natAbs with z | z
      · rw [z]
        decide
      · have := (Nat.log2_lt (by omega)).mpr this
        omega
  | .str x, h => by
    have h : (reprText x).length ≤ 20 := by simpa [smallD] using h
    refine ⟨by simp only [PyData.shown, nodes]; omega, by simp [PyData.showable], by simp [PyData.hasDict]⟩
  | .list xs, h => by
    obtain ⟨h1, h2, h3⟩ := small_shownAll xs (by simpa [smallD] using h)
    refine ⟨?_, by simpa [PyData.showable] using h2, by simpa [PyData.hasDict] using h3⟩
    have := piled_list (PyData.shownAll xs)
    simp only [PyData.shown, nodes]
    omega
  | .tuple xs, h => by
    obtain ⟨h1, h2, h3⟩ := small_shownAll xs (by simpa [smallD] using h)
    refine ⟨?_, by simpa [PyData.showable] using h2, by simpa [PyData.hasDict] using h3⟩
    have := piled_tup (PyData.shownAll xs)
    simp only [PyData.shown, nodes]
    omega
  | .dict kvs, h => by simp [smallD] at h
theorem small_shownAll : ∀ ds : List PyData, smallAll ds = true → piled (PyData.shownAll ds) ≤ 26 * nodesAll ds ∧ PyData.showableAll ds = true ∧ PyData.hasDictAll ds = false
  | [], _ => ⟨by simp [PyData.shownAll, nodesAll, piled], by simp [PyData.showableAll], by simp [PyData.hasDictAll]⟩
  | d :: ds, h => by
    have h : smallD d = true ∧ smallAll ds = true := by simpa [smallAll] using h
    obtain ⟨a1, a2, a3⟩ := small_shown d h.1
    obtain ⟨b1, b2, b3⟩ := small_shownAll ds h.2
    refine ⟨?_, by simp [PyData.showableAll, a2, b2], by simp [PyData.hasDictAll, a3, b3]⟩
    simp only [PyData.shownAll, nodesAll, piled_cons]
    omega
end
/-- data that repr may show -/
def ShowOk (d : PyData) : Prop := smallD d = true ∧ nodes d ≤ 600000 ∧ d.depth ≤ 60
instance (d : PyData) : Decidable (ShowOk d) := by unfold ShowOk; infer_instance
def rRepr : List V → Hp → VK → Prop := fun xs H Q => ∃ (a : Addr) (d : PyData), xs = [.ref a] ∧ Rp H (.ref a) d ∧ ShowOk d ∧ Q (.str d.shown) H
theorem call_reprD {X : Cx} (hg : X.A.guards = some []) (hu : X.A.units + 64 < cLine) : CallR X (.builtin "repr") rRepr := by
  intro pins s σ H xs us Q I r h
  obtain ⟨a, d, rfl, rp, ⟨ok, nd, dp⟩, q⟩ := h
  obtain ⟨h1, h2, h3⟩ := small_shown d ok
  cases r with
  | cons ra rn =>
    cases rn
    cases ra
    obtain ⟨as, reads⟩ := Dp.reads I d _ _ rp.dp rfl
    refine repr_of_reads' reads h2 (PyData.noDict_hsm h3) hg (by omega) (fun _ _ e => e) (fun h' u tk k => ⟨.str d.shown, H, I.kept k, ⟨u, rfl⟩, q⟩) ?_
    show d.shown.length ≤ 2 ^ 24
    omega
/-- small data: nodes, depth -/
def Sm (n k : Nat) (d : PyData) : Prop := smallD d = true ∧ nodes d ≤ n ∧ d.depth ≤ k
theorem Sm.imp {n k n' k' : Nat} {d : PyData} (h : Sm n k d) (a : n ≤ n') (b : k ≤ k') : Sm n' k' d := ⟨h.1, Nat.le_trans h.2.1 a, Nat.le_trans h.2.2 b⟩
theorem Sm.show {n k : Nat} {d : PyData} (h : Sm n k d) (a : n ≤ 600000 := by decide) (b : k ≤ 60 := by decide) : ShowOk d := h.imp a b
theorem sm_non : Sm 1 0 .none := ⟨by simp [smallD], by simp [nodes], by simp [PyData.depth]⟩
theorem sm_bool (b : Bool) : Sm 1 0 (.bool b) := ⟨by simp [smallD], by simp [nodes], by simp [PyData.depth]⟩
theorem sm_int {i : Int} (h : -10000000000000000000 < i ∧ i < 10000000000000000000) : Sm 1 0 (.int i) := ⟨by simp only [smallD, decide_eq_true_eq]; omega, by simp [nodes], by simp [PyData.depth]⟩
theorem sm_all {α : Type} {f : α → PyData} {n k : Nat} : ∀ {xs : List α}, (∀ x ∈ xs, Sm n k (f x)) → smallAll (xs.map f) = true ∧ nodesAll (xs.map f) ≤ xs.length * n ∧ PyData.depthAll (xs.map f) ≤ k
  | [], _ => ⟨by simp [smallAll], by simp [nodesAll], by simp [PyData.depthAll]⟩
  | x :: xs, h => by
    obtain ⟨a1, a2, a3⟩ := h x List.mem_cons_self
    obtain ⟨b1, b2, b3⟩ := sm_all fun y hy => h y (List.mem_cons_of_mem _ hy)
    refine ⟨by simp [smallAll, a1, b1], ?_, ?_⟩
    · simp only [List.map_cons, nodesAll, List.length_cons, Nat.succ_mul]
      omega
    · simp only [List.map_cons, PyData.depthAll]
      omega
theorem sm_L {α : Type} {f : α → PyData} {n k m : Nat} {xs : List α} (h : ∀ x ∈ xs, Sm n k (f x)) (hm : xs.length ≤ m) : Sm (1 + m * n) (k + 1) (encL f xs) := by
  obtain ⟨a1, a2, a3⟩ := sm_all h
  refine ⟨by simp [encL, smallD, a1], ?_, ?_⟩
  · have := Nat.mul_le_mul_right n hm
    simp only [encL, nodes]
    omega
  · simp only [encL, PyData.depth]
    omega
theorem sm_ints {xs : List Int} {m : Nat} (h : ∀ x ∈ xs, -10000000000000000000 < x ∧ x < 10000000000000000000) (hm : xs.length ≤ m) : Sm (1 + m * 1) 1 (encL PyData.int xs) := sm_L (fun x hx => sm_int (h x hx)) hm
theorem sm_T2 {α β : Type} {f : α → PyData} {g : β → PyData} {n k m j : Nat} {p : α × β} (h1 : Sm n k (f p.1)) (h2 : Sm m j (g p.2)) : Sm (1 + n + m) (max k j + 1) (encT2 f g p) := by
  obtain ⟨a1, a2, a3⟩ := h1
  obtain ⟨b1, b2, b3⟩ := h2
  refine ⟨by simp [encT2, smallD, smallAll, a1, b1], ?_, ?_⟩
  · simp only [encT2, nodes, nodesAll]
    omega
  · simp only [encT2, PyData.depth, PyData.depthAll]
    omega
theorem sm_T3 {α β γ : Type} {f : α → PyData} {g : β → PyData} {h : γ → PyData} {n k m j l i : Nat} {p : α × β × γ} (h1 : Sm n k (f p.1)) (h2 : Sm m j (g p.2.1)) (h3 : Sm l i (h p.2.2)) : Sm (1 + n + m + l) (max k (max j i) + 1) (encT3 f g h p) := by
  obtain ⟨a1, a2, a3⟩ := h1
  obtain ⟨b1, b2, b3⟩ := h2
  obtain ⟨c1, c2, c3⟩ := h3
  refine ⟨by simp [encT3, smallD, smallAll, a1, b1, c1], ?_, ?_⟩
  · simp only [encT3, nodes, nodesAll]
    omega
  · simp only [encT3, PyData.depth, PyData.depthAll]
    omega
end Vx
namespace Vx
open PySem PySem.Spec PyProof.Rows L2
theorem new_ne2 {H : Hp} {L : List Addr} {x : Addr} (n : ∀ b ∈ L, H b = none) (h : H x ≠ none) : ∀ b ∈ L, b ≠ x := fun b hb z => h (z ▸ n b hb)
theorem upd_tree {α : Type} {f : α → Dt} {G H H' : Hp} {L L1 : List Addr} {vs : List V} {xs : List α} {k : Int} {v : V} {m : Addr} {y : α} (up : ∀ H' y, (∀ b ∈ L, b ∉ L1 → ∀ o, H b = some o → H' b = some o) → Ow G H' L1 v (f y) → OwAll G H' L vs ((setL xs k y).map f)) (x : SameX m H H') (hm : m ∈ L1) (w : Ow G H' L1 v (f y)) :
    OwAll G H' L vs ((setL xs k y).map f) := up H' y (fun c _ n o q => x c o q (fun z => n (z ▸ hm))) w
theorem Ow.toFrz {α : Type} {f : α → PyData} {G H : Hp} {L : List Addr} {v : V} {x : α} (w : Ow G H L v (oF f x)) : L = [] ∧ Rp G v (f x) := by
  unfold oF at w
  cases w with
  | frz r => exact ⟨rfl, r⟩
section
variable {α : Type} {f : α → Dt} {G H : Hp} {L : List Addr} {vs : List V} {xs : List α}
theorem OwAll.pin {i : Nat} {v : V} {x : α} (w : OwAll G H L vs (xs.map f)) (h : vs[i]? = some v) (hx : xs[i]? = some x) : ∃ L1, Ow G H L1 v (f x) ∧ ∀ b ∈ L1, b ∈ L := by
  obtain ⟨y, L1, h1, h2, h3⟩ := OwAll.turn w h
  rw [hx] at h1
  cases h1
  exact ⟨L1, h2, h3⟩
theorem OwAll.pinInts {i : Nat} {b : Addr} {xs : List (List Int)} {x : List Int} (w : OwAll G H L vs (xs.map (oL oI))) (h : vs[i]? = some (.ref b)) (hx : xs[i]? = some x) : H b = some (.lst (x.map V.int)) ∧ b ∈ L := by
  obtain ⟨L1, w1, h1⟩ := OwAll.pin w h hx
  obtain ⟨c, e, rfl, h2⟩ := Ow.toInts w1
  cases e
  exact ⟨h2, h1 _ List.mem_cons_self⟩
end
end Vx
namespace Vx
open PySem PySem.Spec PyProof.Rows L2
theorem lookup_relab {c : Str → Bool} {y : Str} : ∀ l : List (Str × NameKind), (l.lookup y = some .cell ∨ l.lookup y = some .free) →
    ((l.map fun (n, k) => if (k == .free && c n) then (n, NameKind.cell) else (n, k)).lookup y = some .cell ∨ (l.map fun (n, k) => if (k == .free && c n) then (n, NameKind.cell) else (n, k)).lookup y = some .free)
  | [], h => by simp at h
  | (n, k) :: r, h => by
    rw [List.map_cons]
    dsimp only
    by_cases e : y == n
    · have hk : k = .cell ∨ k = .free := by
        rw [List.lookup_cons, e] at h
        simpa using h
      by_cases q : (k == .free && c n) = true
      · left
        rw [if_pos q, List.lookup_cons, e]
      · rw [if_neg q, List.lookup_cons, e]
        simpa using hk
    · have e : (y == n) = false := by simpa using e
      rw [List.lookup_cons, e] at h
      have ih := lookup_relab (c := c) r h
      by_cases q : (k == .free && c n) = true
      · rw [if_pos q, List.lookup_cons, e]
        exact ih
      · rw [if_neg q, List.lookup_cons, e]
        exact ih
theorem blk_relabel {N : List Str} {sc scope : Scope} {env : Env} {own : List (Str × Nat)} (h : BlkOk N sc scope own) : BlkOk N (relabel sc env) scope own := by
  refine ⟨h.kind, h.uniq, h.ix, fun y hy e => ?_, h.own⟩
  have z := lookup_relab (c := fun n => env.scope.kind == .function && env.kindOf n == some .cell) (y := y.1) sc.names (h.free y hy e)
  unfold relabel
  simpa only [Bool.and_assoc] using z
end Vx
namespace Vx
open PySem PySem.Spec PyProof.Rows L2
theorem FnG.low {P : Program} {w : World} {K : PySem.W.Frag} {mg : Str → Option Value} {base : Heap} {cx : CXT} {j k : Nat} {f : Addr} {fd : FuncData} {ps : List Str} {sp : Sp} (F : FnG P w K mg base cx j f fd ps sp) (h : j ≤ k) : FnG P w K mg base cx k f fd ps sp := ⟨F.len, fun A o s H a us vs Q E r => F.run A o s H a us vs Q E (r.low h)⟩
/-! ### a local name that holds one of several defs -/
structure HeldX (P : Program) (w : World) (K : PySem.W.Frag) (mg : Str → Option Value) (base : Heap) (k n : Nat) (f : Addr) (sp : Sp) : Prop where
  ex : ∃ (fd : FuncData) (ps : List Str), FnG P w K mg base (L2N.CX P w) k f fd ps sp ∧ PySem.W.keepIn K (.ref f) = true ∧ Bnd K fd ps n [] (fun vs _ => vs)
theorem HeldX.of {P : Program} {w : World} {K : PySem.W.Frag} {mg : Str → Option Value} {base : Heap} {j k n : Nat} {x : Str} {sp : Sp} {pats : List Pat} {a : Addr} (c : CalX P w K mg base j x sp pats) (hx : mg x = some (.ref a)) (hp : (n, [], fun vs _ => vs) ∈ pats) (hj : j ≤ k) : HeldX P w K mg base k n a sp := by
  obtain ⟨f, fd, ps, F, hm, kp, b⟩ := c.ex
  rw [hx] at hm
  injection hm with hm
  injection hm with hm
  subst hm
  exact ⟨fd, ps, F.low hj, kp, b _ hp⟩
def tCallF (i n : Nat) (L : List (Addr × Sp)) (W : WX) (t : TA) : TE := fun σ H Q => ∃ f sp, σ[i]? = some (some (.ref f)) ∧ (f, sp) ∈ L ∧ t σ H fun vs H1 => vs.length = n ∧ ([] : List V).length = 0 ∧ sp vs H1 Q (WE W σ)
theorem vx_callF {X : Cx} {k j i n : Nat} {x : Str} {p pos : Pos} {e : Expr} {es : List Expr} {t : TA} {W : WX} (L : List (Addr × Sp)) (A : ∀ q ∈ L, HeldX X.prog X.w X.K X.mg X.base k n q.1 q.2) (hr : RoomG j X.A) (hk : k ≤ j) (tkW : L2N.Takes X W) (hN : X.N[i]? = some x) (hv : Vis X.env.scope x) (ha : PA X (e :: es) t)
    (hdb : (x == ("__debug__" : Str)) = false := by decide) (hcd : (x == ("__classdict__" : Str)) = false := by decide) (he : starEach (e :: es) X.env = (false, eval e X.env) :: starEach es X.env := by rfl) (hpl : (backTo pos (starEach es X.env)).any (·.1) = false := by rfl) :
    PE X (.Call (.Name x p) (e :: es) [] pos) (tCallF i n L W t) := by
  constructor
  intro pins s σ H Q I h
  obtain ⟨f, sp, slot, mem, rest⟩ := h
  obtain ⟨fd, ps, F, kp, b⟩ := (A _ mem).ex
  refine wpAny_Call_Name_kw (thn ((pe_var (pos := p) hN hv hdb hcd).run pins s σ H (fun v H1 => v = .ref f ∧ H1 = H) I ⟨.ref f, slot, rfl, rfl⟩) ?_)
  rintro u s1 ⟨v, H1, I1, r1, rfl, rfl⟩
  cases r1
  refine PySem.W.callWith_K (h₀ := X.base) I.ok.mod.kin kp (thn (ha.run pos pins s1 σ _ _ I1 rest) ?_) he hpl
  rintro us s2 ⟨vs, H2, I2, r, l1, l2, q⟩
  exact ⟨I2.kIn, run_X (us := us) (ws := []) (zs := []) F (hr.low hk) b tkW I2 r .nil l1 l2 q⟩
/-! ### the least of a list, the place of an item -/
def minL : List Int → Int
  | [] => 0
  | [x] => x
  | x :: y :: r => if x ≤ minL (y :: r) then x else minL (y :: r)
theorem minL_spec : ∀ (xs : List Int), xs ≠ [] → minL xs ∈ xs ∧ ∀ y ∈ xs, minL xs ≤ y
  | [], h => absurd rfl h
  | [x], _ => ⟨List.mem_cons_self, fun y hy => by rw [List.mem_singleton.mp hy]; exact Int.le_refl x⟩
  | x :: y :: r, _ => by
    obtain ⟨h1, h2⟩ := minL_spec (y :: r) (fun z => nomatch z)
    unfold minL
    split
    · refine ⟨List.mem_cons_self, fun z hz => ?_⟩
      rcases List.mem_cons.mp hz with rfl | hz
      · exact Int.le_refl _
      · have := h2 z hz
        omega
    · refine ⟨List.mem_cons_of_mem _ h1, fun z hz => ?_⟩
      rcases List.mem_cons.mp hz with rfl | hz
      · omega
      · exact h2 z hz
def maxL (xs : List Int) : Int := -(minL (xs.map fun x => -x))
theorem maxL_spec (xs : List Int) (h : xs ≠ []) : maxL xs ∈ xs ∧ ∀ y ∈ xs, y ≤ maxL xs := by
  obtain ⟨h1, h2⟩ := minL_spec (xs.map fun x => -x) (by simpa using h)
  obtain ⟨z, hz, e⟩ := List.mem_map.mp h1
  unfold maxL
  refine ⟨by rw [← e, Int.neg_neg]; exact hz, fun y hy => ?_⟩
  have := h2 _ (List.mem_map_of_mem hy)
  omega
section
variable {X : Cx} {K : PySem.W.Frag}
def rMinL (K : PySem.W.Frag) : List V → Hp → VK → Prop := fun vs H Q => ∃ (a : Addr) (ns : List Int), vs = [V.ref a] ∧ SqL K H a (ns.map V.int) ∧ ns ≠ [] ∧ Q (.int (minL ns)) H
def rMaxL (K : PySem.W.Frag) : List V → Hp → VK → Prop := fun vs H Q => ∃ (a : Addr) (ns : List Int), vs = [V.ref a] ∧ SqL K H a (ns.map V.int) ∧ ns ≠ [] ∧ Q (.int (maxL ns)) H
theorem cr_minL (hc : X.calm = true) (hK : X.K = K := by rfl) : CallR X (.builtin "min") (rMinL K) := by
  subst hK
  intro pins s σ H vs us Q I r h
  obtain ⟨a, ns, rfl, hs, hn, q⟩ := h
  refine cr_min hc pins s σ H _ us Q I r ⟨a, ns, rfl, hs, List.length_pos_iff.mpr hn, fun m hm hle => ?_⟩
  obtain ⟨h1, h2⟩ := minL_spec ns hn
  have e : m = minL ns := Int.le_antisymm (by have := hle _ h1; omega) (h2 m hm)
  rw [e]
  exact q
theorem cr_maxL (hc : X.calm = true) (hK : X.K = K := by rfl) : CallR X (.builtin "max") (rMaxL K) := by
  subst hK
  intro pins s σ H vs us Q I r h
  obtain ⟨a, ns, rfl, hs, hn, q⟩ := h
  refine cr_max hc pins s σ H _ us Q I r ⟨a, ns, rfl, hs, List.length_pos_iff.mpr hn, fun m hm hle => ?_⟩
  obtain ⟨h1, h2⟩ := maxL_spec ns hn
  have e : m = maxL ns := Int.le_antisymm (h2 m hm) (by have := hle _ h1; omega)
  rw [e]
  exact q
end
end Vx
namespace Vx
open PySem PySem.Spec PyProof.Rows L2
def idxL (ns : List Int) (i : Int) : Int := (ns.idxOf i : Nat)
def rIndexI (K : PySem.W.Frag) : V → List V → Hp → VK → Prop := fun x xs H Q => ∃ (a : Addr) (ns : List Int) (i : Int), x = V.ref a ∧ xs = [.int i] ∧ SqL K H a (ns.map V.int) ∧ i ∈ ns ∧ Q (.int (idxL ns i)) H
theorem mt_indexI {X : Cx} {K : PySem.W.Frag} (hK : X.K = K := by rfl) : MtR X "list.index" (rIndexI K) := by
  subst hK
  intro pins s σ H x xs v us Q I rx rxs h
  obtain ⟨a, ns, i, rfl, rfl, hs, hi, q⟩ := h
  have hl := List.idxOf_lt_length_of_mem hi
  refine mt_index pins s σ H _ _ v us Q I rx rxs ⟨a, _, .int i, ns.idxOf i, .int i, rfl, rfl, hs, rfl, flat_ints ns, ?_, by simp [eqV], fun m z hm hz => ?_, q⟩
  · rw [List.getElem?_map, List.getElem?_eq_getElem hl, List.getElem_idxOf hl] <;> rfl
  · rw [List.getElem?_map] at hz
    cases e : ns[m]? with
    | none => rw [e] at hz; cases hz
    | some y =>
      rw [e] at hz
      cases hz
      have hml : m < ns.length := by omega
      have hy : ns[m] = y := by
        rw [List.getElem?_eq_getElem hml] at e
        exact Option.some.inj e
      have := List.not_of_lt_findIdx (p := (· == i)) (xs := ns) (i := m) hm
      simp only [beq_iff_eq, hy] at this
      simp [eqV, this]
theorem cW_aftgo {σ ρ τ : Type} {s : σ} {kr : ρ → Rx τ} {k : σ → Rx τ} {K : τ → Prop} {E : Nat → Prop} (h : cW ((Lp.go s : Lp σ ρ).aft kr k) K E) : cW (k s) K E := h
end Vx
namespace Vx
open PySem PySem.Spec PyProof.Rows L2
/-! ### a truth value or a number beside a number -/
def Bi.num : Bi → Int
  | .b x => if x then 1 else 0
  | .n i => i
def Bi.dat : Bi → PyData
  | .b x => .bool x
  | .n i => .int i
section
variable {X : Cx}
def rEqBI : R2 := fun x y H Q => ∃ (b : Bi) (i : Int), x = biV b ∧ y = .int i ∧ Q (.bl (decide (b.num = i))) H
def rNeBI : R2 := fun x y H Q => ∃ (b : Bi) (i : Int), x = biV b ∧ y = .int i ∧ Q (.bl (!decide (b.num = i))) H
theorem eqv_bi (b : Bi) (i : Int) : PyData.eqv b.dat (.int i) = decide (b.num = i) := by
  cases b with
  | b x => cases x <;> (rw [Bool.eq_iff_iff]; simp [Bi.dat, Bi.num, PyData.eqv])
  | n j =>
    rw [Bool.eq_iff_iff]
    simp only [Bi.dat, Bi.num, PyData.eqv, beq_iff_eq]
    exact decide_eq_true_iff.symm
theorem dp_bi {K : PySem.W.Frag} {H : Hp} : ∀ b : Bi, Dp K H (biV b) b.dat
  | .b x => .bl x
  | .n i => .int i
theorem shaped_bi : ∀ b : Bi, SeqAt.shaped b.dat = true
  | .b x => by unfold SeqAt.shaped; simp [Bi.dat, PyData.canLay0, PyData.depth]
  | .n i => by unfold SeqAt.shaped; simp [Bi.dat, PyData.canLay0, PyData.depth]
theorem op_eqBI (hu : X.A.units + 64 < cLine) : OpR X (compareOp .Eq) rEqBI := by
  intro pins s σ H x y v u Q I rx ry h
  obtain ⟨b, i, rfl, rfl, q⟩ := h
  exact op_eqD hu pins s σ H _ _ v u Q I rx ry ⟨b.dat, .int i, dp_bi b, .int i, shaped_bi b, shaped_bi (.n i), by rw [eqv_bi]; exact q⟩
theorem op_neBI (hu : X.A.units + 64 < cLine) : OpR X (compareOp .NotEq) rNeBI := by
  intro pins s σ H x y v u Q I rx ry h
  obtain ⟨b, i, rfl, rfl, q⟩ := h
  exact op_neD hu pins s σ H _ _ v u Q I rx ry ⟨b.dat, .int i, dp_bi b, .int i, shaped_bi b, shaped_bi (.n i), by rw [eqv_bi]; exact q⟩
end
end Vx
namespace Vx
open PySem PySem.Spec PyProof.Rows L2
/-! ### == of own objects by an own __eq__ that never raises -/
section
variable {X : Cx} {k j : Nat}
def rEqX (C : Addr) (n mm : Nat) (sp : Sp) (g : List V → List V → List V) : R2 := fun x y H Q => ∃ (a b dx dy : Addr) (fs gs : List (Str × V)), x = .ref a ∧ y = .ref b ∧ H a = some (.ins C dx fs) ∧ H b = some (.ins C dy gs) ∧ 2 = n ∧ 0 = mm ∧ sp (g [x, y] []) H (fun v H' => (∃ r, v = .bl r) ∧ Q v H') E0
theorem op_eqX {C : Addr} {sp : Sp} {pats : List Pat} (c : MetX X.prog X.w X.K X.mg X.base k C "__eq__" sp pats) (pt : Pat) (hpt : pt ∈ pats) (hr : RoomG j X.A) (hk : k ≤ j) (hks : pt.2.1 = [] := by rfl) : OpR X (compareOp .Eq) (rEqX C pt.1 pt.2.1.length sp pt.2.2) := by
  intro pins s σ H x y v u Q I rx ry hq
  obtain ⟨a, b, dx, dy, fs, gs, rfl, rfl, ha, hb', l1, l2, q⟩ := hq
  obtain ⟨f, fd, ps, hc, hm, F, bb⟩ := c.ex
  cases rx
  cases ry
  obtain ⟨mA, J, _⟩ := ins_get I.hok ha
  obtain ⟨mB, J', _⟩ := ins_get I.hok hb'
  obtain ⟨od, J, _⟩ := J.look
  obtain ⟨od', J', _⟩ := J'.look
  obtain ⟨m, hF⟩ := I.fr
  have hz := run_X (us := [.ref a, .ref b]) (vs := [.ref a, .ref b]) (ws := []) (zs := []) F (hr.low hk) (bb pt hpt) (takes0n (X := X)) I (.cons rfl (.cons rfl .nil)) .nil l1 l2 q
  rw [hks] at hz
  show wpAny (model X.prog X.w) X.A (richCompare .Eq (.ref a) (.ref b)) (EP X pins σ Q) X.xe s
  refine PySem.W.cmp_K (op := .Eq) (tb := .ref C) (hr.low hk).toRoom.units0 hF I.ok.mod.kin J J'.type (by simp [PySem.W.notFirst]) hm.at_ hm.fn ?_
  refine wpAny_mono hz (fun r s' z => ?_) fun _ _ e => e
  obtain ⟨w, H', I', rw', ⟨⟨q1, rfl⟩, q2⟩⟩ := z
  cases rw'
  exact ⟨V.bl q1, H', I', rfl, q2⟩
end
end Vx
namespace Vx
open PySem PySem.Spec PyProof.Rows L2
/-! ### isinstance of the exception in hand: a built-in class, a tuple of classes -/
theorem kit_blt {K : PySem.W.Frag} {D : Addr} {T : String} {b : Bool} (h : PySem.W.subIn K (.ref D) (.type T) = some b) (h0 : PySem.W.kitMeta T = true := by decide +kernel) : PySem.W.kitOne K (.ref D) (.type T) = some b := by
  unfold PySem.W.kitOne
  rw [if_neg (show ¬ (Value.ref D == Value.type T) = true from fun z => nomatch (show false = true from z))]
  show (if PySem.W.kitMeta T = true then PySem.W.subIn K (.ref D) (.type T) else none) = some b
  rw [if_pos h0, h]
def rIsXB (K : PySem.W.Frag) (a : Addr) (cls : Value) (d : Option Addr) : List V → Hp → VK → Prop := fun xs H Q => ∃ (D : Addr) (T : String) (b : Bool), cls = .ref D ∧ d = none ∧ ExcC K D ∧ xs = [.ref a, .ty T] ∧ PySem.W.kitOne K (.ref D) (.type T) = some b ∧ Q (.bl b) H
theorem call_isXB {X : Cx} {K : PySem.W.Frag} {a : Addr} {cls : Value} {d : Option Addr} {oe : Obj} {pn : List (Addr × Obj)} (hz : Zc cls d oe) (hf : ∃ vs, oe.data = .fields vs) (hK : X.K = K := by rfl) : CallR (X.suite a ((a, oe) :: pn)) (.builtin "isinstance") (rIsXB K a cls d) := by
  subst hK
  intro pins s σ H xs us Q I r h
  obtain ⟨D, T, b, rfl, rfl, c, rfl, e, q⟩ := h
  exact call_isE c hz hf pins s σ H _ us Q I r ⟨_, _, b, rfl, fun u z => z, e, q⟩
def rIsXT (K : PySem.W.Frag) (a : Addr) (cls : Value) (d : Option Addr) : List V → Hp → VK → Prop := fun xs H Q => ∃ (D tp : Addr) (cs : List V) (ws : List Value) (b : Bool), cls = .ref D ∧ d = none ∧ ExcC K D ∧ xs = [.ref a, .ref tp] ∧ H tp = some (.tup cs) ∧ Paired ClsV cs ws ∧ PySem.W.kitAny K (.ref D) ws = some b ∧ Q (.bl b) H
theorem call_isXT {X : Cx} {K : PySem.W.Frag} {a : Addr} {cls : Value} {d : Option Addr} {oe : Obj} {pn : List (Addr × Obj)} (hz : Zc cls d oe) (hf : ∃ vs, oe.data = .fields vs) (hK : X.K = K := by rfl) : CallR (X.suite a ((a, oe) :: pn)) (.builtin "isinstance") (rIsXT K a cls d) := by
  subst hK
  intro pins s σ H xs us Q I r h
  obtain ⟨D, tp, cs, ws, b, rfl, rfl, C, rfl, hT, k, e, q⟩ := h
  cases r with
  | cons rx rr =>
    cases rr with
    | cons rt rr =>
      cases rr
      cases rx
      cases rt
      obtain ⟨hget, _⟩ := I.pin (a, oe) (List.mem_append.mpr (.inl List.mem_cons_self))
      obtain ⟨vs, hv⟩ := hf
      have J : PySem.W.InstAt s.heap a oe D none := by
        obtain ⟨oc, od, oda, osl⟩ := oe
        obtain ⟨h1, h2⟩ := hz
        dsimp only at h1 h2 hv
        subst h1 h2 hv
        exact ⟨hget, rfl, rfl, trivial⟩
      obtain ⟨_, its, rv, o, h1, h2, n, h3⟩ := (show ObjOk X.prog X.w H s.heap tp (.tup cs) from I.hok tp _ hT)
      have e3 := ClsV.all k rv
      subst e3
      obtain ⟨oc, od, dt, sl⟩ := o
      simp only at h2 h3
      subst h2 h3
      exact PySem.W.kia_tup (PySem.W.handS_kitx_exc C.hg C.hk C.hs C.hd C.ha C.hn C.ht C.hm) I.kIn J h1 e (fun z => nomatch z) fun tk => ⟨.bl b, H, I.kept (t' := tk) fun _ _ z => z, rfl, q⟩
theorem kit_self {K : PySem.W.Frag} {t : Value} (h : (t == t) = true := by simp) : PySem.W.kitOne K t t = some true := by
  unfold PySem.W.kitOne
  rw [if_pos h]
/-- what a class must say, so that isinstance asks its objects rightly -/
structure IsiC (K : PySem.W.Frag) (C : Addr) : Prop where
  ha : PySem.W.findIn K (.ref C) "__class__" = some (some (.builtin "object.__class__"))
  hn : PySem.W.specialIn K (.builtin "object.__class__") "__get__" = some (some (.builtin "getset_descriptor.__get__"))
  ht : PySem.W.takesIn K (.builtin "object.__class__") = some true
  hm : PySem.W.mroIn K C (.type "object") = some true
theorem tyX_ins {K : PySem.W.Frag} {H : Hp} {a C dx : Addr} {fs : List (Str × V)} (e : H a = some (.ins C dx fs)) (cl : Cls K C) (c : IsiC K C) : TyX K H (.ref a) (.ref C) := .base (.ins e cl c.ha c.hn c.ht c.hm)
end Vx
namespace Vx
open PySem PySem.Spec PyProof.Rows L2
theorem op_notTrue {X : Cx} : OpR X (compareOp .IsNot) (fun x y H Q => ∃ b : Bool, x = .bl b ∧ y = .bl true ∧ Q (.bl (!b)) H) := by
  intro pins s σ H x y v u Q I rx ry h
  obtain ⟨b, rfl, rfl, q⟩ := h
  cases rx
  cases ry
  show wpAny (model X.prog X.w) X.A (compareOp .IsNot (.bool b) (.bool true)) (EP X pins σ Q) X.xe s
  have e : compareOp .IsNot (.bool b) (.bool true) = pure (.bool (!b)) := by cases b <;> rfl
  rw [e]
  exact wpAny_pure ⟨.bl (!b), H, I, rfl, q⟩
end Vx
/-! # lists stored into trees -/
namespace Vx
open PySem PySem.Spec PyProof.Rows L2
section
variable {G H I : Hp} {α : Type} {f : α → Dt} {L : List Addr} {vs : List V} {xs : List α}
theorem OwAll.set {L1 : List Addr} {v : V} {d : Dt} (h : Ow G H L1 v d) : ∀ {L : List Addr} {vs : List V} {ds : List Dt} (i : Nat), i < ds.length → OwAll G H L vs ds → (∀ b ∈ L1, b ∉ L) → ∃ L', (∀ b ∈ L', b ∈ L ++ L1) ∧ OwAll G H L' (vs.set i v) (ds.set i d)
  | _, _, _, _, hi, .nil, _ => absurd hi (Nat.not_lt_zero _)
  | _, _, _, 0, _, .cons (L1 := La) (L2 := Lb) a r n, nf => by
    refine ⟨L1 ++ Lb, fun b hb => ?_, .cons h r fun b hb q => nf b hb (List.mem_append_right _ q)⟩
    rcases List.mem_append.mp hb with q | q
    · exact List.mem_append_right _ q
    · exact List.mem_append_left _ (List.mem_append_right _ q)
  | _, _, _, i + 1, hi, .cons (L1 := La) (L2 := Lb) a r n, nf => by
    obtain ⟨L', s, w⟩ := OwAll.set h i (Nat.lt_of_succ_lt_succ hi) r fun b hb q => nf b hb (List.mem_append_right _ q)
    refine ⟨La ++ L', fun b hb => ?_, .cons a w fun b hb q => ?_⟩
    · rcases List.mem_append.mp hb with q | q
      · exact List.mem_append_left _ (List.mem_append_left _ q)
      · rcases List.mem_append.mp (s b q) with z | z
        · exact List.mem_append_left _ (List.mem_append_right _ z)
        · exact List.mem_append_right _ z
    · rcases List.mem_append.mp (s b q) with z | z
      · exact n b hb z
      · exact nf b z (List.mem_append_left _ hb)
theorem ixN_len {k : Int} (e : vs.length = xs.length) (h : -(xs.length : Int) ≤ k ∧ k < xs.length) : ixN vs.length k = some ((ixN vs.length k).getD 0) := by
  rw [e]
  obtain ⟨j, hj, _⟩ := ixN_some h
  rw [hj]
  rfl
theorem OwAll.setM {k : Int} {L1 : List Addr} {v : V} {y : α} (w : OwAll G H L vs (xs.map f)) (h : -(xs.length : Int) ≤ k ∧ k < xs.length) (ow : Ow G H L1 v (f y)) (n : ∀ b ∈ L1, b ∉ L) :
    ∃ L', (∀ b ∈ L', b ∈ L ++ L1) ∧ OwAll G H L' (vs.set ((ixN vs.length k).getD 0) v) ((setL xs k y).map f) := by
  obtain ⟨j, e, hj⟩ := ixN_some h
  obtain ⟨L', s, z⟩ := OwAll.set ow j (by simpa using hj) w n
  refine ⟨L', s, ?_⟩
  unfold setL
  rw [w.lenM, e, List.map_set]
  exact z
end
theorem ne_of_len {α : Type} {xs : List α} (h : 1 ≤ xs.length ∧ xs.length ≤ 1000000) : xs ≠ [] := by
  rintro rfl
  simp at h
end Vx
namespace Vx
open PySem PySem.Spec PyProof.Rows L2
/-! ### written dicts of ints -/
inductive EI : List (Int × Int) → List DictEntry → Prop
  | nil : EI [] []
  | cons {k v : Int} {t u : Tok} {r : List (Int × Int)} {es : List DictEntry} (h : EI r es) : EI ((k, v) :: r) (⟨hashInt k, .int k t, .int v u⟩ :: es)
def lookI : List (Int × Int) → Int → Option Int
  | [], _ => none
  | (k, v) :: r, i => if i = k then some v else lookI r i
def KDI (K : PySem.W.Frag) (a : Addr) (kvs : List (Int × Int)) : Prop :=
  ∃ es n, K.lookup a = some ⟨.type "dict", none, .dict es n, #[]⟩ ∧ (a == sysModules) = false ∧ EI kvs es.toList
theorem lookI_mem {kvs : List (Int × Int)} {i : Int} : (lookI kvs i).isSome = decide (i ∈ kvs.map (·.1)) := by
  induction kvs with
  | nil => rfl
  | cons p r ih =>
    obtain ⟨k, v⟩ := p
    unfold lookI
    by_cases q : i = k
    · rw [if_pos q]; simp [q]
    · rw [if_neg q, ih]; simp [q]
theorem EI.find {i : Int} : ∀ {kvs : List (Int × Int)} {es : List DictEntry}, EI kvs es → match lookI kvs i with
    | some v => ∃ u, (es.find? fun e => keyIs (.inl i) e.key).map (·.val) = some (.int v u)
    | none => (es.find? fun e => keyIs (.inl i) e.key).map (·.val) = none
  | _, _, .nil => rfl
  | _, _, .cons (k := k) (v := v) (t := t) (u := u) (r := r) (es := es) h => by
    have ih := EI.find (i := i) h
    unfold lookI
    by_cases q : i = k
    · subst q
      rw [if_pos rfl]
      refine ⟨u, ?_⟩
      rw [List.find?_cons_of_pos (by exact keyIs_int i t)]
      rfl
    · rw [if_neg q]
      have e : ¬ (keyIs (.inl i) (Value.int k t) = true) := by
        intro z
        obtain ⟨t', e'⟩ := Value.isInt_shape (k := i) (v := Value.int k t) z
        injection e' with e1 _
        exact q e1.symm
      rw [List.find?_cons_of_neg (by exact e)]
      exact ih
theorem EI.keys {P : Program} {w : World} : ∀ {kvs : List (Int × Int)} {es : List DictEntry}, EI kvs es → ∀ e ∈ es, ∃ k, (mixKind P w).is k e.key = true ∧ e.hash = (mixKind P w).hash k
  | _, _, .nil, e, he => nomatch he
  | _, _, .cons (k := k) (t := t) h, e, he => by
    rcases List.mem_cons.mp he with rfl | he
    · exact ⟨.inl k, keyIs_int k t, rfl⟩
    · exact EI.keys h e he
section
variable {X : Cx} {K : PySem.W.Frag}
theorem KDI.map {d : Addr} {kvs : List (Int × Int)} {pins : List (Addr × Obj)} {σ : L2.St} {H : Hp} {s : Shared} (D : KDI X.K d kvs) (I : Inv X pins σ H s) : (d == sysModules) = false ∧ ∃ f, s.heap.MapOf (mixKind X.prog X.w) d f ∧ ∀ i, match lookI kvs i with
    | some v => ∃ u, f (.inl i) = some (.int v u)
    | none => f (.inl i) = none := by
  obtain ⟨es, n, hl, hd, he⟩ := D
  refine ⟨hd, fun k => findBy keyIs es k, ⟨_, es, n, I.kIn _ _ hl, ⟨rfl, rfl, rfl⟩, rfl, fun e q => EI.keys he e (Array.mem_toList_iff.mpr q), fun _ => rfl⟩, fun i => ?_⟩
  have := EI.find (i := i) he
  have e : findBy keyIs es (.inl i) = (es.toList.find? fun e => keyIs (.inl i) e.key).map (·.val) := by
    obtain ⟨l⟩ := es
    unfold findBy
    rw [List.find?_toArray]
  show match lookI kvs i with
    | some v => ∃ u, findBy keyIs es (.inl i) = some (.int v u)
    | none => findBy keyIs es (.inl i) = none
  rw [e]
  exact this
def rInDI (K : PySem.W.Frag) : R2 := fun x y H Q => ∃ (i : Int) (d : Addr) (kvs : List (Int × Int)) (ks : List Int), x = .int i ∧ y = .ref d ∧ KDI K d kvs ∧ ks = kvs.map (·.1) ∧ Q (.bl (decide (i ∈ ks))) H
def rNotInDI (K : PySem.W.Frag) : R2 := fun x y H Q => ∃ (i : Int) (d : Addr) (kvs : List (Int × Int)) (ks : List Int), x = .int i ∧ y = .ref d ∧ KDI K d kvs ∧ ks = kvs.map (·.1) ∧ Q (.bl (!decide (i ∈ ks))) H
def rIxDI (K : PySem.W.Frag) : R2 := fun x y H Q => ∃ (d : Addr) (i v : Int) (kvs : List (Int × Int)), x = .ref d ∧ y = .int i ∧ KDI K d kvs ∧ lookI kvs i = some v ∧ Q (.int v) H
theorem op_inDI (hK : X.K = K := by rfl) : OpR X (compareOp .In) (rInDI K) := by
  subst hK
  intro pins s σ H x y v u Q I rx ry h
  obtain ⟨i, d, kvs, ks, rfl, rfl, D, rfl, q⟩ := h
  rw [← lookI_mem] at q
  obtain ⟨t, rfl⟩ := rx
  cases ry
  obtain ⟨hd, f, hm, hf⟩ := D.map I
  refine wpAny_in_of (knd := mixKind X.prog X.w) (kV_is (k := .inl i) ⟨t, rfl⟩) hd hm ?_
  have e : (f (.inl i)).isSome = (lookI kvs i).isSome := by
    have := hf i
    split at this
    · next v hv => obtain ⟨u, hu⟩ := this; rw [hu, hv]; rfl
    · next hv => rw [this, hv]; rfl
  rw [e]
  exact ⟨.bl (lookI kvs i).isSome, H, I.tok _, rfl, q⟩
theorem op_notInDI (hK : X.K = K := by rfl) : OpR X (compareOp .NotIn) (rNotInDI K) := by
  subst hK
  intro pins s σ H x y v u Q I rx ry h
  obtain ⟨i, d, kvs, ks, rfl, rfl, D, rfl, q⟩ := h
  rw [← lookI_mem] at q
  obtain ⟨t, rfl⟩ := rx
  cases ry
  obtain ⟨hd, f, hm, hf⟩ := D.map I
  refine wpAny_notIn_of (knd := mixKind X.prog X.w) (kV_is (k := .inl i) ⟨t, rfl⟩) hd hm ?_
  have e : (f (.inl i)).isSome = (lookI kvs i).isSome := by
    have := hf i
    split at this
    · next v hv => obtain ⟨u, hu⟩ := this; rw [hu, hv]; rfl
    · next hv => rw [this, hv]; rfl
  rw [e]
  exact ⟨.bl (!(lookI kvs i).isSome), H, I.tok _, rfl, q⟩
theorem ix_DI (hK : X.K = K := by rfl) : IxR X (rIxDI K) := by
  subst hK
  intro value slice pins s σ H x y v u Q I rx ry h hs
  obtain ⟨p, i, r, kvs, rfl, rfl, D, e, q⟩ := h
  obtain rfl : v = Value.ref p := rx
  obtain ⟨t, rfl⟩ := ry
  obtain ⟨hd, f, hm, hf⟩ := D.map I
  have := hf i
  rw [e] at this
  obtain ⟨u, hu⟩ := this
  exact tail_any hm.typeIs slot_dict_getitem.lookup (wpAny_getItem_of (knd := mixKind X.prog X.w) (kV_is (k := .inl i) ⟨t, rfl⟩) hm hu ⟨.int r, H, I.tok _, ⟨_, rfl⟩, q⟩) hs
end
/-- the value at a key that is there -/
def dictI (kvs : List (Int × Int)) (i : Int) : Int := (lookI kvs i).getD 0
theorem lookI_at {kvs : List (Int × Int)} {i : Int} (h : i ∈ kvs.map (·.1)) : lookI kvs i = some (dictI kvs i) := by
  have := lookI_mem (kvs := kvs) (i := i)
  rw [decide_eq_true h] at this
  unfold dictI
  cases e : lookI kvs i with
  | none => rw [e] at this; cases this
  | some v => rfl
/-! ### walks over two lists, over numbered items, backwards -/
theorem pi_enumK {X : Cx} {K : PySem.W.Frag} {e : Expr} {ta : TA} {p pos tpos : Pos} {elts : List Expr} {kk : Nat} (hg : Gl X "enumerate") (hm : X.mg "enumerate" = none) (ha : PA X [e] ta) (hK : X.K = K := by rfl) (hs : starEach [e] X.env = [(false, eval e X.env)] := by rfl) :
    PI X (.Tuple elts kk tpos) (.Call (.Name "enumerate" p) [e] [] pos) (iEnum K ta) := hK ▸ pi_enum hg hm ha hs
section
variable {K : PySem.W.Frag} {a b : Addr} {xs ys : List V} {g : TG} {tb : TS} {tt : TT} {te : TE} {D : Ends} {σ : L2.St} {H H1 : Hp} {vs : List Nat} {DD : Addr} {Qd : Hp → Prop}
theorem for_enum (Pv : Nat → L2.St → Hp → Prop) (h0 : Pv 0 σ H) (hq : ∀ i σ H, Pv i σ H → SqL K H a xs)
    (hs : ∀ (i : Nat) (y : V) (T : Addr) (σ : L2.St) (H : Hp), xs[i]? = some y → H T = none → Pv i σ H → g (.ref T) σ (upd H T (.tup [.int (i : Nat), y])) fun σ2 H2 => tb { D with nx := Pv (i + 1), ct := Pv (i + 1), bk := D.nx } σ2 H2) (hd : ∀ σ H, Pv xs.length σ H → D.nx σ H) :
    ∃ W : Nat → Nat → L2.St → Hp → Prop, (∃ m, W 0 m σ H) ∧ ∀ i m σ H, W i m σ H →
      ((Ite K a).stop i H ∧ D.nx σ H) ∨ ((Ite K a).go i H ∧ ∃ N : L2.St → Hp → Prop, (∀ σ' H', N σ' H' → ∃ m', m' < m ∧ W (i + 1) m' σ' H') ∧ ∀ v H', (Ite K a).yld i H v H' → g v σ H' fun σ2 H2 => tb { D with nx := N, ct := N, bk := D.nx } σ2 H2) := by
  refine for_it walk_enum Pv h0 (fun i σ H _ p => hq i σ H p) (fun i x σ H H' hi p y => ?_) hd
  obtain ⟨T, x1, y1, rfl, hT, rfl, h1, h2⟩ := y
  cases h1
  exact hs i y1 T σ H h2 hT p
theorem lc_enum (Pv : Nat → Hp → Prop) (h0 : Pv 0 (upd H1 DD (.lst []))) (hq : ∀ i H, i ≤ xs.length → Pv i H → SqL K H a xs)
    (hs : ∀ (i : Nat) (y : V) (T : Addr) (H : Hp), xs[i]? = some y → H T = none → Pv i H → g (.ref T) (wipe σ vs) (upd H T (.tup [.int (i : Nat), y])) fun σ2 H2 => wipe σ2 vs = wipe σ vs ∧ tt σ2 H2 fun b H3 =>
      if b = true then te σ2 H3 fun y H4 => ∃ acc, H4 DD = some (.lst acc) ∧ acc.length < sizeLine ∧ Pv (i + 1) (upd H4 DD (.lst (acc ++ [y]))) else Pv (i + 1) H3) (hd : ∀ H, Pv xs.length H → Qd H) :
    ∃ W : Nat → Nat → Hp → Prop, (∃ m, W 0 m (upd H1 DD (.lst []))) ∧ ∀ i m H, W i m H →
      ((Ite K a).stop i H ∧ Qd H) ∨ ((Ite K a).go i H ∧ ∃ Nx : Hp → Prop, (∀ H', Nx H' → ∃ m', m' < m ∧ W (i + 1) m' H') ∧ ∀ x H', (Ite K a).yld i H x H' → g x (wipe σ vs) H' fun σ2 H2 => wipe σ2 vs = wipe σ vs ∧ tt σ2 H2 fun b H3 =>
        if b = true then te σ2 H3 fun y H4 => ∃ acc, H4 DD = some (.lst acc) ∧ acc.length < sizeLine ∧ Nx (upd H4 DD (.lst (acc ++ [y]))) else Nx H3) := by
  refine lc_it walk_enum Pv h0 hq (fun i x H H' hi p y => ?_) hd
  obtain ⟨T, x1, y1, rfl, hT, rfl, h1, h2⟩ := y
  cases h1
  exact hs i y1 T H h2 hT p
/-- zip of two lists of any lengths -/
theorem for_zipM (n : Nat) (hn : n = min xs.length ys.length) (Pv : Nat → L2.St → Hp → Prop) (h0 : Pv 0 σ H) (hq : ∀ i σ H, Pv i σ H → SqL K H a xs ∧ SqL K H b ys)
    (hs : ∀ (i : Nat) (x y : V) (T : Addr) (σ : L2.St) (H : Hp), xs[i]? = some x → ys[i]? = some y → H T = none → Pv i σ H → g (.ref T) σ (upd H T (.tup [x, y])) fun σ2 H2 => tb { D with nx := Pv (i + 1), ct := Pv (i + 1), bk := D.nx } σ2 H2) (hd : ∀ σ H, Pv n σ H → D.nx σ H) :
    ∃ W : Nat → Nat → L2.St → Hp → Prop, (∃ m, W 0 m σ H) ∧ ∀ i m σ H, W i m σ H →
      ((Itz K a b).stop i H ∧ D.nx σ H) ∨ ((Itz K a b).go i H ∧ ∃ N : L2.St → Hp → Prop, (∀ σ' H', N σ' H' → ∃ m', m' < m ∧ W (i + 1) m' σ' H') ∧ ∀ v H', (Itz K a b).yld i H v H' → g v σ H' fun σ2 H2 => tb { D with nx := N, ct := N, bk := D.nx } σ2 H2) := by
  refine for_it (walk_zip hn) Pv h0 (fun i σ H _ p => hq i σ H p) (fun i x σ H H' hi p y => ?_) hd
  obtain ⟨T, x1, y1, rfl, hT, rfl, h1, h2⟩ := y
  exact hs i x1 y1 T σ H h1 h2 hT p
theorem lc_zipM (n : Nat) (hn : n = min xs.length ys.length) (Pv : Nat → Hp → Prop) (h0 : Pv 0 (upd H1 DD (.lst []))) (hq : ∀ i H, i ≤ n → Pv i H → SqL K H a xs ∧ SqL K H b ys)
    (hs : ∀ (i : Nat) (x y : V) (T : Addr) (H : Hp), xs[i]? = some x → ys[i]? = some y → H T = none → Pv i H → g (.ref T) (wipe σ vs) (upd H T (.tup [x, y])) fun σ2 H2 => wipe σ2 vs = wipe σ vs ∧ tt σ2 H2 fun b H3 =>
      if b = true then te σ2 H3 fun y H4 => ∃ acc, H4 DD = some (.lst acc) ∧ acc.length < sizeLine ∧ Pv (i + 1) (upd H4 DD (.lst (acc ++ [y]))) else Pv (i + 1) H3) (hd : ∀ H, Pv n H → Qd H) :
    ∃ W : Nat → Nat → Hp → Prop, (∃ m, W 0 m (upd H1 DD (.lst []))) ∧ ∀ i m H, W i m H →
      ((Itz K a b).stop i H ∧ Qd H) ∨ ((Itz K a b).go i H ∧ ∃ Nx : Hp → Prop, (∀ H', Nx H' → ∃ m', m' < m ∧ W (i + 1) m' H') ∧ ∀ x H', (Itz K a b).yld i H x H' → g x (wipe σ vs) H' fun σ2 H2 => wipe σ2 vs = wipe σ vs ∧ tt σ2 H2 fun b H3 =>
        if b = true then te σ2 H3 fun y H4 => ∃ acc, H4 DD = some (.lst acc) ∧ acc.length < sizeLine ∧ Nx (upd H4 DD (.lst (acc ++ [y]))) else Nx H3) := by
  refine lc_it (walk_zip hn) Pv h0 hq (fun i x H H' hi p y => ?_) hd
  obtain ⟨T, x1, y1, rfl, hT, rfl, h1, h2⟩ := y
  exact hs i x1 y1 T H h1 h2 hT p
end
theorem zipM_len {α β : Type} {xs : List α} {ys : List β} : min xs.length ys.length = (xs.zip ys).length := by rw [List.length_zip]
theorem zipM_n {α β : Type} {vs ws : List V} {xs : List α} {ys : List β} (a : vs.length = xs.length) (b : ws.length = ys.length) : min xs.length ys.length = min vs.length ws.length := by rw [a, b]
def rListTK (K : PySem.W.Frag) : List V → Hp → VK → Prop := fun xs H Q => ∃ (p : Addr) (vs : List V), xs = [.ref p] ∧ SqT K H p vs ∧ ∀ l, H l = none → Q (.ref l) (upd H l (.lst vs))
theorem call_listTK {X : Cx} {K : PySem.W.Frag} (hK : X.K = K := by rfl) : CallR X (.type "list") (rListTK K) := by
  subst hK
  intro pins s σ H xs us Q I r h
  obtain ⟨p, vs, rfl, hs, q⟩ := h
  exact call_list_of pins s σ H _ us Q I r ⟨p, _, rfl, Or.inr hs, q⟩
/-- two lists that keep step -/
inductive F2 {α β : Type} (P : α → β → Prop) : List α → List β → Prop
  | nil : F2 P [] []
  | cons {a : α} {b : β} {l : List α} {m : List β} (h : P a b) (t : F2 P l m) : F2 P (a :: l) (b :: m)
theorem F2.get {α β : Type} {P : α → β → Prop} : ∀ {l : List α} {m : List β}, F2 P l m → ∀ (j : Nat), j < l.length → ∃ a b, l[j]? = some a ∧ m[j]? = some b ∧ P a b
  | _, _, .nil, j, h => absurd h (Nat.not_lt_zero _)
  | _, _, .cons h t, 0, _ => ⟨_, _, rfl, rfl, h⟩
  | _, _, .cons h t, j + 1, hj => t.get j (Nat.lt_of_succ_lt_succ hj)
theorem F2.at {α β : Type} [Inhabited α] [Inhabited β] {P : α → β → Prop} {l : List α} {m : List β} (h : F2 P l m) (k : Int) (h0 : 0 ≤ k) (h1 : k < l.length) : P (itD l k) (itD m k) := by
  obtain ⟨j, rfl⟩ : ∃ j : Nat, k = (j : Int) := ⟨k.toNat, by omega⟩
  obtain ⟨a, b, ha, hb, p⟩ := h.get j (by omega)
  have e1 : itD l (j : Int) = a := by unfold itD; rw [atI_nat ha]; rfl
  have e2 : itD m (j : Int) = b := by unfold itD; rw [atI_nat hb]; rfl
  rw [e1, e2]
  exact p
theorem SqT.cast {K : PySem.W.Frag} {H : Hp} {a : Addr} {xs ys : List V} (h : SqT K H a xs) (e : xs = ys) : SqT K H a ys := e ▸ h
/-- enumerate(xs) -/
def enumL {α : Type} (xs : List α) : List (Int × α) := (rng 0 xs.length).zip xs
theorem enumL_len {α : Type} (xs : List α) : (enumL xs).length = xs.length := by
  unfold enumL
  rw [List.length_zip, rng_len, Nat.min_self]
theorem enumL_get {α : Type} {xs : List α} {i : Nat} {x : α} (h : xs[i]? = some x) : (enumL xs)[i]? = some ((i : Int), x) := by
  have hl : i < xs.length := (List.getElem?_eq_some_iff.mp h).1
  unfold enumL
  rw [List.getElem?_zip_eq_some]
  refine ⟨?_, h⟩
  have := rng_get (lo := 0) hl
  rw [this]
  congr 1
  omega
end Vx
namespace Vx
open PySem PySem.Spec PyProof.Rows L2
theorem wipe_get : ∀ (σ : L2.St) (vs : List Nat) (j : Nat), (wipe σ vs)[j]? = if j ∈ vs ∧ j < σ.length then some none else σ[j]?
  | σ, [], j => by simp [wipe]
  | σ, v :: vs, j => by
    unfold wipe
    by_cases e : v = j
    · subst e
      by_cases h : v < σ.length
      · rw [List.getElem?_set_self (by rw [wipe_length]; exact h), if_pos ⟨List.mem_cons_self, h⟩]
      · rw [if_neg (fun z => h z.2), List.getElem?_eq_none (by rw [List.length_set, wipe_length]; omega), List.getElem?_eq_none (by omega)]
    · rw [List.getElem?_set_ne e, wipe_get σ vs j]
      have : (j ∈ v :: vs ∧ j < σ.length) ↔ (j ∈ vs ∧ j < σ.length) := by
        constructor
        · rintro ⟨h1, h2⟩
          rcases List.mem_cons.mp h1 with rfl | h1
          · exact absurd rfl e
          · exact ⟨h1, h2⟩
        · rintro ⟨h1, h2⟩
          exact ⟨List.mem_cons_of_mem _ h1, h2⟩
      by_cases q : j ∈ vs ∧ j < σ.length
      · rw [if_pos q, if_pos (this.mpr q)]
      · rw [if_neg q, if_neg (fun z => q (this.mp z))]
theorem wipe_wipe {σ : L2.St} {vs : List Nat} : wipe (wipe σ vs) vs = wipe σ vs := by
  apply List.ext_getElem?
  intro j
  rw [wipe_get (wipe σ vs), wipe_length]
  by_cases q : j ∈ vs ∧ j < σ.length
  · rw [if_pos q, wipe_get, if_pos q]
  · rw [if_neg q]
theorem wipe_set {σ : L2.St} {vs : List Nat} {v : Nat} {x : Option V} (h : v ∈ vs) : wipe (σ.set v x) vs = wipe σ vs := by
  apply List.ext_getElem?
  intro j
  rw [wipe_get, wipe_get, List.length_set]
  by_cases q : j ∈ vs ∧ j < σ.length
  · rw [if_pos q, if_pos q]
  · rw [if_neg q, if_neg q]
    by_cases e : v = j
    · subst e
      have hl : ¬ v < σ.length := fun z => q ⟨h, z⟩
      rw [List.getElem?_eq_none (by rw [List.length_set]; omega), List.getElem?_eq_none (by omega)]
    · rw [List.getElem?_set_ne e]
/-- a comprehension over a step range -/
theorem lc_rangeC {lo c : Int} {n : Nat} {g : TG} {tt : TT} {te : TE} {vs : List Nat} {σ : L2.St} {H1 : Hp} {D : Addr} {Qd : Hp → Prop} (Pv : Nat → Hp → Prop) (h0 : Pv 0 (upd H1 D (.lst [])))
    (hs : ∀ i H, i < n → Pv i H → g (.int (lo + (i : Nat) * c)) (wipe σ vs) H fun σ2 H2 => wipe σ2 vs = wipe σ vs ∧ tt σ2 H2 fun b H3 =>
      if b = true then te σ2 H3 fun y H4 => ∃ acc, H4 D = some (.lst acc) ∧ acc.length < sizeLine ∧ Pv (i + 1) (upd H4 D (.lst (acc ++ [y]))) else Pv (i + 1) H3) (hd : ∀ H, Pv n H → Qd H) :
    ∃ W : Nat → Nat → Hp → Prop, (∃ m, W 0 m (upd H1 D (.lst []))) ∧ ∀ i m H, W i m H →
      ((Itc lo c n).stop i H ∧ Qd H) ∨ ((Itc lo c n).go i H ∧ ∃ Nx : Hp → Prop, (∀ H', Nx H' → ∃ m', m' < m ∧ W (i + 1) m' H') ∧ ∀ x H', (Itc lo c n).yld i H x H' → g x (wipe σ vs) H' fun σ2 H2 => wipe σ2 vs = wipe σ vs ∧ tt σ2 H2 fun b H3 =>
        if b = true then te σ2 H3 fun y H4 => ∃ acc, H4 D = some (.lst acc) ∧ acc.length < sizeLine ∧ Nx (upd H4 D (.lst (acc ++ [y]))) else Nx H3) := by
  refine ⟨fun i m H => m = n - i ∧ i ≤ n ∧ Pv i H, ⟨n, by simp, Nat.zero_le _, h0⟩, ?_⟩
  rintro i m H ⟨rfl, hi, p⟩
  rcases Nat.lt_or_ge i n with hlt | hge
  · refine .inr ⟨hlt, Pv (i + 1), fun H' p' => ⟨n - (i + 1), by omega, rfl, hlt, p'⟩, fun x H' y => ?_⟩
    obtain ⟨e, y⟩ := y
    subst e y
    exact hs i _ hlt p
  · cases Nat.le_antisymm hi hge
    exact .inl ⟨Nat.le_refl _, hd H p⟩

/-! ### reversed(list of ints), any(list of ints) -/
theorem pi_revK {X : Cx} {K : PySem.W.Frag} {tg : Expr} {e : Expr} {ta : TA} {p pos : Pos} (hg : Gl X "reversed") (hm : X.mg "reversed" = none) (ha : PA X [e] ta) (hK : X.K = K := by rfl) (hs : starEach [e] X.env = [(false, eval e X.env)] := by rfl) :
    PI X tg (.Call (.Name "reversed" p) [e] [] pos) (iRev K ta) := hK ▸ pi_reversed hg hm ha hs
theorem for_revI {K : PySem.W.Frag} {a : Addr} {xs : List Int} {g : TG} {tb : TS} {D : Ends} {σ : L2.St} {H : Hp} (Pv : Nat → L2.St → Hp → Prop) (h0 : Pv 0 σ H) (hl : ∀ i σ H, i ≤ (xs.reverse.map V.int).length → Pv i σ H → SqL K H a (xs.map V.int))
    (hs : ∀ i x σ H, (xs.reverse.map V.int)[i]? = some x → Pv i σ H → g x σ H fun σ2 H2 => tb { D with nx := Pv (i + 1), ct := Pv (i + 1), bk := D.nx } σ2 H2) (hd : ∀ σ H, Pv (xs.reverse.map V.int).length σ H → D.nx σ H) :
    ∃ W : Nat → Nat → L2.St → Hp → Prop, (∃ m, W 0 m σ H) ∧ ∀ i m σ H, W i m σ H →
      ((Itv K a (xs.map V.int).length).stop i H ∧ D.nx σ H) ∨ ((Itv K a (xs.map V.int).length).go i H ∧ ∃ N : L2.St → Hp → Prop, (∀ σ' H', N σ' H' → ∃ m', m' < m ∧ W (i + 1) m' σ' H') ∧ ∀ x H', (Itv K a (xs.map V.int).length).yld i H x H' → g x σ H' fun σ2 H2 => tb { D with nx := N, ct := N, bk := D.nx } σ2 H2) := by
  have en : (xs.reverse.map V.int).length = (xs.map V.int).length := by rw [List.length_map, List.length_map, List.length_reverse]
  rw [en] at hl hd
  refine for_it walk_rev Pv h0 hl (fun i x σ H H' hi p y => ?_) hd
  obtain ⟨rfl, hx⟩ := y
  refine hs i x σ _ ?_ p
  rw [List.map_reverse, List.getElem?_reverse hi]
  exact hx
theorem ints_get : ∀ {ns : List Int} {us : List Value} {i : Nat} {v : Value}, IntsAre us ns → us[i]? = some v → ∃ t, v = .int (ns.getD i 0) t := by
  intro ns us i v h
  induction h generalizing i with
  | nil => intro z; simp at z
  | cons n t _ ih =>
    intro z
    cases i with
    | zero => simp at z; exact ⟨t, by rw [← z]; rfl⟩
    | succ i => exact ih (by simpa using z)
theorem any_rangeI : ∀ ns : List Int, (List.range ns.length).any (fun i => ns.getD i 0 != 0) = ns.any (fun x => x != 0)
  | [] => rfl
  | b :: bs => by
    rw [List.length_cons, List.range_succ_eq_map, List.any_cons, List.any_map, List.any_cons, ← any_rangeI bs]
    all_goals rfl
theorem ints_len : ∀ {ns : List Int} {us : List Value}, IntsAre us ns → us.length = ns.length := by
  intro ns us h
  induction h with
  | nil => rfl
  | cons _ _ _ ih => simp [ih]
def rAnyI (K : PySem.W.Frag) : List V → Hp → VK → Prop := fun vs H Q => ∃ (a : Addr) (ns : List Int), vs = [V.ref a] ∧ SqL K H a (ns.map V.int) ∧ Q (.bl (ns.any fun x => x != 0)) H
theorem cr_anyI {X : Cx} (hc : X.calm = true) : CallR X (.builtin "any") (rAnyI X.K) := by
  intro pins s σ H vs us Q I r h
  obtain ⟨a, ns, rfl, hs, q⟩ := h
  obtain ⟨its, rv, hl, _⟩ := I.list hs
  rw [Vals.ref1 r]
  have hb := rv.ints
  refine call_any_walk (iter_any hl.isList fun s₂ e2 st hne => ?_)
  subst e2
  have ht : TruthOf X.prog X.w X.A.in1 (fun i v => its.toArray[i]? = some v) (fun i => ns.getD i 0 != 0) := fun i v s Q E hv hq => by
    obtain ⟨t, rfl⟩ := ints_get hb (by simpa using hv)
    exact PyProof.Rows.truthy_int hq
  refine ⟨_, _, _, _, _, _, _, rfl, Walks.list (A := X.A.in1) (I.ok.hd hc) _ a hne its.toArray, st, ht, fun h' tk hk => ?_⟩
  refine ⟨.bl _, H, I.kept fun b o eo => hk b o (fun hmem => ?_) (Heap.get?_push_of_some _ eo), ?_, q⟩
  · rcases List.mem_cons.mp hmem with e1 | hmem
    · exact absurd (e1 ▸ Heap.lt_size eo) (Nat.lt_irrefl _)
    · cases hmem
  · show Value.bool _ = Value.bool _
    rw [← any_rangeI, List.size_toArray, ints_len hb]
theorem cr_anyIK {X : Cx} {K : PySem.W.Frag} (hc : X.calm = true) (hK : X.K = K := by rfl) : CallR X (.builtin "any") (rAnyI K) := hK ▸ cr_anyI hc
/-- an item of a list of data stored anew -/
theorem RpAll.setM {α : Type} {f : α → PyData} {G : Hp} {vs : List V} {xs : List α} {k : Int} {v : V} {y : α} (d : RpAll G vs (xs.map f)) (r : Rp G v (f y)) : RpAll G (vs.set ((ixN vs.length k).getD 0) v) ((setL xs k y).map f) := by
  have e : vs.length = xs.length := by rw [d.len, List.length_map]
  unfold setL
  rw [List.map_set, e]
  exact RpAll.set r _ d
end Vx
/-! # fourth part: reckoning with functions that may refuse -/
namespace Vx
open PySem PySem.Spec PyProof.Rows L2
section
variable {α β σ ρ τ : Type}
theorem bind_ok (a : α) (f : α → Rx β) : (Rx.ok a).bind f = f a := rfl
theorem bind_er (e : Nat) (f : α → Rx β) : (Rx.er e : Rx α).bind f = .er e := rfl
theorem grd_pos {p : Prop} {dp : Decidable p} {m : Rx α} (h : p) : grd p m = m := if_pos h
theorem bnd_eq (a : α) (f : α → Rx β) : bnd a f = f a := rfl
theorem noEr_ok (a : α) : noEr (.ok a : Rx α) = .ok a := rfl
theorem tryR_ok {cs : List Nat} (a : α) (f : α → Rx β) (g : Nat → Rx β) : tryR (.ok a) cs f g = f a := rfl
theorem tryR_er {cs : List Nat} {e : Nat} (h : e ∈ cs) (f : α → Rx β) (g : Nat → Rx β) : tryR (.er e) cs f g = g e := if_pos h
theorem aft_go (s : σ) (kr : ρ → Rx τ) (k : σ → Rx τ) : (Lp.go s : Lp σ ρ).aft kr k = k s := rfl
theorem aft_rt (r : ρ) (kr : ρ → Rx τ) (k : σ → Rx τ) : (Lp.rt r : Lp σ ρ).aft kr k = kr r := rfl
/-- gives a value of which P holds -/
def Gv (m : Rx α) (P : α → Prop) : Prop := ∃ v, m = .ok v ∧ P v
theorem Gv.ok {a : α} {P : α → Prop} (h : P a) : Gv (.ok a) P := ⟨a, rfl, h⟩
theorem Gv.of_eq {m : Rx α} {a : α} {P : α → Prop} (e : m = .ok a) (h : P a) : Gv m P := ⟨a, e, h⟩
theorem Gv.bind {m : Rx α} {f : α → Rx β} {P : α → Prop} {Q : β → Prop} (h : Gv m P) (k : ∀ v, P v → Gv (f v) Q) : Gv (m.bind f) Q := by
  obtain ⟨v, rfl, p⟩ := h
  exact k v p
theorem Gv.bind_eq {m : Rx α} {f : α → Rx β} {a : α} {Q : β → Prop} (h : m = .ok a) (k : Gv (f a) Q) : Gv (m.bind f) Q := by
  subst h
  exact k
theorem Gv.grd {p : Prop} {dp : Decidable p} {m : Rx α} {Q : α → Prop} (h : p) (k : Gv m Q) : Gv (Vx.grd p m) Q := by
  rw [grd_pos h]
  exact k
theorem Gv.bnd {a : α} {f : α → Rx β} {Q : β → Prop} (k : ∀ x, x = a → Gv (f x) Q) : Gv (Vx.bnd a f) Q := k a rfl
theorem Gv.ite {p : Prop} {dp : Decidable p} {a b : Rx α} {Q : α → Prop} (h1 : p → Gv a Q) (h2 : ¬ p → Gv b Q) : Gv (if p then a else b) Q := by
  split
  · exact h1 ‹_›
  · exact h2 ‹_›
theorem Gv.pos {p : Prop} {dp : Decidable p} {a b : Rx α} {Q : α → Prop} (h : p) (k : Gv a Q) : Gv (if p then a else b) Q := by rwa [if_pos h]
theorem Gv.neg {p : Prop} {dp : Decidable p} {a b : Rx α} {Q : α → Prop} (h : ¬ p) (k : Gv b Q) : Gv (if p then a else b) Q := by rwa [if_neg h]
theorem Gv.imp {m : Rx α} {P Q : α → Prop} (h : Gv m P) (k : ∀ v, P v → Q v) : Gv m Q := by
  obtain ⟨v, e, p⟩ := h
  exact ⟨v, e, k v p⟩
theorem Gv.noEr {m : Rx α} {P : α → Prop} (h : Gv m P) : Gv (Vx.noEr m) P := by
  obtain ⟨v, rfl, p⟩ := h
  exact ⟨v, rfl, p⟩
theorem Gv.tryOk {m : Rx α} {cs : List Nat} {f : α → Rx β} {g : Nat → Rx β} {P : α → Prop} {Q : β → Prop} (h : Gv m P) (k : ∀ v, P v → Gv (f v) Q) : Gv (tryR m cs f g) Q := by
  obtain ⟨v, rfl, p⟩ := h
  exact k v p
theorem Gv.tryEr {m : Rx α} {cs : List Nat} {e : Nat} {f : α → Rx β} {g : Nat → Rx β} {Q : β → Prop} (h : m = .er e) (hm : e ∈ cs) (k : Gv (g e) Q) : Gv (tryR m cs f g) Q := by
  subst h
  rw [tryR_er hm]
  exact k
theorem Gv.get {m : Rx α} {a : α} (h : Gv m (fun v => v = a)) : m = .ok a := by
  obtain ⟨v, e, rfl⟩ := h
  exact e
theorem Gv.eq {m : Rx α} {P : α → Prop} (h : Gv m P) : ∃ v, m = .ok v ∧ P v := h
/-- a loop that keeps P -/
theorem Gv.forS {P : Nat → σ → Prop} {xs : List α} {s : σ} {f : σ → α → Rx σ} (h0 : P 0 s) (hs : ∀ i x s, xs[i]? = some x → P i s → Gv (f s x) (P (i + 1))) : Gv (Vx.forS xs s f) (P xs.length) := by
  induction xs generalizing s P with
  | nil => exact .ok h0
  | cons x r ih =>
    refine Gv.bind (hs 0 x s rfl h0) fun s' p => ?_
    exact ih (P := fun i => P (i + 1)) p fun i y s hy q => hs (i + 1) y s (by simpa using hy) q
theorem Gv.forR {P : Nat → σ → Prop} {xs : List α} {s : σ} {f : σ → α → Rx (Lp σ ρ)} (h0 : P 0 s) (hs : ∀ i x s, xs[i]? = some x → P i s → Gv (f s x) (fun l => ∃ s', l = .go s' ∧ P (i + 1) s')) : Gv (Vx.forR xs s f) (fun l => ∃ s', l = .go s' ∧ P xs.length s') := by
  induction xs generalizing s P with
  | nil => exact .ok ⟨s, rfl, h0⟩
  | cons x r ih =>
    refine Gv.bind (hs 0 x s rfl h0) ?_
    rintro _ ⟨s', rfl, p⟩
    exact ih (P := fun i => P (i + 1)) p fun i y s hy q => hs (i + 1) y s (by simpa using hy) q
/-- a loop that carries nothing -/
theorem forR_unit {xs : List α} {f : Unit → α → Rx (Lp Unit ρ)} (h : ∀ x ∈ xs, f () x = .ok (.go ())) : Vx.forR xs () f = .ok (.go ()) := by
  induction xs with
  | nil => rfl
  | cons x r ih =>
    show (f () x).bind _ = _
    rw [h x List.mem_cons_self]
    exact ih fun y hy => h y (List.mem_cons_of_mem _ hy)
theorem forS_pure {xs : List α} {s : σ} {f : σ → α → Rx σ} {g : σ → α → σ} (h : ∀ s x, x ∈ xs → f s x = .ok (g s x)) : Vx.forS xs s f = .ok (xs.foldl g s) := by
  induction xs generalizing s with
  | nil => rfl
  | cons x r ih =>
    show (f s x).bind _ = _
    rw [h s x List.mem_cons_self]
    exact ih fun s y hy => h s y (List.mem_cons_of_mem _ hy)
theorem mapA_pure {xs : List α} {acc : List β} {f : α → Rx β} {g : α → β} (h : ∀ x ∈ xs, f x = .ok (g x)) (hl : acc.length + xs.length ≤ 1000000) : mapA xs acc f = .ok (acc ++ xs.map g) := by
  induction xs generalizing acc with
  | nil => simp [mapA]
  | cons x r ih =>
    rw [List.length_cons] at hl
    unfold mapA
    rw [grd_pos (by omega), h x List.mem_cons_self, bind_ok, ih (fun y hy => h y (List.mem_cons_of_mem _ hy)) (by rw [List.length_append, List.length_cons, List.length_nil]; omega)]
    simp
theorem mapA_pure0 {xs : List α} {f : α → Rx β} {g : α → β} (h : ∀ x ∈ xs, f x = .ok (g x)) (hl : xs.length ≤ 1000000) : mapA xs [] f = .ok (xs.map g) := by
  rw [mapA_pure h (by simpa using hl)]
  rfl
theorem mapF_pure {xs : List α} {acc : List β} {f : α → Rx (Option β)} {g : α → Option β} (h : ∀ x ∈ xs, f x = .ok (g x)) (hl : acc.length + xs.length ≤ 1000000) : mapF xs acc f = .ok (acc ++ xs.filterMap g) := by
  induction xs generalizing acc with
  | nil => simp [mapF]
  | cons x r ih =>
    rw [List.length_cons] at hl
    unfold mapF
    rw [grd_pos (by omega), h x List.mem_cons_self, bind_ok]
    cases e : g x with
    | none =>
      show mapF r acc f = _
      rw [ih (fun y hy => h y (List.mem_cons_of_mem _ hy)) (by omega), List.filterMap_cons, e]
    | some z =>
      show mapF r (acc ++ [z]) f = _
      rw [ih (fun y hy => h y (List.mem_cons_of_mem _ hy)) (by rw [List.length_append, List.length_cons, List.length_nil]; omega), List.filterMap_cons, e]
      simp
/-- a while that ends: m falls -/
theorem Gv.whileR {P : σ → Prop} {R : σ → Prop} (m : σ → Nat) {f : σ → Rx (Lp σ ρ)} (hs : ∀ s, P s → Gv (f s) (fun l => (∃ s', l = .go s' ∧ P s' ∧ m s' < m s) ∨ ∃ s', l = .bk s' ∧ R s')) : ∀ {n : Nat} {s : σ}, P s → m s < n → Gv (Vx.whileR n s f) (fun l => ∃ s', l = .go s' ∧ R s') := by
  intro n
  induction n with
  | zero => intro s _ h; exact absurd h (Nat.not_lt_zero _)
  | succ n ih =>
    intro s p h
    refine Gv.bind (hs s p) ?_
    rintro _ (⟨s', rfl, p', l⟩ | ⟨s', rfl, r⟩)
    · exact ih p' (by omega)
    · exact .ok ⟨s', rfl, r⟩
end
/-- a loop that may return -/
theorem Gv.forRR {α σ ρ : Type} {P : Nat → σ → Prop} {Q : ρ → Prop} {xs : List α} {s : σ} {f : σ → α → Rx (Lp σ ρ)} (h0 : P 0 s) (hs : ∀ i x s, xs[i]? = some x → P i s → Gv (f s x) (fun l => (∃ s', l = .go s' ∧ P (i + 1) s') ∨ ∃ r, l = .rt r ∧ Q r)) : Gv (Vx.forR xs s f) (fun l => (∃ s', l = .go s' ∧ P xs.length s') ∨ ∃ r, l = .rt r ∧ Q r) := by
  induction xs generalizing s P with
  | nil => exact .ok (.inl ⟨s, rfl, h0⟩)
  | cons x r ih =>
    refine Gv.bind (hs 0 x s rfl h0) ?_
    rintro _ (⟨s', rfl, p⟩ | ⟨r, rfl, q⟩)
    · exact ih (P := fun i => P (i + 1)) p fun i y s hy q => hs (i + 1) y s (by simpa using hy) q
    · exact .ok (.inr ⟨r, rfl, q⟩)
theorem rng_mem {lo x : Int} {n : Nat} (h : x ∈ rng lo n) : lo ≤ x ∧ x < lo + n := by
  unfold rng at h
  obtain ⟨j, hj, rfl⟩ := List.mem_map.mp h
  have := List.mem_range.mp hj
  omega
theorem rng_at {lo x : Int} {n i : Nat} (h : (rng lo n)[i]? = some x) : x = lo + i ∧ i < n := by
  have hl := get_len h
  rw [rng_len] at hl
  rw [rng_get hl] at h
  exact ⟨(Option.some.inj h).symm, hl⟩
end Vx
/-! # own defs called within an except suite (to be built over Sup3 as noctx.py leaves it) -/
namespace Vn
open PySem PySem.Spec PyProof.Rows L2 L2H HotX
section
variable {prog : Program} {w : World} {A : Around} {E : Value → Shared → Prop} {s : Shared}
/-- the end of a tuple's walk while an exception is handled -/
theorem tup_end_hot {it t x1 : Addr} {i : Nat} {items : Array Value} {Q : Option Value → Shared → Prop} (hot : HotAt A x1 s.heap) (hne : x1 ≠ it) (hit : s.heap.IsTupleIter it t i) (ht : s.heap.IsTuple t items) (hx : items[i]? = none)
    (hQ : ∀ h', Heap.ExtBut it s.heap h' → Q none { s with heap := h' }) : wpAny (model prog w) A (pyNext (.ref it)) Q E s := by
  obtain ⟨o, ho, hc, hd⟩ := id hit
  obtain ⟨ol, hol, _, nl, hdl⟩ := ht
  obtain ⟨hh, o1, vs1, h1, d1, c1⟩ := hot
  unfold pyNext
  refine wpAny_bind (wpAny_attempt (wpAny_callSpecial?_slot (name := Str.ofString "__next__") hit.typeIs F.slot_tuple_iterator_next
    (wpAny_call_entry F.slot_tuple_iterator_next hit.typeIs F.entry_tuple_iterator_next ?_ (F.args_tuple_iterator_next_1 _))))
  show wpAny _ _ (field (.ref it) 0 >>= _) _ _ s
  refine wpAny_bind (wpAny_field ho hd (x := .ref t) rfl ?_)
  show wpAny _ _ (if (Value.ref t == Value.none) = true then _ else _) _ _ s
  rw [if_neg (show ¬ ((Value.ref t == Value.none) = true) from Bool.false_ne_true)]
  show wpAny _ _ (field (.ref it) 1 >>= _) _ _ s
  refine wpAny_bind (wpAny_field ho hd (x := .int i 0) rfl ?_)
  show wpAny _ _ (seqItems? (.ref t) >>= _) _ _ s
  refine wpAny_bind (wpAny_seqItems hol hdl ?_)
  simp only [Int.toNat_natCast, hx]
  refine wpAny_bind (wpAny_rule (wpAny_bind (wpAny_setField ho hd (by simp) ?_)))
  show wpAny _ _ (newExc (.type "StopIteration") [] >>= _) _ _ _
  refine wpAny_bind ?_
  simp only [newExc, newTuple]
  refine wpAny_bind (wpAny_newObj_type ?_ (by size_fits))
  refine wpAny_bind (m := firstArgMember _ _) (wpAny_of_eq (a := Value.none) (by first | rfl | (simp only [firstArgMember]; rfl)) ?_)
  refine wpAny_newObj_type ?_ (by size_fits)
  have h1u : (s.heap.update it (Obj.mapFields fun x => x.setIfInBounds 0 Value.none)).get? x1 = some o1 := (Heap.get?_update_other _ _ (Ne.symm hne)).trans h1
  refine raiseNew_hot ⟨hh, o1, vs1, Heap.get?_push_of_some _ (Heap.get?_push_of_some _ h1u), d1, c1⟩ (Nat.ne_of_lt (Heap.lt_size (Heap.get?_push_of_some _ h1u))) (Heap.get?_push_size _ rfl) rfl (by first | (simp; done) | (simp; omega) | (simp only [Array.size_append]; simp; omega)) ?_
  refine wpAny_bind (wpAny_isInstance (T := "StopIteration") (b := true) ⟨_, Heap.get?_update_self _ (Heap.get?_push_size _ rfl) rfl, rfl⟩ isSubtype_stop ?_)
  refine wpAny_pure (hQ _ fun b o hb e => ?_)
  have e1 : (s.heap.update it (Obj.mapFields fun x => x.setIfInBounds 0 Value.none)).get? b = some o := (Heap.get?_update_other _ _ (Ne.symm hb)).trans e
  rw [Heap.get?_update_other _ _ (Nat.ne_of_gt (Heap.lt_size (Heap.get?_push_of_some _ e1)))]
  exact Heap.get?_push_of_some _ (Heap.get?_push_of_some _ e1)
end
/-- an iterator's words, the end told of a handled exception that stands apart -/
structure TurnN (P : Program) (w : World) (K : PySem.W.Frag) (tg : Expr) (J : It) (fp : List Addr) (it : Addr) (tn : Nat → Heap → Prop) : Prop where
  obj : ∀ i h, tn i h → ∀ b ∈ fp, ∃ o, h.get? b = some o ∧ ∀ v, o.data ≠ .cell v
  keep : ∀ i h h', tn i h → (∀ b ∈ fp, ∀ o, h.get? b = some o → h'.get? b = some o) → tn i h'
  item : ∀ (X : Cx), X.prog = P → X.w = w → X.K = K → ∀ (i : Nat) (pins : List (Addr × Obj)) (s : Shared) (σ : L2.St) (H : Hp) (E : Value → Shared → Prop), Inv X pins σ H s → (∀ b ∈ fp, FpOk X pins H b) → tn i s.heap → J.go i H →
    wpAny (model P w) X.A (pyNext (.ref it)) (fun r s1 => ∃ u, r = some u ∧
      wpAny (model P w) X.A (letOwnedTupleGo tg (.ref it) u) (fun _ s2 => ∃ x H', Inv X pins σ H' s2 ∧ RelV x u ∧ J.yld i H x H' ∧ tn (i + 1) s2.heap ∧ ∀ b ∈ fp, H' b = none) E s1) E s
  done : ∀ (X : Cx), X.prog = P → X.w = w → X.K = K → ∀ (i : Nat) (pins : List (Addr × Obj)) (s : Shared) (σ : L2.St) (H : Hp) (E : Value → Shared → Prop) (x1 : Addr), HotAt X.A x1 s.heap → x1 ∉ fp → Inv X pins σ H s → (∀ b ∈ fp, FpOk X pins H b) → tn i s.heap → J.stop i H →
    wpAny (model P w) X.A (pyNext (.ref it)) (fun r s1 => r = none ∧ Inv X pins σ H s1) E s
  self : ∀ (A : Around) (i : Nat) (s : Shared) (Q : Value → Shared → Prop) (E : Value → Shared → Prop), tn i s.heap → Q (.ref it) s → wpAny (model P w) A (pyIter (.ref it)) Q E s
theorem turn_tupN {P : Program} {w : World} {K : PySem.W.Frag} {tg : Expr} (a it : Addr) : TurnN P w K tg (Itt K a) [it] it (fun i h => h.IsTupleIter it a i) where
  obj := (turn_tuple (P := P) (w := w) (K := K) (tg := tg) a it).obj
  keep := (turn_tuple (P := P) (w := w) (K := K) (tg := tg) a it).keep
  self := (turn_tuple (P := P) (w := w) (K := K) (tg := tg) a it).self
  item := by
    intro X hP hw hK i pins s σ H E I hf st hg
    subst hP hw hK
    obtain ⟨xs, x, hq, hx⟩ := hg
    obtain ⟨its, rv, p, _⟩ := I.tuple hq
    obtain ⟨u, hu, ru⟩ := rv.get hx
    obtain ⟨f0, f1, f2, f3, f4, f5⟩ := hf it (by simp)
    refine wpAny_pyNext_tuple_item st (show s.heap.IsTuple a its.toArray from p) (x := u) (by simpa using hu) fun h' st' sb => ?_
    have J : Inv X pins σ H { s with heap := h' } := I.turned (t' := s.toks) (fun b o hb e => (sb.2 b hb).trans e) f0 f1 f3 f4 f5
    obtain ⟨o, e, c, d⟩ := id st'
    exact ⟨u, rfl, go_of (s := { s with heap := h' }) e c d (by decide) ⟨x, H, J, ru, ⟨rfl, fun ys hy => by rw [I.tuple_inj hy hq]; exact hx⟩, st', fun b hb => (hf b hb).1⟩⟩
  done := by
    intro X hP hw hK i pins s σ H E x1 hot hx1 I hf st hg
    subst hP hw hK
    obtain ⟨xs, hq, hx⟩ := hg
    obtain ⟨its, rv, p, _⟩ := I.tuple hq
    obtain ⟨f0, f1, f2, f3, f4, f5⟩ := hf it (by simp)
    have hl := rv.length
    exact tup_end_hot hot (fun z => hx1 (by simp [z])) st (show s.heap.IsTuple a its.toArray from p) (by simp; omega) fun h' eb => ⟨rfl, I.turned (t' := s.toks) (fun b o hb e => eb b o hb e) f0 f1 f3 f4 f5⟩
theorem turn_rngN {P : Program} {w : World} {K : PySem.W.Frag} {tg : Expr} (it : Addr) (lo : Int) (n : Nat) : TurnN P w K tg (Itr lo n) [it] it (fun i h => IsRangeIter h it (lo + (i : Nat) * 1) ((n : Int) - (i : Nat)) 1) where
  obj := (turn_rangeH (P := P) (w := w) (K := K) (tg := tg) it lo n).obj
  keep := (turn_rangeH (P := P) (w := w) (K := K) (tg := tg) it lo n).keep
  self := (turn_rangeH (P := P) (w := w) (K := K) (tg := tg) it lo n).self
  item := by
    intro X hP hw hK i pins s σ H E I hf st hg
    subst hP hw hK
    obtain ⟨f0, f1, f2, f3, f4, f5⟩ := hf it (by simp)
    have hlt : i < n := hg
    refine wpAny_pyNext_range_item st (by omega) fun h' st' sb => ?_
    have st2 : IsRangeIter h' it (lo + ((i + 1 : Nat) : Int) * 1) ((n : Int) - ((i + 1 : Nat) : Int)) 1 := by
      have e1 : lo + ((i : Nat) : Int) * 1 + 1 = lo + ((i + 1 : Nat) : Int) * 1 := by omega
      have e2 : (n : Int) - ((i : Nat) : Int) - 1 = (n : Int) - ((i + 1 : Nat) : Int) := by omega
      rw [← e1, ← e2]
      exact st'
    have I1 : Inv X pins σ H { s with heap := h', toks := s.toks + 1 } := I.turned (fun b o hb e => (sb.2 b hb).trans e) f0 f1 f3 f4 f5
    refine ⟨_, rfl, go_of (s := { s with heap := h', toks := s.toks + 1 }) (n := "range_iterator") st2 rfl rfl (by decide) ⟨.int (lo + i), H, I1, ⟨s.toks, ?_⟩, ⟨rfl, rfl⟩, st2, fun b hb => (hf b hb).1⟩⟩
    rw [Int.mul_one]
  done := by
    intro X hP hw hK i pins s σ H E x1 hot hx1 I hf st hg
    subst hP hw hK
    obtain ⟨f0, f1, f2, f3, f4, f5⟩ := hf it (by simp)
    exact pyNext_range_end_hot hot st (by have : n ≤ i := hg; omega) fun h' eb => ⟨rfl, I.turned (t' := s.toks) (fun b o _ e => eb b o e) f0 f1 f3 f4 f5⟩
def PIEN (X : Cx) (pins : List (Addr × Obj)) (σ : L2.St) (tg : Expr) (R : It → Hp → Prop) (itv : Value) (s2 : Shared) : Prop :=
  ∃ (it : Addr) (fp : List Addr) (tn : Nat → Heap → Prop) (J : It) (H' : Hp), itv = .ref it ∧ Inv X pins σ H' s2 ∧ TurnN X.prog X.w X.K tg J fp it tn ∧ tn 0 s2.heap ∧ (∀ b ∈ fp, FpOk X pins H' b) ∧ R J H'
structure PIN (X : Cx) (tg iter : Expr) (wi : TI) : Prop where
  run : ∀ (pins : List (Addr × Obj)) (s : Shared) (σ : L2.St) (H : Hp) (R : It → Hp → Prop), Inv X pins σ H s → wi σ H R →
    wpAny (model X.prog X.w) X.A (eval iter X.env) (fun v s1 => wpAny (model X.prog X.w) X.A (pyIter v) (PIEN X pins σ tg R) X.xe s1) X.xe s
theorem pi_tupN {X : Cx} {tg l : Expr} {tl : TE} (hl : PE X l tl) : PIN X tg l (iTup X.K tl) := by
  refine ⟨fun pins s σ H R I h => ?_⟩
  refine thn (hl.run pins s σ H _ I h) fun v s1 hv => ?_
  obtain ⟨x, H1, I1, r1, a, e, ⟨xs, hq⟩, q⟩ := hv
  subst e
  cases r1
  obtain ⟨its, rv, p, _⟩ := I1.tuple hq
  refine wpAny_pyIter_tuple (show s1.heap.IsTuple a its.toArray from p) ?_
  refine ⟨s1.heap.objs.size, [s1.heap.objs.size], _, _, H1, rfl, I1.kept (t' := s1.toks) fun b o e => Heap.get?_push_of_some _ e, turn_tupN a _, ⟨_, Heap.get?_push_size _ rfl, rfl, rfl⟩, fun b hb => ?_, q⟩
  have e : b = s1.heap.objs.size := by simpa using hb
  subst e
  exact I1.fpOk (Nat.le_refl _) (I1.hok.fresh (Nat.le_refl _))
/-! ### comprehensions while an exception is handled -/
section
variable {X : Cx}
theorem pe_lcN {elt tg iter : Expr} {ifs : List Expr} {scope : Scope} {own : List (Str × Nat)} {pos : Pos} {wi : TI} {g : TG} {tt : TT} {te : TE} (hc : HotC X) (hN : X.N.Nodup) (hi : PIN X tg iter wi) (ok : BlkOk X.N X.env.scope scope own)
    (hg : ∀ (s : Shared) (H : Hp) (C : Addr) (cl : List (Str × Addr)) (fp : List Addr), PG (X.blk s H scope (compEnvC scope cl C X.env) fp) tg g) (ht : ∀ (s : Shared) (H : Hp) (C : Addr) (cl : List (Str × Addr)) (fp : List Addr), PTs (X.blk s H scope (compEnvC scope cl C X.env) fp) ifs tt)
    (he : ∀ (s : Shared) (H : Hp) (C : Addr) (cl : List (Str × Addr)) (fp : List Addr), PE (X.blk s H scope (compEnvC scope cl C X.env) fp) elt te) (hs : ∀ x, foldedSetIterable iter X.env x = pure x := by intro _; rfl) :
    PE X (.ListComp elt [⟨tg, iter, ifs, 0⟩] scope pos) (tLc wi g tt te (own.map (·.2))) := by
  obtain ⟨p, ⟨hand, v1, vd, vc⟩, hp⟩ := hc
  constructor
  intro pins s σ H Q I h
  rw [eval_ListComp]
  have back : ∀ D C s' m H', Inv X pins σ H' s' → Q (.ref D) H' → s'.heap.Ns C m → FpOk X pins H' C → compPost (model X.prog X.w) X.A X.xe none (EP X pins σ Q) (.ref D) C (.ok .next) s' := by
    intro D C s' m H' I' q hn f
    refine ⟨m, hn, fun h'' sb => ?_⟩
    obtain ⟨f0, f1, f2, f3, f4, f5⟩ := f
    exact ⟨.ref D, H', I'.turned (t' := s'.toks) (fun b o hb e => (sb.2 b hb).trans e) f0 f1 f3 f4 f5, rfl, q⟩
  have frees : ∀ y ∈ scope.names, y.2 = .free → ∃ c, X.env.cells.lookup y.1 = some c := by
    intro y hy e
    rcases ok.free y hy e with k | k
    · exact I.ok.has _ (.inl k)
    · exact I.ok.has _ (.inr k)
  refine wpAny_comprehension_free (use := none) rfl hs (closure_ok frees) ok.kind (fun y hy e => by rw [ok.uniq y hy, e]) (thn (hi.run pins s σ H _ I h) fun xv s1 hx => thn hx fun itv s2 h2 => ?_)
  obtain ⟨it, fp, tn, J, H2, rfl, I2, T, st2, f2, wish⟩ := h2
  refine wpAny_newObj_type (newEnv_comp ?_) (by show 0 ≤ sizeLine; decide)
  generalize hD : s2.heap.objs.size = D
  obtain ⟨W, ⟨m0, w0⟩, turn⟩ := wish D (I2.hok.fresh (Nat.le_of_eq hD))
  generalize hs3 : ({ s2 with heap := s2.heap.push { cls := .type "list", data := .seq ([] : List Value).toArray } } : Shared) = s3
  have h3 : s3.heap = s2.heap.push { cls := .type "list", data := .seq ([] : List Value).toArray } := by rw [← hs3]
  have I3 : Inv X pins σ (upd H2 D (.lst [])) s3 := by
    rw [← hs3]
    refine I2.laid (t' := s2.toks) (fun b o e => Heap.get?_push_of_some _ e) (Nat.le_of_eq hD) ⟨Nat.zero_le _, [], 0, .nil, ?_⟩
    rw [← hD]
    exact Heap.get?_push_size _ rfl
  have f3 : ∀ b ∈ fp, FpOk X pins (upd H2 D (.lst [])) b ∧ b < s3.heap.objs.size := by
    intro b hb
    obtain ⟨o, e, _⟩ := T.obj _ _ st2 b hb
    have lt := Heap.lt_size e
    refine ⟨⟨?_, (f2 b hb).2⟩, by rw [h3, Heap.size_push]; exact Nat.lt_succ_of_lt lt⟩
    rw [upd_ne (by rw [← hD]; exact Nat.ne_of_lt lt)]
    exact (f2 b hb).1
  have st3 : tn 0 s3.heap := T.keep _ _ _ st2 fun b _ o e => by rw [h3]; exact Heap.get?_push_of_some _ e
  have I4 := block_start I3 ok hN f3
  have pg := hg s3 (upd H2 D (.lst [])) s3.heap.objs.size (cellsFrom (s3.heap.objs.size + 1) scope.names (cloFrom X.env.cells scope.names [])) fp
  have pt := ht s3 (upd H2 D (.lst [])) s3.heap.objs.size (cellsFrom (s3.heap.objs.size + 1) scope.names (cloFrom X.env.cells scope.names [])) fp
  have pe := he s3 (upd H2 D (.lst [])) s3.heap.objs.size (cellsFrom (s3.heap.objs.size + 1) scope.names (cloFrom X.env.cells scope.names [])) fp
  show codeAny _ _ (.compStart (.ListComp elt [⟨tg, iter, ifs, 0⟩] scope pos) 0 (.ref it) (.ref D) (compEnvC scope (cellsFrom (s3.heap.objs.size + 1) scope.names (cloFrom X.env.cells scope.names [])) s3.heap.objs.size X.env)) (compPost (model X.prog X.w) X.A X.xe none (EP X pins σ Q) (.ref D) s3.heap.objs.size) { s3 with heap := pushCells (s3.heap.push { cls := .type "dict", data := .dict #[] }) scope.names }
  have free0 : ∀ b ∈ fp, (upd H2 D (.lst [])) b = none := fun b hb => (f3 b hb).1.1
  generalize hce : compEnvC scope (cellsFrom (s3.heap.objs.size + 1) scope.names (cloFrom X.env.cells scope.names [])) s3.heap.objs.size X.env = ce at I4 pg pt pe ⊢
  have ceL : ce.locals = s3.heap.objs.size := by subst hce; rfl
  generalize hH3 : upd H2 D (.lst []) = H3 at I3 I4 pg pt pe w0 free0 f3
  generalize hs4 : ({ s3 with heap := pushCells (s3.heap.push { cls := .type "dict", data := .dict #[] }) scope.names } : Shared) = s4 at I4 ⊢
  have st4 : tn 0 s4.heap := T.keep _ _ _ st3 fun b _ o e => by rw [← hs4]; exact pushCells_keeps _ _ _ _ (Heap.get?_push_of_some _ e)
  have foot : ∀ {σ' : L2.St} {H' : Hp} {s' : Shared}, Inv (X.blk s3 H3 scope ce fp) [] σ' H' s' → (∀ b ∈ fp, H' b = none) → ∀ b ∈ fp, FpOk (X.blk s3 H3 scope ce fp) [] H' b := fun {σ' H' s'} I' hn b hb =>
    ⟨hn b hb, (I'.ok.exf b hb).1, I'.ok.exfs b hb, .inl hb, fun x c e => (I'.ok.exf b hb).2 x c e, fun q hq => absurd (show q ∈ ([] : List (Addr × Obj)) ++ [] from hq) (by simp)⟩
  -- the def's own words hold at every turn, so that the handled exception stands
  have outer : ∀ {σ' : L2.St} {H' : Hp} {s' : Shared}, Inv (X.blk s3 H3 scope ce fp) [] σ' H' s' → Inv X pins σ H' s' := fun {σ' H' s'} I' =>
    I3.call' (ch := fp) I'.os I'.base I'.hok I'.bare fun b hb => ⟨(f3 b hb).1.2.2.2.1, (f3 b hb).1.2.1, (f3 b hb).1.2.2.2.2.1, (f3 b hb).1.2.2.2.2.2⟩
  have apart : p.1 ∉ fp := fun hm => (f3 p.1 hm).1.2.2.2.2.2 p (List.mem_append_left _ hp) rfl
  refine codeAny_compStart_list ?loop (T.self X.A 0 _ _ _ st4 ?loop)
  refine compLoop_any (fun n s' => ∃ i H', Inv (X.blk s3 H3 scope ce fp) [] (wipe σ (own.map (·.2))) H' s' ∧ tn i s'.heap ∧ (∀ b ∈ fp, H' b = none) ∧ W i n H') ?_ m0 ⟨0, H3, I4, st4, free0, w0⟩
  rintro n s5 ⟨i, H5, I5, st5, n5, w5⟩
  rcases turn i n H5 w5 with ⟨stop, qq⟩ | ⟨go, Nx, hNx, step⟩
  · have hot : HotAt (X.blk s3 H3 scope ce fp).A p.1 s5.heap := ⟨hand, p.2, v1, ((outer I5).pin p (List.mem_append_left _ hp)).1, vd, vc⟩
    refine thnF (T.done (X.blk s3 H3 scope ce fp) rfl rfl rfl i [] s5 _ H5 (fun _ _ => False) p.1 hot apart I5 (foot I5 n5) st5 stop) fun r s6 ⟨hr, I6⟩ => ?_
    subst hr
    have nC : H5 s3.heap.objs.size = none := by
      have z : H5 ce.locals = none := I6.free
      rw [ceL] at z
      exact z
    obtain ⟨m, hn, _⟩ := I6.loc
    have hn : s6.heap.Ns ce.locals m := hn
    rw [ceL] at hn
    exact back D s3.heap.objs.size s6 m H5 (outer I6) qq hn (I3.fpOk (Nat.le_refl _) nC)
  · refine thnF (T.item (X.blk s3 H3 scope ce fp) rfl rfl rfl i [] s5 _ H5 (fun _ _ => False) I5 (foot I5 n5) st5 go) fun r s6 ⟨u, hr, h6⟩ => ?_
    subst hr
    refine thnF h6 fun _ s7 ⟨x, H7, I7, r7, y7, st7, n7⟩ => ?_
    refine thnF (pg.run _ s7 _ H7 x u _ (I7.pinned (foot I7 n7) (T.obj _ _ st7)) r7 (step x H7 y7)) fun _ s8 ⟨σ8, H8, I8, hw8, q8⟩ => ?_
    refine thnF (pt.run _ s8 σ8 H8 _ I8 q8) fun b s9 ⟨H9, I9, q9⟩ => ?_
    have next : ∀ {s' : Shared} {H' : Hp}, Inv (X.blk s3 H3 scope ce fp) ([] ++ pinsAt fp s7.heap) σ8 H' s' → Nx H' → ∃ m, m < n ∧ ∃ i H', Inv (X.blk s3 H3 scope ce fp) [] (wipe σ (own.map (·.2))) H' s' ∧ tn i s'.heap ∧ (∀ b ∈ fp, H' b = none) ∧ W i m H' := by
      intro s' H' I' nx
      obtain ⟨m', hm, w'⟩ := hNx H' nx
      have stays : ∀ b ∈ fp, ∀ o, s7.heap.get? b = some o → s'.heap.get? b = some o ∧ H' b = none := by
        intro b hb o e
        have z := I'.pin (b, o) (List.mem_append_right _ (List.mem_append_right _ (mem_pinsAt hb e)))
        exact ⟨z.1, z.2.1⟩
      have hl : (wipe σ (own.map (·.2))).length = σ8.length := by rw [← hw8, wipe_length]
      refine ⟨m', hm, i + 1, H', (I'.unpinned (pins := [])).weak hl (fun j v e => ?_), T.keep _ _ _ st7 fun b hb o e => (stays b hb o e).1, fun b hb => ?_, w'⟩
      · rw [← hw8] at e
        exact (wipe_some e).1
      · obtain ⟨o, e, _⟩ := T.obj _ _ st7 b hb
        exact (stays b hb o e).2
    cases b with
    | false =>
      simp only [Bool.false_eq_true, if_false] at q9 ⊢
      exact next I9 q9
    | true =>
      simp only [if_true] at q9 ⊢
      refine thnF (pe.run _ s9 σ8 H9 _ I9 q9) fun z s10 ⟨yv, H10, I10, r10, acc, hD10, hz10, nx⟩ => ?_
      exact app_ok (X := X.blk s3 H3 scope ce fp) I10 hD10 hz10 r10 fun s11 I11 => next I11 nx
end
end Vn
namespace Vn
open PySem PySem.Spec PyProof.Rows L2 L2H HotX
theorem pi_tupKN {X : Cx} {K : PySem.W.Frag} {tg l : Expr} {tl : TE} (hl : PE X l tl) (hK : X.K = K := by rfl) : PIN X tg l (iTup K tl) := hK ▸ pi_tupN hl
theorem hotc_of {CX : CXT} {P : Program} {w : World} {K : PySem.W.Frag} {mg : Str → Option Value} {base : Heap} {N : List Str} {qual : Str} {scope : Scope} {f : Addr} {cd : Value} {A : Around} {outer : List Env} {s : Shared} {H : Hp} {E : XK} {p : Addr × Obj} (h : Hot1 A p) : HotC (cxH CX P w K mg base N qual scope f cd A outer s H E p) :=
  ⟨p, ⟨h.1, h.2⟩, List.mem_cons_self⟩
theorem hot_suite {X : Cx} {a : Addr} {oe : Obj} {cls : Value} {d : Option Addr} {pn : List (Addr × Obj)} (hz : L2N.Zn cls d oe) (hf : ∃ vs, oe.data = .fields vs) : Hot1 (X.suite a ((a, oe) :: pn)).A (a, oe) := by
  obtain ⟨vs, e⟩ := hf
  exact ⟨rfl, vs, e, hz.2.2 vs e⟩
end Vn
namespace Vx
open PySem PySem.Spec PyProof.Rows L2
theorem RoomG.hot {j : Nat} {A : Around} {v : Option Value} (r : RoomG j A) : L2H.RoomH j (A.mark v) := ⟨r.toRoom.dp, r.toRoom.un⟩
section
variable {P : Program} {w : World} {K : PySem.W.Frag} {mg : Str → Option Value} {base : Heap} {cx : CXT} {k : Nat} {f : Addr} {fd : FuncData} {ps : List Str} {sp : Sp}
theorem fnH_of {x qual : Str} {params : Arguments} {body : List Stmt} {scope : Scope} {dvs : List V} {kws : List (Str × V)} {N : List Str} (F : FunD K x qual params body scope dvs kws f fd) (S : FnScope N ps scope) (len : ∀ vs H Q E, sp vs H Q E → vs.length = ps.length)
    (hb : ∀ (cdv : Value) (A : Around) (outer : List Env) (s : Shared) (H : Hp) (vs : List V) (Q : VK) (E : XK) (p : Addr × Obj), L2H.Hot1 A p → L2H.RoomH k (A.deeper (envOfC qual scope s.heap.objs.size f cdv)) → sp vs H Q E →
      ∃ t, PSs (L2H.cxH cx P w K mg base N qual scope f cdv A outer s H E p) body t ∧ t { nx := fun _ H' => Q .non H', rt := Q } (start N vs) H) : L2H.FnH P w K mg base cx (k + 1) f fd ps sp := by
  obtain ⟨oc, od, dV, kV, doc, pm, an, cdv, ct, osl, rfl, lk, code, _, _⟩ := F.ex
  exact L2H.fn_ofH lk code S len fun A outer s H vs Q E p hot hr q => hb cdv A outer s H vs Q E p hot hr q
end
structure MetH (P : Program) (w : World) (K : PySem.W.Frag) (mg : Str → Option Value) (base : Heap) (k : Nat) (C : Addr) (m : Str) (sp : Sp) (pats : List Pat) : Prop where
  y : MetX P w K mg base k C m sp pats
  ex : ∃ (f : Addr) (fd : FuncData) (ps : List Str), Cls K C ∧ Meth K C m f ∧ L2H.FnH P w K mg base (L2N.CX P w) k f fd ps sp ∧ ∀ p ∈ pats, Bnd1 K fd ps p
theorem MethX.okH {P : Program} {w : World} {K : PySem.W.Frag} {mg : Str → Option Value} {base : Heap} {C : Addr} {q m : Str} {st : Stmt} {N ps : List Str} {pats : List Pat} {k : Nat} {sp : Sp} (D : MethX K C q m st ps pats) (c : Cls K C) (S : FnScope N ps (defScope st)) (len : ∀ vs H Q E, sp vs H Q E → vs.length = ps.length)
    (hbody : BodyX P w K mg base q st N k sp)
    (hb2 : ∀ (f : Addr) (cdv : Value) (A : Around) (outer : List Env) (s : Shared) (H : Hp) (vs : List V) (Q : VK) (E : XK) (p : Addr × Obj), L2H.Hot1 A p → L2H.RoomH k (A.deeper (envOfC q (defScope st) s.heap.objs.size f cdv)) → sp vs H Q E →
      ∃ t, PSs (L2H.cxH (L2N.CX P w) P w K mg base N q (defScope st) f cdv A outer s H E p) (defBody st) t ∧ t { nx := fun _ H' => Q .non H', rt := Q } (start N vs) H) : MetH P w K mg base (k + 1) C m sp pats := by
  refine ⟨D.ok c S len hbody, ?_⟩
  obtain ⟨f, fd, dvs, kws, F, me, b⟩ := D.ex
  exact ⟨f, fd, ps, c, me, fnH_of F S len (fun cdv A outer s H vs Q E p hot hr h => hb2 f cdv A outer s H vs Q E p hot hr h), b⟩
section
variable {X : Cx} {k j n : Nat} {f C : Addr} {fd : FuncData} {ps ks : List Str} {g : List V → List V → List V} {sp : Sp} {m : Str} {pos apos : Pos} {o : Expr} {ta : TE} {W : WX} {p : Addr × Obj}
theorem run_H {pins : List (Addr × Obj)} {σ : L2.St} {H : Hp} {s : Shared} {Q : VK} {us ws : List Value} {vs zs : List V} (F : L2H.FnH X.prog X.w X.K X.mg X.base (L2N.CX X.prog X.w) k f fd ps sp) (hr : L2H.RoomH k X.A) (hp : p ∈ X.pn) (hot : L2H.Hot1 X.A p) (hb : Bnd X.K fd ps n ks g) (tkW : L2N.Takes X W)
    (I : Inv X pins σ H s) (r : Vals vs us) (rz : Vals zs ws) (l1 : vs.length = n) (l2 : zs.length = ks.length) (h : sp (g vs zs) H Q (WE W σ)) :
    wpAny (model X.prog X.w) X.A (call (.ref f) us (ks.zip ws)) (EP X pins σ Q) X.xe s := by
  obtain ⟨vv, b, r2⟩ := hb.to s us ws vs zs I.kIn l1 l2 r rz
  have P1 := I.pin p (List.mem_append_left _ hp)
  have pin : L2H.PinOk X.stack H s p := ⟨P1.1, P1.2.1, fun hm => (List.mem_cons.mp (I.stkSub p.1 hm)).elim P1.2.2.1 P1.2.2.2.1, P1.2.2.2.2⟩
  refine wpAny_call (codeAny_mono (F.run X.A X.stack s H ⟨us, ks.zip ws⟩ vv (g vs zs) Q (WE W σ) p hr hot pin I.env0 b r2 h) fun rr s' hq => ?_)
  cases rr with
  | error er => exact L2N.passAt tkW σ pins H s er s' I hq
  | ok fl =>
    cases fl with
    | ret u => exact I.after hq
    | next => exact hq.elim
    | brk => exact hq.elim
    | cont => exact hq.elim
theorem vx_methH0 {pats : List Pat} {pl : Sem Bool} (hp : p ∈ X.pn) (hot : L2H.Hot1 X.A p) (c : MetH X.prog X.w X.K X.mg X.base k C m sp pats) (pt : Pat) (hpt : pt ∈ pats) (hr : L2H.RoomH j X.A) (hk : k ≤ j) (tkW : L2N.Takes X W) (he : PE X o ta) (hks : pt.2.1 = [] := by rfl)
    (ht : eval (.Call (.Attribute o m apos) [] [] pos) X.env = (do
      let ov ← eval o X.env
      standAt apos.atName
      let (f, first) ← holding [ov] (getMethod ov m pl)
      callWith pos f first (backTo pos (starEach [] X.env)) (backToKw pos (keywordEach [] X.env))) := by rfl) :
    PE X (.Call (.Attribute o m apos) [] [] pos) (tMethX C m pt.1 pt.2.1.length sp pt.2.2 W ta tNil tNil) := by
  obtain ⟨f, fd, ps, hc, hm, F, b⟩ := c.ex
  refine ⟨fun pins s σ H Q I h => ?_⟩
  refine PySem.W.methodCall_KW (pl := pl) (thn (he.run pins s σ H _ I h) fun u s1 ⟨x, H1, I1, rx, a, dx, fs, ex, ea, l, q⟩ => ?_) ht
  subst ex
  obtain rfl : u = Value.ref a := rx
  refine getmeth_ok I1 ea hc hm l ?_
  obtain ⟨l1, l2, q3⟩ := q
  have hz := run_H (us := [.ref a]) (vs := [.ref a]) (ws := []) F (hr.mono hk) hp hot (b pt hpt) tkW I1 (.cons rfl .nil) .nil l1 l2 q3
  rw [hks] at hz
  exact PySem.W.callWith_K0 (first := [.ref a]) I1.kIn hm.kp hz
end
end Vx
/-! ### promises that need not know what is handled: bodies that walk over nothing and let nothing out -/
namespace Vx
open PySem PySem.Spec PyProof.Rows L2
theorem ps_never {X : Cx} {st : Stmt} : PS X st (fun _ _ _ => False) := ⟨fun _ _ _ _ _ _ h => h.elim⟩
structure FnQ0 (P : Program) (w : World) (K : PySem.W.Frag) (mg : Str → Option Value) (base : Heap) (cx : CXT) (k : Nat) (f : Addr) (fd : FuncData) (ps : List Str) (sp : Sp) : Prop where
  len : ∀ vs H Q E, sp vs H Q E → vs.length = ps.length
  run : ∀ (A : Around) (outer : List Env) (s : Shared) (H : Hp) (args : Args) (us : List Value) (vs : List V) (Q : VK), L2H.RoomH k A → Env0 P w K mg base A outer s H → BindsTo s fd args (ps.zip us) → Vals vs us → sp vs H Q E0 → codeAny (model P w) A (.call (.ref f) args) (CR cx outer P w H s Q E0) s
section
variable {P : Program} {w : World} {K : PySem.W.Frag} {mg : Str → Option Value} {base : Heap} {cx : CXT} {j k : Nat} {f : Addr} {fd : FuncData} {ps : List Str} {sp sp' : Sp}
theorem FnQ0.body {x qual : Str} {params : Arguments} {body : List Stmt} {scope : Scope} {dvs : List V} {kws : List (Str × V)} {N : List Str} (F : FunD K x qual params body scope dvs kws f fd) (S : FnScope N ps scope) (len : ∀ vs H Q E, sp vs H Q E → vs.length = ps.length)
    (hb : ∀ (cdv : Value) (A : Around) (outer : List Env) (s : Shared) (H : Hp) (vs : List V) (Q : VK) (p : Addr × Obj), L2H.RoomH k (A.deeper (envOfC qual scope s.heap.objs.size f cdv)) → sp vs H Q E0 →
      ∃ t, PSs (L2H.cxH cx P w K mg base N qual scope f cdv A outer s H E0 p) body t ∧ t { nx := fun _ H' => Q .non H', rt := Q } (start N vs) H) : FnQ0 P w K mg base cx (k + 1) f fd ps sp := by
  obtain ⟨oc, od, dV, kV, doc, pm, an, cdv, ct, osl, rfl, lk, code, _, _⟩ := F.ex
  constructor
  · exact len
  · intro A outer s H args us vs Q room env binds vals prom
    have nvs := len vs H Q E0 prom
    have kin : K.In s.heap := env.mod.kin.keeps fun b o q => (env.bs b o q).1
    have nolim : s.heap.NoLimit := env.mod.nolimit.keeps fun b o q => (env.bs b o q).1
    have kinds : ∀ q ∈ ps.zip us, scope.names.lookup q.1 = some .local ∨ (scope.names.lookup q.1 = some .cell ∧ ((cellsFrom (s.heap.objs.size + 1) scope.names []).lookup q.1).isSome = true) := by
      rintro ⟨n, v⟩ hq
      cases S.par n (List.of_mem_zip hq).1 with
      | inl z => exact .inl z
      | inr z => exact .inr ⟨z, PySem.W.cellsFrom_some _ _ _ (.inl z)⟩
    -- the def's own object is pinned
    have there := env.mod.kin _ _ lk
    have pin : L2H.PinOk outer H s (f, _) := ⟨(env.bs _ _ there).1, (env.bs _ _ there).2, (fun hb => by
      have := (env.funs.mem hb).1
      rw [there] at this
      cases this), (fun v z => by cases z)⟩
    refine codeAny_call_function room.depth (kin _ _ lk) rfl S.co S.gen rfl (PySem.W.codeRec_of kin code) (binds _ _ _ _ ?_)
    refine wpAny_newFunctionEnv_cells S.kind kinds ?_
    rintro _ rfl s1 made
    refine ⟨nolim.keeps made.toInCall.keep, codeAny_func ?_⟩
    obtain ⟨t, pss, start_⟩ := hb cdv A outer s H vs Q _ (room.deeper _) prom
    have inv := L2H.inv_startH (CX := cx) (E := E0) S pin env nvs vals made
    refine wpAny_mono (pss.run [] s1 (start N vs) H _ inv start_) ?_ fun _ _ z => z
    intro flow s2 out
    cases flow with
    | next =>
      obtain ⟨τ, H2, inv2, q⟩ := out
      exact ⟨.non, H2, inv2.os, inv2.bare, inv2.base, inv2.hok, rfl, q⟩
    | ret u =>
      obtain ⟨v, τ, H2, inv2, rel, q⟩ := out
      exact ⟨v, H2, inv2.os, inv2.bare, inv2.base, inv2.hok, rel, q⟩
    | brk =>
      obtain ⟨_, _, _, q⟩ := out
      exact q.elim
    | cont =>
      obtain ⟨_, _, _, q⟩ := out
      exact q.elim
/-- a body's words for that -/
abbrev BodyQ (P : Program) (w : World) (K : PySem.W.Frag) (mg : Str → Option Value) (base : Heap) (x : Str) (st : Stmt) (N : List Str) (k : Nat) (sp : Sp) : Prop :=
  ∀ (f : Addr) (cdv : Value) (A : Around) (outer : List Env) (s : Shared) (H : Hp) (vs : List V) (Q : VK) (p : Addr × Obj), L2H.RoomH k (A.deeper (envOfC x (defScope st) s.heap.objs.size f cdv)) → sp vs H Q E0 →
    ∃ t, PSs (L2H.cxH (L2N.CX P w) P w K mg base N x (defScope st) f cdv A outer s H E0 p) (defBody st) t ∧ t { nx := fun _ H' => Q .non H', rt := Q } (start N vs) H
end
structure CalQ (P : Program) (w : World) (K : PySem.W.Frag) (mg : Str → Option Value) (base : Heap) (k : Nat) (x : Str) (sp : Sp) (pats : List Pat) : Prop where
  y : CalX P w K mg base k x sp pats
  ex : ∃ (f : Addr) (fd : FuncData) (ps : List Str), FnQ0 P w K mg base (L2N.CX P w) k f fd ps sp ∧ mg x = some (.ref f) ∧ PySem.W.keepIn K (.ref f) = true ∧ ∀ p ∈ pats, Bnd1 K fd ps p
structure MetQ (P : Program) (w : World) (K : PySem.W.Frag) (mg : Str → Option Value) (base : Heap) (k : Nat) (C : Addr) (m : Str) (sp : Sp) (pats : List Pat) : Prop where
  y : MetX P w K mg base k C m sp pats
  ex : ∃ (f : Addr) (fd : FuncData) (ps : List Str), Cls K C ∧ Meth K C m f ∧ FnQ0 P w K mg base (L2N.CX P w) k f fd ps sp ∧ ∀ p ∈ pats, Bnd1 K fd ps p
section
variable {P : Program} {w : World} {K : PySem.W.Frag} {mg : Str → Option Value} {base : Heap} {k : Nat} {sp : Sp}
theorem DefX.okQ0 {x : Str} {st : Stmt} {N ps : List Str} {pats : List Pat} (D : DefX K mg x st ps pats) (S : FnScope N ps (defScope st)) (len : ∀ vs H Q E, sp vs H Q E → vs.length = ps.length)
    (hbody : BodyX P w K mg base x st N k sp) (hb2 : BodyQ P w K mg base x st N k sp) : CalQ P w K mg base (k + 1) x sp pats := by
  refine ⟨D.ok S len hbody, ?_⟩
  obtain ⟨f, fd, dvs, kws, F, hm, b⟩ := D.ex
  exact ⟨f, fd, ps, FnQ0.body F S len (fun cdv A outer s H vs Q p r h => hb2 f cdv A outer s H vs Q p r h), hm, F.kp, b⟩
theorem MethX.okQ0 {C : Addr} {q m : Str} {st : Stmt} {N ps : List Str} {pats : List Pat} (D : MethX K C q m st ps pats) (c : Cls K C) (S : FnScope N ps (defScope st)) (len : ∀ vs H Q E, sp vs H Q E → vs.length = ps.length)
    (hbody : BodyX P w K mg base q st N k sp) (hb2 : BodyQ P w K mg base q st N k sp) : MetQ P w K mg base (k + 1) C m sp pats := by
  refine ⟨D.ok c S len hbody, ?_⟩
  obtain ⟨f, fd, dvs, kws, F, me, b⟩ := D.ex
  exact ⟨f, fd, ps, c, me, FnQ0.body F S len (fun cdv A outer s H vs Q p r h => hb2 f cdv A outer s H vs Q p r h), b⟩
end
section
variable {X : Cx} {k j n : Nat} {f C : Addr} {fd : FuncData} {ps ks : List Str} {g : List V → List V → List V} {sp : Sp} {x m : Str} {pos apos p : Pos} {o e : Expr} {es : List Expr} {kws : List Keyword} {ta : TE} {t tk : TA}
abbrev W0 : WX := fun _ _ _ _ => False
theorem run_Q0 {pins : List (Addr × Obj)} {σ : L2.St} {H : Hp} {s : Shared} {Q : VK} {us ws : List Value} {vs zs : List V} (F : FnQ0 X.prog X.w X.K X.mg X.base (L2N.CX X.prog X.w) k f fd ps sp) (hr : L2H.RoomH k X.A) (hb : Bnd X.K fd ps n ks g) (tkW : L2N.Takes X W0)
    (I : Inv X pins σ H s) (r : Vals vs us) (rz : Vals zs ws) (l1 : vs.length = n) (l2 : zs.length = ks.length) (h : sp (g vs zs) H Q (WE W0 σ)) :
    wpAny (model X.prog X.w) X.A (call (.ref f) us (ks.zip ws)) (EP X pins σ Q) X.xe s := by
  obtain ⟨vv, b, r2⟩ := hb.to s us ws vs zs I.kIn l1 l2 r rz
  refine wpAny_call (codeAny_mono (F.run X.A X.stack s H ⟨us, ks.zip ws⟩ vv (g vs zs) Q hr I.env0 b r2 h) fun rr s' hq => ?_)
  cases rr with
  | error er => exact L2N.passAt tkW σ pins H s er s' I hq
  | ok fl =>
    cases fl with
    | ret u => exact I.after hq
    | next => exact hq.elim
    | brk => exact hq.elim
    | cont => exact hq.elim
theorem vx_callQ {pats : List Pat} (c : CalQ X.prog X.w X.K X.mg X.base k x sp pats) (pt : Pat) (hpt : pt ∈ pats) (hr : L2H.RoomH j X.A) (hk : k ≤ j) (tkW : L2N.Takes X W0) (hg : Gl X x) (ha : PA X (e :: es) t) (hkw : PK X kws tk)
    (hall : (backToKw pos (keywordEach kws X.env)).all (·.1.isSome) = true := by rfl) (hks : (backToKw pos (keywordEach kws X.env)).filterMap (·.1) = pt.2.1 := by rfl)
    (hdb : (x == ("__debug__" : Str)) = false := by decide) (he : starEach (e :: es) X.env = (false, eval e X.env) :: starEach es X.env := by rfl)
    (hpl : ((backTo pos (starEach (e :: es) X.env)).any (·.1) || (backToKw pos (keywordEach kws X.env)).any (·.1.isNone)) = false := by rfl) :
    PE X (.Call (.Name x p) (e :: es) kws pos) (tCallX pt.1 pt.2.1.length sp pt.2.2 W0 t tk) := by
  obtain ⟨f, fd, ps, F, hm, kp, b⟩ := c.ex
  refine ⟨fun pins s σ H Q I h => ?_⟩
  refine wpAny_Call_Name_kw (ld_glob I hg hm ?_ hdb)
  refine PySem.W.callWith_KW (h₀ := X.base) I.ok.mod.kin kp hall (thn (ha.run pos pins s σ H _ I h) fun us s1 ⟨vs, H1, I1, r, q⟩ => ?_) hpl he
  refine thn (hkw.run pos pins s1 σ H1 _ I1 q) fun ws s2 ⟨zs, H2, I2, rz, l1, l2, q2⟩ => ⟨I2.kIn, ?_⟩
  rw [hks]
  exact run_Q0 F (hr.mono hk) (b pt hpt) tkW I2 r rz l1 l2 q2
theorem vx_methQ {pats : List Pat} {pl : Sem Bool} (c : MetQ X.prog X.w X.K X.mg X.base k C m sp pats) (pt : Pat) (hpt : pt ∈ pats) (hr : L2H.RoomH j X.A) (hk : k ≤ j) (tkW : L2N.Takes X W0) (he : PE X o ta) (ha : PA X (e :: es) t) (hkw : PK X kws tk)
    (hall : (backToKw pos (keywordEach kws X.env)).all (·.1.isSome) = true := by rfl) (hks : (backToKw pos (keywordEach kws X.env)).filterMap (·.1) = pt.2.1 := by rfl)
    (hst : starEach (e :: es) X.env = (false, eval e X.env) :: starEach es X.env := by rfl) (hpl : ((backTo pos (starEach (e :: es) X.env)).any (·.1) || (backToKw pos (keywordEach kws X.env)).any (·.1.isNone)) = false := by rfl)
    (ht : eval (.Call (.Attribute o m apos) (e :: es) kws pos) X.env = (do
      let ov ← eval o X.env
      standAt apos.atName
      let (f, first) ← holding [ov] (getMethod ov m pl)
      callWith pos f first (backTo pos (starEach (e :: es) X.env)) (backToKw pos (keywordEach kws X.env))) := by rfl) :
    PE X (.Call (.Attribute o m apos) (e :: es) kws pos) (tMethX C m pt.1 pt.2.1.length sp pt.2.2 W0 ta t tk) := by
  obtain ⟨f, fd, ps, hc, hm, F, b⟩ := c.ex
  refine ⟨fun pins s σ H Q I h => ?_⟩
  refine PySem.W.methodCall_KW (pl := pl) (thn (he.run pins s σ H _ I h) fun u s1 ⟨x, H1, I1, rx, a, dx, fs, ex, ea, l, q⟩ => ?_) ht
  subst ex
  obtain rfl : u = Value.ref a := rx
  refine getmeth_ok I1 ea hc hm l ?_
  refine PySem.W.callWith_KW (first := [.ref a]) (h₀ := X.base) I.ok.mod.kin hm.kp hall (thn (ha.run pos pins s1 σ H1 _ I1 q) fun us s2 ⟨vs, H2, I2, r, q2⟩ => ?_) hpl hst
  refine thn (hkw.run pos pins s2 σ H2 _ I2 q2) fun ws s3 ⟨zs, H3, I3, rz, l1, l2, q3⟩ => ⟨I3.kIn, ?_⟩
  rw [hks]
  exact run_Q0 (us := .ref a :: us) (vs := .ref a :: vs) F (hr.mono hk) (b pt hpt) tkW I3 (.cons rfl r) rz l1 l2 q3
end
end Vx
namespace Vn
open PySem PySem.Spec PyProof.Rows L2 L2H HotX
theorem hotc_suite {X : Cx} {a : Addr} {oe : Obj} {cls : Value} {d : Option Addr} {pn : List (Addr × Obj)} (hz : L2N.Zn cls d oe) (hf : ∃ vs, oe.data = .fields vs) : HotC (X.suite a ((a, oe) :: pn)) := ⟨_, hot_suite hz hf, List.mem_cons_self⟩
theorem range_itN {X : Cx} {tg : Expr} {pins : List (Addr × Obj)} {σ : L2.St} {H : Hp} {s : Shared} {R : It → Hp → Prop} {E : Value → Shared → Prop} {lo hi : Int} {t u v : Tok} {tk : Nat} (I : Inv X pins σ H s) (h1 : -(2 ^ 62) ≤ lo) (h2 : lo < 2 ^ 62) (h3 : -(2 ^ 62) ≤ hi) (h4 : hi < 2 ^ 62)
    (q : R (Itr lo (hi - lo).toNat) H) : wpAny (model X.prog X.w) X.A (pyIter (.ref s.heap.objs.size)) (PIEN X pins σ tg R) E { s with heap := s.heap.push { cls := .type "range", data := .fields #[.int lo t, .int hi u, .int 1 v] }, toks := tk } := by
  refine wpAny_pyIter_range (IsRange.new ..) (small_one h1 h2 h3 h4) ?_
  have I1 : Inv X pins σ H { s with heap := s.heap.push { cls := .type "range", data := .fields #[.int lo t, .int hi u, .int 1 v] }, toks := tk } := I.kept fun b o e => Heap.get?_push_of_some _ e
  refine ⟨(s.heap.push { cls := .type "range", data := .fields #[.int lo t, .int hi u, .int 1 v] }).objs.size, [(s.heap.push { cls := .type "range", data := .fields #[.int lo t, .int hi u, .int 1 v] }).objs.size], _, _, H, rfl,
    I1.kept (t' := tk) fun b o e => Heap.get?_push_of_some _ e, turn_rngN _ lo (hi - lo).toNat, ?_, fun b hb => ?_, q⟩
  · have e1 : lo + ((0 : Nat) : Int) * 1 = lo := by simp
    have e2 : (((hi - lo).toNat : Nat) : Int) - ((0 : Nat) : Int) = Builtin.Range.rangeSize lo hi 1 := by rw [rangeSize_one]; split <;> omega
    show IsRangeIter _ _ (lo + ((0 : Nat) : Int) * 1) ((((hi - lo).toNat : Nat) : Int) - ((0 : Nat) : Int)) 1
    rw [e1, e2]
    exact Heap.get?_push_size _ rfl
  · have e : b = (s.heap.push { cls := .type "range", data := .fields #[.int lo t, .int hi u, .int 1 v] }).objs.size := by simpa using hb
    subst e
    exact I1.fpOk (Nat.le_refl _) (I1.hok.fresh (Nat.le_refl _))
theorem pi_rng1N {X : Cx} {tg a : Expr} {ta : TA} {p pos : Pos} (hg : Gl X "range") (hm : X.mg "range" = none) (ha : PA X [a] ta) (hs : starEach [a] X.env = [(false, eval a X.env)] := by rfl) : PIN X tg (.Call (.Name "range" p) [a] [] pos) (iRng1 ta) := by
  refine ⟨fun pins s σ H R I h => ?_⟩
  refine Call_ (ld_blt I hg hm boot_range (PyProof.Rows.callWith_type1 (thn (ha.run pos pins s σ H _ I h) fun us s1 ⟨vs, H1, I1, r1, q1⟩ => ?_) hs rfl))
  obtain ⟨j, e, q1, q2, q⟩ := q1
  subst e
  cases r1 with
  | cons r rr =>
    cases rr
    obtain ⟨t, rfl⟩ := r
    exact call_range_1 (range_itN I1 (by omega) (by omega) q1 q2 (by simpa using q))
end Vn
namespace Vx
open PySem PySem.Spec PyProof.Rows L2
theorem ps_try_onlyN {X : Cx} {body suite : List Stmt} {x : Str} {c : Value} {ts : Addr → Value → Option Addr → TS} {b₀ : Stmt} {np pos' pos : Pos} {tb : WX → TS} {Wout : WX} (hs : X.stack = X.env :: X.outer) (hf : X.env.frame = some X.env.locals) (hc : Names X x c) (tk : L2N.Takes X Wout)
    (hb : ∀ (W : WX) (pn : List (Addr × Obj)) (xe : Value → Shared → Prop), L2N.Takes (X.tr pn xe) W → PassesOwn (model X.prog X.w) X.A X.env xe → PSs (X.tr pn xe) body (tb W))
    (hsu : ∀ (a : Addr) (oe : Obj) (cls : Value) (d : Option Addr) (pn : List (Addr × Obj)), L2N.Zn cls d oe → (∃ vs, oe.data = .fields vs) → PSs (X.suite a ((a, oe) :: pn)) (b₀ :: suite) (ts a cls d)) :
    PS X (.Try body [.ExceptHandler (some (.Name x np)) none (b₀ :: suite) pos'] [] [] pos) (fun D σ H => tb (wMany X.K Wout D [(c, ts)]) D σ H) :=
  L2N.ps_try_many hs hf tk hb (.cons hc hsu .nil)
end Vx
namespace Vx
open PySem PySem.Spec PyProof.Rows L2
/-! ### the head's facts -/
abbrev Frg : Type := PySem.W.Frag
abbrev FaK : Type := Frg → Bool
abbrev AlK : Type := Bool × List He.FnW × List (Option (List (Option (Str × Int))))
def obsK (fa : List (List FaK)) (fn : List He5.DefA) (ts : List He.Tab) (K : Frg) : AlK :=
  ((fa.all fun l => l.all fun f => f K) && fn.all fun d => d.ok K, fn.map fun d => He5.fnA K (d.at_ K), ts.map fun t => He.dicW K (t.1 K))
def valK (fn : List He5.DefA) (ts : List He.Tab) (w : World) : AlK := (true, fn.map He5.DefA.val, ts.map fun t => some (He.keysIn w.params t.2))
def SaysK (fa : List (List FaK)) (fn : List He5.DefA) (ts : List He.Tab) (w : World) (K : Frg) : Prop := obsK fa fn ts K = valK fn ts w
/-- what the names reach in n steps; what has been met is a number's bits -/
def grow1 : List Addr → Nat → List Addr → Nat × List Addr
  | [], m, nw => (m, nw)
  | a :: r, m, nw => match Nat.beq (Nat.land (Nat.shiftRight m a) 1) 1 with
    | true => grow1 r m nw
    | false => HandSHeadRun.frNat (Nat.lor m (Nat.shiftLeft 1 a)) fun m' => grow1 r m' (a :: nw)
def refsG (g : Addr → Option Obj) (a : Addr) : List Addr := match g a with
  | some o => He.refsD o
  | none => []
def asB (g : Addr → Option Obj) : Nat → Nat → List Addr → List Addr
  | 0, _, fr => fr
  | n + 1, m, fr => match grow1 (fr.flatMap (refsG g)) m [] with
    | (m', nw) => fr ++ asB g n m' nw
def asK (g : Addr → Option Obj) (n : Nat) : List Addr := asB g n (Nat.shiftLeft 1 mainGlobals) [mainGlobals]
def obsKG (n : Nat) (fa : List (List FaK)) (fn : List He5.DefA) (ts : List He.Tab) (g : Addr → Option Obj) : AlK := obsK fa fn ts (He.frG g (asK g n))
def hookK (n : Nat) (fa : List (List FaK)) (fn : List He5.DefA) (ts : List He.Tab) : PySem.W.Hook where
  α := AlK
  obs := fun s => obsKG n fa fn ts s.heap.get?
  val := fun w => valK fn ts w
  says := fun w h => ∃ K : Frg, K.In h ∧ SaysK fa fn ts w K
  of := fun _ _ e => ⟨_, He.frG_in, e⟩
  keeps := fun _ _ _ ⟨K, hK, c⟩ k => ⟨K, PySem.W.Frag.In.keeps hK k, c⟩
theorem obsKG_eq {n : Nat} {fa : List (List FaK)} {fn : List He5.DefA} {ts : List He.Tab} {g : Addr → Option Obj} {s : Shared} (h : ∀ a, g a = s.heap.get? a) : obsKG n fa fn ts g = (hookK n fa fn ts).obs s := by
  have e : g = s.heap.get? := funext h
  rw [e] <;> rfl
section
variable {fa : List (List FaK)} {fn : List He5.DefA} {ts : List He.Tab} {w : World} {K : Frg}
theorem SaysK.fact (c : SaysK fa fn ts w K) (i j : Nat) {l : List FaK} {f : FaK} (hl : fa[i]? = some l := by rfl) (h : l[j]? = some f := by rfl) : f K = true := by
  have c1 := (He.ba (show ((fa.all fun l => l.all fun f => f K) && fn.all fun d => d.ok K) = true from congrArg (fun z : AlK => z.1) c)).1
  have c2 := List.all_eq_true.mp c1 l (List.mem_of_getElem? hl)
  exact List.all_eq_true.mp c2 f (List.mem_of_getElem? h)
theorem SaysK.def_ (c : SaysK fa fn ts w K) (i : Nat) {d : He5.DefA} (h : fn[i]? = some d := by rfl) : ∃ fd, FunD K d.name d.qual d.params d.body d.scope (d.dvs K) (d.kws K) (d.at_ K) fd := by
  have c2 := (He.ba (show ((fa.all fun l => l.all fun f => f K) && fn.all fun d => d.ok K) = true from congrArg (fun z : AlK => z.1) c)).2
  have e : fn.map (fun d => He5.fnA K (d.at_ K)) = fn.map He5.DefA.val := congrArg (fun z : AlK => z.2.1) c
  have e2 : (fn.map fun d => He5.fnA K (d.at_ K))[i]? = (fn.map He5.DefA.val)[i]? := by rw [e]
  rw [List.getElem?_map, List.getElem?_map, h] at e2
  exact He5.DefA.funD (Option.some.inj e2) (List.all_eq_true.mp c2 d (List.mem_of_getElem? h))
theorem SaysK.tab (c : SaysK fa fn ts w K) (i : Nat) {t : He.Tab} (h : ts[i]? = some t := by rfl) : He.dicW K (t.1 K) = some (He.keysIn w.params t.2) := by
  have e : ts.map (fun t => He.dicW K (t.1 K)) = ts.map fun t => some (He.keysIn w.params t.2) := congrArg (fun z : AlK => z.2.2) c
  have e2 : (ts.map fun t => He.dicW K (t.1 K))[i]? = (ts.map fun t => some (He.keysIn w.params t.2))[i]? := by rw [e]
  rw [List.getElem?_map, List.getElem?_map, h] at e2
  exact Option.some.inj e2
end
/-! ### facts -/
/-- a def's keyword default, if it is an object -/
def kdA (f : Frg → Addr) (x : Str) (K : Frg) : Addr := match K.lookup (f K) with
  | some ⟨_, _, .func fd, _⟩ => (match fd.kwdefaults with
    | .ref D => (match PySem.W.nsIn K D x with
      | some (some (.ref a)) => a
      | _ => 0)
    | _ => 0)
  | _ => 0
/-- a property's def -/
def prA (C m : Str) (K : Frg) : Addr := match PySem.W.recIn K (He.ma K (He.ga K C) m) "property" with
  | some (.ref f :: _) => f
  | _ => 0
def prpB (C m : Str) : FaK := fun K => He.eqO (PySem.W.findIn K (.ref (He.ga K C)) m) (some (some (.ref (He.ma K (He.ga K C) m)))) &&
  (He.eqO (PySem.W.specialIn K (.ref (He.ma K (He.ga K C) m)) "__get__") (some (some (.builtin "property.__get__"))) &&
  (decide (PySem.W.takesIn K (.ref (He.ma K (He.ga K C) m)) = some true) && (match PySem.W.recIn K (He.ma K (He.ga K C) m) "property" with
    | some (.ref _ :: _) => true
    | _ => false)))
theorem prpB_ok {K : Frg} {C m : Str} (h : prpB C m K = true) : PySem.W.findIn K (.ref (He.ga K C)) m = some (some (.ref (He.ma K (He.ga K C) m))) ∧ PySem.W.specialIn K (.ref (He.ma K (He.ga K C) m)) "__get__" = some (some (.builtin "property.__get__")) ∧
    PySem.W.takesIn K (.ref (He.ma K (He.ga K C) m)) = some true ∧ ∃ rs, PySem.W.recIn K (He.ma K (He.ga K C) m) "property" = some (.ref (prA C m K) :: rs) := by
  obtain ⟨h1, h⟩ := He.ba h
  obtain ⟨h2, h⟩ := He.ba h
  obtain ⟨h3, h4⟩ := He.ba h
  refine ⟨He.eqO_ok h1, He.eqO_ok h2, of_decide_eq_true h3, ?_⟩
  unfold prA
  split at h4
  · rename_i f r e
    exact ⟨r, by rw [e]⟩
  · cases h4
def isiB (C : Str) : FaK := fun K => He.eqO (PySem.W.findIn K (.ref (He.ga K C)) "__class__") (some (some (.builtin "object.__class__"))) && (He.eqO (PySem.W.specialIn K (.builtin "object.__class__") "__get__") (some (some (.builtin "getset_descriptor.__get__"))) &&
  (decide (PySem.W.takesIn K (.builtin "object.__class__") = some true) && decide (PySem.W.mroIn K (He.ga K C) (.type "object") = some true)))
theorem isiB_ok {K : Frg} {C : Str} (h : isiB C K = true) : IsiC K (He.ga K C) := by
  obtain ⟨h1, h⟩ := He.ba h
  obtain ⟨h2, h⟩ := He.ba h
  obtain ⟨h3, h4⟩ := He.ba h
  exact ⟨He.eqO_ok h1, He.eqO_ok h2, of_decide_eq_true h3, of_decide_eq_true h4⟩
def excCB (C : Str) : FaK := fun K => He.eqO (PySem.W.findIn K (.ref (He.ga K C)) "__getattribute__") (some (some (.builtin "BaseException.__getattribute__"))) && (He.eqO (PySem.W.findIn K (.ref (He.ga K C)) "__getattr__") (some none) &&
  (decide (PySem.W.subIn K (.ref (He.ga K C)) (.type "BaseException") = some true) && (PySem.W.hasDictIn K (He.ga K C) && isiB C K)))
theorem excCB_ok {K : Frg} {C : Str} (h : excCB C K = true) : ExcC K (He.ga K C) := by
  obtain ⟨h1, h⟩ := He.ba h
  obtain ⟨h2, h⟩ := He.ba h
  obtain ⟨h3, h⟩ := He.ba h
  obtain ⟨h4, h⟩ := He.ba h
  obtain ⟨h5, h⟩ := He.ba h
  obtain ⟨h6, h⟩ := He.ba h
  obtain ⟨h7, h8⟩ := He.ba h
  exact ⟨He.eqO_ok h1, He.eqO_ok h2, of_decide_eq_true h3, h4, He.eqO_ok h5, He.eqO_ok h6, of_decide_eq_true h7, of_decide_eq_true h8⟩
def kitFB (D : Str) (c : Frg → Value) (b : Bool) : FaK := fun K => decide (PySem.W.kitOne K (.ref (He.ga K D)) (c K) = some b)
theorem kitFB_ok {K : Frg} {D : Str} {c : Frg → Value} {b : Bool} (h : kitFB D c b K = true) : PySem.W.kitOne K (.ref (He.ga K D)) (c K) = some b := of_decide_eq_true h
/-- a tuple of these -/
def tupK (a : Frg → Addr) (vs : List He.Dv) : FaK := fun K => match K.lookup (a K) with
  | some ⟨.type c, none, .seq its _, _⟩ => decide (c = "tuple") && (decide (its.size ≤ sizeLine) && He.relAll (vs.map (He.Dv.v K)) its.toList)
  | _ => false
theorem tupK_at {K : Frg} {a : Frg → Addr} {vs : List He.Dv} (h : tupK a vs K = true) : ∃ its n sl, K.lookup (a K) = some ⟨.type "tuple", none, .seq its n, sl⟩ ∧ its.size ≤ sizeLine ∧ Vals (vs.map (He.Dv.v K)) its.toList := by
  unfold tupK at h
  cases q : K.lookup (a K) with
  | none =>
    rw [q] at h
    cases h
  | some o =>
    obtain ⟨oc, od, dt, osl⟩ := o
    rw [q] at h
    cases oc with
    | type c =>
      cases od with
      | none =>
        cases dt with
        | seq its n =>
          obtain ⟨h1, h2⟩ := He.ba (show (decide (c = "tuple") && (decide (its.size ≤ sizeLine) && He.relAll (vs.map (He.Dv.v K)) its.toList)) = true from h)
          obtain ⟨h3, h4⟩ := He.ba h2
          refine ⟨its, n, osl, ?_, of_decide_eq_true h3, He.relAll_ok h4⟩
          rw [of_decide_eq_true h1]
        | _ => cases h
      | some d => cases dt <;> cases h
    | _ => cases od <;> cases dt <;> cases h
theorem tupK_ok {K : Frg} {a : Frg → Addr} {vs : List He.Dv} (h : tupK a vs K = true) (H : Hp) : SqT K H (a K) (vs.map (He.Dv.v K)) := by
  obtain ⟨its, n, sl, e, h1, h2⟩ := tupK_at h
  exact .inr ⟨_, its, n, e, rfl, rfl, h1, h2⟩
theorem tupK_cls {K : Frg} {a : Frg → Addr} {vs : List He.Dv} (h : tupK a vs K = true) : ∃ o, K.lookup (a K) = some o ∧ o.cls = .type "tuple" ∧ o.dict = none := by
  obtain ⟨its, n, sl, e, h1, h2⟩ := tupK_at h
  exact ⟨_, e, rfl, rfl⟩
/-- the i-th item of a tuple -/
def itK (a : Frg → Addr) (i : Nat) (K : Frg) : Addr := match K.lookup (a K) with
  | some ⟨_, _, .seq its _, _⟩ => (match its.toList[i]? with
    | some (.ref b) => b
    | _ => 0)
  | _ => 0
/-- the value of a key of text -/
def ikK (a : Frg → Addr) (k : Str) (K : Frg) : Addr := match PySem.W.nsIn K (a K) k with
  | some (some (.ref b)) => b
  | _ => 0
/-! ### dicts of ints -/
def eiB : List (Int × Int) → List DictEntry → Bool
  | [], [] => true
  | (k, v) :: r, ⟨h, .int k2 _, .int v2 _⟩ :: es => decide (h = hashInt k) && (decide (k2 = k) && (decide (v2 = v) && eiB r es))
  | _, _ => false
theorem eiB_ok : ∀ {kvs : List (Int × Int)} {es : List DictEntry}, eiB kvs es = true → EI kvs es
  | [], [], _ => .nil
  | [], _ :: _, h => by cases h
  | _ :: _, [], h => by cases h
  | (k, v) :: r, ⟨h0, kk, vv⟩ :: es, h => by
    cases kk with
    | int k2 t =>
      cases vv with
      | int v2 u =>
        obtain ⟨h1, h⟩ := He.ba (show (decide (h0 = hashInt k) && (decide (k2 = k) && (decide (v2 = v) && eiB r es))) = true from h)
        obtain ⟨h2, h⟩ := He.ba h
        obtain ⟨h3, h⟩ := He.ba h
        rw [of_decide_eq_true h1, of_decide_eq_true h2, of_decide_eq_true h3]
        exact .cons (eiB_ok h)
      | _ => cases h
    | _ => cases vv <;> cases h
def kdiB (a : Frg → Addr) (kvs : List (Int × Int)) : FaK := fun K => match K.lookup (a K) with
  | some ⟨.type c, none, .dict es _, sl⟩ => decide (c = "dict") && (sl.isEmpty && (!(a K == sysModules) && eiB kvs es.toList))
  | _ => false
theorem kdiB_ok {K : Frg} {a : Frg → Addr} {kvs : List (Int × Int)} (h : kdiB a kvs K = true) : KDI K (a K) kvs := by
  unfold kdiB at h
  cases q : K.lookup (a K) with
  | none =>
    rw [q] at h
    cases h
  | some o =>
    obtain ⟨oc, od, dt, osl⟩ := o
    rw [q] at h
    cases oc with
    | type c =>
      cases od with
      | none =>
        cases dt with
        | dict es n =>
          obtain ⟨h1, h2⟩ := He.ba (show (decide (c = "dict") && (osl.isEmpty && (!(a K == sysModules) && eiB kvs es.toList))) = true from h)
          obtain ⟨h3, h4⟩ := He.ba h2
          obtain ⟨h5, h6⟩ := He.ba h4
          refine ⟨es, n, ?_, ?_, eiB_ok h6⟩
          · rw [q, of_decide_eq_true h1, Array.isEmpty_iff.mp h3]
          · cases y : a K == sysModules with
            | false => rfl
            | true =>
              rw [y] at h5
              cases h5
        | _ => cases h
      | some b => cases dt <;> cases h
    | _ => cases od <;> cases dt <;> cases h
/-! ### dicts with text keys: the values -/
def valsL (K : Frg) (vs : List He.Dv) (es : List DictEntry) : Bool := He.relAll (vs.map (He.Dv.v K)) (es.map (·.val))
def dvB (a : Frg → Addr) (vs : List He.Dv) : FaK := fun K => match K.lookup (a K) with
  | some ⟨_, _, .dict es _, _⟩ => valsL K vs es.toList
  | _ => false
theorem dic_of {K : Frg} {P : Params} {a : Frg → Addr} {ks : List Str} {vs : List He.Dv} (h : He.dicW K (a K) = some (He.keysIn P ks)) (hv : dvB a vs K = true) :
    ∃ es n, K.lookup (a K) = some ⟨.type "dict", none, .dict es n, #[]⟩ ∧ es.toList.map He.keyOf = He.keysIn P ks ∧ Vals (vs.map (He.Dv.v K)) (es.toList.map (·.val)) := by
  unfold He.dicW at h
  unfold dvB at hv
  cases q : K.lookup (a K) with
  | none =>
    rw [q] at h
    cases h
  | some o =>
    obtain ⟨oc, od, dt, osl⟩ := o
    rw [q] at h hv
    cases oc with
    | type c =>
      cases od with
      | none =>
        cases dt with
        | dict es n =>
          have h1 : (match decide (c = "dict") && (osl.isEmpty && !(a K == sysModules)) with
            | true => some (es.toList.map He.keyOf)
            | false => none) = some (He.keysIn P ks) := h
          cases z : decide (c = "dict") && (osl.isEmpty && !(a K == sysModules)) with
          | false =>
            rw [z] at h1
            cases h1
          | true =>
            rw [z] at h1
            obtain ⟨z1, z2⟩ := He.ba z
            obtain ⟨z3, z4⟩ := He.ba z2
            refine ⟨es, n, ?_, Option.some.inj h1, He.relAll_ok hv⟩
            rw [of_decide_eq_true z1, Array.isEmpty_iff.mp z3]
        | _ => cases h
      | some b => cases dt <;> cases h
    | _ => cases od <;> cases dt <;> cases h
theorem fnD_ex {K : Frg} {x q : Str} {args : Arguments} {body : List Stmt} {sc : Scope} {kws : List (Str × V)} {f : Addr} {fd : FuncData} (F : FunD K x q args body sc [] kws f fd) : ∃ (kV doc : Value) (pm : Value) (an : Option Addr) (cdv ct : Value), fd = PySem.W.fnOf x q args body sc .none kV doc pm an cdv ct := by
  obtain ⟨oc, od, dV, kV, doc, pm, an, cdv, ct, osl, e, l, c, hd, _⟩ := F.ex
  rcases hd with ⟨_, e2⟩ | ⟨e2, _⟩
  · subst e2
    exact ⟨_, _, _, _, _, _, e⟩
  · exact absurd rfl e2
/-! ### positional defaults -/
theorem fnD_exP {K : PySem.W.Frag} {x q : Str} {args : Arguments} {body : List Stmt} {sc : Scope} {dvs : List V} {kws : List (Str × V)} {f : Addr} {fd : FuncData} (F : FunD K x q args body sc dvs kws f fd) : ∃ (dV kV doc : Value) (pm : Value) (an : Option Addr) (cdv ct : Value), fd = PySem.W.fnOf x q args body sc dV kV doc pm an cdv ct := by
  obtain ⟨oc, od, dV, kV, doc, pm, an, cdv, ct, osl, e, l, c, hd, _⟩ := F.ex
  exact ⟨_, _, _, _, _, _, _, e⟩
theorem Bnd.dfl {K : PySem.W.Frag} {x qual : Str} {params : Arguments} {body : List Stmt} {scope : Scope} {dvs : List V} {kws : List (Str × V)} {f : Addr} {fd : FuncData} {ps : List Str} (F : FunD K x qual params body scope dvs kws f fd) (n j : Nat) (hd : dvs ≠ [])
    (h : ∀ (T : Addr) (kV doc pm : Value) (an : Option Addr) (cdv ct : Value) (us its : List Value), us.length = n → its.length = dvs.length →
      ∃ k, bindArgs (PySem.W.fnOf x qual params body scope (.ref T) kV doc pm an cdv ct) ⟨us, []⟩ = seqItems? (.ref T) >>= k ∧ k (some its.toArray) = pure (ps.zip (us ++ its.drop j))) : Bnd K fd ps n [] (fun vs _ => vs ++ dvs.drop j) := by
  obtain ⟨oc, od, dV, kV, doc, pm, an, cdv, ct, osl, rfl, lk, hcd, hD, hK⟩ := F.ex
  rcases hD with ⟨e, _⟩ | ⟨_, T, o, its, m, rfl, lT, oT, rT⟩
  · exact absurd e hd
  · refine ⟨fun s us ws vs zs X hv hz rv rz => ⟨us ++ its.drop j, ?_, rv.append (rT.drop j)⟩⟩
    have hw : ws = [] := by
      have := rz.length
      rw [hz] at this
      exact List.eq_nil_of_length_eq_zero this.symm
    subst hw
    obtain ⟨k, e1, e2⟩ := h T kV doc pm an cdv ct us its (rv.length.symm.trans hv) rT.length.symm
    refine BindsTo.of_looks fun M => ?_
    show PySem.W.Looks M s.heap (bindArgs _ ⟨us, []⟩) _
    rw [e1]
    exact looks_items X lT oT (.of_pure e2)
/-- every argument is given though the def has defaults -/
theorem Bnd.dflA {K : PySem.W.Frag} {x qual : Str} {params : Arguments} {body : List Stmt} {scope : Scope} {dvs : List V} {kws : List (Str × V)} {f : Addr} {fd : FuncData} {ps : List Str} (F : FunD K x qual params body scope dvs kws f fd) (n : Nat) (hd : dvs ≠ [])
    (h : ∀ (T : Addr) (kV doc pm : Value) (an : Option Addr) (cdv ct : Value) (us its : List Value), us.length = n → its.length = dvs.length →
      ∃ k, bindArgs (PySem.W.fnOf x qual params body scope (.ref T) kV doc pm an cdv ct) ⟨us, []⟩ = seqItems? (.ref T) >>= k ∧ k (some its.toArray) = pure (ps.zip us)) : Bnd K fd ps n [] (fun vs _ => vs) := by
  have b := Bnd.dfl (ps := ps) F n dvs.length hd fun T kV doc pm an cdv ct us its h1 h2 => by
    obtain ⟨k, e1, e2⟩ := h T kV doc pm an cdv ct us its h1 h2
    refine ⟨k, e1, ?_⟩
    rw [e2, ← h2, List.drop_length, List.append_nil]
  have e : (fun (vs : List V) (_ : List V) => vs ++ dvs.drop dvs.length) = fun vs _ => vs := by
    funext vs _
    rw [List.drop_length, List.append_nil]
  rw [← e]
  exact b
/-! ### the law -/
theorem walkK {l : PySem.W.OpenLaw} {n k : Nat} {q : Program} {loose : List Str} {XP : (Str → Option Value) → Heap → Prop} {YP : World → Heap → Prop} {d : DefRec} {x : Str} (hn : l.most = some n) (hn2 : n ≤ sizeLine) (hdf : d.params.defaults = []) (room : Room k callerA)
    (F : ∀ (w : World) (mg : Str → Option Value) (fa : Addr) (h : Heap), YP w h → h.Ns mainGlobals mg → mg d.name = some (.ref fa) →
      ∃ (K : Frg) (fd : FuncData), K.In h ∧ (∀ (s : Shared) (u : Value), BindsTo s fd ⟨[u], []⟩ [(x, u)]) ∧ ∀ base : Heap, K.In base → base.Ns mainGlobals mg → FnG l.prog w K mg base CX0 k fa fd [x] (fun vs H Q _ => ∃ (a : Addr) (ns : List Int), vs = [.ref a] ∧ SqL K H a (ns.map V.int) ∧ ns.length ≤ n ∧ ∀ H', Q (.bl true) H')) :
    PySem.W.WalkO q loose XP YP l.row.toRowW d [] (fun f vs => PySem.call f vs) := by
  refine Att.attach_call hn hdf ?_
  intro w s₀ s₁ mg mb fa o pm cd doc a vs ns G Y _ _ _ hmg script whole short gens
  obtain ⟨K, fd, kin, bind, prom⟩ := F w mg fa _ Y G.T.g hmg
  obtain ⟨H, base, seq, kinB, nsB, env, fin⟩ := law_start (P := l.prog) (w := w) kin G.T.g G.T.b G.T.builtins G.T.nolimit gens script whole (Nat.le_trans short hn2)
  refine codeAny_mono ((prom base kinB nsB).run callerA [] s₁ H ⟨[.ref a], []⟩ [.ref a] [.ref a] (fun v _ => v = .bl true) (fun _ _ _ => False) ⟨room, rfl⟩ env (bind s₁ (.ref a)) (.cons rfl .nil) ⟨a, ns, rfl, seq, short, fun _ => rfl⟩) ?_
  intro r s2 out
  cases r with
  | error e => exact out.elim
  | ok flow =>
    cases flow with
    | ret u =>
      obtain ⟨⟨v, rv, z⟩, h1, h2, h3⟩ := fin (fun v => v = .bl true) u s2 out
      subst z
      obtain rfl : u = Value.bool true := rv
      exact ⟨rfl, h1, h2, h3⟩
    | next => exact out.elim
    | brk => exact out.elim
    | cont => exact out.elim
end Vx
namespace Vx
open PySem PySem.Spec PyProof.Rows L2
structure St_Encoder where
  probs : (List Int)
  front : (List Int)
  low : Int
  span : Int
deriving DecidableEq
structure St_SymbolWriter where
  enc : St_Encoder
deriving DecidableEq
structure St_Decoder where
  probs : (List Int)
  octs : (List Int)
  place : Int
  span : Int
  value : Int
deriving DecidableEq
structure St_SymbolReader where
  dec : St_Decoder
deriving DecidableEq
def F__law_cell (script' : (List Int)) (k' : Int) : Rx Int :=
  (if k' < (((script') : (List Int)).length : Int) then grd (-((script' : (List Int)).length : Int) ≤ k' ∧ k' < ((script' : (List Int)).length : Int)) <| .ok ((if (itD (script') (k')) < 0 then -(itD (script') (k')) else (itD (script') (k')))) else .ok (0))

def F__law_digits_b1 (base_14 : Int) (large_15 : Bool) (cell_27 : Int) (digits_28 : (List Int)) (it31 : Int) : Rx (Int × (List Int)) :=
  (if large_15 = true then grd (0 < (base_14 : Int)) <| grd ((digits_28).length ≤ 1000000) <| bnd ((digits_28) ++ [(cell_27 % base_14)]) fun y41 => grd (0 < (base_14 : Int) ∧ (base_14 : Int) < 2 ^ 128) <| bnd ((cell_27 / base_14)) fun cell_43 => .ok ((cell_43), (y41)) else grd ((-(2 ^ 64) < ((it31 + 1) : Int) ∧ ((it31 + 1) : Int) < 2 ^ 64) ∨ (-(2 ^ 64) < ((it31 + 5) : Int) ∧ ((it31 + 5) : Int) < 2 ^ 64)) <| grd ((-(2 ^ 64) < ((cell_27 / 97) : Int) ∧ ((cell_27 / 97) : Int) < 2 ^ 64) ∨ (-(2 ^ 64) < (it31 : Int) ∧ (it31 : Int) < 2 ^ 64)) <| grd (0 < (base_14 : Int)) <| grd ((digits_28).length ≤ 1000000) <| bnd ((digits_28) ++ [(((((cell_27 * 48271) + (((it31 + 1) * (it31 + 5)) * 69621)) + ((cell_27 / 97) * it31)) % 2147483647) % base_14)]) fun y54 => .ok ((cell_27), (y54)))

def F__law_digits_r1 (cell_60 : Int) (digits_61 : (List Int)) : Rx (List Int) :=
  .ok (digits_61)

def F__law_digits (cell' : Int) (base' : Int) (most' : Int) : Rx (List Int) :=
  bnd (decide (((10 : Int) ^ Int.toNat 18) ≤ cell')) fun large_12 => grd (-(2 ^ 62) ≤ (most' : Int) ∧ (most' : Int) < 2 ^ 62) <| Rx.bind (forS (rng (0) (Int.toNat (most'))) ((cell'), (([] : (List Int)))) (fun s x => F__law_digits_b1 (base') (large_12) (s.1) (s.2) x)) fun s => F__law_digits_r1  (s.1) (s.2)

def F__law_octets_c2 (it120 : Int) : Rx Int :=
  .ok 255

def F__law_octets_c3 (it185 : Int) : Rx Int :=
  grd ((-(2 ^ 64) < (it185 : Int) ∧ (it185 : Int) < 2 ^ 64) ∨ (-(2 ^ 64) < ((it185 % 2) : Int) ∧ ((it185 % 2) : Int) < 2 ^ 64)) <| .ok ((it185 * (it185 % 2)))

def F__law_octets_k1 (octets_71 : (List Int)) : Rx (List Int) :=
  .ok (octets_71)

def F__law_octets (cell' : Int) : Rx (List Int) :=
  Rx.bind (F__law_digits cell' 256 (((cell' / 3) % 41))) fun v62 => Rx.bind (((if (((cell' / 5) % 4) : Int) = 0 then Rx.bind (mapA (v62) [] (fun x => noEr (F__law_octets_c2  x))) fun v77 => .ok (v77) else (if (((cell' / 5) % 4) : Int) = 1 then Rx.bind (mapA (v62) [] (fun x => noEr (F__law_octets_c3  x))) fun v142 => .ok (v142) else .ok (v62))) : Rx ((List Int)))) fun s => F__law_octets_k1  s

def F_SymbolReader___init__ (decoder' : St_Decoder) : Rx St_SymbolReader :=
  .ok (⟨decoder'⟩ : St_SymbolReader)

def F_Encoder___init__  : Rx St_Encoder :=
  grd (-(2 ^ 63) ≤ (256 : Int) ∧ (256 : Int) < 2 ^ 63 ∧ ([2048]).length * Int.toNat (256) ≤ 1000000) <| bnd ((4294967296 - 1)) fun _span_267 => .ok (⟨repL ([2048]) (256), ([] : (List Int)), 0, _span_267⟩ : St_Encoder)

def F_SymbolWriter___init__ (encoder' : St_Encoder) : Rx St_SymbolWriter :=
  .ok (⟨encoder'⟩ : St_SymbolWriter)

def F__check_contexts (base' : Int) (count' : Int) : Rx Unit :=
  (if 0 < count' then (if 0 ≤ base' then (if base' ≤ (256 - count') then .ok (()) else .er 1) else .er 1) else .ok (()))

def F__check_unary (base' : Int) (most' : Int) : Rx Unit :=
  (if 0 ≤ most' then (if most' ≤ 64 then Rx.bind (F__check_contexts base' ((if 8 < most' then 8 else most'))) fun v287 => .ok (()) else .er 1) else .er 1)

def F__check_context (context' : Int) : Rx Unit :=
  (if 0 ≤ context' then (if context' < 256 then .ok (()) else .er 1) else .er 1)

def F__check_decision (decision' : Int) : Rx Unit :=
  (if 0 ≤ decision' then (if decision' ≤ 1 then .ok (()) else .er 1) else .er 1)

def F__adapted (chance' : Int) (decision' : Int) : Rx Int :=
  (if (decision' : Int) = 0 then .ok ((chance' + ((4096 - chance') / 32))) else .ok ((chance' - (chance' / 32))))

def F_Encoder__carry_r1 (self_323 : St_Encoder) (place_324 : Int) : Rx St_Encoder :=
  grd ((0 : Int) ≤ place_324 ∧ place_324 < 2 ^ 62 ∧ place_324 < ((self_323.front).length : Int)) <| grd (-((self_323.front : (List Int)).length : Int) ≤ place_324 ∧ place_324 < ((self_323.front : (List Int)).length : Int)) <| bnd (setL (self_323.front) (place_324) (((itD (self_323.front) (place_324)) + 1))) fun y333 => .ok (⟨self_323.probs, y333, self_323.low, self_323.span⟩ : St_Encoder)

def F_Encoder__carry_b1 (self_306 : St_Encoder) (place_307 : Int) : Rx (Lp (St_Encoder × Int) St_Encoder) :=
  grd (-((self_306.front : (List Int)).length : Int) ≤ place_307 ∧ place_307 < ((self_306.front : (List Int)).length : Int)) <| (if ((itD (self_306.front) (place_307)) : Int) = 255 then grd (-((self_306.front : (List Int)).length : Int) ≤ place_307 ∧ place_307 < ((self_306.front : (List Int)).length : Int)) <| bnd (setL (self_306.front) (place_307) (0)) fun y319 => bnd ((place_307 - 1)) fun place_320 => .ok (.go (((⟨self_306.probs, y319, self_306.low, self_306.span⟩ : St_Encoder)), (place_320))) else .ok (.bk ((self_306), (place_307))))

def F_Encoder__carry (self' : St_Encoder) : Rx St_Encoder :=
  bnd (((((self'.front) : (List Int)).length : Int) - 1)) fun place_293 => Rx.bind ((whileR 1000000 ((self'), (place_293)) (fun s => F_Encoder__carry_b1  (s.1) (s.2)) : Rx (Lp (St_Encoder × Int) St_Encoder))) fun l => l.aft Rx.ok fun s => F_Encoder__carry_r1  (s.1) (s.2)

def F_Encoder__narrow_r2 (self_437 : St_Encoder) : Rx St_Encoder :=
  .ok self_437

def F_Encoder__narrow_b2 (self_406 : St_Encoder) : Rx (Lp (St_Encoder) St_Encoder) :=
  (if self_406.span < 16777216 then grd ((self_406.front).length ≤ 1000000) <| bnd ((self_406.front) ++ [(self_406.low / 16777216)]) fun y417 => grd ((0 : Int) ≤ 8 ∧ (8 : Int) ≤ 4096 ∧ -(2 ^ 4096) < (self_406.low : Int) ∧ (self_406.low : Int) < 2 ^ 4096) <| bnd ((PySem.Builtin.bitAnd ((self_406.low * 2 ^ Int.toNat (8))) ((4294967296 - 1)))) fun _low_420 => grd ((0 : Int) ≤ 8 ∧ (8 : Int) ≤ 4096 ∧ -(2 ^ 4096) < (self_406.span : Int) ∧ (self_406.span : Int) < 2 ^ 4096) <| bnd ((self_406.span * 2 ^ Int.toNat (8))) fun _span_428 => .ok (.go ((⟨self_406.probs, y417, _low_420, _span_428⟩ : St_Encoder))) else .ok (.bk (self_406)))

def F_Encoder__narrow_k1 (self_338 : St_Encoder) : Rx St_Encoder :=
  Rx.bind ((whileR 1000000 (self_338) (fun s => F_Encoder__narrow_b2  s) : Rx (Lp (St_Encoder) St_Encoder))) fun l => l.aft Rx.ok fun s => F_Encoder__narrow_r2  s

def F_Encoder__narrow (self' : St_Encoder) (chance' : Int) (decision' : Int) : Rx St_Encoder :=
  grd ((-(2 ^ 64) < ((self'.span / 4096) : Int) ∧ ((self'.span / 4096) : Int) < 2 ^ 64) ∨ (-(2 ^ 64) < (chance' : Int) ∧ (chance' : Int) < 2 ^ 64)) <| bnd (((self'.span / 4096) * chance')) fun part_337 => Rx.bind (((if (decision' : Int) = 0 then .ok ((⟨self'.probs, self'.front, self'.low, part_337⟩ : St_Encoder)) else bnd ((self'.span - part_337)) fun _span_351 => bnd ((self'.low + part_337)) fun _low_358 => (if 4294967296 ≤ _low_358 then bnd ((_low_358 - 4294967296)) fun _low_366 => Rx.bind (noEr (F_Encoder__carry ((⟨self'.probs, self'.front, _low_366, _span_351⟩ : St_Encoder)))) fun v375 => .ok (v375) else .ok ((⟨self'.probs, self'.front, _low_358, _span_351⟩ : St_Encoder)))) : Rx (St_Encoder))) fun s => F_Encoder__narrow_k1  s

def F_Encoder_code (self' : St_Encoder) (context' : Int) (decision' : Int) : Rx St_Encoder :=
  Rx.bind (F__check_context context') fun v438 => Rx.bind (F__check_decision decision') fun v439 => grd (-((self'.probs : (List Int)).length : Int) ≤ context' ∧ context' < ((self'.probs : (List Int)).length : Int)) <| bnd ((itD (self'.probs) (context'))) fun chance_441 => Rx.bind (F_Encoder__narrow (self') chance_441 decision') fun v442 => Rx.bind (noEr (F__adapted chance_441 decision')) fun v453 => grd (-((v442.probs : (List Int)).length : Int) ≤ context' ∧ context' < ((v442.probs : (List Int)).length : Int)) <| bnd (setL (v442.probs) (context') (v453)) fun y461 => .ok (⟨y461, v442.front, v442.low, v442.span⟩ : St_Encoder)

def F_SymbolWriter_unary_b1 (base_468 : Int) (self_485 : St_SymbolWriter) (it488 : Int) : Rx (St_SymbolWriter) :=
  Rx.bind (noEr (F_Encoder_code (self_485.enc) ((base_468 + (if (8 - 1) < it488 then (8 - 1) else it488))) 1)) fun v489 => .ok ((⟨v489⟩ : St_SymbolWriter))

def F_SymbolWriter_unary_r1 (base_469 : Int) (value_470 : Int) (most_471 : Int) (self_509 : St_SymbolWriter) : Rx St_SymbolWriter :=
  (if value_470 < most_471 then Rx.bind (noEr (F_Encoder_code (self_509.enc) ((base_469 + (if (8 - 1) < value_470 then (8 - 1) else value_470))) 0)) fun v511 => .ok (⟨v511⟩ : St_SymbolWriter) else .ok self_509)

def F_SymbolWriter_unary (self' : St_SymbolWriter) (base' : Int) (value' : Int) (most' : Int) : Rx St_SymbolWriter :=
  Rx.bind (F__check_unary base' most') fun v464 => (if 0 ≤ value' then (if value' ≤ most' then grd (-(2 ^ 62) ≤ (value' : Int) ∧ (value' : Int) < 2 ^ 62) <| Rx.bind (forS (rng (0) (Int.toNat (value'))) (self') (fun s x => F_SymbolWriter_unary_b1 (base') s x)) fun s => F_SymbolWriter_unary_r1 (base') (value') (most') s else .er 1) else .er 1)

def F_Decoder__shift_k1 (self_523 : St_Decoder) (octet_524 : Int) : Rx St_Decoder :=
  grd ((0 : Int) ≤ 8 ∧ (8 : Int) ≤ 4096 ∧ -(2 ^ 4096) < (self_523.value : Int) ∧ (self_523.value : Int) < 2 ^ 4096) <| bnd ((PySem.Builtin.bitOr ((self_523.value * 2 ^ Int.toNat (8))) (octet_524))) fun _value_549 => .ok (⟨self_523.probs, self_523.octs, self_523.place, self_523.span, _value_549⟩ : St_Decoder)

def F_Decoder__shift (self' : St_Decoder) : Rx St_Decoder :=
  Rx.bind (((if self'.place < (((self'.octs) : (List Int)).length : Int) then grd (-((self'.octs : (List Int)).length : Int) ≤ self'.place ∧ self'.place < ((self'.octs : (List Int)).length : Int)) <| bnd ((itD (self'.octs) (self'.place))) fun octet_531 => bnd ((self'.place + 1)) fun _place_532 => .ok (((⟨self'.probs, self'.octs, _place_532, self'.span, self'.value⟩ : St_Decoder)), (octet_531)) else .ok ((self'), (0))) : Rx (St_Decoder × Int))) fun s => F_Decoder__shift_k1  (s.1) (s.2)

def F_Decoder__decide_r2 (decision_601 : Int) (self_638 : St_Decoder) : Rx (Int × St_Decoder) :=
  .ok (decision_601, self_638)

def F_Decoder__decide_b2 (self_613 : St_Decoder) : Rx (Lp (St_Decoder) (Int × St_Decoder)) :=
  (if self_613.span < 16777216 then Rx.bind (noEr (F_Decoder__shift (self_613))) fun v617 => grd ((0 : Int) ≤ 8 ∧ (8 : Int) ≤ 4096 ∧ -(2 ^ 4096) < (v617.span : Int) ∧ (v617.span : Int) < 2 ^ 4096) <| bnd ((v617.span * 2 ^ Int.toNat (8))) fun _span_629 => .ok (.go ((⟨v617.probs, v617.octs, v617.place, _span_629, v617.value⟩ : St_Decoder))) else .ok (.bk (self_613)))

def F_Decoder__decide_k1 (decision_564 : Int) (self_565 : St_Decoder) : Rx (Int × St_Decoder) :=
  Rx.bind ((whileR 1000000 (self_565) (fun s => F_Decoder__decide_b2  s) : Rx (Lp (St_Decoder) (Int × St_Decoder)))) fun l => l.aft Rx.ok fun s => F_Decoder__decide_r2 (decision_564) s

def F_Decoder__decide (self' : St_Decoder) (chance' : Int) : Rx (Int × St_Decoder) :=
  grd ((-(2 ^ 64) < ((self'.span / 4096) : Int) ∧ ((self'.span / 4096) : Int) < 2 ^ 64) ∨ (-(2 ^ 64) < (chance' : Int) ∧ (chance' : Int) < 2 ^ 64)) <| bnd (((self'.span / 4096) * chance')) fun part_559 => bnd ((if self'.value < part_559 then 0 else 1)) fun decision_563 => Rx.bind (((if (decision_563 : Int) = 0 then .ok ((⟨self'.probs, self'.octs, self'.place, part_559, self'.value⟩ : St_Decoder)) else bnd ((self'.value - part_559)) fun _value_578 => bnd ((self'.span - part_559)) fun _span_585 => .ok ((⟨self'.probs, self'.octs, self'.place, _span_585, _value_578⟩ : St_Decoder))) : Rx (St_Decoder))) fun s => F_Decoder__decide_k1 (decision_563) s

def F_Decoder_read (self' : St_Decoder) (context' : Int) : Rx (Int × St_Decoder) :=
  Rx.bind (F__check_context context') fun v639 => grd (-((self'.probs : (List Int)).length : Int) ≤ context' ∧ context' < ((self'.probs : (List Int)).length : Int)) <| bnd ((itD (self'.probs) (context'))) fun chance_641 => Rx.bind (F_Decoder__decide (self') chance_641) fun v642 => Rx.bind (noEr (F__adapted chance_641 v642.1)) fun v653 => grd (-((v642.2.probs : (List Int)).length : Int) ≤ context' ∧ context' < ((v642.2.probs : (List Int)).length : Int)) <| bnd (setL (v642.2.probs) (context') (v653)) fun y661 => .ok (v642.1, (⟨y661, v642.2.octs, v642.2.place, v642.2.span, v642.2.value⟩ : St_Decoder))

def F_SymbolReader_unary_r1 (self_699 : St_SymbolReader) (value_700 : Int) : Rx (Int × St_SymbolReader) :=
  .ok (value_700, self_699)

def F_SymbolReader_unary_b1 (base_665 : Int) (most_666 : Int) (self_680 : St_SymbolReader) (value_681 : Int) : Rx (Lp (St_SymbolReader × Int) (Int × St_SymbolReader)) :=
  (if value_681 < most_666 then Rx.bind (noEr (F_Decoder_read (self_680.dec) ((base_665 + (if (8 - 1) < value_681 then (8 - 1) else value_681))))) fun v685 => (if (v685.1 : Int) = 1 then bnd ((value_681 + 1)) fun value_697 => .ok (.go (((⟨v685.2⟩ : St_SymbolReader)), (value_697))) else .ok (.bk (((⟨v685.2⟩ : St_SymbolReader)), (value_681)))) else .ok (.bk ((self_680), (value_681))))

def F_SymbolReader_unary (self' : St_SymbolReader) (base' : Int) (most' : Int) : Rx (Int × St_SymbolReader) :=
  Rx.bind (F__check_unary base' most') fun v664 => Rx.bind ((whileR 1000000 ((self'), (0)) (fun s => F_SymbolReader_unary_b1 (base') (most') (s.1) (s.2)) : Rx (Lp (St_SymbolReader × Int) (Int × St_SymbolReader)))) fun l => l.aft Rx.ok fun s => F_SymbolReader_unary_r1  (s.1) (s.2)

def F__digit_context (base' : Int) (digits' : Int) : Rx Int :=
  .ok (((base' + 8) + (if (8 - 1) < (digits' - 1) then (8 - 1) else (digits' - 1))))

def F_Encoder_code_even (self' : St_Encoder) (decision' : Int) : Rx St_Encoder :=
  Rx.bind (F__check_decision decision') fun v704 => Rx.bind (F_Encoder__narrow (self') 2048 decision') fun v705 => .ok v705

def F_SymbolWriter_number_b1 (base_733 : Int) (value_734 : Int) (digits_735 : Int) (self_750 : St_SymbolWriter) (it753 : Int) : Rx (St_SymbolWriter) :=
  grd ((0 : Int) ≤ it753) <| bnd ((PySem.Builtin.bitAnd (((value_734 + 1) / 2 ^ Int.toNat (it753))) (1))) fun digit_755 => (if (it753 : Int) = (digits_735 - 1) then Rx.bind (noEr (F__digit_context base_733 digits_735)) fun v757 => Rx.bind (noEr (F_Encoder_code (self_750.enc) v757 digit_755)) fun v758 => .ok ((⟨v758⟩ : St_SymbolWriter)) else Rx.bind (noEr (F_Encoder_code_even (self_750.enc) digit_755)) fun v770 => .ok ((⟨v770⟩ : St_SymbolWriter)))

def F_SymbolWriter_number_r1 (self_790 : St_SymbolWriter) : Rx St_SymbolWriter :=
  .ok self_790

def F_SymbolWriter_number (self' : St_SymbolWriter) (base' : Int) (value' : Int) : Rx St_SymbolWriter :=
  Rx.bind (F__check_contexts base' ((2 * 8))) fun v716 => (if 0 ≤ value' then (if value' ≤ 1048576 then bnd ((((PySem.Builtin.Int.intBits ((value' + 1)) : Nat) : Int) - 1)) fun digits_719 => Rx.bind (F_SymbolWriter_unary (self') base' digits_719 20) fun v720 => grd (-(2 ^ 62) ≤ ((digits_719 - 1) : Int) ∧ ((digits_719 - 1) : Int) < 2 ^ 62 ∧ -(2 ^ 62) ≤ ((-1) : Int) ∧ ((-1) : Int) < 2 ^ 62) <| Rx.bind (forS (rngD ((digits_719 - 1)) (Int.toNat ((digits_719 - 1) - (-1)))) (v720) (fun s x => F_SymbolWriter_number_b1 (base') (value') (digits_719) s x)) fun s => F_SymbolWriter_number_r1  s else .er 1) else .er 1)

def F_Decoder_read_even (self' : St_Decoder) : Rx (Int × St_Decoder) :=
  Rx.bind (F_Decoder__decide (self') 2048) fun v791 => .ok (v791.1, v791.2)

def F_SymbolReader_number_b2 (self_860 : St_SymbolReader) (grown_861 : Int) (it864 : Int) : Rx (St_SymbolReader × Int) :=
  Rx.bind (noEr (F_Decoder_read_even (self_860.dec))) fun v865 => bnd (((2 * grown_861) + v865.1)) fun grown_876 => .ok (((⟨v865.2⟩ : St_SymbolReader)), (grown_876))

def F_SymbolReader_number_r2 (self_886 : St_SymbolReader) (grown_887 : Int) : Rx (Int × St_SymbolReader) :=
  .ok ((if 1048576 < (grown_887 - 1) then 1048576 else (grown_887 - 1)), self_886)

def F_SymbolReader_number_k1 (digits_815 : Int) (self_816 : St_SymbolReader) (grown_817 : Int) : Rx (Int × St_SymbolReader) :=
  grd (-(2 ^ 62) ≤ ((digits_815 - 1) : Int) ∧ ((digits_815 - 1) : Int) < 2 ^ 62) <| Rx.bind (forS (rng (0) (Int.toNat ((digits_815 - 1)))) ((self_816), (grown_817)) (fun s x => F_SymbolReader_number_b2  (s.1) (s.2) x)) fun s => F_SymbolReader_number_r2  (s.1) (s.2)

def F_SymbolReader_number (self' : St_SymbolReader) (base' : Int) : Rx (Int × St_SymbolReader) :=
  Rx.bind (F__check_contexts base' ((2 * 8))) fun v802 => Rx.bind (F_SymbolReader_unary (self') base' 20) fun v803 => Rx.bind (((if 0 < v803.1 then Rx.bind (noEr (F__digit_context base' v803.1)) fun v823 => Rx.bind (noEr (F_Decoder_read (v803.2.dec) v823)) fun v824 => bnd ((2 + v824.1)) fun grown_835 => .ok (((⟨v824.2⟩ : St_SymbolReader)), (grown_835)) else .ok ((v803.2), (1))) : Rx (St_SymbolReader × Int))) fun s => F_SymbolReader_number_k1 (v803.1) (s.1) (s.2)

def F__check_levels (levels' : (List Int)) : Rx Unit :=
  (if ((((levels') : (List Int)).length : Int) : Int) ∈ ([16, 64] : List Int) then grd ((levels' : List Int) ≠ []) <| (if (minL (levels')) < (-524288) then .er 2 else grd ((levels' : List Int) ≠ []) <| (if 524287 < (maxL (levels')) then .er 2 else (if (List.any (levels') fun x => x != 0) = true then .ok (()) else .er 2))) else .er 2)

def F_SymbolWriter_flag (self' : St_SymbolWriter) (base' : Int) (value' : Bool) : Rx St_SymbolWriter :=
  Rx.bind (F__check_contexts base' 1) fun v894 => Rx.bind (F_Encoder_code (self'.enc) base' ((if value' = true then 1 else 0))) fun v898 => .ok (⟨v898⟩ : St_SymbolWriter)

def F_SymbolReader_flag (self' : St_SymbolReader) (base' : Int) : Rx (Bool × St_SymbolReader) :=
  Rx.bind (F__check_contexts base' 1) fun v910 => Rx.bind (F_Decoder_read (self'.dec) base') fun v911 => .ok (decide ((v911.1 : Int) = 1), (⟨v911.2⟩ : St_SymbolReader))

def F__put_places_b1 (levels_926 : (List Int)) (last_927 : Int) (stride_928 : Int) (writer_942 : St_SymbolWriter) (it945 : Int) : Rx (St_SymbolWriter) :=
  grd ((-(2 ^ 64) < (stride_928 : Int) ∧ (stride_928 : Int) < 2 ^ 64) ∨ (-(2 ^ 64) < (it945 : Int) ∧ (it945 : Int) < 2 ^ 64)) <| grd (-((levels_926 : (List Int)).length : Int) ≤ it945 ∧ it945 < ((levels_926 : (List Int)).length : Int)) <| Rx.bind (noEr (F_SymbolWriter_flag (writer_942) ((64 + (stride_928 * it945))) ((!decide (((itD (levels_926) (it945)) : Int) = 0))))) fun v948 => grd (-((levels_926 : (List Int)).length : Int) ≤ it945 ∧ it945 < ((levels_926 : (List Int)).length : Int)) <| (if ((itD (levels_926) (it945)) : Int) = 0 then .ok (v948) else grd ((-(2 ^ 64) < (stride_928 : Int) ∧ (stride_928 : Int) < 2 ^ 64) ∨ (-(2 ^ 64) < (it945 : Int) ∧ (it945 : Int) < 2 ^ 64)) <| Rx.bind (noEr (F_SymbolWriter_flag (v948) ((128 + (stride_928 * it945))) (decide ((it945 : Int) = last_927)))) fun v963 => .ok (v963))

def F__put_places_r1 (writer_983 : St_SymbolWriter) : Rx St_SymbolWriter :=
  .ok writer_983

def F__put_places (writer' : St_SymbolWriter) (levels' : (List Int)) (last' : Int) : Rx St_SymbolWriter :=
  grd (0 < ((((levels') : (List Int)).length : Int) : Int) ∧ ((((levels') : (List Int)).length : Int) : Int) < 2 ^ 128) <| bnd ((64 / (((levels') : (List Int)).length : Int))) fun stride_924 => grd (-(2 ^ 62) ≤ ((if ((((levels') : (List Int)).length : Int) - 1) < (last' + 1) then ((((levels') : (List Int)).length : Int) - 1) else (last' + 1)) : Int) ∧ ((if ((((levels') : (List Int)).length : Int) - 1) < (last' + 1) then ((((levels') : (List Int)).length : Int) - 1) else (last' + 1)) : Int) < 2 ^ 62) <| Rx.bind (forS (rng (0) (Int.toNat ((if ((((levels') : (List Int)).length : Int) - 1) < (last' + 1) then ((((levels') : (List Int)).length : Int) - 1) else (last' + 1))))) (writer') (fun s x => F__put_places_b1 (levels') (last') (stride_924) s x)) fun s => F__put_places_r1  s

def F__base_after (base' : Int) (worth' : Int) : Rx Int :=
  .ok ((if 1 < worth' then (192 + 16) else base'))

def F_SymbolWriter_even (self' : St_SymbolWriter) (decision' : Int) : Rx St_SymbolWriter :=
  Rx.bind (F_Encoder_code_even (self'.enc) decision') fun v987 => .ok (⟨v987⟩ : St_SymbolWriter)

def F_SymbolReader_even (self' : St_SymbolReader) : Rx (Int × St_SymbolReader) :=
  Rx.bind (F_Decoder_read_even (self'.dec)) fun v999 => .ok (v999.1, (⟨v999.2⟩ : St_SymbolReader))

def F_put_levels_c1 (it1077 : (Int × Int)) : Rx (Option Int) :=
  (if (it1077.2 : Int) = 0 then .ok none else .ok (some it1077.1))

def F_put_levels_b2 (levels_1125 : (List Int)) (writer_1151 : St_SymbolWriter) (base_1152 : Int) (it1155 : Int) : Rx (St_SymbolWriter × Int) :=
  grd (-((levels_1125 : (List Int)).length : Int) ≤ it1155 ∧ it1155 < ((levels_1125 : (List Int)).length : Int)) <| bnd ((itD (levels_1125) (it1155))) fun level_1157 => Rx.bind (noEr (F_SymbolWriter_number (writer_1151) base_1152 (((if level_1157 < 0 then -level_1157 else level_1157) - 1)))) fun v1158 => Rx.bind (noEr (F_SymbolWriter_even (v1158) ((if level_1157 < 0 then 1 else 0)))) fun v1173 => Rx.bind (noEr (F__base_after base_1152 ((if level_1157 < 0 then -level_1157 else level_1157)))) fun v1185 => .ok ((v1173), (v1185))

def F_put_levels_r2 (writer_1196 : St_SymbolWriter) (base_1197 : Int) : Rx St_SymbolWriter :=
  .ok writer_1196

def F_put_levels (writer' : St_SymbolWriter) (levels' : (List Int)) : Rx St_SymbolWriter :=
  Rx.bind (F__check_levels (levels')) fun v1011 => Rx.bind (mapF (enumL (levels')) [] (fun x => noEr (F_put_levels_c1  x))) fun v1012 => grd (-((v1012 : (List Int)).length : Int) ≤ (-1) ∧ (-1) < ((v1012 : (List Int)).length : Int)) <| Rx.bind (F__put_places (writer') (levels') ((itD (v1012) ((-1))))) fun v1112 => Rx.bind (forS ((List.reverse (v1012 : List Int))) ((v1112), (192)) (fun s x => F_put_levels_b2 (levels') (s.1) (s.2) x)) fun s => F_put_levels_r2  (s.1) (s.2)

def F_Encoder_octets_c1 (self_1210 : St_Encoder) (it1251 : Int) : Rx Int :=
  grd ((0 : Int) ≤ it1251) <| .ok ((PySem.Builtin.bitAnd ((self_1210.low / 2 ^ Int.toNat (it1251))) (255)))

def F_Encoder_octets_r2 (octets_1304 : (List Int)) : Rx (List Int) :=
  .ok (octets_1304)

def F_Encoder_octets_b2 (octets_1290 : (List Int)) : Rx (Lp ((List Int)) (List Int)) :=
  (if (octets_1290 : (List Int)) = [] then .ok (.bk (octets_1290)) else grd (-((octets_1290 : (List Int)).length : Int) ≤ (-1) ∧ (-1) < ((octets_1290 : (List Int)).length : Int)) <| (if ((itD (octets_1290) ((-1))) : Int) = 0 then grd ((octets_1290) ≠ []) <| bnd ((octets_1290).dropLast) fun y1303 => .ok (.go (y1303)) else .ok (.bk (octets_1290))))

def F_Encoder_octets (self' : St_Encoder) : Rx (List Int) :=
  Rx.bind (mapA ([24, 16, 8, 0]) [] (fun x => noEr (F_Encoder_octets_c1 (self') x))) fun v1211 => grd ((self'.front).length + (v1211).length ≤ 1000000) <| Rx.bind ((whileR 1000000 ((self'.front) ++ (v1211)) (fun s => F_Encoder_octets_b2  s) : Rx (Lp ((List Int)) (List Int)))) fun l => l.aft Rx.ok fun s => F_Encoder_octets_r2  s

def F_Encoder_probability (self' : St_Encoder) (context' : Int) : Rx Int :=
  Rx.bind (F__check_context context') fun v1306 => grd (-((self'.probs : (List Int)).length : Int) ≤ context' ∧ context' < ((self'.probs : (List Int)).length : Int)) <| .ok ((itD (self'.probs) (context')))

def F_Decoder_probability (self' : St_Decoder) (context' : Int) : Rx Int :=
  Rx.bind (F__check_context context') fun v1308 => grd (-((self'.probs : (List Int)).length : Int) ≤ context' ∧ context' < ((self'.probs : (List Int)).length : Int)) <| .ok ((itD (self'.probs) (context')))

def F__law_refused_c1 (encoder_1378 : St_Encoder) (it1417 : Int) : Rx Int :=
  Rx.bind (F_Encoder_probability (encoder_1378) it1417) fun v1418 => .ok v1418

def F__law_refused_c2 (encoder_1502 : St_Encoder) (it1543 : Int) : Rx Int :=
  Rx.bind (F_Encoder_probability (encoder_1502) it1543) fun v1544 => .ok v1544

def F__law_refused (levels' : (List Int)) : Rx Bool :=
  Rx.bind F_Encoder___init__ fun v1321 => Rx.bind (F_SymbolWriter___init__ (v1321)) fun v1349 => Rx.bind (F_SymbolWriter_number ((⟨v1321⟩ : St_SymbolWriter)) 192 77) fun v1357 => Rx.bind (F_Encoder_octets (v1357.enc)) fun v1369 => Rx.bind (mapA (rng (0) (Int.toNat (256))) [] (fun x => noEr (F__law_refused_c1 (v1357.enc) x))) fun v1379 => tryR (F_put_levels (v1357) (levels')) [2] (fun v1473 => .ok (false)) (fun _ => Rx.bind (noEr (F_Encoder_octets (v1357.enc))) fun v1493 => Rx.bind (mapA (rng (0) (Int.toNat (256))) [] (fun x => noEr (F__law_refused_c2 (v1357.enc) x))) fun v1503 => bnd (decide (([v1369, v1379] : (List (List Int))) = [v1493, v1503])) fun same_1598 => (if same_1598 = true then .ok (true) else .ok (false)))

def F_check_size (size' : Int) : Rx Unit :=
  (if (size' : Int) ∈ ([4, 8] : List Int) then .ok (()) else .er 1)

def F__get_places_b1 (stride_1613 : Int) (reader_1634 : St_SymbolReader) (places_1635 : (List Int)) (it1638 : Int) : Rx (Lp (St_SymbolReader × (List Int)) ((List Int) × St_SymbolReader)) :=
  grd ((-(2 ^ 64) < (stride_1613 : Int) ∧ (stride_1613 : Int) < 2 ^ 64) ∨ (-(2 ^ 64) < (it1638 : Int) ∧ (it1638 : Int) < 2 ^ 64)) <| Rx.bind (noEr (F_SymbolReader_flag (reader_1634) ((64 + (stride_1613 * it1638))))) fun v1640 => (if v1640.1 = true then grd ((places_1635).length ≤ 1000000) <| bnd ((places_1635) ++ [it1638]) fun y1661 => grd ((-(2 ^ 64) < (stride_1613 : Int) ∧ (stride_1613 : Int) < 2 ^ 64) ∨ (-(2 ^ 64) < (it1638 : Int) ∧ (it1638 : Int) < 2 ^ 64)) <| Rx.bind (noEr (F_SymbolReader_flag (v1640.2) ((128 + (stride_1613 * it1638))))) fun v1667 => (if v1667.1 = true then .ok (.rt (y1661, v1667.2)) else .ok (.go ((v1667.2), (y1661)))) else .ok (.go ((v1640.2), (places_1635))))

def F__get_places_r1 (count_1614 : Int) (reader_1692 : St_SymbolReader) (places_1693 : (List Int)) : Rx ((List Int) × St_SymbolReader) :=
  grd ((places_1693).length + ([(count_1614 - 1)]).length ≤ 1000000) <| .ok ((places_1693) ++ ([(count_1614 - 1)]), reader_1692)

def F__get_places (reader' : St_SymbolReader) (count' : Int) : Rx ((List Int) × St_SymbolReader) :=
  grd (0 < (count' : Int) ∧ (count' : Int) < 2 ^ 128) <| bnd ((64 / count')) fun stride_1611 => grd (-(2 ^ 62) ≤ ((count' - 1) : Int) ∧ ((count' - 1) : Int) < 2 ^ 62) <| Rx.bind (forR (rng (0) (Int.toNat ((count' - 1)))) ((reader'), (([] : (List Int)))) (fun s x => F__get_places_b1 (stride_1611) (s.1) (s.2) x)) fun l => l.aft Rx.ok fun s => F__get_places_r1 (count') (s.1) (s.2)

def F_clip (value' : Int) (low' : Int) (high' : Int) : Rx Int :=
  .ok ((if high' < (if low' > value' then low' else value') then high' else (if low' > value' then low' else value')))

def F_get_levels_b1 (reader_1786 : St_SymbolReader) (levels_1787 : (List Int)) (base_1788 : Int) (it1791 : Int) : Rx (St_SymbolReader × (List Int) × Int) :=
  Rx.bind (noEr (F_SymbolReader_number (reader_1786) base_1788)) fun v1792 => bnd ((v1792.1 + 1)) fun worth_1804 => Rx.bind (noEr (F_SymbolReader_even (v1792.2))) fun v1805 => (if (v1805.1 : Int) = 1 then bnd ((-worth_1804)) fun level_1818 => Rx.bind (noEr (F_clip level_1818 ((-524288)) 524287)) fun v1819 => grd (-((levels_1787 : (List Int)).length : Int) ≤ it1791 ∧ it1791 < ((levels_1787 : (List Int)).length : Int)) <| bnd (setL (levels_1787) (it1791) (v1819)) fun y1828 => Rx.bind (noEr (F__base_after base_1788 worth_1804)) fun v1829 => .ok ((v1805.2), (y1828), (v1829)) else Rx.bind (noEr (F_clip worth_1804 ((-524288)) 524287)) fun v1835 => grd (-((levels_1787 : (List Int)).length : Int) ≤ it1791 ∧ it1791 < ((levels_1787 : (List Int)).length : Int)) <| bnd (setL (levels_1787) (it1791) (v1835)) fun y1844 => Rx.bind (noEr (F__base_after base_1788 worth_1804)) fun v1845 => .ok ((v1805.2), (y1844), (v1845)))

def F_get_levels_r1 (reader_1861 : St_SymbolReader) (levels_1862 : (List Int)) (base_1863 : Int) : Rx ((List Int) × St_SymbolReader) :=
  .ok (levels_1862, reader_1861)

def F_get_levels (reader' : St_SymbolReader) (size' : Int) : Rx ((List Int) × St_SymbolReader) :=
  Rx.bind (F_check_size size') fun v1718 => grd ((-(2 ^ 64) < (size' : Int) ∧ (size' : Int) < 2 ^ 64) ∨ (-(2 ^ 64) < (size' : Int) ∧ (size' : Int) < 2 ^ 64)) <| grd (-(2 ^ 63) ≤ ((size' * size') : Int) ∧ ((size' * size') : Int) < 2 ^ 63 ∧ ([0]).length * Int.toNat ((size' * size')) ≤ 1000000) <| grd ((-(2 ^ 64) < (size' : Int) ∧ (size' : Int) < 2 ^ 64) ∨ (-(2 ^ 64) < (size' : Int) ∧ (size' : Int) < 2 ^ 64)) <| Rx.bind (F__get_places (reader') ((size' * size'))) fun v1744 => Rx.bind (forS ((List.reverse (v1744.1 : List Int))) ((v1744.2), (repL ([0]) ((size' * size'))), (192)) (fun s x => F_get_levels_b1  (s.1) (s.2.1) (s.2.2) x)) fun s => F_get_levels_r1  (s.1) (s.2.1) (s.2.2)

def F_Decoder___init___b1 (self_1939 : St_Decoder) (it1942 : Int) : Rx (St_Decoder) :=
  Rx.bind (F_Decoder__shift (self_1939)) fun v1943 => .ok (v1943)

def F_Decoder___init___r1 (self_1961 : St_Decoder) : Rx St_Decoder :=
  bnd ((if (4294967296 - 2) < self_1961.value then (4294967296 - 2) else self_1961.value)) fun _value_1962 => .ok (⟨self_1961.probs, self_1961.octs, self_1961.place, self_1961.span, _value_1962⟩ : St_Decoder)

def F_Decoder___init__ (octets' : (List Int)) : Rx St_Decoder :=
  grd (-(2 ^ 63) ≤ (256 : Int) ∧ (256 : Int) < 2 ^ 63 ∧ ([2048]).length * Int.toNat (256) ≤ 1000000) <| bnd ((4294967296 - 1)) fun _span_1912 => Rx.bind (forS (rng (0) (Int.toNat (4))) ((⟨repL ([2048]) (256), octets', 0, _span_1912, 0⟩ : St_Decoder)) (fun s x => F_Decoder___init___b1  s x)) fun s => F_Decoder___init___r1  s

def F__law_far_k1 (encoder_2066 : St_Encoder) (size_2067 : Int) : Rx (List Int) :=
  Rx.bind (F_Encoder_octets (encoder_2066)) fun v2080 => Rx.bind (F_Decoder___init__ (v2080)) fun v2101 => Rx.bind (F_SymbolReader___init__ (v2101)) fun v2129 => Rx.bind (F_get_levels ((⟨v2101⟩ : St_SymbolReader)) size_2067) fun v2137 => .ok (v2137.1)

def F__law_far (count' : Int) (magnitude' : Int) (sign' : Int) : Rx (List Int) :=
  Rx.bind F_Encoder___init__ fun v1982 => Rx.bind (F_SymbolWriter___init__ (v1982)) fun v2010 => Rx.bind (F_SymbolWriter_flag ((⟨v1982⟩ : St_SymbolWriter)) 64 true) fun v2018 => Rx.bind (F_SymbolWriter_flag (v2018) 128 true) fun v2030 => Rx.bind (F_SymbolWriter_number (v2030) 192 ((magnitude' - 1))) fun v2042 => Rx.bind (F_SymbolWriter_even (v2042) sign') fun v2054 => Rx.bind (((if (count' : Int) = 64 then .ok (8) else .ok (4)) : Rx (Int))) fun s => F__law_far_k1 (v2054.enc) s

def F__law_refuses_k3 (cell_2262 : Int) (count_2263 : Int) (magnitude_2264 : Int) (due_2265 : Int) : Rx Bool :=
  Rx.bind (F__law_far count_2263 magnitude_2264 ((if (cell_2262 % 4) < 2 then 0 else 1))) fun v2279 => grd (-(2 ^ 63) ≤ ((count_2263 - 1) : Int) ∧ ((count_2263 - 1) : Int) < 2 ^ 63 ∧ ([0]).length * Int.toNat ((count_2263 - 1)) ≤ 1000000) <| grd (([due_2265] : (List Int)).length + (repL ([0]) ((count_2263 - 1)) : (List Int)).length ≤ 1000000) <| (if (v2279 : (List Int)) = ([due_2265]) ++ (repL ([0]) ((count_2263 - 1))) then Rx.bind (noEr (F_Decoder___init__ (([] : (List Int))))) fun v2350 => Rx.bind (noEr (F_SymbolReader___init__ (v2350))) fun v2378 => grd (-(([0, 1, 2, 3, 5, 6, 7, 9, 16, 64, (-4)] : (List Int)).length : Int) ≤ (cell_2262 % 11) ∧ (cell_2262 % 11) < (([0, 1, 2, 3, 5, 6, 7, 9, 16, 64, (-4)] : (List Int)).length : Int)) <| tryR (F_get_levels ((⟨v2350⟩ : St_SymbolReader)) ((itD ([0, 1, 2, 3, 5, 6, 7, 9, 16, 64, (-4)]) ((cell_2262 % 11))))) [1] (fun v2397 => .ok (false)) (fun _ => .ok (true)) else .ok (false))

def F__law_refuses_k2 (cell_2246 : Int) (count_2247 : Int) (magnitude_2248 : Int) : Rx Bool :=
  bnd ((if (0 - magnitude_2248) > (-524288) then (0 - magnitude_2248) else (-524288))) fun due_2261 => Rx.bind (((if (cell_2246 % 4) < 2 then bnd ((if magnitude_2248 < 524287 then magnitude_2248 else 524287)) fun due_2270 => .ok (due_2270) else .ok (due_2261)) : Rx (Int))) fun s => F__law_refuses_k3 (cell_2246) (count_2247) (magnitude_2248) s

def F__law_refuses_k1 (cell_2205 : Int) (count_2206 : Int) (length_2207 : Int) : Rx Bool :=
  grd (-(2 ^ 63) ≤ (length_2207 : Int) ∧ (length_2207 : Int) < 2 ^ 63 ∧ ([1]).length * Int.toNat (length_2207) ≤ 1000000) <| Rx.bind (F__law_refused (repL ([1]) (length_2207))) fun v2240 => (if v2240 = true then bnd ((524280 + ((cell_2205 / 7) % 20))) fun magnitude_2245 => Rx.bind (((if (((cell_2205 / 7) % 3) : Int) = 0 then bnd ((1 + ((cell_2205 / 21) % 1048577))) fun magnitude_2253 => .ok (magnitude_2253) else .ok (magnitude_2245)) : Rx (Int))) fun s => F__law_refuses_k2 (cell_2205) (count_2206) s else .ok (false))

def F__law_refuses (cell' : Int) : Rx Bool :=
  bnd ((16 + (48 * (cell' % 2)))) fun count_2149 => grd (-(2 ^ 63) ≤ (count_2149 : Int) ∧ (count_2149 : Int) < 2 ^ 63 ∧ ([0]).length * Int.toNat (count_2149) ≤ 1000000) <| Rx.bind (F__law_refused (repL ([0]) (count_2149))) fun v2169 => (if v2169 = true then grd (0 < (count_2149 : Int)) <| grd (-((repL ([0]) (count_2149) : (List Int)).length : Int) ≤ ((cell' / 2) % count_2149) ∧ ((cell' / 2) % count_2149) < ((repL ([0]) (count_2149) : (List Int)).length : Int)) <| bnd (setL (repL ([0]) (count_2149)) (((cell' / 2) % count_2149)) ((524288 + ((cell' / 3) % 9)))) fun y2183 => Rx.bind (F__law_refused (y2183)) fun v2184 => (if v2184 = true then grd (0 < (count_2149 : Int)) <| grd (-((y2183 : (List Int)).length : Int) ≤ ((cell' / 2) % count_2149) ∧ ((cell' / 2) % count_2149) < ((y2183 : (List Int)).length : Int)) <| bnd (setL (y2183) (((cell' / 2) % count_2149)) (((-524289) - ((cell' / 3) % 9)))) fun y2198 => Rx.bind (F__law_refused (y2198)) fun v2199 => (if v2199 = true then bnd (((cell' / 5) % 70)) fun length_2204 => Rx.bind (((if (length_2204 : Int) = 16 then .ok (17) else (if (length_2204 : Int) = 64 then .ok (17) else .ok (length_2204))) : Rx (Int))) fun s => F__law_refuses_k1 (cell') (count_2149) s else .ok (false)) else .ok (false)) else .ok (false))

def F__law_is_integers_b1 (it2427 : Int) : Rx (Lp Unit Bool) :=
  .ok (.go ())

def F__law_is_integers_r1  : Rx Bool :=
  .ok (true)

def F__law_is_integers (actual' : (List Int)) (count' : Int) : Rx Bool :=
  (if ((((actual') : (List Int)).length : Int) : Int) = count' then Rx.bind (forR (actual') () (fun s x => F__law_is_integers_b1   x)) fun l => l.aft Rx.ok fun s => F__law_is_integers_r1   else .ok (false))

def F_law_k2 (reader_2597 : St_SymbolReader) (writer_2598 : St_SymbolWriter) (blocks_2599 : (List (List Int))) (size_2600 : Int) : Rx (Lp (St_SymbolReader × St_SymbolWriter × (List (List Int))) Bool) :=
  Rx.bind (F_get_levels (reader_2597) size_2600) fun v2620 => grd ((-(2 ^ 64) < (size_2600 : Int) ∧ (size_2600 : Int) < 2 ^ 64) ∨ (-(2 ^ 64) < (size_2600 : Int) ∧ (size_2600 : Int) < 2 ^ 64)) <| Rx.bind (F__law_is_integers (v2620.1) ((size_2600 * size_2600))) fun v2633 => (if v2633 = true then grd (-(2 ^ 63) ≤ ((((v2620.1) : (List Int)).length : Int) : Int) ∧ ((((v2620.1) : (List Int)).length : Int) : Int) < 2 ^ 63 ∧ ([0]).length * Int.toNat ((((v2620.1) : (List Int)).length : Int)) ≤ 1000000) <| (if (v2620.1 : (List Int)) = repL ([0]) ((((v2620.1) : (List Int)).length : Int)) then .ok (.rt (false)) else grd ((v2620.1 : List Int) ≠ []) <| (if (minL (v2620.1)) < (-524288) then .ok (.rt (false)) else grd ((v2620.1 : List Int) ≠ []) <| (if 524287 < (maxL (v2620.1)) then .ok (.rt (false)) else grd ((blocks_2599).length ≤ 1000000) <| bnd ((blocks_2599) ++ [v2620.1]) fun y2677 => Rx.bind (F_put_levels (writer_2598) (v2620.1)) fun v2691 => .ok (.go ((v2620.2), (v2691), (y2677)))))) else .ok (.rt (false)))

def F_law_b1 (first_2551 : Int) (reader_2591 : St_SymbolReader) (writer_2592 : St_SymbolWriter) (blocks_2593 : (List (List Int))) (it2596 : Int) : Rx (Lp (St_SymbolReader × St_SymbolWriter × (List (List Int))) Bool) :=
  Rx.bind (((if ((((first_2551 / 11) + it2596) % 2) : Int) = 1 then .ok (8) else .ok (4)) : Rx (Int))) fun s => F_law_k2 (reader_2591) (writer_2592) (blocks_2593) s

def F_law_k4 (blocks_2830 : (List (List Int))) (k_2831 : Int) (again_2832 : St_SymbolReader) (size_2833 : Int) : Rx (Lp (St_SymbolReader) Bool) :=
  Rx.bind (F_get_levels (again_2832) size_2833) fun v2863 => grd (-((blocks_2830 : (List (List Int))).length : Int) ≤ k_2831 ∧ k_2831 < ((blocks_2830 : (List (List Int))).length : Int)) <| (if (v2863.1 : (List Int)) = (itD (blocks_2830) (k_2831)) then .ok (.go (v2863.2)) else .ok (.rt (false)))

def F_law_b3 (blocks_2786 : (List (List Int))) (again_2826 : St_SymbolReader) (it2829 : Int) : Rx (Lp (St_SymbolReader) Bool) :=
  Rx.bind ((grd (-((blocks_2786 : (List (List Int))).length : Int) ≤ it2829 ∧ it2829 < ((blocks_2786 : (List (List Int))).length : Int)) <| (if (((((itD (blocks_2786) (it2829))) : (List Int)).length : Int) : Int) = 64 then .ok (8) else .ok (4)) : Rx (Int))) fun s => F_law_k4 (blocks_2786) (it2829) (again_2826) s

def F_law_r3 (script_2787 : (List Int)) (again_2912 : St_SymbolReader) : Rx Bool :=
  Rx.bind (F__law_cell (script_2787) 1) fun v2913 => Rx.bind (F__law_refuses v2913) fun v2914 => .ok (v2914)

def F_law_r1 (script_2552 : (List Int)) (octets_2553 : (List Int)) (kept_2554 : (List Int)) (reader_2726 : St_SymbolReader) (writer_2727 : St_SymbolWriter) (blocks_2728 : (List (List Int))) : Rx Bool :=
  (if (octets_2553 : (List Int)) = kept_2554 then Rx.bind (F_Encoder_octets (writer_2727.enc)) fun v2730 => Rx.bind (F_Decoder___init__ (v2730)) fun v2751 => Rx.bind (F_SymbolReader___init__ (v2751)) fun v2779 => grd (-(2 ^ 62) ≤ ((((blocks_2728) : (List (List Int))).length : Int) : Int) ∧ ((((blocks_2728) : (List (List Int))).length : Int) : Int) < 2 ^ 62) <| Rx.bind (forR (rng (0) (Int.toNat ((((blocks_2728) : (List (List Int))).length : Int)))) ((⟨v2751⟩ : St_SymbolReader)) (fun s x => F_law_b3 (blocks_2728) s x)) fun l => l.aft Rx.ok fun s => F_law_r3 (script_2552) s else .ok (false))

def F_law (script' : (List Int)) : Rx Bool :=
  Rx.bind (F__law_cell (script') 0) fun v2432 => Rx.bind (F__law_octets v2432) fun v2433 => Rx.bind (F_Decoder___init__ (v2433)) fun v2463 => Rx.bind (F_SymbolReader___init__ (v2463)) fun v2491 => Rx.bind F_Encoder___init__ fun v2507 => Rx.bind (F_SymbolWriter___init__ (v2507)) fun v2535 => grd (-(2 ^ 62) ≤ ((1 + ((v2432 / 7) % 5)) : Int) ∧ ((1 + ((v2432 / 7) % 5)) : Int) < 2 ^ 62) <| Rx.bind (forR (rng (0) (Int.toNat ((1 + ((v2432 / 7) % 5))))) (((⟨v2463⟩ : St_SymbolReader)), ((⟨v2507⟩ : St_SymbolWriter)), (([] : (List (List Int))))) (fun s x => F_law_b1 (v2432) (s.1) (s.2.1) (s.2.2) x)) fun l => l.aft Rx.ok fun s => F_law_r1 (script') (v2433) (v2433) (s.1) (s.2.1) (s.2.2)
theorem cell_gv (s : List Int) (k : Int) (h : 0 ≤ k) : Gv (F__law_cell s k) (fun v => 0 ≤ v) := by
  unfold F__law_cell
  refine Gv.ite (fun c => Gv.grd ⟨by omega, c⟩ (.ok ?_)) fun _ => .ok (by decide)
  split <;> omega
theorem all_snoc {P : Int → Prop} {xs : List Int} {y : Int} (h : ∀ x ∈ xs, P x) (hy : P y) : ∀ x ∈ xs ++ [y], P x := fun x hx => by
  rcases List.mem_append.mp hx with q | q
  · exact h x q
  · rw [List.mem_singleton.mp q]
    exact hy
theorem digits_gv (cell base most : Int) (h0 : 0 < base) (h1 : base < 2 ^ 64) (hm : 0 ≤ most) (hm2 : most ≤ 1000) : Gv (F__law_digits cell base most) (fun v => (v.length : Int) = most ∧ ∀ x ∈ v, 0 ≤ x ∧ x < base) := by
  unfold F__law_digits
  refine Gv.bnd fun large _ => Gv.grd ⟨by omega, by omega⟩ (Gv.bind (Gv.forS (P := fun i s => s.2.length = i ∧ ∀ x ∈ s.2, 0 ≤ x ∧ x < base) ⟨rfl, fun x hx => by cases hx⟩ fun i x s hx p => ?_) fun s p => .ok ⟨?_, p.2⟩)
  · obtain ⟨rfl, hi⟩ := rng_at hx
    have hl := p.1
    unfold F__law_digits_b1
    refine Gv.ite (fun _ => Gv.grd h0 (Gv.grd (by omega) (Gv.bnd fun y hy => Gv.grd ⟨h0, by omega⟩ (Gv.bnd fun c _ => .ok ?_)))) fun _ => Gv.grd ?_ (Gv.grd ?_ (Gv.grd h0 (Gv.grd (by omega) (Gv.bnd fun y hy => .ok ?_))))
    · subst hy
      exact ⟨by rw [List.length_append, hl]; rfl, all_snoc p.2 ⟨Int.emod_nonneg _ (by omega), Int.emod_lt_of_pos _ h0⟩⟩
    · left
      omega
    · right
      omega
    · subst hy
      exact ⟨by rw [List.length_append, hl]; rfl, all_snoc p.2 ⟨Int.emod_nonneg _ (by omega), Int.emod_lt_of_pos _ h0⟩⟩
  · have := p.1
    rw [rng_len] at this
    omega
theorem sIx_in {n d : Nat} {v : Int} (h0 : 0 ≤ v) (h1 : v ≤ n) : HT.sIx n d (some v) = v.toNat := by
  show (if v < 0 then (v + (n : Int)).toNat else min v.toNat n) = v.toNat
  rw [if_neg (by omega)]
  omega
theorem itD_nat {α : Type} [Inhabited α] {xs : List α} {k : Int} (n : Nat) (e : k = (n : Int)) {a : α} (h : xs[n]? = some a) : itD xs k = a := by
  subst e
  have hl := get_len h
  unfold itD atI ixN
  rw [if_pos (by omega), if_pos (by omega)]
  show (xs[n]?).getD default = a
  rw [h]
  rfl
theorem rng_at' {lo : Int} {n i : Nat} (h : i < n) : (rng lo n)[i]? = some (lo + (i : Int)) := rng_get h
theorem cut_rng {α : Type} [Inhabited α] {xs : List α} {a n : Int} (h0 : 0 ≤ a) (hn : 0 ≤ n) (h1 : a + n ≤ xs.length) : cutL xs (some a) (some (a + n)) = (rng 0 n.toNat).map (fun j => itD xs (a + j)) := by
  unfold cutL
  rw [sIx_in h0 (by omega), sIx_in (by omega) h1]
  apply List.ext_getElem?
  intro i
  by_cases hi : i < n.toNat
  · rw [List.getElem?_take_of_lt (by omega), List.getElem?_drop, List.getElem?_map, rng_get hi]
    have hl : a.toNat + i < xs.length := by omega
    rw [List.getElem?_eq_getElem hl]
    show some _ = some (itD xs (a + (0 + (i : Int))))
    rw [itD_nat (a.toNat + i) (by omega) (List.getElem?_eq_getElem hl)]
  · rw [List.getElem?_eq_none (by rw [List.length_take, List.length_drop]; omega), List.getElem?_eq_none (by rw [List.length_map, rng_len]; omega)]
theorem cut_len {α : Type} {xs : List α} {a b : Int} (h0 : 0 ≤ a) (hn : a ≤ b) (h1 : b ≤ xs.length) : ((cutL xs (some a) (some b)).length : Int) = b - a := by
  unfold cutL
  rw [sIx_in h0 (by omega), sIx_in (by omega) h1, List.length_take, List.length_drop]
  omega
theorem rep1 {α : Type} (a : α) (n : Int) : repL [a] n = List.replicate n.toNat a := by
  unfold repL
  induction n.toNat with
  | zero => rfl
  | succ k ih => rw [List.replicate_succ, List.flatten_cons, ih, List.replicate_succ]; rfl
theorem rep1_len {α : Type} (a : α) {n : Int} (h : 0 ≤ n) : ((repL [a] n).length : Int) = n := by
  rw [rep1, List.length_replicate]
  omega
theorem rep1_at {α : Type} [Inhabited α] (a : α) {n : Int} (h : 0 < n) : itD (repL [a] n) 0 = a := by
  rw [rep1]
  obtain ⟨k, hk⟩ : ∃ k, n.toNat = k + 1 := ⟨n.toNat - 1, by omega⟩
  rw [hk, List.replicate_succ]
  exact itD_nat 0 rfl rfl
theorem rep1_mem {α : Type} {a b : α} {n : Int} (h : b ∈ repL [a] n) : b = a := by
  rw [rep1] at h
  exact List.eq_of_mem_replicate h
theorem itD_mem {α : Type} [Inhabited α] {xs : List α} {k : Int} (h0 : 0 ≤ k) (h1 : k < xs.length) : itD xs k ∈ xs := by
  have hl : k.toNat < xs.length := by omega
  rw [itD_nat k.toNat (by omega) (List.getElem?_eq_getElem hl)]
  exact List.getElem_mem hl
namespace Pu
theorem len_rep1 {α : Type} (a : α) (k : Int) : (repL [a] k).length = k.toNat := by
  unfold repL
  simp
theorem mem_rep1 {α : Type} {a x : α} {k : Int} (h : x ∈ repL [a] k) : x = a := by
  unfold repL at h
  simp at h
  exact h.2
theorem itD_nat {α : Type} [Inhabited α] {e : List α} {k : Nat} {x : α} (h : e[k]? = some x) : itD e (k : Int) = x := by
  unfold itD atI ixN
  have hk := (List.getElem?_eq_some_iff.mp h).1
  rw [if_pos (by omega), if_pos (by omega)]
  simp [h]
theorem itD_mem {α : Type} [Inhabited α] {e : List α} {k : Int} (h : -(e.length : Int) ≤ k ∧ k < e.length) : itD e k ∈ e := by
  obtain ⟨j, hj, hl⟩ := ixN_some h
  unfold itD atI
  rw [hj]
  show (e[j]?).getD default ∈ e
  rw [List.getElem?_eq_getElem hl]
  exact List.getElem_mem hl
abbrev EncS := St_Encoder
def adaptE (p d : Int) : Int := if d = 0 then p + (4096 - p) / 32 else p - p / 32
theorem adaptE_in {p d : Int} (h : 31 ≤ p ∧ p ≤ 4065) : 31 ≤ adaptE p d ∧ adaptE p d ≤ 4065 := by
  unfold adaptE
  split <;> omega
def num (xs : List Int) : Int := xs.foldl (fun a x => a * 256 + x) 0
theorem num_snoc (xs : List Int) (x : Int) : num (xs ++ [x]) = num xs * 256 + x := by
  unfold num
  rw [List.foldl_append] <;> rfl
def incR : List Int → List Int
  | [] => []
  | x :: r => if x = 255 then 0 :: incR r else (x + 1) :: r
def incE (xs : List Int) : List Int := (incR xs.reverse).reverse
theorem incR_rep (x : Int) (r : List Int) (hx : x ≠ 255) : ∀ j : Nat, incR (List.replicate j 255 ++ x :: r) = List.replicate j 0 ++ (x + 1) :: r
  | 0 => by simp [incR, hx]
  | j + 1 => by
    rw [List.replicate_succ, List.cons_append, incR, if_pos rfl, incR_rep x r hx j, List.replicate_succ, List.cons_append]
theorem incE_mid {A : List Int} {x : Int} {j : Nat} (hx : x ≠ 255) : incE (A ++ [x] ++ List.replicate j 255) = A ++ [x + 1] ++ List.replicate j 0 := by
  unfold incE
  rw [show (A ++ [x] ++ List.replicate j (255 : Int)).reverse = List.replicate j 255 ++ x :: A.reverse by simp, incR_rep x _ hx]
  simp
theorem mid_in {F A : List Int} {x pl : Int} {j : Nat} (h : F = A ++ [x] ++ List.replicate j 0) (hp : pl = (A.length : Int)) : -(F.length : Int) ≤ pl ∧ pl < F.length := by
  subst h hp
  simp only [List.length_append, List.length_cons, List.length_nil, List.length_replicate]
  omega
theorem get_mid {α : Type} {A R : List α} {x : α} : (A ++ [x] ++ R)[A.length]? = some x := by simp
theorem mid_at {F A : List Int} {x pl : Int} {j : Nat} (h : F = A ++ [x] ++ List.replicate j 0) (hp : pl = (A.length : Int)) : itD F pl = x := by
  subst h hp
  exact itD_nat get_mid
theorem ixN_nat' {n j : Nat} (hj : j < n) : ixN n (j : Int) = some j := by
  unfold ixN
  rw [if_pos (by omega), if_pos (by omega)]
  simp
theorem setL_mid {A R : List Int} {x y : Int} : setL (A ++ [x] ++ R) (A.length : Int) y = A ++ [y] ++ R := by
  unfold setL
  rw [ixN_nat' (by simp)]
  simp
theorem all255 {F : List Int} {j : Nat} (h : ∃ y ∈ F, y ≠ 255) (e : F = List.replicate j 255) : False := by
  obtain ⟨y, hy, hn⟩ := h
  rw [e] at hy
  exact hn (List.eq_of_mem_replicate hy)
theorem carry_start {F : List Int} (h : ∃ y ∈ F, y ≠ 255) : ∃ (A : List Int) (x : Int) (j : Nat), F = A ++ [x] ++ List.replicate j 255 ∧ F = A ++ [x] ++ List.replicate j 0 ∧ ((F.length : Int) - 1) = (A.length : Int) := by
  have hn : F ≠ [] := by
    obtain ⟨y, hy, _⟩ := h
    intro z
    rw [z] at hy
    cases hy
  refine ⟨F.dropLast, F.getLast hn, 0, ?_, ?_, ?_⟩
  · rw [List.dropLast_concat_getLast]
    simp
  · rw [List.dropLast_concat_getLast]
    simp
  · have := List.length_pos_iff.mpr hn
    rw [List.length_dropLast]
    omega
theorem carry_A {F A : List Int} {x : Int} {j : Nat} (h : ∃ y ∈ F, y ≠ 255) (e : F = A ++ [x] ++ List.replicate j 255) (hx : x = 255) : A ≠ [] := by
  intro z
  subst z hx
  refine all255 (j := j + 1) h ?_
  rw [e, List.replicate_succ] <;> rfl
theorem carry_turn {F F' A : List Int} {x pl : Int} {j : Nat} (h : ∃ y ∈ F, y ≠ 255) (e : F = A ++ [x] ++ List.replicate j 255) (e' : F' = A ++ [x] ++ List.replicate j 0) (hp : pl = (A.length : Int)) (hx : x = 255) :
    ∃ (B : List Int) (y : Int) (k : Nat), F = B ++ [y] ++ List.replicate k 255 ∧ setL F' pl 0 = B ++ [y] ++ List.replicate k 0 ∧ pl - 1 = (B.length : Int) := by
  have hA := carry_A h e hx
  refine ⟨A.dropLast, A.getLast hA, j + 1, ?_, ?_, ?_⟩
  · rw [e, hx, List.dropLast_concat_getLast hA, List.replicate_succ]
    simp
  · rw [e', hp, setL_mid, List.dropLast_concat_getLast hA, List.replicate_succ]
    simp
  · have := List.length_pos_iff.mpr hA
    rw [hp, List.length_dropLast]
    omega
theorem carry_less {F A : List Int} {x pl : Int} {j : Nat} (h : ∃ y ∈ F, y ≠ 255) (e : F = A ++ [x] ++ List.replicate j 255) (hp : pl = (A.length : Int)) (hx : x = 255) : (pl - 1).toNat < pl.toNat := by
  have := List.length_pos_iff.mpr (carry_A h e hx)
  omega
theorem carry_end {F F' A : List Int} {x pl : Int} {j : Nat} (e : F = A ++ [x] ++ List.replicate j 255) (e' : F' = A ++ [x] ++ List.replicate j 0) (hp : pl = (A.length : Int)) (hx : x ≠ 255) : setL F' pl (itD F' pl + 1) = incE F := by
  rw [mid_at e' hp, e', hp, setL_mid, e, incE_mid hx]

def encInit : EncS := ⟨repL [2048] 256, [], 0, 4294967296 - 1⟩
def encPre (e : EncS) (p d : Int) : EncS :=
  if d = 0 then ⟨e.probs, e.front, e.low, e.span / 4096 * p⟩
  else if 4294967296 ≤ e.low + e.span / 4096 * p then ⟨e.probs, incE e.front, e.low + e.span / 4096 * p - 4294967296, e.span - e.span / 4096 * p⟩
  else ⟨e.probs, e.front, e.low + e.span / 4096 * p, e.span - e.span / 4096 * p⟩
def encNorm1 (e : EncS) : EncS := ⟨e.probs, e.front ++ [e.low / 16777216], e.low * 256 % 4294967296, e.span * 256⟩
def encNorm (e : EncS) : EncS := if e.span < 16777216 then encNorm1 e else e
def encNarrow (e : EncS) (p d : Int) : EncS := encNorm (encPre e p d)
def encCode (e : EncS) (c d : Int) : EncS := ⟨setL (encNarrow e (itD e.probs c) d).probs c (adaptE (itD e.probs c) d), (encNarrow e (itD e.probs c) d).front, (encNarrow e (itD e.probs c) d).low, (encNarrow e (itD e.probs c) d).span⟩
structure EncMid (e : EncS) : Prop where
  oct : ∀ x ∈ e.front, 0 ≤ x ∧ x ≤ 255
  low : 0 ≤ e.low ∧ e.low < 4294967296
  span0 : 0 < e.span
  span : 65536 ≤ e.span ∧ e.span < 4294967296
  fit : num e.front * 4294967296 + e.low + e.span ≤ 256 ^ e.front.length * 4294967296
structure EncG (e : EncS) : Prop where
  len : e.probs.length = 256
  prob : ∀ p ∈ e.probs, 31 ≤ p ∧ p ≤ 4065
  mid : EncMid e
  big : 16777216 ≤ e.span
theorem EncG.chance {e : EncS} (h : EncG e) {c : Int} (h0 : 0 ≤ c) (h1 : c < 256) : 31 ≤ itD e.probs c ∧ itD e.probs c ≤ 4065 := h.prob _ (itD_mem (by rw [h.len]; omega))
theorem part_in {s p : Int} (hs : 16777216 ≤ s ∧ s < 4294967296) (hp : 31 ≤ p ∧ p ≤ 4065) : 65536 ≤ s / 4096 * p ∧ 65536 ≤ s - s / 4096 * p := by
  have h1 : 4096 ≤ s / 4096 := by omega
  have h2 : s / 4096 * 4096 ≤ s := by omega
  have a : s / 4096 * 31 ≤ s / 4096 * p := Int.mul_le_mul_of_nonneg_left hp.1 (by omega)
  have b : s / 4096 * p ≤ s / 4096 * 4065 := Int.mul_le_mul_of_nonneg_left hp.2 (by omega)
  omega
theorem snocInd {α : Type} {motive : List α → Prop} (nil : motive []) (snoc : ∀ xs x, motive xs → motive (xs ++ [x])) (xs : List α) : motive xs := by
  have : ∀ l : List α, motive l.reverse := by
    intro l
    induction l with
    | nil => exact nil
    | cons x r ih =>
      rw [List.reverse_cons]
      exact snoc _ _ ih
  have h := this xs.reverse
  rwa [List.reverse_reverse] at h
theorem num_nn : ∀ {xs : List Int}, (∀ x ∈ xs, 0 ≤ x ∧ x ≤ 255) → 0 ≤ num xs := by
  intro xs
  induction xs using snocInd with
  | nil => intro _; decide
  | snoc xs x ih =>
    intro h
    rw [num_snoc]
    have h1 := ih fun y hy => h y (List.mem_append_left _ hy)
    have h2 := h x (List.mem_append_right _ List.mem_cons_self)
    omega
theorem inc_len (xs : List Int) : (incE xs).length = xs.length := by
  have : ∀ l : List Int, (incR l).length = l.length := by
    intro l
    induction l with
    | nil => rfl
    | cons x r ih =>
      unfold incR
      split
      · rw [List.length_cons, List.length_cons, ih]
      · rfl
  unfold incE
  rw [List.length_reverse, this, List.length_reverse]
theorem split255 : ∀ {xs : List Int}, (∃ y ∈ xs, y ≠ 255) → ∃ (A : List Int) (x : Int) (j : Nat), xs = A ++ [x] ++ List.replicate j 255 ∧ x ≠ 255 := by
  intro xs
  induction xs using snocInd with
  | nil => rintro ⟨y, hy, _⟩; cases hy
  | snoc xs x ih =>
    intro h
    by_cases hx : x = 255
    · subst hx
      obtain ⟨y, hy, hn⟩ := h
      have : ∃ y ∈ xs, y ≠ 255 := by
        rcases List.mem_append.mp hy with z | z
        · exact ⟨y, z, hn⟩
        · simp at z
          exact absurd z hn
      obtain ⟨A, x, j, e, hx⟩ := ih this
      refine ⟨A, x, j + 1, ?_, hx⟩
      rw [e, List.replicate_succ', List.append_assoc]
    · exact ⟨xs, x, 0, by simp, hx⟩
theorem num_rep (A : List Int) (x : Int) : ∀ j : Nat, num (A ++ [x + 1] ++ List.replicate j 0) = num (A ++ [x] ++ List.replicate j 255) + 1
  | 0 => by simp [num_snoc]; omega
  | j + 1 => by
    rw [List.replicate_succ', List.replicate_succ', ← List.append_assoc, ← List.append_assoc, num_snoc, num_snoc, num_rep A x j]
    omega
theorem inc_num {xs : List Int} (h : ∃ y ∈ xs, y ≠ 255) : num (incE xs) = num xs + 1 := by
  obtain ⟨A, x, j, e, hx⟩ := split255 h
  rw [e, incE_mid hx, num_rep]
theorem inc_oct {xs : List Int} (h : ∃ y ∈ xs, y ≠ 255) (ho : ∀ x ∈ xs, 0 ≤ x ∧ x ≤ 255) : ∀ x ∈ incE xs, 0 ≤ x ∧ x ≤ 255 := by
  obtain ⟨A, x, j, e, hx⟩ := split255 h
  subst e
  rw [incE_mid hx]
  intro y hy
  have hxo := ho x (by simp)
  simp at hy
  rcases hy with z | z | z
  · exact ho y (by simp [z])
  · omega
  · omega
theorem num_all255 : ∀ {xs : List Int}, (∀ y ∈ xs, y = 255) → num xs = 256 ^ xs.length - 1 := by
  intro xs
  induction xs using snocInd with
  | nil => intro _; decide
  | snoc xs x ih =>
    intro h
    rw [num_snoc, ih fun y hy => h y (List.mem_append_left _ hy), h x (List.mem_append_right _ List.mem_cons_self), List.length_append, List.length_cons, List.length_nil, Int.pow_succ]
    omega
theorem carry_pre {e : EncS} (h : EncG e) {p : Int} (hp : 31 ≤ p ∧ p ≤ 4065) (c : 4294967296 ≤ e.low + e.span / 4096 * p) : ∃ y ∈ e.front, y ≠ 255 := by
  by_cases z : ∃ y ∈ e.front, y ≠ 255
  · exact z
  · have a : ∀ y ∈ e.front, y = 255 := fun y hy => by
      by_cases q : y = 255
      · exact q
      · exact absurd ⟨y, hy, q⟩ z
    have n := num_all255 a
    have f := h.mid.fit
    have q := part_in ⟨h.big, h.mid.span.2⟩ hp
    rw [n] at f
    have : (256 ^ e.front.length - 1 : Int) * 4294967296 = 256 ^ e.front.length * 4294967296 - 4294967296 := by rw [Int.sub_mul]; omega
    omega
theorem encPre_ok {e : EncS} (h : EncG e) {p : Int} (hp : 31 ≤ p ∧ p ≤ 4065) (d : Int) : EncMid (encPre e p d) := by
  have q := part_in ⟨h.big, h.mid.span.2⟩ hp
  have f := h.mid.fit
  have l := h.mid.low
  have s := h.mid.span
  unfold encPre
  split
  · exact ⟨h.mid.oct, l, by show 0 < e.span / 4096 * p; omega, by show 65536 ≤ e.span / 4096 * p ∧ e.span / 4096 * p < 4294967296; omega, by show num e.front * 4294967296 + e.low + e.span / 4096 * p ≤ 256 ^ e.front.length * 4294967296; omega⟩
  · split
    · rename_i c
      have cp := carry_pre h hp c
      refine ⟨inc_oct cp h.mid.oct, ?_, ?_, ?_, ?_⟩
      · show 0 ≤ e.low + e.span / 4096 * p - 4294967296 ∧ e.low + e.span / 4096 * p - 4294967296 < 4294967296
        omega
      · show 0 < e.span - e.span / 4096 * p
        omega
      · show 65536 ≤ e.span - e.span / 4096 * p ∧ e.span - e.span / 4096 * p < 4294967296
        omega
      · show num (incE e.front) * 4294967296 + (e.low + e.span / 4096 * p - 4294967296) + (e.span - e.span / 4096 * p) ≤ 256 ^ (incE e.front).length * 4294967296
        rw [inc_num cp, inc_len]
        omega
    · refine ⟨h.mid.oct, ?_, ?_, ?_, ?_⟩
      · show 0 ≤ e.low + e.span / 4096 * p ∧ e.low + e.span / 4096 * p < 4294967296
        omega
      · show 0 < e.span - e.span / 4096 * p
        omega
      · show 65536 ≤ e.span - e.span / 4096 * p ∧ e.span - e.span / 4096 * p < 4294967296
        omega
      · show num e.front * 4294967296 + (e.low + e.span / 4096 * p) + (e.span - e.span / 4096 * p) ≤ 256 ^ e.front.length * 4294967296
        omega
theorem norm_span {e : EncS} (h : EncMid e) : 16777216 ≤ (encNorm1 e).span := by
  have := h.span
  show 16777216 ≤ e.span * 256
  omega
theorem shl32 {i j : Int} (h : 0 ≤ i ∧ i < 4294967296) (hj : 0 ≤ j ∧ j ≤ 64) : CShl i j := by
  obtain ⟨k, rfl⟩ := Int.eq_ofNat_of_zero_le hj.1
  exact shl_ok (n := 64) (by omega) (by omega)
theorem encNorm_eq (e : EncS) : (⟨e.probs, e.front ++ [e.low / 16777216], PySem.Builtin.bitAnd (e.low * 256) (4294967296 - 1), e.span * 256⟩ : EncS) = encNorm1 e := by
  unfold encNorm1
  rw [show (4294967296 - 1 : Int) = 4294967295 by decide, bitAnd_m32] <;> rfl
theorem norm_ok {e : EncS} (h : EncMid e) : EncMid (encNorm e) ∧ 16777216 ≤ (encNorm e).span := by
  unfold encNorm
  split
  · rename_i c
    have l := h.low
    have s := h.span
    have f := h.fit
    refine ⟨⟨?_, ?_, ?_, ?_, ?_⟩, norm_span h⟩
    · intro x hx
      rcases List.mem_append.mp hx with z | z
      · exact h.oct x z
      · simp at z
        omega
    · show 0 ≤ e.low * 256 % 4294967296 ∧ e.low * 256 % 4294967296 < 4294967296
      omega
    · show 0 < e.span * 256
      omega
    · show 65536 ≤ e.span * 256 ∧ e.span * 256 < 4294967296
      omega
    · show num (e.front ++ [e.low / 16777216]) * 4294967296 + e.low * 256 % 4294967296 + e.span * 256 ≤ 256 ^ (e.front ++ [e.low / 16777216]).length * 4294967296
      rw [num_snoc, List.length_append, List.length_cons, List.length_nil, Int.pow_succ]
      have e1 : (num e.front * 256 + e.low / 16777216) * 4294967296 + e.low * 256 % 4294967296 = (num e.front * 4294967296 + e.low) * 256 := by omega
      have e2 : (256 : Int) ^ e.front.length * 256 * 4294967296 = 256 ^ e.front.length * 4294967296 * 256 := by rw [Int.mul_right_comm]
      rw [e1, e2]
      omega
  · exact ⟨h, by omega⟩
theorem probs_pre (e : EncS) (p d : Int) : (encPre e p d).probs = e.probs := by
  unfold encPre
  split
  · rfl
  · split <;> rfl
theorem len_pre (e : EncS) (p d : Int) : (encPre e p d).front.length = e.front.length := by
  unfold encPre
  split
  · rfl
  · split
    · exact inc_len _
    · rfl
theorem len_narrow (e : EncS) (p d : Int) : (encNarrow e p d).front.length ≤ e.front.length + 1 := by
  have := len_pre e p d
  unfold encNarrow encNorm
  split
  · show ((encPre e p d).front ++ [(encPre e p d).low / 16777216]).length ≤ e.front.length + 1
    rw [List.length_append, List.length_cons, List.length_nil]
    omega
  · omega
theorem probs_narrow (e : EncS) (p d : Int) : (encNarrow e p d).probs = e.probs := by
  unfold encNarrow encNorm
  split
  · exact probs_pre e p d
  · exact probs_pre e p d
theorem narrow_ok {e : EncS} (h : EncG e) {p : Int} (hp : 31 ≤ p ∧ p ≤ 4065) (d : Int) : EncG (encNarrow e p d) := by
  obtain ⟨m, b⟩ := norm_ok (encPre_ok h hp d)
  exact ⟨by rw [probs_narrow]; exact h.len, by rw [probs_narrow]; exact h.prob, m, b⟩
theorem even_ok {e : EncS} (h : EncG e) (d : Int) : EncG (encNarrow e 2048 d) := narrow_ok h (by decide) d
theorem setL_len {α : Type} (xs : List α) (k : Int) (y : α) : (setL xs k y).length = xs.length := by
  unfold setL
  rw [List.length_set]
theorem setL_mem {α : Type} {xs : List α} {k : Int} {x y : α} (h : x ∈ setL xs k y) : x ∈ xs ∨ x = y := by
  unfold setL at h
  exact List.mem_or_eq_of_mem_set h
theorem code_ok {e : EncS} (h : EncG e) {c d : Int} (h0 : 0 ≤ c) (h1 : c < 256) : EncG (encCode e c d) := by
  have hc := h.chance h0 h1
  have n := narrow_ok h hc d
  refine ⟨?_, ?_, ⟨n.mid.oct, n.mid.low, n.mid.span0, n.mid.span, n.mid.fit⟩, n.big⟩
  · show (setL _ _ _).length = 256
    rw [setL_len]
    exact n.len
  · intro p hp
    rcases setL_mem hp with z | z
    · exact n.prob p z
    · rw [z]
      exact adaptE_in hc
theorem init_ok : EncG encInit := by
  refine ⟨by decide, fun p hp => ?_, ⟨fun x hx => (by cases hx), by decide, by decide, by decide, by decide⟩, by decide⟩
  rw [mem_rep1 hp]
  decide
/-! the octets -/
def stripZ (xs : List Int) : List Int := (xs.reverse.dropWhile (fun x => decide (x = 0))).reverse
def digits4 (n : Int) : List Int := ([24, 16, 8, 0] : List Int).map (fun k => PySem.Builtin.bitAnd (n / 2 ^ Int.toNat k) 255)
def encOctets (e : EncS) : List Int := stripZ (e.front ++ digits4 e.low)
theorem shifts_nn {k : Int} (h : k ∈ ([24, 16, 8, 0] : List Int)) : 0 ≤ k := by
  simp at h
  omega
theorem last_in {xs : List Int} (h : xs ≠ []) : -(xs.length : Int) ≤ -1 ∧ -1 < (xs.length : Int) := by
  have := List.length_pos_iff.mpr h
  omega
theorem itD_last {xs : List Int} (h : xs ≠ []) : itD xs (-1) = xs.getLast h := by
  unfold itD atI ixN
  have := List.length_pos_iff.mpr h
  rw [if_neg (by omega), if_pos (by omega)]
  have e : (-1 + (xs.length : Int)).toNat = xs.length - 1 := by omega
  show (xs[(-1 + (xs.length : Int)).toNat]?).getD default = _
  rw [e, ← List.getLast?_eq_getElem?, List.getLast?_eq_some_getLast h] <;> rfl
theorem strip_pop {xs : List Int} (h : xs ≠ []) (hz : itD xs (-1) = 0) : stripZ xs.dropLast = stripZ xs := by
  rw [itD_last h] at hz
  unfold stripZ
  have e : xs.reverse = 0 :: xs.dropLast.reverse := by
    conv => lhs; rw [← List.dropLast_concat_getLast h, List.reverse_append, hz]
    rfl
  rw [e, List.dropWhile_cons, if_pos (by decide)]
theorem drop_less {xs : List Int} (h : xs ≠ []) : xs.dropLast.length < xs.length := by
  have := List.length_pos_iff.mpr h
  rw [List.length_dropLast]
  omega
theorem strip_nil : stripZ [] = [] := rfl
theorem strip_last {xs : List Int} (h : xs ≠ []) (hz : ¬ itD xs (-1) = 0) : stripZ xs = xs := by
  rw [itD_last h] at hz
  unfold stripZ
  have e : xs.reverse = xs.getLast h :: xs.dropLast.reverse := by
    conv => lhs; rw [← List.dropLast_concat_getLast h, List.reverse_append]
    rfl
  rw [e, List.dropWhile_cons, if_neg (by simpa using hz), ← e, List.reverse_reverse]
theorem strip_done {xs : List Int} (h : xs = [] ∨ ¬ itD xs (-1) = 0) : stripZ xs = xs := by
  by_cases n : xs = []
  · rw [n] <;> rfl
  · rcases h with z | z
    · exact absurd z n
    · exact strip_last n z
abbrev DecS := St_Decoder
structure DecO (d : DecS) : Prop where
  place : 0 ≤ d.place
  oct : ∀ x ∈ d.octs, 0 ≤ x ∧ x ≤ 255
def decOct (d : DecS) : Int := if d.place < (d.octs.length : Int) then itD d.octs d.place else 0
def decShift (d : DecS) : DecS := ⟨d.probs, d.octs, if d.place < (d.octs.length : Int) then d.place + 1 else d.place, d.span, d.value * 256 + decOct d⟩
def decPre (d : DecS) (p : Int) : DecS :=
  if d.value < d.span / 4096 * p then ⟨d.probs, d.octs, d.place, d.span / 4096 * p, d.value⟩ else ⟨d.probs, d.octs, d.place, d.span - d.span / 4096 * p, d.value - d.span / 4096 * p⟩
def decBit (d : DecS) (p : Int) : Int := if d.value < d.span / 4096 * p then 0 else 1
def decNorm1 (d : DecS) : DecS := ⟨(decShift d).probs, (decShift d).octs, (decShift d).place, (decShift d).span * 256, (decShift d).value⟩
def decNorm (d : DecS) : DecS := if d.span < 16777216 then decNorm1 d else d
def decDecide (d : DecS) (p : Int) : DecS := decNorm (decPre d p)
def decRead (d : DecS) (c : Int) : DecS := ⟨setL (decDecide d (itD d.probs c)).probs c (adaptE (itD d.probs c) (decBit d (itD d.probs c))), (decDecide d (itD d.probs c)).octs, (decDecide d (itD d.probs c)).place, (decDecide d (itD d.probs c)).span, (decDecide d (itD d.probs c)).value⟩
def decBlank (o : List Int) : DecS := ⟨repL [2048] 256, o, 0, 4294967296 - 1, 0⟩
def decShifts : Nat → DecS → DecS
  | 0, d => d
  | n + 1, d => decShift (decShifts n d)
def decInit (o : List Int) : DecS := ⟨(decShifts 4 (decBlank o)).probs, (decShifts 4 (decBlank o)).octs, (decShifts 4 (decBlank o)).place, (decShifts 4 (decBlank o)).span, if 4294967296 - 2 < (decShifts 4 (decBlank o)).value then 4294967296 - 2 else (decShifts 4 (decBlank o)).value⟩
structure DecG (d : DecS) : Prop where
  o : DecO d
  len : d.probs.length = 256
  prob : ∀ p ∈ d.probs, 31 ≤ p ∧ p ≤ 4065
  span : 16777216 ≤ d.span ∧ d.span < 4294967296
  value : 0 ≤ d.value ∧ d.value < d.span
structure DecMid (d : DecS) : Prop where
  o : DecO d
  len : d.probs.length = 256
  prob : ∀ p ∈ d.probs, 31 ≤ p ∧ p ≤ 4065
  span : 65536 ≤ d.span ∧ d.span < 4294967296
  value : 0 ≤ d.value ∧ d.value < d.span
theorem DecG.chance {d : DecS} (h : DecG d) {c : Int} (h0 : 0 ≤ c) (h1 : c < 256) : 31 ≤ itD d.probs c ∧ itD d.probs c ≤ 4065 := h.prob _ (itD_mem (by rw [h.len]; omega))
theorem ite01 {p : Prop} [Decidable p] (h : (if p then (0 : Int) else 1) = 0) : p := by
  by_cases c : p
  · exact c
  · rw [if_neg c] at h
    exact absurd h (by decide)
theorem ite10 {p : Prop} [Decidable p] (h : ¬ (if p then (0 : Int) else 1) = 0) : ¬ p := by
  intro c
  rw [if_pos c] at h
  exact h rfl
theorem low_or {v o : Int} (h : 0 ≤ v) (h0 : 0 ≤ o) (h1 : o ≤ 255) : PySem.Builtin.bitOr (v * 256) o = v * 256 + o := by
  obtain ⟨a, rfl⟩ := Int.eq_ofNat_of_zero_le h
  obtain ⟨b, rfl⟩ := Int.eq_ofNat_of_zero_le h0
  have z : (a * 256) &&& b = 0 := by
    apply Nat.eq_of_testBit_eq
    intro i
    rw [Nat.testBit_and, Nat.zero_testBit, show a * 256 = a * 2 ^ 8 from rfl, Nat.testBit_mul_two_pow]
    by_cases hi : 8 ≤ i
    · have e : b.testBit i = false := Nat.testBit_lt_two_pow (Nat.lt_of_lt_of_le (by omega : b < 2 ^ 8) (Nat.pow_le_pow_right (by decide) hi))
      rw [e, Bool.and_false]
    · simp [hi]
  rw [PyProof.Rows.bitOr_and, PyProof.Rows.bitAnd_pp (by omega) (by omega)]
  rw [show ((a : Int) * 256).toNat = a * 256 from by omega, show ((b : Int)).toNat = b from rfl, z]
  exact Int.sub_zero _
theorem oct_in {d : DecS} (h : DecO d) : 0 ≤ decOct d ∧ decOct d ≤ 255 := by
  unfold decOct
  split
  · exact h.oct _ (itD_mem (by have := h.place; omega))
  · decide
theorem shift_in {d : DecS} (c : d.place < (d.octs.length : Int)) (h : DecO d) (hv : 0 ≤ d.value) : decShift d = ⟨d.probs, d.octs, d.place + 1, d.span, PySem.Builtin.bitOr (d.value * 256) (itD d.octs d.place)⟩ := by
  have ho := oct_in h
  unfold decShift decOct at *
  rw [if_pos c] at *
  rw [low_or hv ho.1 ho.2]
  simp [c]
theorem shift_out {d : DecS} (c : ¬ d.place < (d.octs.length : Int)) (hv : 0 ≤ d.value) : decShift d = ⟨d.probs, d.octs, d.place, d.span, PySem.Builtin.bitOr (d.value * 256) 0⟩ := by
  unfold decShift decOct
  rw [if_neg c, if_neg c]
  rw [low_or hv (by decide) (by decide)]
theorem decPre_ok {d : DecS} (h : DecG d) {p : Int} (hp : 31 ≤ p ∧ p ≤ 4065) : DecMid (decPre d p) := by
  have hi := part_in h.span hp
  have hv := h.value
  have hs := h.span
  unfold decPre
  split
  · exact ⟨⟨h.o.place, h.o.oct⟩, h.len, h.prob, ⟨hi.1, by show d.span / 4096 * p < 4294967296; omega⟩, ⟨hv.1, by show d.value < d.span / 4096 * p; omega⟩⟩
  · exact ⟨⟨h.o.place, h.o.oct⟩, h.len, h.prob, ⟨hi.2, by show d.span - d.span / 4096 * p < 4294967296; omega⟩, ⟨by show 0 ≤ d.value - d.span / 4096 * p; omega, by show d.value - d.span / 4096 * p < d.span - d.span / 4096 * p; omega⟩⟩
theorem shift_o {d : DecS} (h : DecO d) : DecO (decShift d) := by
  refine ⟨?_, h.oct⟩
  have := h.place
  show 0 ≤ (if d.place < (d.octs.length : Int) then d.place + 1 else d.place)
  split <;> omega
theorem decNorm_ok {d : DecS} (h : DecMid d) : DecG (decNorm d) := by
  have hv := h.value
  have hs := h.span
  have ho := oct_in h.o
  unfold decNorm
  split
  · exact ⟨⟨(shift_o h.o).place, (shift_o h.o).oct⟩, h.len, h.prob, ⟨by show 16777216 ≤ d.span * 256; omega, by show d.span * 256 < 4294967296; omega⟩, ⟨by show 0 ≤ d.value * 256 + decOct d; omega, by show d.value * 256 + decOct d < d.span * 256; omega⟩⟩
  · exact ⟨h.o, h.len, h.prob, ⟨by omega, hs.2⟩, hv⟩
theorem decide_ok {d : DecS} (h : DecG d) {p : Int} (hp : 31 ≤ p ∧ p ≤ 4065) : DecG (decDecide d p) := decNorm_ok (decPre_ok h hp)
theorem probs_decide (d : DecS) (p : Int) : (decDecide d p).probs = d.probs := by
  unfold decDecide decNorm decPre
  split <;> split <;> rfl
theorem bit_in (d : DecS) (p : Int) : 0 ≤ decBit d p ∧ decBit d p ≤ 1 := by
  unfold decBit
  split <;> decide
theorem read_ok {d : DecS} (h : DecG d) {c : Int} (h0 : 0 ≤ c) (h1 : c < 256) : DecG (decRead d c) := by
  have hp := h.chance h0 h1
  have hd := decide_ok h hp
  refine ⟨⟨hd.o.place, hd.o.oct⟩, ?_, fun p hm => ?_, hd.span, hd.value⟩
  · show (setL _ c _).length = 256
    rw [setL_len]
    exact hd.len
  · rcases setL_mem hm with z | z
    · exact hd.prob p z
    · rw [z]
      exact adaptE_in hp
theorem blank_ok {o : List Int} (h : ∀ x ∈ o, 0 ≤ x ∧ x ≤ 255) : DecO (decBlank o) := ⟨Int.le_refl 0, h⟩
theorem shifts_ok {d : DecS} (h : DecO d) (hv : d.value = 0) : ∀ n : Nat, DecO (decShifts n d) ∧ 0 ≤ (decShifts n d).value ∧ (decShifts n d).value < 256 ^ n
  | 0 => ⟨h, by show 0 ≤ d.value; omega, by show d.value < 1; omega⟩
  | n + 1 => by
    have ih := shifts_ok h hv n
    have ho := oct_in ih.1
    refine ⟨shift_o ih.1, ?_, ?_⟩
    · show 0 ≤ (decShifts n d).value * 256 + decOct (decShifts n d)
      omega
    · show (decShifts n d).value * 256 + decOct (decShifts n d) < 256 ^ (n + 1)
      rw [Int.pow_succ]
      omega
theorem shifts_probs (d : DecS) : ∀ n : Nat, (decShifts n d).probs = d.probs
  | 0 => rfl
  | n + 1 => shifts_probs d n
theorem shifts_span (d : DecS) : ∀ n : Nat, (decShifts n d).span = d.span
  | 0 => rfl
  | n + 1 => shifts_span d n
theorem shifts_octs (d : DecS) : ∀ n : Nat, (decShifts n d).octs = d.octs
  | 0 => rfl
  | n + 1 => shifts_octs d n
theorem pow_turn {i : Nat} (hi : i < 4) {v : Int} (h : v < 256 ^ i) : v < 4294967296 := by
  have : (256 : Int) ^ i ≤ 256 ^ 3 := by
    have := Nat.pow_le_pow_right (n := 256) (by decide) (show i ≤ 3 by omega)
    exact_mod_cast this
  omega
theorem decInit_ok {o : List Int} (h : ∀ x ∈ o, 0 ≤ x ∧ x ≤ 255) : DecG (decInit o) := by
  have hs := shifts_ok (blank_ok h) rfl 4
  refine ⟨⟨hs.1.place, hs.1.oct⟩, ?_, ?_, ?_, ?_⟩
  · show (decShifts 4 (decBlank o)).probs.length = 256
    rw [shifts_probs]
    exact init_ok.len
  · show ∀ p ∈ (decShifts 4 (decBlank o)).probs, _
    rw [shifts_probs]
    exact init_ok.prob
  · show 16777216 ≤ (decShifts 4 (decBlank o)).span ∧ (decShifts 4 (decBlank o)).span < 4294967296
    rw [shifts_span]
    show (16777216 : Int) ≤ 4294967296 - 1 ∧ (4294967296 - 1 : Int) < 4294967296
    decide
  · show 0 ≤ (if 4294967296 - 2 < (decShifts 4 (decBlank o)).value then 4294967296 - 2 else (decShifts 4 (decBlank o)).value) ∧ (if 4294967296 - 2 < (decShifts 4 (decBlank o)).value then 4294967296 - 2 else (decShifts 4 (decBlank o)).value) < (decShifts 4 (decBlank o)).span
    rw [shifts_span]
    show _ ∧ _ < (4294967296 - 1 : Int)
    have := hs.2
    split <;> omega
def ItemsOk (items : List (Int × Int)) : Prop := ∀ it ∈ items, (-1 ≤ it.1 ∧ it.1 ≤ 255) ∧ 0 ≤ it.2 ∧ it.2 ≤ 1
def encItem (e : EncS) (it : Int × Int) : EncS := if 0 ≤ it.1 then encCode e it.1 it.2 else encNarrow e 2048 it.2
def encItems (e : EncS) (items : List (Int × Int)) : EncS := items.foldl encItem e
theorem items_turn {e : EncS} {items : List (Int × Int)} {i : Nat} {it : Int × Int} {e' : EncS} (hi : items[i]? = some it) (h : encItem (encItems e (items.take i)) it = e') : e' = encItems e (items.take (i + 1)) := by
  unfold encItems at h ⊢
  rw [take_succ_get hi, List.foldl_append, ← h] <;> rfl
theorem len_code (e : EncS) (c d : Int) : (encCode e c d).front.length ≤ e.front.length + 1 := len_narrow e _ d
theorem item_ok {e : EncS} {it : Int × Int} (h : EncG e) (hi : (-1 ≤ it.1 ∧ it.1 ≤ 255) ∧ 0 ≤ it.2 ∧ it.2 ≤ 1) : EncG (encItem e it) := by
  unfold encItem
  split
  · exact code_ok h (by omega) (by omega)
  · exact even_ok h _
theorem item_len (e : EncS) (it : Int × Int) : (encItem e it).front.length ≤ e.front.length + 1 := by
  unfold encItem
  split
  · exact len_code _ _ _
  · exact len_narrow _ _ _
theorem items_ok : ∀ {items : List (Int × Int)} {e : EncS}, EncG e → ItemsOk items → EncG (encItems e items)
  | [], _, h, _ => h
  | it :: r, e, h, hi => items_ok (items := r) (item_ok h (hi it List.mem_cons_self)) fun x hx => hi x (List.mem_cons_of_mem _ hx)
theorem items_len : ∀ (items : List (Int × Int)) (e : EncS), (encItems e items).front.length ≤ e.front.length + items.length
  | [], e => Nat.le_refl _
  | it :: r, e => by
    have h1 := item_len e it
    have h2 := items_len r (encItem e it)
    have h3 : encItems e (it :: r) = encItems (encItem e it) r := rfl
    rw [h3, List.length_cons]
    omega
theorem items_app (e : EncS) (xs ys : List (Int × Int)) : encItems e (xs ++ ys) = encItems (encItems e xs) ys := by
  unfold encItems
  rw [List.foldl_append]
structure CodeN (e : EncS) (low span count : Int) : Prop where
  low : low = num e.front * 4294967296 + e.low
  span : span = e.span
  count : count = (e.front.length : Int)
structure CodeR (e : EncS) (chances : List Int) (low span count : Int) : Prop where
  toN : CodeN e low span count
  chances : chances = e.probs ++ [2048]
theorem codeR_init : CodeR encInit (repL [2048] 257) 0 (4294967296 - 1) 0 := ⟨⟨rfl, rfl, rfl⟩, by decide⟩
theorem itD_app {e : List Int} {a c : Int} (h0 : 0 ≤ c) (h1 : c < e.length) : itD (e ++ [a]) c = itD e c := by
  obtain ⟨k, rfl⟩ := Int.eq_ofNat_of_zero_le h0
  have hk : k < e.length := by omega
  rw [itD_nat (List.getElem?_eq_getElem hk), itD_nat (x := e[k]) (by rw [List.getElem?_append_left hk, List.getElem?_eq_getElem hk])]
theorem itD_end {e : List Int} {a : Int} : itD (e ++ [a]) (-1) = a := by
  rw [itD_last (by simp), List.getLast_append] <;> simp
theorem setL_app {e : List Int} {a c y : Int} (h0 : 0 ≤ c) (h1 : c < e.length) : setL (e ++ [a]) c y = setL e c y ++ [a] := by
  obtain ⟨k, rfl⟩ := Int.eq_ofNat_of_zero_le h0
  have hk : k < e.length := by omega
  unfold setL
  rw [ixN_nat' hk, ixN_nat' (by rw [List.length_append]; omega)]
  exact List.set_append_left _ _ hk
theorem codeR_chance {e : EncS} {chances : List Int} {low span count c : Int} (hg : EncG e) (hr : CodeR e chances low span count) (hc : -1 ≤ c ∧ c ≤ 255) :
    (-(chances.length : Int) ≤ c ∧ c < chances.length) ∧ 31 ≤ itD chances c ∧ itD chances c ≤ 4065 := by
  have hl := hg.len
  refine ⟨by rw [hr.chances, List.length_append, hl]; simp; omega, ?_⟩
  rw [hr.chances]
  by_cases h : 0 ≤ c
  · rw [itD_app h (by omega)]
    exact hg.chance h (by omega)
  · rw [show c = -1 from by omega, itD_end]
    decide
theorem codeN_pre {e : EncS} {p d low span count low' span' : Int} (hg : EncG e) (hp : 31 ≤ p ∧ p ≤ 4065) (h : CodeN e low span count) (hl : low' = if d = 0 then low else low + span / 4096 * p)
    (hs : span' = if d = 0 then span / 4096 * p else span - span / 4096 * p) : CodeN (encPre e p d) low' span' count := by
  have h1 := h.low
  have h2 := h.span
  have h3 := h.count
  unfold encPre
  split
  · rw [if_pos ‹_›] at hl hs
    exact ⟨by rw [hl, h1], by rw [hs, h2], h3⟩
  · rw [if_neg ‹_›] at hl hs
    split
    · have hy := carry_pre hg hp ‹_›
      have hn := inc_num hy
      rw [h2] at hl hs
      exact ⟨by show low' = num (incE e.front) * 4294967296 + (e.low + e.span / 4096 * p - 4294967296); rw [hl, hn, h1, Int.add_mul]; omega, hs, by show count = ((incE e.front).length : Int); rw [inc_len]; exact h3⟩
    · rw [h2] at hl hs
      exact ⟨by show low' = num e.front * 4294967296 + (e.low + e.span / 4096 * p); rw [hl, h1]; omega, hs, h3⟩
theorem codeN_norm {e : EncS} {low span count : Int} (h : CodeN e low span count) : CodeN (encNorm1 e) (low * 256) (span * 256) (count + 1) := by
  have h1 := h.low
  have h2 := h.span
  have h3 := h.count
  refine ⟨?_, by rw [h2]; rfl, by show count + 1 = (((e.front ++ [e.low / 16777216]).length : Nat) : Int); rw [List.length_append]; simp; omega⟩
  show low * 256 = num (e.front ++ [e.low / 16777216]) * 4294967296 + e.low * 256 % 4294967296
  rw [num_snoc]
  omega
theorem codeN_turn {em : EncS} {low span count cn0 low' span' count' : Int} {i : Nat} (hm : EncMid em) (h : CodeN (if i = 0 then em else encNorm em) low span count) (h0 : cn0 ≤ count) (h1 : count ≤ cn0 + 1) (h2 : i = 0 → count = cn0)
    (hs : (span < 16777216 ∧ low' = low * 256 ∧ span' = span * 256 ∧ count' = count + 1) ∨ (¬ span < 16777216 ∧ low' = low ∧ span' = span ∧ count' = count)) :
    CodeN (if i + 1 = 0 then em else encNorm em) low' span' count' ∧ cn0 ≤ count' ∧ count' ≤ cn0 + 1 ∧ (i + 1 = 0 → count' = cn0) := by
  rw [if_neg (by omega)]
  have hb := (norm_ok hm).2
  by_cases hi : i = 0
  · rw [if_pos hi] at h
    have hc := h2 hi
    have hsp := h.span
    rcases hs with ⟨a, rfl, rfl, rfl⟩ | ⟨a, rfl, rfl, rfl⟩
    · have e1 : encNorm em = encNorm1 em := if_pos (by omega)
      rw [e1]
      exact ⟨codeN_norm h, by omega, by omega, by omega⟩
    · have e1 : encNorm em = em := if_neg (by omega)
      rw [e1]
      exact ⟨h, by omega, by omega, by omega⟩
  · rw [if_neg hi] at h
    have hsp := h.span
    rcases hs with ⟨a, rfl, rfl, rfl⟩ | ⟨a, rfl, rfl, rfl⟩
    · omega
    · exact ⟨h, by omega, by omega, by omega⟩
def codeChances (chances : List Int) (c d : Int) : List Int := if 0 ≤ c then setL chances c (adaptE (itD chances c) d) else chances
theorem codeR_turn {items : List (Int × Int)} {i : Nat} {item : Int × Int} {chances chances' : List Int} {low span count low' span' count' : Int} {em : EncS} (hi : items[i]? = some item) (hg : EncG (encItems encInit (items.take i)))
    (hr : CodeR (encItems encInit (items.take i)) chances low span count) (hit : (-1 ≤ item.1 ∧ item.1 ≤ 255) ∧ 0 ≤ item.2 ∧ item.2 ≤ 1)
    (hme : em = encPre (encItems encInit (items.take i)) (itD chances item.1) item.2) (hc : codeChances chances item.1 item.2 = chances') (hn : CodeN (encNorm em) low' span' count') :
    CodeR (encItems encInit (items.take (i + 1))) chances' low' span' count' := by
  have hl := hg.len
  rw [← items_turn hi rfl]
  generalize encItems encInit (items.take i) = e at *
  rw [hr.chances] at hc hme
  unfold encItem
  unfold codeChances at hc
  by_cases h : 0 ≤ item.1
  · rw [if_pos h] at hc ⊢
    rw [itD_app h (by omega)] at hc hme
    rw [setL_app h (by omega)] at hc
    rw [hme] at hn
    refine ⟨⟨hn.low, hn.span, hn.count⟩, ?_⟩
    rw [← hc]
    show _ = setL (encNarrow e (itD e.probs item.1) item.2).probs item.1 _ ++ [2048]
    rw [probs_narrow]
  · rw [if_neg h] at hc ⊢
    rw [show item.1 = -1 from by omega, itD_end] at hme
    rw [hme] at hn
    refine ⟨hn, ?_⟩
    rw [← hc, probs_narrow]
def digs (n : Int) (k : Nat) : List Int := (List.range k).map fun j => n / 2 ^ (8 * (k - 1 - j)) % 256
theorem digs_snoc (n x : Int) (k : Nat) (hx : 0 ≤ x ∧ x ≤ 255) : digs (n * 256 + x) (k + 1) = digs n k ++ [x] := by
  unfold digs
  rw [List.range_succ, List.map_append]
  congr 1
  · apply List.map_congr_left
    intro j hj
    have hj := List.mem_range.mp hj
    show (n * 256 + x) / 2 ^ (8 * (k + 1 - 1 - j)) % 256 = n / 2 ^ (8 * (k - 1 - j)) % 256
    rw [show 8 * (k + 1 - 1 - j) = 8 + 8 * (k - 1 - j) from by omega, Int.pow_add, ← Int.ediv_ediv_of_nonneg (by decide)]
    rw [show (n * 256 + x) / 2 ^ 8 = n from by omega]
  · show [(n * 256 + x) / 2 ^ (8 * (k + 1 - 1 - k)) % 256] = [x]
    rw [show 8 * (k + 1 - 1 - k) = 0 from by omega]
    congr 1
    simp
    omega
theorem digs_num : ∀ {xs : List Int}, (∀ x ∈ xs, 0 ≤ x ∧ x ≤ 255) → digs (num xs) xs.length = xs := by
  intro xs
  refine snocInd (motive := fun xs => (∀ x ∈ xs, 0 ≤ x ∧ x ≤ 255) → digs (num xs) xs.length = xs) (fun _ => rfl) (fun ys y ih h => ?_) xs
  rw [num_snoc, List.length_append]
  show digs _ (ys.length + 1) = _
  rw [digs_snoc _ _ _ (h y (by simp)), ih fun x hx => h x (by simp [hx])]
theorem digits4_eq {n : Int} : digits4 n = [n / 16777216 % 256, n / 65536 % 256, n / 256 % 256, n % 256] := by
  unfold digits4
  simp only [List.map_cons, List.map_nil, bitAnd_m8]
  simp
theorem digits4_len (n : Int) : (digits4 n).length = 4 := rfl
theorem code_digits {e : EncS} (h : EncMid e) : digs (num e.front * 4294967296 + e.low) (e.front.length + 4) = e.front ++ digits4 e.low := by
  have ho : ∀ x ∈ e.front ++ digits4 e.low, 0 ≤ x ∧ x ≤ 255 := by
    intro x hx
    rcases List.mem_append.mp hx with z | z
    · exact h.oct x z
    · rw [digits4_eq] at z
      simp only [List.mem_cons, List.not_mem_nil, or_false] at z
      omega
  have hl := h.low
  have hd := digs_num ho
  rw [List.length_append, digits4_len] at hd
  rw [← hd]
  congr 1
  rw [digits4_eq, show e.front ++ [e.low / 16777216 % 256, e.low / 65536 % 256, e.low / 256 % 256, e.low % 256] = e.front ++ [e.low / 16777216 % 256] ++ [e.low / 65536 % 256] ++ [e.low / 256 % 256] ++ [e.low % 256] from by simp]
  rw [num_snoc, num_snoc, num_snoc, num_snoc]
  omega
theorem ne_len {xs : List Int} (h : 0 < (xs.length : Int)) : xs ≠ [] := by
  intro z
  rw [z] at h
  simp at h
theorem nil_len {xs : List Int} (h : ¬ 0 < (xs.length : Int)) : xs = [] := by
  cases xs with
  | nil => rfl
  | cons a r => exact absurd (by rw [List.length_cons]; omega) h
theorem code_oct {e : EncS} {low span count : Int} (hm : EncMid e) (hn : CodeN e low span count) :
    (List.range (count + 4).toNat).map (fun (j : Nat) => PySem.Builtin.bitAnd (low / 2 ^ Int.toNat (8 * (count + 3 - (0 + (j : Int))))) 255) = e.front ++ digits4 e.low := by
  rw [← code_digits hm, hn.low, hn.count]
  unfold digs
  rw [show ((e.front.length : Int) + 4).toNat = e.front.length + 4 from by omega]
  apply List.map_congr_left
  intro j hj
  have hj := List.mem_range.mp hj
  rw [bitAnd_m8, show Int.toNat (8 * ((e.front.length : Int) + 3 - (0 + (j : Int)))) = 8 * (e.front.length + 4 - 1 - j) from by omega]
theorem strip_len (xs : List Int) : (stripZ xs).length ≤ xs.length := by
  unfold stripZ
  rw [List.length_reverse]
  have h := (List.dropWhile_sublist (fun x => decide (x = 0)) (l := xs.reverse)).length_le
  rw [List.length_reverse] at h
  exact h
theorem oct_turn {octets o E : List Int} {i : Nat} {count : Int} (hs : stripZ octets = E) (hl : octets = E ∨ (octets.length : Int) + i ≤ count + 4)
    (h : (octets ≠ [] ∧ itD octets (-1) = 0 ∧ o = octets.dropLast) ∨ ((¬ itD octets (-1) = 0 ∨ octets = []) ∧ o = octets)) : stripZ o = E ∧ (o = E ∨ (o.length : Int) + ((i + 1 : Nat) : Int) ≤ count + 4) := by
  rcases h with ⟨h1, h2, rfl⟩ | ⟨h1, rfl⟩
  · have e1 := strip_pop h1 h2
    have e2 := drop_less h1
    have e3 := strip_len octets.dropLast
    refine ⟨e1.trans hs, .inr ?_⟩
    rcases hl with z | z
    · rw [e1, hs, ← z] at e3
      omega
    · omega
  · have e1 := strip_done (xs := o) (by rcases h1 with z | z; exact .inr z; exact .inl z)
    exact ⟨hs, .inl (e1.symm.trans hs)⟩
theorem oct_end {octets E : List Int} {count : Int} (hs : stripZ octets = E) (hl : octets = E ∨ (octets.length : Int) + ((count + 4).toNat : Int) ≤ count + 4) (hc : 0 ≤ count) : octets = E := by
  rcases hl with z | z
  · exact z
  · have e : octets = [] := nil_len (by omega)
    rw [← hs, e]
    rfl
theorem chances_cut {e : EncS} {chances : List Int} {low span count : Int} (hg : EncG e) (hr : CodeR e chances low span count) : cutL chances none (some 256) = e.probs := by
  rw [hr.chances]
  have hl := hg.len
  unfold cutL
  rw [HT.sIx_none, show (256 : Int) = ((256 : Nat) : Int) from rfl, HT.sIx_nat, List.length_append, hl]
  show List.take 256 (List.drop 0 (e.probs ++ [2048])) = e.probs
  rw [List.drop_zero, List.take_append_of_le_length (by omega), List.take_of_length_le (by omega)]
def decItem (d : DecS) (it : Int × Int) : DecS := if 0 ≤ it.1 then decRead d it.1 else decDecide d 2048
def decItemBit (d : DecS) (it : Int × Int) : Int := if 0 ≤ it.1 then decBit d (itD d.probs it.1) else decBit d 2048
def accO (o : List Int) : Nat → Int
  | 0 => 0
  | k + 1 => accO o k * 256 + (o[k]?).getD 0
def bigL (e : EncS) : Int := num e.front * 4294967296 + e.low
def vAt (E e : EncS) : Int := bigL E / 256 ^ (E.front.length - e.front.length)
structure Within (E e : EncS) : Prop where
  n : e.front.length ≤ E.front.length
  lo : bigL e ≤ vAt E e
  hi : vAt E e < bigL e + e.span
theorem codeN_self (e : EncS) : CodeN e (bigL e) e.span (e.front.length : Int) := ⟨rfl, rfl, rfl⟩
theorem within_self {E : EncS} (h : 0 < E.span) : Within E E := by
  have e : vAt E E = bigL E := by
    unfold vAt
    rw [Nat.sub_self]
    exact Int.ediv_one _
  exact ⟨Nat.le_refl _, by rw [e]; exact Int.le_refl _, by rw [e]; omega⟩
theorem within_norm1 {E e : EncS} (h : Within E (encNorm1 e)) : Within E e := by
  have c := codeN_norm (codeN_self e)
  have hn : (encNorm1 e).front.length = e.front.length + 1 := by
    have := c.count
    omega
  have h1 := h.n
  have h2 := h.lo
  have h3 := h.hi
  rw [show bigL (encNorm1 e) = bigL e * 256 from c.low.symm] at h2 h3
  rw [show (encNorm1 e).span = e.span * 256 from rfl] at h3
  have hv : vAt E e = vAt E (encNorm1 e) / 256 := by
    unfold vAt
    rw [hn, show E.front.length - e.front.length = (E.front.length - (e.front.length + 1)) + 1 from by omega, Int.pow_succ, Int.ediv_ediv_of_nonneg]
    have : (0 : Nat) < 256 ^ (E.front.length - (e.front.length + 1)) := Nat.pow_pos (by decide)
    exact_mod_cast Nat.le_of_lt this
  exact ⟨by omega, by rw [hv]; omega, by rw [hv]; omega⟩
theorem within_norm {E e : EncS} (h : Within E (encNorm e)) : Within E e := by
  unfold encNorm at h
  split at h
  · exact within_norm1 h
  · exact h
theorem within_pre {E e : EncS} {p d : Int} (hg : EncG e) (hp : 31 ≤ p ∧ p ≤ 4065) (h : Within E (encPre e p d)) : Within E e ∧ (d = 0 → vAt E e < bigL e + e.span / 4096 * p) ∧ (d ≠ 0 → bigL e + e.span / 4096 * p ≤ vAt E e) := by
  have hsp := hg.mid.span
  have hb := hg.big
  have hi := part_in ⟨hb, hsp.2⟩ hp
  have c := codeN_pre (d := d) hg hp (codeN_self e) rfl rfl
  have hn : (encPre e p d).front.length = e.front.length := len_pre e p d
  have h1 := h.n
  have h2 := h.lo
  have h3 := h.hi
  have hv : vAt E (encPre e p d) = vAt E e := by
    unfold vAt
    rw [hn]
  rw [hv, show bigL (encPre e p d) = _ from c.low.symm] at h2 h3
  rw [← c.span] at h3
  rw [hn] at h1
  by_cases hd : d = 0
  · rw [if_pos hd] at h2 h3
    rw [if_pos hd] at h3
    exact ⟨⟨h1, h2, by omega⟩, fun _ => h3, fun z => absurd hd z⟩
  · rw [if_neg hd] at h2 h3
    rw [if_neg hd] at h3
    exact ⟨⟨h1, by omega, by omega⟩, fun z => absurd z hd, fun _ => h2⟩
theorem within_congr {E e e' : EncS} (hf : e'.front = e.front) (hl : e'.low = e.low) (hs : e'.span = e.span) (h : Within E e') : Within E e := by
  have h1 := h.n
  have h2 := h.lo
  have h3 := h.hi
  unfold bigL vAt at *
  rw [hf] at h1
  rw [hf, hl] at h2
  rw [hf, hl, hs] at h3
  exact ⟨h1, h2, h3⟩
def chanceOf (e : EncS) (it : Int × Int) : Int := if 0 ≤ it.1 then itD e.probs it.1 else 2048
theorem chance_in {e : EncS} {it : Int × Int} (h : EncG e) (hc : it.1 ≤ 255) : 31 ≤ chanceOf e it ∧ chanceOf e it ≤ 4065 := by
  unfold chanceOf
  split
  · exact h.chance ‹_› (by omega)
  · decide
theorem within_item0 {E e : EncS} {it : Int × Int} (h : Within E (encItem e it)) : Within E (encNorm (encPre e (chanceOf e it) it.2)) := by
  unfold encItem at h
  unfold chanceOf
  split at h
  · rw [if_pos ‹_›]
    exact within_congr (e' := encCode e it.1 it.2) rfl rfl rfl h
  · rw [if_neg ‹_›]
    exact h
theorem within_item {E e : EncS} {it : Int × Int} (hg : EncG e) (hc : it.1 ≤ 255) (h : Within E (encItem e it)) :
    Within E e ∧ (it.2 = 0 → vAt E e < bigL e + e.span / 4096 * chanceOf e it) ∧ (it.2 ≠ 0 → bigL e + e.span / 4096 * chanceOf e it ≤ vAt E e) :=
  within_pre hg (chance_in hg hc) (within_norm (within_item0 h))
theorem within_items : ∀ {items : List (Int × Int)} {E e : EncS}, EncG e → ItemsOk items → Within E (encItems e items) → Within E e
  | [], _, _, _, _, h => h
  | it :: r, E, e, hg, hi, h => by
    have h0 := hi it List.mem_cons_self
    exact (within_item hg h0.1.2 (within_items (items := r) (item_ok hg h0) (fun x hx => hi x (List.mem_cons_of_mem _ hx)) h)).1
theorem acc_div {o : List Int} (h : ∀ x ∈ o, 0 ≤ x ∧ x ≤ 255) (k : Nat) : ∀ m : Nat, accO o (k + m) / 256 ^ m = accO o k
  | 0 => Int.ediv_one _
  | m + 1 => by
    have ho : 0 ≤ (o[k + m]?).getD 0 ∧ (o[k + m]?).getD 0 ≤ 255 := by
      cases hx : o[k + m]? with
      | none => decide
      | some x => exact h x (List.mem_of_getElem? hx)
    rw [Int.pow_succ, Int.mul_comm, ← Int.ediv_ediv_of_nonneg (by decide)]
    rw [show accO o (k + (m + 1)) = accO o (k + m) * 256 + (o[k + m]?).getD 0 from rfl, show (accO o (k + m) * 256 + (o[k + m]?).getD 0) / 256 = accO o (k + m) from by omega]
    exact acc_div h k m
theorem acc_app (ys zs : List Int) : ∀ k : Nat, k ≤ ys.length → accO (ys ++ zs) k = accO ys k
  | 0, _ => rfl
  | k + 1, h => by
    show accO (ys ++ zs) k * 256 + ((ys ++ zs)[k]?).getD 0 = accO ys k * 256 + (ys[k]?).getD 0
    rw [acc_app ys zs k (by omega), List.getElem?_append_left (by omega)]
theorem acc_num (xs : List Int) : accO xs xs.length = num xs := by
  refine snocInd (motive := fun xs => accO xs xs.length = num xs) rfl (fun ys y ih => ?_) xs
  rw [List.length_append, num_snoc]
  show accO (ys ++ [y]) ys.length * 256 + ((ys ++ [y])[ys.length]?).getD 0 = _
  rw [acc_app ys [y] _ (Nat.le_refl _), ih, List.getElem?_append_right (Nat.le_refl _), Nat.sub_self]
  rfl
theorem acc_congr {xs ys : List Int} (h : ∀ j : Nat, (xs[j]?).getD 0 = (ys[j]?).getD 0) : ∀ k : Nat, accO xs k = accO ys k
  | 0 => rfl
  | k + 1 => by
    show accO xs k * 256 + _ = accO ys k * 256 + _
    rw [acc_congr h k, h k]
theorem get_zeros (ys : List Int) (m j : Nat) : ((ys ++ List.replicate m 0)[j]?).getD 0 = (ys[j]?).getD 0 := by
  by_cases h : j < ys.length
  · rw [List.getElem?_append_left h]
  · rw [List.getElem?_append_right (by omega), List.getElem?_eq_none (l := ys) (by omega)]
    by_cases hm : j - ys.length < m
    · rw [List.getElem?_eq_getElem (by rw [List.length_replicate]; exact hm), List.getElem_replicate]
      rfl
    · rw [List.getElem?_eq_none (by rw [List.length_replicate]; omega)]
theorem dw_split : ∀ ys : List Int, ∃ m : Nat, ys = List.replicate m 0 ++ ys.dropWhile (fun x => decide (x = 0))
  | [] => ⟨0, rfl⟩
  | y :: r => by
    rw [List.dropWhile_cons]
    split
    · obtain ⟨m, e⟩ := dw_split r
      refine ⟨m + 1, ?_⟩
      have hy : decide (y = 0) = true := ‹_›
      rw [List.replicate_succ, List.cons_append, ← e, of_decide_eq_true hy]
    · exact ⟨0, rfl⟩
theorem strip_split (xs : List Int) : ∃ m : Nat, xs = stripZ xs ++ List.replicate m 0 := by
  obtain ⟨m, e⟩ := dw_split xs.reverse
  refine ⟨m, ?_⟩
  have e2 := congrArg List.reverse e
  rw [List.reverse_reverse, List.reverse_append, List.reverse_replicate] at e2
  exact e2
theorem acc_code {E : EncS} (hm : EncMid E) (m : Nat) : accO (encOctets E ++ List.replicate m 0) (E.front.length + 4) = bigL E := by
  obtain ⟨q, e⟩ := strip_split (E.front ++ digits4 E.low)
  have a1 : accO (encOctets E ++ List.replicate m 0) (E.front.length + 4) = accO (E.front ++ digits4 E.low) (E.front.length + 4) := by
    apply acc_congr
    intro j
    rw [get_zeros, e, get_zeros]
    rfl
  have a2 := acc_num (E.front ++ digits4 E.low)
  rw [List.length_append, digits4_len] at a2
  have hl := hm.low
  rw [a1, a2, digits4_eq, show E.front ++ [E.low / 16777216 % 256, E.low / 65536 % 256, E.low / 256 % 256, E.low % 256] = E.front ++ [E.low / 16777216 % 256] ++ [E.low / 65536 % 256] ++ [E.low / 256 % 256] ++ [E.low % 256] from by simp]
  rw [num_snoc, num_snoc, num_snoc, num_snoc]
  unfold bigL
  omega
theorem strip_mem {xs : List Int} {x : Int} (h : x ∈ stripZ xs) : x ∈ xs := by
  obtain ⟨m, e⟩ := strip_split xs
  rw [e]
  exact List.mem_append_left _ h
theorem code_oct_in {E : EncS} (h : EncMid E) : ∀ x ∈ encOctets E, 0 ≤ x ∧ x ≤ 255 := by
  intro x hx
  rcases List.mem_append.mp (strip_mem hx) with z | z
  · exact h.oct x z
  · rw [digits4_eq] at z
    have hl := h.low
    simp only [List.mem_cons, List.not_mem_nil, or_false] at z
    omega
structure Rel (o : List Int) (e : EncS) (d : DecS) : Prop where
  g : DecG d
  octs : d.octs = o
  probs : d.probs = e.probs
  span : d.span = e.span
  place : d.place = if (o.length : Int) < (e.front.length : Int) + 4 then (o.length : Int) else (e.front.length : Int) + 4
  value : d.value = accO o (e.front.length + 4) - bigL e
theorem dec_oct {o : List Int} {d : DecS} {n : Nat} (ho : d.octs = o) (hp : d.place = if (o.length : Int) < (n : Int) then (o.length : Int) else (n : Int)) : decOct d = (o[n]?).getD 0 := by
  unfold decOct
  rw [ho, hp]
  by_cases h : n < o.length
  · rw [if_neg (show ¬ (o.length : Int) < (n : Int) from by omega), if_pos (by omega), itD_nat (List.getElem?_eq_getElem h), List.getElem?_eq_getElem h]
    rfl
  · rw [if_neg (by split <;> omega), List.getElem?_eq_none (by omega)]
    rfl
theorem place_turn {n : Nat} {l pl : Int} (h : pl = if l < (n : Int) then l else (n : Int)) (h0 : 0 ≤ l) : (if pl < l then pl + 1 else pl) = if l < ((n + 1 : Nat) : Int) then l else ((n + 1 : Nat) : Int) := by
  rw [h]
  split <;> split <;> split <;> omega
theorem shifts_val (o : List Int) : ∀ n : Nat, (decShifts n (decBlank o)).value = accO o n ∧ (decShifts n (decBlank o)).place = if (o.length : Int) < (n : Int) then (o.length : Int) else (n : Int)
  | 0 => ⟨rfl, by rw [if_neg (by omega)]; rfl⟩
  | n + 1 => by
    have ih := shifts_val o n
    have ho := shifts_octs (decBlank o) n
    have hd := dec_oct (o := o) ho ih.2
    refine ⟨?_, ?_⟩
    · show (decShifts n (decBlank o)).value * 256 + decOct (decShifts n (decBlank o)) = accO o n * 256 + _
      rw [ih.1, hd]
    · show (if (decShifts n (decBlank o)).place < ((decShifts n (decBlank o)).octs.length : Int) then (decShifts n (decBlank o)).place + 1 else (decShifts n (decBlank o)).place) = _
      rw [ho]
      exact place_turn ih.2 (by show (0 : Int) ≤ (o.length : Int); omega)
theorem acc_at {E e : EncS} {o : List Int} (ho : ∀ x ∈ o, 0 ≤ x ∧ x ≤ 255) (hc : accO o (E.front.length + 4) = bigL E) (h : e.front.length ≤ E.front.length) : accO o (e.front.length + 4) = vAt E e := by
  have a := acc_div ho (e.front.length + 4) (E.front.length - e.front.length)
  rw [show e.front.length + 4 + (E.front.length - e.front.length) = E.front.length + 4 from by omega, hc] at a
  exact a.symm
theorem rel_init {E : EncS} {o : List Int} (ho : ∀ x ∈ o, 0 ≤ x ∧ x ≤ 255) (hc : accO o (E.front.length + 4) = bigL E) (h : Within E encInit) : Rel o encInit (decInit o) := by
  have s := shifts_val o 4
  have a := acc_at ho hc h.n
  have hv : accO o 4 = vAt E encInit := a
  have hi : vAt E encInit < 0 + (4294967296 - 1) := h.hi
  refine ⟨decInit_ok ho, shifts_octs _ 4, shifts_probs _ 4, shifts_span _ 4, s.2, ?_⟩
  show (if 4294967296 - 2 < (decShifts 4 (decBlank o)).value then 4294967296 - 2 else (decShifts 4 (decBlank o)).value) = accO o 4 - 0
  rw [s.1, if_neg (by omega)]
  omega
theorem rel_norm {o : List Int} {e : EncS} {d : DecS} (hg : DecG (decNorm d)) (octs : d.octs = o) (probs : d.probs = e.probs) (span : d.span = e.span)
    (place : d.place = if (o.length : Int) < (e.front.length : Int) + 4 then (o.length : Int) else (e.front.length : Int) + 4) (value : d.value = accO o (e.front.length + 4) - bigL e) : Rel o (encNorm e) (decNorm d) := by
  unfold decNorm at hg ⊢
  unfold encNorm
  rw [span] at hg ⊢
  by_cases h : e.span < 16777216
  · rw [if_pos h] at hg
    rw [if_pos h, if_pos h]
    have c := codeN_norm (codeN_self e)
    have hn : (encNorm1 e).front.length = e.front.length + 1 := by
      have := c.count
      omega
    have hb : bigL (encNorm1 e) = bigL e * 256 := c.low.symm
    have hd := dec_oct (n := e.front.length + 4) octs (by rw [place] <;> rfl)
    refine ⟨hg, octs, probs, ?_, ?_, ?_⟩
    · show d.span * 256 = e.span * 256
      rw [span]
    · show (if d.place < (d.octs.length : Int) then d.place + 1 else d.place) = _
      rw [hn, octs]
      exact place_turn (n := e.front.length + 4) place (by omega)
    · show d.value * 256 + decOct d = accO o ((encNorm1 e).front.length + 4) - bigL (encNorm1 e)
      rw [hn, hb, hd, value, show e.front.length + 1 + 4 = e.front.length + 4 + 1 from by omega]
      show _ = accO o (e.front.length + 4) * 256 + _ - _
      omega
  · rw [if_neg h] at hg
    rw [if_neg h, if_neg h]
    exact ⟨hg, octs, probs, span, place, value⟩
theorem rel_step {E e : EncS} {o : List Int} {d : DecS} {p b : Int} (ho : ∀ x ∈ o, 0 ≤ x ∧ x ≤ 255) (hc : accO o (E.front.length + 4) = bigL E) (hr : Rel o e d) (hg : EncG e) (hp : 31 ≤ p ∧ p ≤ 4065) (hb : 0 ≤ b ∧ b ≤ 1) (hw : Within E e)
    (h0 : b = 0 → vAt E e < bigL e + e.span / 4096 * p) (h1 : b ≠ 0 → bigL e + e.span / 4096 * p ≤ vAt E e) : decBit d p = b ∧ Rel o (encNarrow e p b) (decDecide d p) := by
  have hv := hr.value
  rw [acc_at ho hc hw.n] at hv
  have hs := hr.span
  have c := codeN_pre (d := b) hg hp (codeN_self e) rfl rfl
  have hn : (encPre e p b).front.length = e.front.length := len_pre e p b
  have hl : bigL (encPre e p b) = _ := c.low.symm
  have hsp := c.span.symm
  have hgd := decNorm_ok (decPre_ok hr.g hp)
  by_cases hb0 : b = 0
  · have hlt : d.value < d.span / 4096 * p := by
      rw [hs, hv]
      have := h0 hb0
      omega
    rw [if_pos hb0] at hl hsp
    refine ⟨by unfold decBit; rw [if_pos hlt, hb0], ?_⟩
    unfold encNarrow decDecide
    have e1 : decPre d p = ⟨d.probs, d.octs, d.place, d.span / 4096 * p, d.value⟩ := by
      unfold decPre
      rw [if_pos hlt]
    rw [e1] at hgd ⊢
    refine rel_norm hgd hr.octs ?_ ?_ ?_ ?_
    · show d.probs = _
      rw [probs_pre]
      exact hr.probs
    · show d.span / 4096 * p = _
      rw [hsp, hs]
    · show d.place = _
      rw [hn]
      exact hr.place
    · show d.value = _
      rw [hn, hl]
      exact hr.value
  · have hlt : ¬ d.value < d.span / 4096 * p := by
      rw [hs, hv]
      have := h1 hb0
      omega
    rw [if_neg hb0] at hl hsp
    refine ⟨by unfold decBit; rw [if_neg hlt]; omega, ?_⟩
    unfold encNarrow decDecide
    have e1 : decPre d p = ⟨d.probs, d.octs, d.place, d.span - d.span / 4096 * p, d.value - d.span / 4096 * p⟩ := by
      unfold decPre
      rw [if_neg hlt]
    rw [e1] at hgd ⊢
    refine rel_norm hgd hr.octs ?_ ?_ ?_ ?_
    · show d.probs = _
      rw [probs_pre]
      exact hr.probs
    · show d.span - d.span / 4096 * p = _
      rw [hsp, hs]
    · show d.place = _
      rw [hn]
      exact hr.place
    · show d.value - d.span / 4096 * p = _
      rw [hn, hl, hr.value, hs]
      omega
theorem rel_item {E e : EncS} {o : List Int} {d : DecS} {it : Int × Int} (ho : ∀ x ∈ o, 0 ≤ x ∧ x ≤ 255) (hc : accO o (E.front.length + 4) = bigL E) (hr : Rel o e d) (hg : EncG e) (hi : (-1 ≤ it.1 ∧ it.1 ≤ 255) ∧ 0 ≤ it.2 ∧ it.2 ≤ 1)
    (h : Within E (encItem e it)) : decItemBit d it = it.2 ∧ Rel o (encItem e it) (decItem d it) := by
  have w := within_item hg hi.1.2 h
  have r := rel_step ho hc hr hg (chance_in hg hi.1.2) hi.2 w.1 w.2.1 w.2.2
  unfold decItemBit decItem encItem
  unfold chanceOf at r
  by_cases z : 0 ≤ it.1
  · rw [if_pos z] at r
    rw [if_pos z, if_pos z, if_pos z, hr.probs]
    refine ⟨r.1, ?_⟩
    have q := r.2
    have hg2 := read_ok hr.g z (by omega : it.1 < 256)
    have hp := hr.probs
    refine ⟨hg2, ?_, ?_, ?_, ?_, ?_⟩
    · show (decDecide d (itD d.probs it.1)).octs = o
      rw [hp]
      exact q.octs
    · show setL (decDecide d (itD d.probs it.1)).probs it.1 (adaptE (itD d.probs it.1) (decBit d (itD d.probs it.1))) = setL (encNarrow e (itD e.probs it.1) it.2).probs it.1 (adaptE (itD e.probs it.1) it.2)
      rw [hp, r.1, q.probs]
    · show (decDecide d (itD d.probs it.1)).span = (encNarrow e (itD e.probs it.1) it.2).span
      rw [hp]
      exact q.span
    · show (decDecide d (itD d.probs it.1)).place = if (o.length : Int) < ((encNarrow e (itD e.probs it.1) it.2).front.length : Int) + 4 then (o.length : Int) else ((encNarrow e (itD e.probs it.1) it.2).front.length : Int) + 4
      rw [hp]
      exact q.place
    · show (decDecide d (itD d.probs it.1)).value = accO o ((encNarrow e (itD e.probs it.1) it.2).front.length + 4) - bigL (encNarrow e (itD e.probs it.1) it.2)
      rw [hp]
      exact q.value
  · rw [if_neg z] at r
    rw [if_neg z, if_neg z, if_neg z]
    exact r
theorem items_split (e : EncS) (items : List (Int × Int)) (i : Nat) : encItems e items = encItems (encItems e (items.take i)) (items.drop i) := by
  rw [← items_app, List.take_append_drop]
theorem rel_turn {o : List Int} {items : List (Int × Int)} {i : Nat} {it : Int × Int} {d : DecS} (hi : items[i]? = some it) (hok : ItemsOk items) (ho : ∀ x ∈ o, 0 ≤ x ∧ x ≤ 255)
    (hc : accO o ((encItems encInit items).front.length + 4) = bigL (encItems encInit items)) (hr : Rel o (encItems encInit (items.take i)) d) :
    decItemBit d it = it.2 ∧ Rel o (encItems encInit (items.take (i + 1))) (decItem d it) := by
  have hg : EncG (encItems encInit (items.take i)) := items_ok init_ok (fun x hx => hok x (List.mem_of_mem_take hx))
  have hE : EncG (encItems encInit items) := items_ok init_ok hok
  have hit := hok _ (List.mem_of_getElem? hi)
  have e1 := items_turn (e := encInit) hi rfl
  have hw : Within (encItems encInit items) (encItem (encItems encInit (items.take i)) it) := by
    have hw := within_self hE.mid.span0
    have hs := items_split encInit items (i + 1)
    rw [← e1] at hs
    exact within_items (item_ok hg hit) (fun x hx => hok x (List.mem_of_mem_drop hx)) (by rw [← hs]; exact hw)
  rw [← e1]
  exact rel_item ho hc hr hg hit hw
theorem rel_start {o : List Int} {items : List (Int × Int)} (hok : ItemsOk items) (ho : ∀ x ∈ o, 0 ≤ x ∧ x ≤ 255) (hc : accO o ((encItems encInit items).front.length + 4) = bigL (encItems encInit items)) : Rel o encInit (decInit o) :=
  rel_init ho hc (within_items init_ok hok (within_self (items_ok init_ok hok).mid.span0))
end Pu
open Pu
theorem gd {α : Type} {xs : List α} {k n : Int} (e : (xs.length : Int) = n) (h0 : 0 ≤ k) (h1 : k < n) : -(xs.length : Int) ≤ k ∧ k < (xs.length : Int) := by omega
theorem big {x : Int} (h0 : 0 ≤ x) (h1 : x < 2 ^ 64) : -(2 ^ 4096) < x ∧ x < 2 ^ 4096 := by
  have h : (0 : Int) < 2 ^ 4032 := Int.pow_pos (by decide)
  have e : (2 : Int) ^ 4096 = 2 ^ 4032 * 2 ^ 64 := Int.pow_add 2 4032 64
  have l : (1 : Int) * 2 ^ 64 ≤ 2 ^ 4032 * 2 ^ 64 := Int.mul_le_mul_of_nonneg_right h (by decide)
  rw [← e] at l
  generalize (2 : Int) ^ 4096 = z at l ⊢
  omega
theorem e8 : (2 : Int) ^ Int.toNat 8 = 256 := by decide
theorem while_bk {σ ρ : Type} {n : Nat} {s s' : σ} {f : σ → Rx (Lp σ ρ)} (h : f s = .ok (.bk s')) : whileR (n + 1) s f = .ok (.go s') := by
  show (f s).bind _ = _
  rw [h]
  rfl
theorem while_go {σ ρ : Type} {n : Nat} {s s' : σ} {f : σ → Rx (Lp σ ρ)} (h : f s = .ok (.go s')) : whileR (n + 1) s f = whileR n s' f := by
  show (f s).bind _ = _
  rw [h]
  rfl
/-! the encoder -/
theorem carry_eq {e : EncS} (h : ∃ y ∈ e.front, y ≠ 255) (hl : e.front.length ≤ 900000) : F_Encoder__carry e = .ok ⟨e.probs, incE e.front, e.low, e.span⟩ := by
  refine Gv.get ?_
  unfold F_Encoder__carry
  refine Gv.bnd fun pl hpl => Gv.bind (Gv.whileR (P := fun s => s.1 = ⟨e.probs, s.1.front, e.low, e.span⟩ ∧ ∃ (A : List Int) (x : Int) (j : Nat), e.front = A ++ [x] ++ List.replicate j 255 ∧ s.1.front = A ++ [x] ++ List.replicate j 0 ∧ s.2 = (A.length : Int))
    (R := fun s => s.1 = ⟨e.probs, s.1.front, e.low, e.span⟩ ∧ ∃ (A : List Int) (x : Int) (j : Nat), e.front = A ++ [x] ++ List.replicate j 255 ∧ s.1.front = A ++ [x] ++ List.replicate j 0 ∧ s.2 = (A.length : Int) ∧ x ≠ 255) (fun s => s.2.toNat) (fun s p => ?_) ?_ ?_) ?_
  · obtain ⟨es, A, x, j, h1, h2, h3⟩ := p
    have hin := mid_in h2 h3
    have hat := mid_at h2 h3
    unfold F_Encoder__carry_b1
    refine Gv.grd hin ?_
    rw [hat]
    refine Gv.ite (fun c => Gv.grd hin (Gv.bnd fun y hy => Gv.bnd fun q hq => .ok (.inl ⟨_, rfl, ⟨by rw [es], ?_⟩, ?_⟩))) fun c => .ok (.inr ⟨_, rfl, es, A, x, j, h1, h2, h3, c⟩)
    · obtain ⟨B, z, k, b1, b2, b3⟩ := carry_turn h h1 h2 h3 c
      exact ⟨B, z, k, b1, by show y = _; rw [hy]; exact b2, by show q = _; rw [hq]; exact b3⟩
    · show q.toNat < s.2.toNat
      rw [hq]
      exact carry_less h h1 h3 c
  · obtain ⟨A, x, j, h1, h2, h3⟩ := carry_start h
    exact ⟨rfl, A, x, j, h1, h2, by show pl = _; rw [hpl]; exact h3⟩
  · show pl.toNat < 1000000
    omega
  · rintro l ⟨s, rfl, es, A, x, j, h1, h2, h3, hx⟩
    show Gv (F_Encoder__carry_r1 s.1 s.2) _
    have hin := mid_in h2 h3
    have hlen : s.1.front.length = e.front.length := by
      rw [h1, h2]
      simp
    unfold F_Encoder__carry_r1
    refine Gv.grd ⟨by omega, by omega, hin.2⟩ (Gv.grd hin (Gv.bnd fun y hy => .ok ?_))
    rw [hy, carry_end h1 h2 h3 hx, es]
theorem norm_eq {e : EncS} (h : EncMid e) (hl : e.front.length ≤ 900000) : F_Encoder__narrow_k1 e = .ok (encNorm e) := by
  have hs := h.span
  have hw := h.low
  unfold F_Encoder__narrow_k1 encNorm
  by_cases c : e.span < 16777216
  · rw [if_pos c, show (1000000 : Nat) = 999999 + 1 from rfl, while_go (s' := encNorm1 e)]
    · rw [show (999999 : Nat) = 999998 + 1 from rfl, while_bk (s' := encNorm1 e)]
      · rfl
      · unfold F_Encoder__narrow_b2
        rw [if_neg (by have := norm_span h; omega)]
    · unfold F_Encoder__narrow_b2
      rw [if_pos c, grd_pos (by omega), bnd_eq, grd_pos ⟨by decide, by decide, big hw.1 (by omega)⟩, bnd_eq, grd_pos ⟨by decide, by decide, big (by omega) (by omega)⟩, bnd_eq, e8, ← encNorm_eq]
  · rw [if_neg c, show (1000000 : Nat) = 999999 + 1 from rfl, while_bk (s' := e)]
    · rfl
    · unfold F_Encoder__narrow_b2
      rw [if_neg c]
theorem narrow_eq {e : EncS} (g : EncG e) {p d : Int} (hp : 31 ≤ p ∧ p ≤ 4065) (hl : e.front.length ≤ 900000) : F_Encoder__narrow e p d = .ok (encNarrow e p d) := by
  have hm := encPre_ok g hp d
  have hlp := len_pre e p d
  have hn := norm_eq hm (by omega)
  unfold F_Encoder__narrow encNarrow
  rw [grd_pos (.inr ⟨by omega, by omega⟩), bnd_eq, ← hn]
  have hc := carry_pre g hp
  unfold encPre
  by_cases c : d = 0
  · rw [if_pos c, if_pos c, bind_ok]
  · rw [if_neg c, if_neg c, bnd_eq, bnd_eq]
    by_cases q : 4294967296 ≤ e.low + e.span / 4096 * p
    · rw [if_pos q, if_pos q, bnd_eq, carry_eq (e := ⟨e.probs, e.front, e.low + e.span / 4096 * p - 4294967296, e.span - e.span / 4096 * p⟩) (hc q) hl, noEr_ok, bind_ok, bind_ok]
    · rw [if_neg q, if_neg q, bind_ok]
theorem adapted_eq (c b : Int) : F__adapted c b = .ok (adaptE c b) := by
  unfold F__adapted adaptE
  split <;> rfl
theorem ctx_ok {c : Int} (h0 : 0 ≤ c) (h1 : c < 256) : F__check_context c = .ok () := by
  unfold F__check_context
  rw [if_pos h0, if_pos h1]
theorem ctx_er {c : Int} (h : c < 0 ∨ 256 ≤ c) : F__check_context c = .er 1 := by
  unfold F__check_context
  split
  · rw [if_neg (by omega)]
  · rfl
theorem dec_ok {d : Int} (h0 : 0 ≤ d) (h1 : d ≤ 1) : F__check_decision d = .ok () := by
  unfold F__check_decision
  rw [if_pos h0, if_pos h1]
theorem dec_er {d : Int} (h : d < 0 ∨ 1 < d) : F__check_decision d = .er 1 := by
  unfold F__check_decision
  split
  · rw [if_neg (by omega)]
  · rfl
theorem code_eq {e : EncS} (g : EncG e) {c d : Int} (h0 : 0 ≤ c) (h1 : c < 256) (d0 : 0 ≤ d) (d1 : d ≤ 1) (hl : e.front.length ≤ 900000) : F_Encoder_code e c d = .ok (encCode e c d) := by
  have l := g.len
  have gi := gd (show (e.probs.length : Int) = 256 by omega) h0 h1
  unfold F_Encoder_code
  rw [ctx_ok h0 h1, bind_ok, dec_ok d0 d1, bind_ok, grd_pos gi, bnd_eq, narrow_eq g (g.chance h0 h1) hl, bind_ok, adapted_eq, noEr_ok, bind_ok, grd_pos (by rw [probs_narrow]; exact gi), bnd_eq]
  rfl
theorem even_eq {e : EncS} (g : EncG e) {d : Int} (d0 : 0 ≤ d) (d1 : d ≤ 1) (hl : e.front.length ≤ 900000) : F_Encoder_code_even e d = .ok (encNarrow e 2048 d) := by
  unfold F_Encoder_code_even
  rw [dec_ok d0 d1, bind_ok, narrow_eq g (by decide) hl, bind_ok]
theorem octets_eq {e : EncS} (hl : e.front.length ≤ 900000) : F_Encoder_octets e = .ok (encOctets e) := by
  refine Gv.get ?_
  unfold F_Encoder_octets
  refine Gv.bind_eq (mapA_pure0 (g := fun k => PySem.Builtin.bitAnd (e.low / 2 ^ Int.toNat k) 255) (fun k hk => ?_) (by decide)) (Gv.grd (by show e.front.length + 4 ≤ 1000000; omega) (Gv.bind (Gv.whileR (P := fun s => stripZ s = encOctets e) (R := fun s => s = encOctets e) (fun s => s.length) (fun s p => ?_) rfl ?_) ?_))
  · unfold F_Encoder_octets_c1
    rw [grd_pos (shifts_nn hk)]
    rfl
  · unfold F_Encoder_octets_b2
    refine Gv.ite (fun c => .ok (.inr ⟨_, rfl, ?_⟩)) fun c => Gv.grd (last_in c) (Gv.ite (fun z => Gv.grd c (Gv.bnd fun y hy => .ok (.inl ⟨_, rfl, ?_, ?_⟩))) fun z => .ok (.inr ⟨_, rfl, ?_⟩))
    · rw [← p, strip_done (.inl c)]
    · rw [hy, strip_pop c z]
      exact p
    · rw [hy]
      exact drop_less c
    · rw [← p, strip_done (.inr z)]
  · show (e.front ++ _).length < 1000000
    rw [List.length_append]
    show e.front.length + 4 < 1000000
    omega
  · rintro l ⟨s, rfl, h⟩
    exact .ok h
/-! the decoder -/
theorem shift_eq {d : DecS} (h : DecO d) (hv : 0 ≤ d.value) (hv2 : d.value < 2 ^ 64) : F_Decoder__shift d = .ok (decShift d) := by
  have ho := oct_in h
  have hp := h.place
  have k : ∀ (q : St_Decoder) (o : Int), q.value = d.value → 0 ≤ o → o ≤ 255 → F_Decoder__shift_k1 q o = .ok ⟨q.probs, q.octs, q.place, q.span, d.value * 256 + o⟩ := fun q o e h0 h1 => by
    unfold F_Decoder__shift_k1
    rw [e, grd_pos ⟨by decide, by decide, big hv hv2⟩, bnd_eq, e8, low_or hv h0 h1]
  unfold F_Decoder__shift decShift
  unfold decOct at ho ⊢
  by_cases c : d.place < (d.octs.length : Int)
  · rw [if_pos c] at ho
    rw [if_pos c, if_pos c, if_pos c, grd_pos ⟨by omega, c⟩, bnd_eq, bnd_eq, bind_ok]
    exact k ⟨d.probs, d.octs, d.place + 1, d.span, d.value⟩ (itD d.octs d.place) rfl ho.1 ho.2
  · rw [if_neg c] at ho
    rw [if_neg c, if_neg c, if_neg c, bind_ok]
    exact k d 0 rfl ho.1 ho.2
theorem dnorm_eq {d : DecS} (h : DecMid d) (b : Int) : F_Decoder__decide_k1 b d = .ok (b, decNorm d) := by
  have hs := h.span
  have hv := h.value
  unfold F_Decoder__decide_k1 decNorm
  by_cases c : d.span < 16777216
  · rw [if_pos c, show (1000000 : Nat) = 999999 + 1 from rfl, while_go (s' := decNorm1 d)]
    · rw [show (999999 : Nat) = 999998 + 1 from rfl, while_bk (s' := decNorm1 d)]
      · rfl
      · unfold F_Decoder__decide_b2
        rw [if_neg (show ¬ (decNorm1 d).span < 16777216 by show ¬ d.span * 256 < 16777216; omega)]
    · unfold F_Decoder__decide_b2
      rw [if_pos c, shift_eq h.o hv.1 (by omega), noEr_ok, bind_ok, grd_pos ⟨by decide, by decide, big (show 0 ≤ d.span by omega) (show d.span < 2 ^ 64 by omega)⟩, bnd_eq, e8]
      rfl
  · rw [if_neg c, show (1000000 : Nat) = 999999 + 1 from rfl, while_bk (s' := d)]
    · rfl
    · unfold F_Decoder__decide_b2
      rw [if_neg c]
theorem decide_eq {d : DecS} (g : DecG d) {p : Int} (hp : 31 ≤ p ∧ p ≤ 4065) : F_Decoder__decide d p = .ok (decBit d p, decDecide d p) := by
  have hn := dnorm_eq (decPre_ok g hp)
  unfold F_Decoder__decide decDecide
  rw [grd_pos (.inr ⟨by omega, by omega⟩), bnd_eq, bnd_eq]
  unfold decBit
  unfold decPre at hn ⊢
  by_cases c : d.value < d.span / 4096 * p
  · rw [if_pos c] at hn ⊢
    rw [if_pos c, if_pos rfl, bind_ok]
    exact hn 0
  · rw [if_neg c] at hn ⊢
    rw [if_neg c, if_neg (by decide), bnd_eq, bnd_eq, bind_ok]
    exact hn 1
theorem read_eq {d : DecS} (g : DecG d) {c : Int} (h0 : 0 ≤ c) (h1 : c < 256) : F_Decoder_read d c = .ok (decBit d (itD d.probs c), decRead d c) := by
  have l := g.len
  have gi := gd (show (d.probs.length : Int) = 256 by omega) h0 h1
  unfold F_Decoder_read
  rw [ctx_ok h0 h1, bind_ok, grd_pos gi, bnd_eq, decide_eq g (g.chance h0 h1), bind_ok, adapted_eq, noEr_ok, bind_ok, grd_pos (by rw [probs_decide]; exact gi), bnd_eq]
  rfl
theorem reven_eq {d : DecS} (g : DecG d) : F_Decoder_read_even d = .ok (decBit d 2048, decDecide d 2048) := by
  unfold F_Decoder_read_even
  rw [decide_eq g (by decide), bind_ok]
theorem dinit_eq {o : List Int} (h : ∀ x ∈ o, 0 ≤ x ∧ x ≤ 255) : F_Decoder___init__ o = .ok (decInit o) := by
  have st : ∀ (i : Nat) (x : Int), i < 4 → F_Decoder___init___b1 (decShifts i (decBlank o)) x = .ok (decShifts (i + 1) (decBlank o)) := fun i x hi => by
    have hs := shifts_ok (blank_ok h) rfl i
    have := pow_turn hi hs.2.2
    unfold F_Decoder___init___b1
    first
      | rw [shift_eq hs.1 hs.2.1 (by omega), noEr_ok, bind_ok]
      | rw [shift_eq hs.1 hs.2.1 (by omega), bind_ok]
    rfl
  unfold F_Decoder___init__
  rw [grd_pos ⟨by decide, by decide, by decide +kernel⟩, bnd_eq, show rng 0 (Int.toNat 4) = [0, 1, 2, 3] from by decide]
  have e : forS [0, 1, 2, 3] (decBlank o) (fun s x => F_Decoder___init___b1 s x) = .ok (decShifts 4 (decBlank o)) := by
    show (F_Decoder___init___b1 (decShifts 0 (decBlank o)) 0).bind _ = _
    rw [st 0 0 (by decide), bind_ok]
    show (F_Decoder___init___b1 (decShifts 1 (decBlank o)) 1).bind _ = _
    rw [st 1 1 (by decide), bind_ok]
    show (F_Decoder___init___b1 (decShifts 2 (decBlank o)) 2).bind _ = _
    rw [st 2 2 (by decide), bind_ok]
    show (F_Decoder___init___b1 (decShifts 3 (decBlank o)) 3).bind _ = _
    rw [st 3 3 (by decide), bind_ok]
    rfl
  show (forS [0, 1, 2, 3] (decBlank o) (fun s x => F_Decoder___init___b1 s x)).bind _ = _
  rw [e, bind_ok]
  rfl
theorem dbl (v : Int) (a : Nat) : v / 2 ^ a = 2 * (v / 2 ^ (a + 1)) + v / 2 ^ a % 2 := by
  have e : v / 2 ^ (a + 1) = v / 2 ^ a / 2 := by
    rw [Int.pow_succ, ← Int.ediv_ediv_of_nonneg (Int.le_of_lt (Int.pow_pos (by decide)))]
  rw [e]
  omega
theorem bit_and (x : Int) : PySem.Builtin.bitAnd x 1 = x % 2 := by
  have h := Bits.bit_at (x := x) 0
  simpa using h
theorem div_lt {v : Int} {a b : Nat} (h1 : v < 2 ^ (a + b)) : v / 2 ^ a < 2 ^ b := by
  have p : (0 : Int) < 2 ^ a := Int.pow_pos (by decide)
  refine Int.ediv_lt_of_lt_mul p ?_
  rw [← Int.pow_add, Nat.add_comm b a]
  exact h1
theorem div_nn {v : Int} {a : Nat} (h0 : 0 ≤ v) : 0 ≤ v / 2 ^ a := Int.ediv_nonneg h0 (Int.le_of_lt (Int.pow_pos (by decide)))
theorem pow_s (a : Nat) : (2 : Int) ^ (a + 1) = 2 * 2 ^ a := by rw [Int.pow_succ]; omega
theorem pow_p (a : Nat) : (1 : Int) ≤ 2 ^ a := by
  have : (0 : Int) < 2 ^ a := Int.pow_pos (by decide)
  omega
theorem powmono {i w : Nat} (h : i ≤ w) : (2 : Int) ^ i ≤ 2 ^ w := by
  obtain ⟨k, rfl⟩ := Nat.exists_eq_add_of_le h
  rw [Int.pow_add]
  have h1 := pow_p i
  have := Int.mul_le_mul_of_nonneg_left (pow_p k) (show (0 : Int) ≤ 2 ^ i by omega)
  omega
/-- the digits of a number and their length -/
def bl (v : Int) : Nat := PySem.Builtin.Int.intBits v
theorem bl_in {v : Int} (h : 1 ≤ v) : 1 ≤ bl v ∧ (2 : Int) ^ (bl v - 1) ≤ v ∧ v < 2 ^ (bl v) := by
  obtain ⟨n, rfl⟩ := Int.eq_ofNat_of_zero_le (show 0 ≤ v by omega)
  have hn : n ≠ 0 := by omega
  have e : bl (n : Int) = n.log2 + 1 := by
    unfold bl PySem.Builtin.Int.intBits
    rw [if_neg (by simp; omega)]
    rfl
  rw [e]
  have h1 : 2 ^ n.log2 ≤ n := Nat.log2_self_le hn
  have h2 : n < 2 ^ (n.log2 + 1) := Nat.lt_log2_self
  refine ⟨by omega, ?_, ?_⟩
  · rw [Nat.add_sub_cancel]
    exact_mod_cast h1
  · exact_mod_cast h2
theorem bl_small {v : Int} {k : Nat} (h0 : 1 ≤ v) (h : v < 2 ^ k) : bl v ≤ k := by
  have hb := bl_in h0
  rcases Nat.lt_or_ge k (bl v) with c | c
  · have := powmono (i := k) (w := bl v - 1) (by omega)
    omega
  · exact c
def cap (k : Int) : Int := if 7 < k then 7 else k
def unI (base v most : Int) : List (Int × Int) := ((rng 0 v.toNat).map fun k => (base + cap k, 1)) ++ (if v < most then [(base + cap v, 0)] else [])
def nuD (v : Int) : Nat := bl (v + 1) - 1
def nuR (base v : Int) : List (Int × Int) := (List.range (nuD v)).map fun k => (if k = 0 then base + 8 + cap ((nuD v : Int) - 1) else -1, (v + 1) / 2 ^ (nuD v - 1 - k) % 2)
def nuI (base v : Int) : List (Int × Int) := unI base (nuD v : Nat) 20 ++ nuR base v
def absI (v : Int) : Int := if v < 0 then -v else v
def ItOk (it : Int × Int) : Prop := (-1 ≤ it.1 ∧ it.1 ≤ 255) ∧ 0 ≤ it.2 ∧ it.2 ≤ 1
theorem items_app_ok {a b : List (Int × Int)} (ha : ItemsOk a) (hb : ItemsOk b) : ItemsOk (a ++ b) := fun x hx => (List.mem_append.mp hx).elim (ha x) (hb x)
theorem cap_in {k : Int} (h : 0 ≤ k) : 0 ≤ cap k ∧ cap k ≤ 7 ∧ cap k ≤ k := by
  unfold cap
  split <;> omega
/-- what unary values need of their contexts -/
def UnOk (base most : Int) : Prop := 0 ≤ most ∧ most ≤ 64 ∧ (most = 0 ∨ (0 ≤ base ∧ base ≤ 256 - (if 8 < most then 8 else most)))
theorem un_ctx {base most k : Int} (h : UnOk base most) (h0 : 0 ≤ k) (h1 : k < most) : 0 ≤ base + cap k ∧ base + cap k ≤ 255 := by
  obtain ⟨a, b, c⟩ := h
  rcases c with c | c
  · omega
  · unfold cap
    have := c.2
    split at this <;> split <;> omega
theorem unI_ok {base v most : Int} (h : UnOk base most) (h0 : 0 ≤ v) (h1 : v ≤ most) : ItemsOk (unI base v most) := by
  unfold unI
  refine items_app_ok (fun x hx => ?_) ?_
  · obtain ⟨k, hk, rfl⟩ := List.mem_map.mp hx
    have hk := rng_mem hk
    have := un_ctx (k := k) h hk.1 (by omega)
    exact ⟨⟨by show -1 ≤ base + cap k; omega, this.2⟩, by show (0 : Int) ≤ 1; decide, by show (1 : Int) ≤ 1; decide⟩
  · split
    · intro x hx
      rw [List.mem_singleton.mp hx]
      have := un_ctx (k := v) h h0 ‹_›
      exact ⟨⟨by show -1 ≤ base + cap v; omega, this.2⟩, by show (0 : Int) ≤ 0; decide, by show (0 : Int) ≤ 1; decide⟩
    · intro x hx
      nomatch hx
def NuOk (base v : Int) : Prop := 0 ≤ base ∧ base ≤ 240 ∧ 0 ≤ v ∧ v ≤ 1048576
theorem nuD_in {v : Int} (h0 : 0 ≤ v) (h1 : v ≤ 1048576) : nuD v ≤ 20 ∧ (2 : Int) ^ nuD v ≤ v + 1 ∧ v + 1 < 2 * 2 ^ nuD v := by
  have hb := bl_in (v := v + 1) (by omega)
  have hs := bl_small (v := v + 1) (k := 21) (by omega) (by show v + 1 < 2097152; omega)
  unfold nuD
  refine ⟨by omega, hb.2.1, ?_⟩
  rw [← pow_s, show bl (v + 1) - 1 + 1 = bl (v + 1) by omega]
  exact hb.2.2
theorem nuI_un {base v : Int} (h : NuOk base v) : UnOk base 20 := ⟨by decide, by decide, .inr ⟨h.1, by rw [if_pos (by decide)]; have := h.2.1; omega⟩⟩
theorem nuI_ok {base v : Int} (h : NuOk base v) : ItemsOk (nuI base v) := by
  obtain ⟨b0, b1, v0, v1⟩ := h
  have hd := nuD_in v0 v1
  unfold nuI
  refine items_app_ok (unI_ok (nuI_un ⟨b0, b1, v0, v1⟩) (by omega) (by omega)) fun x hx => ?_
  unfold nuR at hx
  obtain ⟨k, hk, rfl⟩ := List.mem_map.mp hx
  have hk := List.mem_range.mp hk
  have c := cap_in (k := (nuD v : Int) - 1) (by omega)
  have m := Int.emod_nonneg ((v + 1) / 2 ^ (nuD v - 1 - k)) (show (2 : Int) ≠ 0 by decide)
  have m2 := Int.emod_lt_of_pos ((v + 1) / 2 ^ (nuD v - 1 - k)) (show (0 : Int) < 2 by decide)
  refine ⟨?_, m, by show (v + 1) / 2 ^ (nuD v - 1 - k) % 2 ≤ 1; omega⟩
  show -1 ≤ (if k = 0 then base + 8 + cap ((nuD v : Int) - 1) else -1) ∧ (if k = 0 then base + 8 + cap ((nuD v : Int) - 1) else -1) ≤ 255
  split <;> omega
theorem unI_len (base v most : Int) (h : v ≤ 64) : (unI base v most).length ≤ 65 := by
  unfold unI
  rw [List.length_append, List.length_map, rng_len]
  split
  · rw [List.length_singleton]
    omega
  · rw [List.length_nil]
    omega
theorem checks_ok {base count : Int} (h : count ≤ 0 ∨ (0 ≤ base ∧ base ≤ 256 - count)) : F__check_contexts base count = .ok () := by
  unfold F__check_contexts
  by_cases c : 0 < count
  · rw [if_pos c, if_pos (by omega), if_pos (by omega)]
  · rw [if_neg c]
theorem un_check {base most : Int} (h : UnOk base most) : F__check_unary base most = .ok () := by
  obtain ⟨m0, m1, hb⟩ := h
  unfold F__check_unary
  rw [if_pos m0, if_pos m1, checks_ok]
  · rfl
  · rcases hb with h | h
    · left
      rw [if_neg (by omega)]
      omega
    · right
      exact h
/-! the writer -/
theorem code_item {e : EncS} (g : EncG e) {c b : Int} (c0 : 0 ≤ c) (h : ItOk (c, b)) (hl : e.front.length ≤ 900000) : F_Encoder_code e c b = .ok (encItem e (c, b)) := by
  rw [code_eq g c0 (by have : c ≤ 255 := h.1.2; omega) h.2.1 h.2.2 hl]
  unfold encItem
  rw [if_pos c0]
theorem even_item {e : EncS} (g : EncG e) {b : Int} (h : ItOk (-1, b)) (hl : e.front.length ≤ 900000) : F_Encoder_code_even e b = .ok (encItem e (-1, b)) := by
  rw [even_eq g h.2.1 h.2.2 hl]
  unfold encItem
  rw [if_neg (by show ¬ (0 : Int) ≤ -1; decide)]
theorem enc_loop {α σ : Type} {f : σ → α → Rx σ} : ∀ {xs : List α} {its : List (Int × Int)} (mk : Nat → EncS → σ) {e : EncS}, xs.length = its.length → ItemsOk its → EncG e → e.front.length + its.length ≤ 900000 →
    (∀ j x t e, xs[j]? = some x → its[j]? = some t → EncG e → e.front.length ≤ 900000 → f (mk j e) x = .ok (mk (j + 1) (encItem e t))) → forS xs (mk 0 e) f = .ok (mk its.length (encItems e its))
  | [], [], mk, e, _, _, _, _, _ => rfl
  | x :: xs, t :: its, mk, e, hl, ok, g, hf, st => by
    have h1 := st 0 x t e rfl rfl g (by omega)
    have g1 := item_ok g (ok t List.mem_cons_self)
    have l1 := item_len e t
    have ih := enc_loop (xs := xs) (its := its) (f := f) (fun j e => mk (j + 1) e) (e := encItem e t) (by simpa using hl) (fun x hx => ok x (List.mem_cons_of_mem _ hx)) g1 (by rw [List.length_cons] at hf; omega) fun j x t e hx ht g l => st (j + 1) x t e (by simpa using hx) (by simpa using ht) g l
    show (f (mk 0 e) x).bind _ = _
    rw [h1]
    exact ih
  | [], _ :: _, _, _, h, _, _, _, _ => nomatch h
  | _ :: _, [], _, _, h, _, _, _, _ => nomatch h
theorem put_unary {e : EncS} (g : EncG e) {base v most : Int} (h : UnOk base most) (h0 : 0 ≤ v) (h1 : v ≤ most) (hl : e.front.length ≤ 899000) : F_SymbolWriter_unary ⟨e⟩ base v most = .ok ⟨encItems e (unI base v most)⟩ := by
  have hm := h.2.1
  have ok := unI_ok h h0 h1
  have okl : ItemsOk ((rng 0 v.toNat).map fun k => (base + cap k, (1 : Int))) := fun x hx => ok x (List.mem_append_left _ hx)
  have ll : ((rng 0 v.toNat).map fun k => (base + cap k, (1 : Int))).length = v.toNat := by rw [List.length_map, rng_len]
  unfold F_SymbolWriter_unary
  rw [un_check h, bind_ok, if_pos h0, if_pos h1, grd_pos ⟨by omega, by omega⟩]
  have hx := enc_loop (f := fun s x => F_SymbolWriter_unary_b1 base s x) (xs := rng 0 v.toNat) (its := (rng 0 v.toNat).map fun k => (base + cap k, (1 : Int))) (fun _ e => (⟨e⟩ : St_SymbolWriter)) (e := e) (by rw [ll, rng_len]) okl g (by rw [ll]; omega) fun j x t e hx ht g l => by
    have hj := rng_at hx
    rw [List.getElem?_map, hx] at ht
    obtain rfl := Option.some.inj ht
    have c := un_ctx (k := x) h (by omega) (by omega)
    show F_SymbolWriter_unary_b1 base ⟨e⟩ x = _
    unfold F_SymbolWriter_unary_b1
    have q := code_item (c := base + cap x) (b := 1) g c.1 ⟨⟨by show -1 ≤ base + cap x; omega, c.2⟩, by show (0 : Int) ≤ 1; decide, by show (1 : Int) ≤ 1; decide⟩ l
    unfold cap at q ⊢
    rw [show (8 : Int) - 1 = 7 from rfl, q]
    rfl
  rw [hx, bind_ok]
  have g1 := items_ok g okl
  have l1 := items_len ((rng 0 v.toNat).map fun k => (base + cap k, (1 : Int))) e
  rw [ll] at l1
  unfold F_SymbolWriter_unary_r1 unI
  rw [items_app]
  by_cases c : v < most
  · have cc := un_ctx (k := v) h h0 c
    have q := code_item (c := base + cap v) (b := 0) g1 cc.1 ⟨⟨by show -1 ≤ base + cap v; omega, cc.2⟩, by show (0 : Int) ≤ 0; decide, by show (0 : Int) ≤ 1; decide⟩ (by omega)
    rw [if_pos c, if_pos c]
    unfold cap at q ⊢
    rw [show (8 : Int) - 1 = 7 from rfl, q]
    rfl
  · rw [if_neg c, if_neg c]
    rfl
theorem rngD_at {lo x : Int} {n i : Nat} (h : (rngD lo n)[i]? = some x) : x = lo - i ∧ i < n := by
  have hl := get_len h
  have hn : i < n := by
    unfold rngD at hl
    rw [List.length_map, List.length_range] at hl
    exact hl
  rw [rngD_get hn] at h
  have := Option.some.inj h
  omega
theorem rngD_length (lo : Int) (n : Nat) : (rngD lo n).length = n := by
  unfold rngD
  rw [List.length_map, List.length_range]
theorem range_at {α : Type} {f : Nat → α} {w i : Nat} {t : α} (h : ((List.range w).map f)[i]? = some t) : i < w ∧ t = f i := by
  have hl := get_len h
  rw [List.length_map, List.length_range] at hl
  rw [List.getElem?_map, List.getElem?_range hl] at h
  exact ⟨hl, (Option.some.inj h).symm⟩
theorem put_number {e : EncS} (g : EncG e) {base v : Int} (h : NuOk base v) (hl : e.front.length ≤ 899000) : F_SymbolWriter_number ⟨e⟩ base v = .ok ⟨encItems e (nuI base v)⟩ := by
  have ok := nuI_ok h
  have hd := nuD_in h.2.2.1 h.2.2.2
  have hu := nuI_un h
  have oku := unI_ok (v := (nuD v : Nat)) hu (by omega) (by omega)
  have okr : ItemsOk (nuR base v) := fun x hx => ok x (List.mem_append_right _ hx)
  have lr : (nuR base v).length = nuD v := by unfold nuR; rw [List.length_map, List.length_range]
  have lu := unI_len base (nuD v : Nat) 20 (by omega)
  unfold F_SymbolWriter_number
  rw [checks_ok (.inr ⟨h.1, by have := h.2.1; omega⟩), bind_ok, if_pos h.2.2.1, if_pos h.2.2.2, bnd_eq]
  have eb : ((PySem.Builtin.Int.intBits (v + 1) : Nat) : Int) - 1 = (nuD v : Nat) := by
    have := (bl_in (v := v + 1) (by have := h.2.2.1; omega)).1
    unfold nuD
    show ((bl (v + 1) : Nat) : Int) - 1 = _
    omega
  rw [eb, put_unary g hu (by omega) (by omega) hl, bind_ok, grd_pos ⟨by omega, by omega, by decide, by decide⟩, show Int.toNat (((nuD v : Nat) : Int) - 1 - -1) = nuD v by omega]
  have g1 := items_ok g oku
  have l1 := items_len (unI base (nuD v : Nat) 20) e
  have hx := enc_loop (f := fun s x => F_SymbolWriter_number_b1 base v (nuD v : Nat) s x) (xs := rngD (((nuD v : Nat) : Int) - 1) (nuD v)) (its := nuR base v) (fun j e => (⟨e⟩ : St_SymbolWriter)) (e := encItems e (unI base (nuD v : Nat) 20)) (by rw [lr, rngD_length]) okr g1 (by rw [lr]; omega) fun j x t e hx ht g l => by
    obtain ⟨hj, hjw⟩ := rngD_at hx
    have ho := okr t (List.mem_of_getElem? ht)
    unfold nuR at ht
    obtain ⟨_, rfl⟩ := range_at ht
    show F_SymbolWriter_number_b1 base v (nuD v : Nat) ⟨e⟩ x = _
    unfold F_SymbolWriter_number_b1
    rw [grd_pos (by omega), bit_and, bnd_eq, show Int.toNat x = nuD v - 1 - j by omega]
    by_cases c : j = 0
    · subst c
      have cc := cap_in (k := ((nuD v : Nat) : Int) - 1) (by omega)
      rw [if_pos rfl] at ho
      rw [if_pos (by omega), if_pos rfl]
      have ed : F__digit_context base ((nuD v : Nat) : Int) = .ok (base + 8 + cap (((nuD v : Nat) : Int) - 1)) := rfl
      rw [ed, noEr_ok, bind_ok, code_item g (by have := h.1; omega) ho l]
      rfl
    · rw [if_neg c] at ho
      rw [if_neg (by omega), if_neg c, even_item g ho l]
      rfl
  rw [hx, bind_ok]
  unfold nuI
  rw [items_app]
  rfl
theorem init_put : F_Encoder___init__ = .ok encInit := by
  unfold F_Encoder___init__
  rw [grd_pos ⟨by decide, by decide, by decide +kernel⟩, bnd_eq]
  rfl
def Seg (items L : List (Int × Int)) (i : Nat) : Prop := ∀ j t, L[j]? = some t → items[i + j]? = some t
theorem Seg.left {items A B : List (Int × Int)} {i : Nat} (h : Seg items (A ++ B) i) : Seg items A i := fun j t ht => h j t (by rw [List.getElem?_append_left (get_len ht)]; exact ht)
theorem Seg.right {items A B : List (Int × Int)} {i : Nat} (h : Seg items (A ++ B) i) : Seg items B (i + A.length) := fun j t ht => by
  have := h (A.length + j) t (by rw [List.getElem?_append_right (by omega), show A.length + j - A.length = j by omega]; exact ht)
  rw [Nat.add_assoc]
  exact this
structure Whole (O : List Int) (items : List (Int × Int)) : Prop where
  ok : ItemsOk items
  o : ∀ x ∈ O, 0 ≤ x ∧ x ≤ 255
  a : accO O ((encItems encInit items).front.length + 4) = bigL (encItems encInit items)
def At (O : List Int) (items : List (Int × Int)) (i : Nat) (d : DecS) : Prop := Pu.Rel O (encItems encInit (items.take i)) d
section
variable {O : List Int} {items : List (Int × Int)} {i : Nat} {d : DecS}
theorem read_item (K : Whole O items) (A : At O items i d) {c b : Int} (c0 : 0 ≤ c) (h : items[i]? = some (c, b)) : F_Decoder_read d c = .ok (b, decItem d (c, b)) ∧ At O items (i + 1) (decItem d (c, b)) := by
  obtain ⟨h1, h2⟩ := rel_turn h K.ok K.o K.a A
  refine ⟨?_, h2⟩
  have b1 : c ≤ 255 := (K.ok _ (List.mem_of_getElem? h)).1.2
  unfold decItemBit at h1
  rw [if_pos c0] at h1
  have h1 : decBit d (itD d.probs c) = b := h1
  unfold decItem
  rw [if_pos c0, read_eq A.g c0 (by omega), h1]
theorem even_read (K : Whole O items) (A : At O items i d) {b : Int} (h : items[i]? = some (-1, b)) : F_Decoder_read_even d = .ok (b, decItem d (-1, b)) ∧ At O items (i + 1) (decItem d (-1, b)) := by
  obtain ⟨h1, h2⟩ := rel_turn h K.ok K.o K.a A
  refine ⟨?_, h2⟩
  have n : ¬ (0 : Int) ≤ -1 := by decide
  unfold decItemBit at h1
  rw [if_neg n] at h1
  have h1 : decBit d 2048 = b := h1
  unfold decItem
  rw [if_neg n, reven_eq A.g, h1]
theorem dec_loop {α σ : Type} {f : σ → α → Rx σ} : ∀ {xs : List α} (mk : Nat → DecS → σ) {i : Nat} {d : DecS}, At O items i d →
    (∀ j x d, xs[j]? = some x → At O items (i + j) d → ∃ d', f (mk j d) x = .ok (mk (j + 1) d') ∧ At O items (i + j + 1) d') → ∃ d', forS xs (mk 0 d) f = .ok (mk xs.length d') ∧ At O items (i + xs.length) d'
  | [], mk, i, d, A, _ => ⟨d, rfl, A⟩
  | x :: xs, mk, i, d, A, st => by
    obtain ⟨d1, e1, A1⟩ := st 0 x d rfl A
    obtain ⟨d2, e2, A2⟩ := dec_loop (xs := xs) (f := f) (fun j d => mk (j + 1) d) (i := i + 1) (d := d1) A1 fun j x d hx A => by
      have := st (j + 1) x d (by simpa using hx) (by rw [show i + (j + 1) = i + 1 + j by omega]; exact A)
      rw [show i + (j + 1) + 1 = i + 1 + j + 1 by omega] at this
      exact this
    refine ⟨d2, ?_, by rw [List.length_cons, show i + (xs.length + 1) = i + 1 + xs.length by omega]; exact A2⟩
    show (f (mk 0 d) x).bind _ = _
    rw [e1]
    exact e2
theorem unI_at {base v most : Int} {j : Nat} (h : (j : Int) < v) : (unI base v most)[j]? = some (base + cap j, 1) := by
  unfold unI
  rw [List.getElem?_append_left (by rw [List.length_map, rng_len]; omega), List.getElem?_map, rng_get (by omega)]
  show some (base + cap (0 + (j : Int)), (1 : Int)) = _
  rw [Int.zero_add]
theorem unI_end {base v most : Int} (h0 : 0 ≤ v) (h : v < most) : (unI base v most)[v.toNat]? = some (base + cap v, 0) := by
  unfold unI
  rw [List.getElem?_append_right (by rw [List.length_map, rng_len]; omega), List.length_map, rng_len, if_pos h, Nat.sub_self]
  rfl
theorem unI_length {base v most : Int} (h0 : 0 ≤ v) : (unI base v most).length = v.toNat + (if v < most then 1 else 0) := by
  unfold unI
  rw [List.length_append, List.length_map, rng_len]
  split <;> rfl
theorem unary_rd (K : Whole O items) {base v most : Int} (h : UnOk base most) (v0 : 0 ≤ v) (v1 : v ≤ most) (S : Seg items (unI base v most) i) : ∀ (n k m : Nat) {d : DecS}, (k : Int) + n = v → n < m → At O items (i + k) d →
    ∃ d', whileR m ((⟨d⟩ : St_SymbolReader), (k : Int)) (fun s => F_SymbolReader_unary_b1 base most s.1 s.2) = .ok (.go (⟨d'⟩, v)) ∧ At O items (i + (unI base v most).length) d'
  | 0, k, m, d, hk, hm, A => by
    obtain ⟨m, rfl⟩ : ∃ j, m = j + 1 := ⟨m - 1, by omega⟩
    have hk : (k : Int) = v := by omega
    rw [unI_length v0]
    by_cases c : v < most
    · have cc := un_ctx h v0 c
      obtain ⟨e, A1⟩ := read_item K A cc.1 (S k _ (by rw [show k = v.toNat by omega]; exact unI_end v0 c))
      rw [if_pos c, show i + (v.toNat + 1) = i + k + 1 by omega]
      refine ⟨_, while_bk ?_, A1⟩
      show F_SymbolReader_unary_b1 base most ⟨d⟩ (k : Int) = _
      unfold F_SymbolReader_unary_b1
      unfold cap at e
      rw [hk, if_pos c, show (8 : Int) - 1 = 7 from rfl, e]
      rfl
    · rw [if_neg c, show i + (v.toNat + 0) = i + k by omega]
      refine ⟨d, while_bk ?_, A⟩
      show F_SymbolReader_unary_b1 base most ⟨d⟩ (k : Int) = _
      unfold F_SymbolReader_unary_b1
      rw [hk, if_neg c]
  | n + 1, k, m, d, hk, hm, A => by
    obtain ⟨m, rfl⟩ : ∃ j, m = j + 1 := ⟨m - 1, by omega⟩
    have hkv : (k : Int) < v := by omega
    have cc := un_ctx (k := k) h (by omega) (by omega)
    obtain ⟨e, A1⟩ := read_item K A cc.1 (S k _ (unI_at hkv))
    obtain ⟨d', w, A2⟩ := unary_rd K h v0 v1 S n (k + 1) m (d := decItem d (base + cap k, 1)) (by omega) (by omega) A1
    refine ⟨d', ?_, A2⟩
    rw [while_go (s' := ((⟨decItem d (base + cap k, 1)⟩ : St_SymbolReader), ((k + 1 : Nat) : Int)))]
    · exact w
    · show F_SymbolReader_unary_b1 base most ⟨d⟩ (k : Int) = _
      unfold F_SymbolReader_unary_b1
      unfold cap at e ⊢
      rw [if_pos (by omega), show (8 : Int) - 1 = 7 from rfl, e]
      rfl
theorem get_unary (K : Whole O items) (A : At O items i d) {base v most : Int} (h : UnOk base most) (v0 : 0 ≤ v) (v1 : v ≤ most) (S : Seg items (unI base v most) i) :
    ∃ d', F_SymbolReader_unary ⟨d⟩ base most = .ok (v, ⟨d'⟩) ∧ At O items (i + (unI base v most).length) d' := by
  have hm := h.2.1
  obtain ⟨d', w, A'⟩ := unary_rd K h v0 v1 S v.toNat 0 1000000 (by omega) (by omega) A
  refine ⟨d', ?_, A'⟩
  unfold F_SymbolReader_unary
  rw [un_check h, bind_ok]
  show ((whileR 1000000 ((⟨d⟩ : St_SymbolReader), ((0 : Nat) : Int)) (fun s => F_SymbolReader_unary_b1 base most s.1 s.2)).bind _) = _
  rw [w]
  rfl
theorem nu_step {V : Int} {D k : Nat} (hk : k < D) : V / 2 ^ (D - (k + 1)) = 2 * (V / 2 ^ (D - k)) + V / 2 ^ (D - 1 - k) % 2 := by
  have d := dbl V (D - 1 - k)
  rw [show D - 1 - k + 1 = D - k by omega] at d
  rw [show D - (k + 1) = D - 1 - k by omega]
  exact d
theorem get_number (K : Whole O items) (A : At O items i d) {base v : Int} (h : NuOk base v) (S : Seg items (nuI base v) i) :
    ∃ d', F_SymbolReader_number ⟨d⟩ base = .ok (v, ⟨d'⟩) ∧ At O items (i + (nuI base v).length) d' := by
  have hd := nuD_in h.2.2.1 h.2.2.2
  have hu := nuI_un h
  have lr : (nuR base v).length = nuD v := by unfold nuR; rw [List.length_map, List.length_range]
  unfold nuI at S
  have S1 := S.left
  have S2 := S.right
  obtain ⟨d1, u1, A1⟩ := get_unary K A hu (v := (nuD v : Nat)) (by omega) (by omega) S1
  have at_r : ∀ k, k < nuD v → items[i + (unI base (nuD v : Nat) 20).length + k]? = some (if k = 0 then base + 8 + cap ((nuD v : Int) - 1) else -1, (v + 1) / 2 ^ (nuD v - 1 - k) % 2) := fun k hk =>
    S2 k _ (by unfold nuR; rw [List.getElem?_map, List.getElem?_range hk]; rfl)
  have el : (nuI base v).length = (unI base (nuD v : Nat) 20).length + nuD v := by
    unfold nuI
    rw [List.length_append, lr]
  rw [el, ← Nat.add_assoc]
  generalize i + (unI base (nuD v : Nat) 20).length = i1 at A1 at_r ⊢
  have e0 : (v + 1) / 2 ^ (nuD v - 0) = 1 := by
    rw [Nat.sub_zero]
    have p := pow_p (nuD v)
    have a : (v + 1) / 2 ^ nuD v < 2 := Int.ediv_lt_of_lt_mul (by omega) (by omega)
    have b : 1 ≤ (v + 1) / 2 ^ nuD v := by
      refine Int.le_ediv_of_mul_le (by omega) ?_
      omega
    omega
  have hm : ∀ z : Int, z = v + 1 → (if 1048576 < z - 1 then (1048576 : Int) else z - 1) = v := fun z hz => by
    have := h.2.2.2
    rw [hz, if_neg (by omega)]
    omega
  unfold F_SymbolReader_number
  rw [checks_ok (.inr ⟨h.1, by have := h.2.1; omega⟩), bind_ok, u1, bind_ok]
  generalize hD : nuD v = D at hd at_r e0 ⊢
  cases D with
  | zero =>
    refine ⟨d1, ?_, A1⟩
    rw [if_neg (show ¬ (0 : Int) < ((0 : Nat) : Int) by decide), bind_ok]
    unfold F_SymbolReader_number_k1
    rw [grd_pos ⟨by show -(2 ^ 62) ≤ ((0 : Nat) : Int) - 1; decide, by show ((0 : Nat) : Int) - 1 < 2 ^ 62; decide⟩]
    have : (1 : Int) = v + 1 := by
      rw [Nat.sub_zero] at e0
      have h2 : (v + 1) / 1 = 1 := e0
      rw [Int.ediv_one] at h2
      omega
    show Rx.ok ((if 1048576 < (1 : Int) - 1 then (1048576 : Int) else 1 - 1), (⟨d1⟩ : St_SymbolReader)) = _
    rw [hm 1 this]
  | succ D =>
    have cc := cap_in (k := ((D + 1 : Nat) : Int) - 1) (by omega)
    have h0 := at_r 0 (by omega)
    rw [if_pos rfl] at h0
    obtain ⟨r1, A2⟩ := read_item K A1 (by have := h.1; omega) h0
    have ed : F__digit_context base ((D + 1 : Nat) : Int) = .ok (base + 8 + cap (((D + 1 : Nat) : Int) - 1)) := rfl
    rw [if_pos (show (0 : Int) < ((D + 1 : Nat) : Int) by omega)]
    show ∃ d', ((((noEr (F__digit_context base ((D + 1 : Nat) : Int))).bind _).bind _) : Rx (Int × St_SymbolReader)) = _ ∧ _
    rw [ed, noEr_ok, bind_ok]
    show ∃ d', ((((noEr (F_Decoder_read d1 (base + 8 + cap (((D + 1 : Nat) : Int) - 1)))).bind _).bind _) : Rx (Int × St_SymbolReader)) = _ ∧ _
    rw [r1, noEr_ok, bind_ok, bnd_eq, bind_ok]
    have g1 := nu_step (V := v + 1) (show 0 < D + 1 by omega)
    rw [e0] at g1
    unfold F_SymbolReader_number_k1
    rw [grd_pos ⟨by show -(2 ^ 62) ≤ ((D + 1 : Nat) : Int) - 1; omega, by show ((D + 1 : Nat) : Int) - 1 < 2 ^ 62; omega⟩]
    obtain ⟨d', e, A'⟩ := dec_loop (O := O) (items := items) (f := fun s x => F_SymbolReader_number_b2 s.1 s.2 x) (xs := rng 0 D) (fun j d => ((⟨d⟩ : St_SymbolReader), (v + 1) / 2 ^ (D + 1 - (j + 1)))) A2 fun j x d hx A => by
      obtain ⟨_, hjw⟩ := rng_at hx
      have hi := at_r (j + 1) (by omega)
      rw [if_neg (by omega)] at hi
      obtain ⟨e1, A1⟩ := even_read K (i := i1 + 1 + j) A (by rw [show i1 + 1 + j = i1 + (j + 1) by omega]; exact hi)
      refine ⟨_, ?_, A1⟩
      show F_SymbolReader_number_b2 ⟨d⟩ ((v + 1) / 2 ^ (D + 1 - (j + 1))) x = _
      unfold F_SymbolReader_number_b2
      rw [e1, noEr_ok, bind_ok, bnd_eq, ← nu_step (V := v + 1) (show j + 1 < D + 1 by omega)]
    rw [rng_len] at e A'
    refine ⟨d', ?_, by rw [show i1 + (D + 1) = i1 + 1 + D by omega]; exact A'⟩
    show ((forS (rng 0 (Int.toNat (((D + 1 : Nat) : Int) - 1))) ((⟨decItem d1 _⟩ : St_SymbolReader), 2 + (v + 1) / 2 ^ (D + 1 - 1 - 0) % 2) (fun s x => F_SymbolReader_number_b2 s.1 s.2 x)).bind _) = _
    rw [show Int.toNat (((D + 1 : Nat) : Int) - 1) = D by omega, show (2 : Int) + (v + 1) / 2 ^ (D + 1 - 1 - 0) % 2 = (v + 1) / 2 ^ (D + 1 - (0 + 1)) by rw [g1]; omega, e, bind_ok]
    unfold F_SymbolReader_number_r2
    have ee : (v + 1) / 2 ^ (D + 1 - (D + 1)) = v + 1 := by
      rw [Nat.sub_self]
      show (v + 1) / 1 = _
      rw [Int.ediv_one]
    show Rx.ok ((if 1048576 < (v + 1) / 2 ^ (D + 1 - (D + 1)) - 1 then (1048576 : Int) else (v + 1) / 2 ^ (D + 1 - (D + 1)) - 1), (⟨d'⟩ : St_SymbolReader)) = _
    rw [hm _ ee]
end
theorem acc_code0 {E : EncS} (hm : EncMid E) : accO (encOctets E) (E.front.length + 4) = bigL E := by
  have h := acc_code hm 0
  rw [List.replicate_zero, List.append_nil] at h
  exact h
/-! ### levels of a transform block: as items -/
theorem rng_succ (n : Nat) : rng 0 (n + 1) = rng 0 n ++ [(n : Int)] := by
  unfold rng
  rw [List.range_succ, List.map_append]
  simp
theorem enum_snoc {α : Type} (v : List α) (x : α) : enumL (v ++ [x]) = enumL v ++ [((v.length : Int), x)] := by
  unfold enumL
  rw [List.length_append, List.length_singleton, rng_succ, List.zip_append (by rw [rng_len])]
  rfl
def nzs (v : List Int) : List Int := (enumL v).filterMap fun p => if p.2 = 0 then none else some p.1
theorem nzs_snoc (v : List Int) (x : Int) : nzs (v ++ [x]) = nzs v ++ (if x = 0 then [] else [(v.length : Int)]) := by
  unfold nzs
  rw [enum_snoc, List.filterMap_append]
  by_cases c : x = 0
  · simp [c]
  · simp [c]
theorem nzs_step {v : List Int} {k : Nat} {x : Int} (h : v[k]? = some x) : nzs (v.take (k + 1)) = nzs (v.take k) ++ (if x = 0 then [] else [(k : Int)]) := by
  have hk := get_len h
  rw [List.take_add_one, h]
  show nzs (v.take k ++ [x]) = _
  rw [nzs_snoc, List.length_take, Nat.min_eq_left (by omega)]
theorem nzs_mem {v : List Int} {k : Int} (h : k ∈ nzs v) : ∃ (j : Nat) (x : Int), k = (j : Int) ∧ v[j]? = some x ∧ x ≠ 0 := by
  unfold nzs at h
  obtain ⟨p, hp, e⟩ := List.mem_filterMap.mp h
  obtain ⟨i, hi⟩ := List.mem_iff_getElem?.mp hp
  have hl := get_len hi
  rw [enumL_len] at hl
  have hv : v[i]? = some v[i] := List.getElem?_eq_getElem hl
  rw [enumL_get hv] at hi
  have hi := Option.some.inj hi
  subst hi
  by_cases c : v[i] = 0
  · rw [if_pos c] at e
    cases e
  · rw [if_neg c] at e
    exact ⟨i, v[i], (Option.some.inj e).symm, hv, c⟩
theorem nzs_has {v : List Int} {j : Nat} {x : Int} (h : v[j]? = some x) (c : x ≠ 0) : (j : Int) ∈ nzs v := by
  unfold nzs
  refine List.mem_filterMap.mpr ⟨((j : Int), x), List.mem_of_getElem? (enumL_get h), ?_⟩
  rw [if_neg c]
theorem nzs_len (v : List Int) : (nzs v).length ≤ v.length := by
  unfold nzs
  have := List.length_filterMap_le (fun p : Int × Int => if p.2 = 0 then none else some p.1) (enumL v)
  rw [enumL_len] at this
  exact this
/-- the last level that is not 0 stands at l -/
def Last (v : List Int) (l : Nat) : Prop := (∃ x, v[l]? = some x ∧ x ≠ 0) ∧ ∀ (j : Nat) (y : Int), l < j → v[j]? = some y → y = 0
theorem last_ex : ∀ {v : List Int}, (∃ x ∈ v, x ≠ 0) → ∃ l, Last v l
  | [], h => by
    obtain ⟨x, hx, _⟩ := h
    cases hx
  | a :: r, h => by
    by_cases c : ∃ x ∈ r, x ≠ 0
    · obtain ⟨l, ⟨x, hx, hn⟩, hz⟩ := last_ex c
      refine ⟨l + 1, ⟨x, by simpa using hx, hn⟩, fun j y hj hy => ?_⟩
      obtain ⟨j, rfl⟩ : ∃ i, j = i + 1 := ⟨j - 1, by omega⟩
      exact hz j y (by omega) (by simpa using hy)
    · obtain ⟨x, hx, hn⟩ := h
      rcases List.mem_cons.mp hx with rfl | hx
      · refine ⟨0, ⟨x, rfl, hn⟩, fun j y hj hy => ?_⟩
        obtain ⟨j, rfl⟩ : ∃ i, j = i + 1 := ⟨j - 1, by omega⟩
        rcases Decidable.em (y = 0) with z | z
        · exact z
        · exact absurd ⟨y, List.mem_of_getElem? (by simpa using hy), z⟩ c
      · exact absurd ⟨x, hx, hn⟩ c
theorem Last.lt {v : List Int} {l : Nat} (h : Last v l) : l < v.length := by
  obtain ⟨⟨x, hx, _⟩, _⟩ := h
  exact get_len hx
theorem nzs_last {v : List Int} {l : Nat} (h : Last v l) : ∀ k, l < k → k ≤ v.length → nzs (v.take k) = nzs (v.take l) ++ [(l : Int)] := by
  intro k h1 h2
  induction k with
  | zero => omega
  | succ k ih =>
    have hk : v[k]? = some v[k] := List.getElem?_eq_getElem (by omega)
    rw [nzs_step hk]
    rcases Nat.lt_or_ge l k with c | c
    · rw [ih c (by omega), if_pos (h.2 k _ c hk), List.append_nil]
    · have e : l = k := by omega
      subst e
      obtain ⟨⟨x, hx, hn⟩, _⟩ := h
      rw [hk] at hx
      rw [if_neg (by rw [Option.some.inj hx]; exact hn)]
theorem nzs_whole {v : List Int} {l : Nat} (h : Last v l) : nzs v = nzs (v.take l) ++ [(l : Int)] := by
  have := nzs_last h v.length h.lt (Nat.le_refl _)
  rwa [List.take_length] at this
def flI (st : Int) (l k : Nat) (x : Int) : List (Int × Int) := (64 + st * k, if x = 0 then 0 else 1) :: (if x = 0 then [] else [(128 + st * k, if k = l then 1 else 0)])
def plI (st : Int) (v : List Int) (l m : Nat) : List (Int × Int) := (List.range m).flatMap fun k => flI st l k (itD v k)
def bsA (base x : Int) : Int := if 1 < absI x then 208 else base
def bs (base : Int) (xs : List Int) : Int := xs.foldl bsA base
def oneI (base x : Int) : List (Int × Int) := nuI base (absI x - 1) ++ [(-1, if x < 0 then 1 else 0)]
def lvI : Int → List Int → List (Int × Int)
  | _, [] => []
  | base, x :: r => oneI base x ++ lvI (bsA base x) r
theorem lvI_snoc (x : Int) : ∀ (xs : List Int) (base : Int), lvI base (xs ++ [x]) = lvI base xs ++ oneI (bs base xs) x
  | [], base => by simp [lvI, bs]
  | y :: r, base => by
    rw [List.cons_append, lvI, lvI, lvI_snoc x r, List.append_assoc]
    rfl
theorem bs_snoc (base x : Int) (xs : List Int) : bs base (xs ++ [x]) = bsA (bs base xs) x := by
  unfold bs
  rw [List.foldl_append]
  rfl
theorem bsA_in {base x : Int} (h : base = 192 ∨ base = 208) : bsA base x = 192 ∨ bsA base x = 208 := by
  unfold bsA
  split
  · exact .inr rfl
  · exact h
theorem bs_in : ∀ {xs : List Int} {base : Int}, base = 192 ∨ base = 208 → bs base xs = 192 ∨ bs base xs = 208
  | [], _, h => h
  | x :: r, base, h => by
    show bs (bsA base x) r = 192 ∨ bs (bsA base x) r = 208
    refine bs_in ?_
    unfold bsA
    split
    · exact .inr rfl
    · exact h
def rv (v : List Int) : List Int := (nzs v).reverse.map fun k => itD v k
def stp (v : List Int) : Int := 64 / (v.length : Int)
def blkI (v : List Int) (l : Nat) : List (Int × Int) := plI (stp v) v l (min (l + 1) (v.length - 1)) ++ lvI 192 (rv v)
structure Lv (v : List Int) : Prop where
  len : v.length = 16 ∨ v.length = 64
  rge : ∀ x ∈ v, -524288 ≤ x ∧ x ≤ 524287
  nz : ∃ x ∈ v, x ≠ 0
theorem stp_in {v : List Int} (h : Lv v) {k : Nat} (hk : k < v.length) : (stp v = 4 ∧ v.length = 16 ∨ stp v = 1 ∧ v.length = 64) ∧ 0 ≤ stp v * (k : Int) ∧ stp v * (k : Int) ≤ 63 := by
  unfold stp
  rcases h.len with e | e <;> rw [e]
  · rw [show (64 : Int) / ((16 : Nat) : Int) = 4 by decide]
    exact ⟨.inl ⟨rfl, rfl⟩, by omega, by omega⟩
  · rw [show (64 : Int) / ((64 : Nat) : Int) = 1 by decide]
    exact ⟨.inr ⟨rfl, rfl⟩, by omega, by omega⟩
theorem flI_ok {v : List Int} (h : Lv v) {l k : Nat} {x : Int} (hk : k < v.length) : ItemsOk (flI (stp v) l k x) := fun t ht => by
  have hs := (stp_in h hk).2
  unfold flI at ht
  rcases List.mem_cons.mp ht with rfl | ht
  · refine ⟨⟨by show -1 ≤ 64 + stp v * (k : Int); omega, by show 64 + stp v * (k : Int) ≤ 255; omega⟩, ?_, ?_⟩
    · show 0 ≤ (if x = 0 then (0 : Int) else 1); split <;> decide
    · show (if x = 0 then (0 : Int) else 1) ≤ 1; split <;> decide
  · by_cases c : x = 0
    · rw [if_pos c] at ht
      cases ht
    · rw [if_neg c] at ht
      obtain rfl := List.mem_singleton.mp ht
      refine ⟨⟨by show -1 ≤ 128 + stp v * (k : Int); omega, by show 128 + stp v * (k : Int) ≤ 255; omega⟩, ?_, ?_⟩
      · show 0 ≤ (if k = l then (1 : Int) else 0); split <;> decide
      · show (if k = l then (1 : Int) else 0) ≤ 1; split <;> decide
theorem plI_succ (st : Int) (v : List Int) (l m : Nat) : plI st v l (m + 1) = plI st v l m ++ flI st l m (itD v m) := by
  unfold plI
  rw [List.range_succ, List.flatMap_append]
  simp
theorem plI_ok {v : List Int} (h : Lv v) {l m : Nat} (hm : m ≤ v.length) : ItemsOk (plI (stp v) v l m) := fun t ht => by
  unfold plI at ht
  obtain ⟨k, hk, ht⟩ := List.mem_flatMap.mp ht
  exact flI_ok h (Nat.lt_of_lt_of_le (List.mem_range.mp hk) hm) t ht
theorem flI_len (st : Int) (l k : Nat) (x : Int) : (flI st l k x).length ≤ 2 := by
  unfold flI
  split <;> simp
theorem plI_len (st : Int) (v : List Int) (l m : Nat) : (plI st v l m).length ≤ 2 * m := by
  induction m with
  | zero => simp [plI]
  | succ m ih =>
    have := flI_len st l m (itD v m)
    rw [plI_succ, List.length_append]
    omega
theorem abs_in {x : Int} (h : -524288 ≤ x ∧ x ≤ 524287) (c : x ≠ 0) : 0 ≤ absI x - 1 ∧ absI x - 1 ≤ 1048576 := by
  unfold absI
  split <;> omega
theorem one_nu {base x : Int} (hb : base = 192 ∨ base = 208) (h : -524288 ≤ x ∧ x ≤ 524287) (c : x ≠ 0) : NuOk base (absI x - 1) := by
  have := abs_in h c
  exact ⟨by omega, by omega, this.1, this.2⟩
theorem oneI_ok {base x : Int} (hb : base = 192 ∨ base = 208) (h : -524288 ≤ x ∧ x ≤ 524287) (c : x ≠ 0) : ItemsOk (oneI base x) := by
  unfold oneI
  refine items_app_ok (nuI_ok (one_nu hb h c)) fun t ht => ?_
  obtain rfl := List.mem_singleton.mp ht
  refine ⟨⟨by show (-1 : Int) ≤ -1; decide, by show (-1 : Int) ≤ 255; decide⟩, ?_, ?_⟩
  · show 0 ≤ (if x < 0 then (1 : Int) else 0); split <;> decide
  · show (if x < 0 then (1 : Int) else 0) ≤ 1; split <;> decide
theorem oneI_len {base x : Int} (hb : base = 192 ∨ base = 208) (h : -524288 ≤ x ∧ x ≤ 524287) (c : x ≠ 0) : (oneI base x).length ≤ 86 := by
  have hn := one_nu hb h c
  have hd := nuD_in hn.2.2.1 hn.2.2.2
  have := unI_len base (nuD (absI x - 1) : Nat) 20 (by omega)
  unfold oneI nuI nuR
  rw [List.length_append, List.length_append, List.length_map, List.length_range, List.length_singleton]
  omega
theorem lvI_ok : ∀ {xs : List Int} {base : Int}, base = 192 ∨ base = 208 → (∀ x ∈ xs, (-524288 ≤ x ∧ x ≤ 524287) ∧ x ≠ 0) → ItemsOk (lvI base xs) ∧ (lvI base xs).length ≤ 86 * xs.length
  | [], _, _, _ => ⟨(fun t ht => nomatch ht), Nat.le_refl 0⟩
  | x :: r, base, hb, h => by
    have hx := h x List.mem_cons_self
    obtain ⟨a, b⟩ := lvI_ok (xs := r) (base := bsA base x) (bsA_in hb) fun y hy => h y (List.mem_cons_of_mem _ hy)
    have l := oneI_len hb hx.1 hx.2
    rw [lvI, List.length_append, List.length_cons]
    exact ⟨items_app_ok (oneI_ok hb hx.1 hx.2) a, by omega⟩
theorem itD_of {xs : List Int} {j : Nat} {x : Int} (h : xs[j]? = some x) : itD xs (j : Int) = x := itD_nat j rfl h
theorem rv_in {v : List Int} (h : Lv v) : ∀ x ∈ rv v, (-524288 ≤ x ∧ x ≤ 524287) ∧ x ≠ 0 := fun x hx => by
  unfold rv at hx
  obtain ⟨k, hk, rfl⟩ := List.mem_map.mp hx
  obtain ⟨j, y, rfl, hy, hn⟩ := nzs_mem (List.mem_reverse.mp hk)
  show (-524288 ≤ itD v (j : Int) ∧ itD v (j : Int) ≤ 524287) ∧ itD v (j : Int) ≠ 0
  rw [itD_of hy]
  exact ⟨h.rge y (List.mem_of_getElem? hy), hn⟩
theorem rv_len {v : List Int} (h : Lv v) : (rv v).length ≤ 64 := by
  have := nzs_len v
  unfold rv
  rw [List.length_map, List.length_reverse]
  have := h.len
  omega
theorem blkI_ok {v : List Int} (h : Lv v) (l : Nat) : ItemsOk (blkI v l) ∧ (blkI v l).length ≤ 5700 := by
  have hl := h.len
  obtain ⟨a, b⟩ := lvI_ok (.inl rfl) (rv_in h)
  have c := rv_len h
  have d := plI_len (stp v) v l (min (l + 1) (v.length - 1))
  unfold blkI
  rw [List.length_append]
  exact ⟨items_app_ok (plI_ok h (by omega)) a, by omega⟩
/-! ### written -/
theorem put_flag {e : EncS} (g : EncG e) {c : Int} {b : Bool} (h0 : 0 ≤ c) (h1 : c ≤ 255) (hl : e.front.length ≤ 900000) : F_SymbolWriter_flag ⟨e⟩ c b = .ok ⟨encItem e (c, if b = true then 1 else 0)⟩ := by
  unfold F_SymbolWriter_flag
  have o : ItOk (c, if b = true then (1 : Int) else 0) := ⟨⟨by show -1 ≤ c; omega, h1⟩, by show (0 : Int) ≤ if b = true then 1 else 0; split <;> decide, by show (if b = true then (1 : Int) else 0) ≤ 1; split <;> decide⟩
  rw [checks_ok (.inr ⟨h0, by omega⟩), bind_ok, code_item g h0 o hl]
  rfl
theorem put_even {e : EncS} (g : EncG e) {b : Int} (h0 : 0 ≤ b) (h1 : b ≤ 1) (hl : e.front.length ≤ 900000) : F_SymbolWriter_even ⟨e⟩ b = .ok ⟨encItem e (-1, b)⟩ := by
  unfold F_SymbolWriter_even
  rw [even_item g ⟨⟨by show (-1 : Int) ≤ -1; decide, by show (-1 : Int) ≤ 255; decide⟩, h0, h1⟩ hl]
  rfl
theorem bne0 (x : Int) : (if (!decide (x = 0)) = true then (1 : Int) else 0) = if x = 0 then 0 else 1 := by
  by_cases c : x = 0 <;> simp [c]
theorem put_places {e : EncS} (g : EncG e) {v : List Int} (h : Lv v) {l : Nat} (hl : l < v.length) (hf : e.front.length ≤ 800000) : F__put_places ⟨e⟩ v l = .ok ⟨encItems e (plI (stp v) v l (min (l + 1) (v.length - 1)))⟩ := by
  have hn := h.len
  unfold F__put_places
  refine Gv.get (Gv.grd ⟨by omega, by omega⟩ (Gv.bnd fun st hst => Gv.grd (by split <;> omega) ?_))
  have est : st = stp v := hst
  subst est
  have em : Int.toNat (if ((v : List Int).length : Int) - 1 < ((l : Nat) : Int) + 1 then ((v.length : Int) - 1) else (((l : Nat) : Int) + 1)) = min (l + 1) (v.length - 1) := by split <;> omega
  rw [em]
  refine Gv.bind (Gv.forS (P := fun i s => s = (⟨encItems e (plI (stp v) v l i)⟩ : St_SymbolWriter)) rfl fun i x s hx p => ?_) fun s p => ?_
  · obtain ⟨rfl, hi⟩ := rng_at hx
    subst p
    have hiv : i < v.length := by omega
    obtain ⟨hs, s0, s1⟩ := stp_in h hiv
    have ge := items_ok g (plI_ok (l := l) h (m := i) (by omega))
    have gl := items_len (plI (stp v) v l i) e
    have ll := plI_len (stp v) v l i
    have hin : -(v.length : Int) ≤ (0 : Int) + i ∧ (0 : Int) + i < v.length := by omega
    have hw : (-(2 ^ 64) < (stp v : Int) ∧ (stp v : Int) < 2 ^ 64) ∨ (-(2 ^ 64) < ((0 : Int) + i) ∧ ((0 : Int) + i) < 2 ^ 64) := .inr ⟨by omega, by omega⟩
    unfold F__put_places_b1
    rw [Int.zero_add] at hin hw ⊢
    refine Gv.grd hw (Gv.grd hin (Gv.bind_eq (by rw [put_flag ge (by omega) (by omega) (by omega), noEr_ok]) (Gv.grd hin ?_)))
    rw [bne0]
    have ex : plI (stp v) v l (i + 1) = plI (stp v) v l i ++ flI (stp v) l i (itD v i) := plI_succ _ _ _ _
    have g2 : EncG (encItem (encItems e (plI (stp v) v l i)) (64 + stp v * (i : Int), if itD v (i : Int) = 0 then 0 else 1)) := item_ok ge (flI_ok h (l := l) (x := itD v i) hiv _ (by unfold flI; exact List.mem_cons_self))
    have l2 := item_len (encItems e (plI (stp v) v l i)) (64 + stp v * (i : Int), if itD v (i : Int) = 0 then 0 else 1)
    refine Gv.ite (fun c => .ok ?_) fun c => Gv.grd hw (Gv.bind_eq (by rw [put_flag g2 (by omega) (by omega) (by omega), noEr_ok]) (.ok ?_))
    · rw [ex, items_app]
      unfold flI
      rw [if_pos c, if_pos c]
      rfl
    · rw [ex, items_app]
      unfold flI
      rw [if_neg c, if_neg c]
      have ed : (if decide ((i : Int) = (l : Int)) = true then (1 : Int) else 0) = if i = l then 1 else 0 := by
        by_cases z : i = l
        · rw [if_pos z, if_pos (by rw [z]; simp)]
        · rw [if_neg z, if_neg (by simp; omega)]
      rw [ed]
      rfl
  · unfold F__put_places_r1
    rw [rng_len] at p
    exact .ok p
theorem check_levels {v : List Int} (h : Lv v) : F__check_levels v = .ok () := by
  have hn := h.len
  have hne : v ≠ [] := by intro z; rw [z] at hn; simp at hn
  have ha : (List.any v fun x => x != 0) = true := by
    obtain ⟨x, hx, c⟩ := h.nz
    exact List.any_eq_true.mpr ⟨x, hx, by simpa using c⟩
  unfold F__check_levels
  rw [if_pos (by simp; omega), grd_pos hne, if_neg (by have := h.rge _ (minL_spec v hne).1; omega), grd_pos hne, if_neg (by have := h.rge _ (maxL_spec v hne).1; omega), if_pos ha]
theorem put_levels_ok {e : EncS} (g : EncG e) {v : List Int} (h : Lv v) {l : Nat} (hL : Last v l) (hf : e.front.length ≤ 700000) : F_put_levels ⟨e⟩ v = .ok ⟨encItems e (blkI v l)⟩ := by
  have hn := h.len
  have hl := hL.lt
  unfold F_put_levels
  refine Gv.get (Gv.bind_eq (check_levels h) (Gv.bind_eq (a := nzs v) ?_ ?_))
  · rw [mapF_pure (g := fun p : Int × Int => if p.2 = 0 then none else some p.1) (fun x _ => ?_) (by rw [enumL_len]; show 0 + _ ≤ _; omega)]
    · rfl
    · unfold F_put_levels_c1
      split <;> rfl
  · have hw := nzs_whole hL
    have hlast : itD (nzs v) (-1) = (l : Int) := by
      rw [hw]
      rw [itD_last (by simp), List.getLast_append] <;> simp
    have hpos : 0 < (nzs v).length := by rw [hw, List.length_append]; simp
    refine Gv.grd (by omega) ?_
    rw [hlast]
    have okp := plI_ok (l := l) h (m := min (l + 1) (v.length - 1)) (by omega)
    have lp := plI_len (stp v) v l (min (l + 1) (v.length - 1))
    have gp := items_ok g okp
    have fp := items_len (plI (stp v) v l (min (l + 1) (v.length - 1))) e
    refine Gv.bind_eq (put_places g h hl (by omega)) ?_
    unfold blkI
    rw [items_app]
    generalize encItems e (plI (stp v) v l (min (l + 1) (v.length - 1))) = e1 at gp fp ⊢
    have hlen := nzs_len v
    have tk : ∀ i, ∀ x ∈ ((nzs v).reverse.take i).map (fun k => itD v k), (-524288 ≤ x ∧ x ≤ 524287) ∧ x ≠ 0 := fun i x hx => by
      obtain ⟨k, hk, rfl⟩ := List.mem_map.mp hx
      exact rv_in h _ (List.mem_map.mpr ⟨k, List.mem_of_mem_take hk, rfl⟩)
    refine Gv.bind (Gv.forS (P := fun i s => s = ((⟨encItems e1 (lvI 192 (((nzs v).reverse.take i).map fun k => itD v k))⟩ : St_SymbolWriter), bs 192 (((nzs v).reverse.take i).map fun k => itD v k))) rfl fun i k s hk p => ?_) fun s p => ?_
    · subst p
      have hi := get_len hk
      rw [List.length_reverse] at hi
      obtain ⟨j, x, rfl, hx, hnx⟩ := nzs_mem (List.mem_reverse.mp (List.mem_of_getElem? hk))
      have hj := get_len hx
      have hxr := h.rge x (List.mem_of_getElem? hx)
      have hb : bs 192 (((nzs v).reverse.take i).map fun k => itD v k) = 192 ∨ bs 192 (((nzs v).reverse.take i).map fun k => itD v k) = 208 := bs_in (.inl rfl)
      obtain ⟨ok1, ln1⟩ := lvI_ok (.inl rfl) (tk i)
      have g1 := items_ok gp ok1
      have f1 := items_len (lvI 192 (((nzs v).reverse.take i).map fun k => itD v k)) e1
      rw [List.length_map, List.length_take, List.length_reverse] at ln1
      have et : ((nzs v).reverse.take (i + 1)).map (fun k => itD v k) = ((nzs v).reverse.take i).map (fun k => itD v k) ++ [x] := by
        rw [List.take_add_one, hk, List.map_append]
        show _ ++ [itD v (j : Int)] = _
        rw [itD_of hx]
      rw [et, lvI_snoc, bs_snoc, items_app]
      generalize bs 192 (((nzs v).reverse.take i).map fun k => itD v k) = base at hb ⊢
      generalize encItems e1 (lvI 192 (((nzs v).reverse.take i).map fun k => itD v k)) = e2 at g1 f1 ⊢
      have nu := one_nu hb hxr hnx
      have on := oneI_ok hb hxr hnx
      have l1 := oneI_len hb hxr hnx
      have on1 : ItemsOk (nuI base (absI x - 1)) := nuI_ok nu
      have g3 := items_ok g1 on1
      have f3 := items_len (nuI base (absI x - 1)) e2
      unfold oneI at l1
      rw [List.length_append, List.length_singleton] at l1
      unfold F_put_levels_b2
      refine Gv.grd (by omega) (Gv.bnd fun lv hlv => ?_)
      rw [itD_of hx] at hlv
      subst hlv
      show Gv (Rx.bind (noEr (F_SymbolWriter_number ⟨e2⟩ base (absI lv - 1))) _) _
      refine Gv.bind_eq (by rw [put_number g1 nu (by omega), noEr_ok]) (Gv.bind_eq (by rw [put_even g3 (by split <;> decide) (by split <;> decide) (by omega), noEr_ok]) (Gv.bind_eq (a := bsA base lv) rfl (.ok ?_)))
      unfold oneI
      rw [items_app]
      rfl
    · subst p
      rw [List.length_reverse, show (nzs v).reverse.take (nzs v).length = (nzs v).reverse from List.take_of_length_le (by rw [List.length_reverse]; exact Nat.le_refl _)]
      exact .ok rfl
/-! ### read -/
section
variable {O : List Int} {items : List (Int × Int)} {i : Nat} {d : DecS}
theorem get_flag (K : Whole O items) (A : At O items i d) {c b : Int} (h : items[i]? = some (c, b)) (c0 : 0 ≤ c) (c1 : c ≤ 255) : F_SymbolReader_flag ⟨d⟩ c = .ok (decide (b = 1), ⟨decItem d (c, b)⟩) ∧ At O items (i + 1) (decItem d (c, b)) := by
  obtain ⟨e, A'⟩ := read_item K A c0 h
  refine ⟨?_, A'⟩
  unfold F_SymbolReader_flag
  rw [checks_ok (.inr ⟨c0, by omega⟩), bind_ok, e]
  rfl
theorem get_even (K : Whole O items) (A : At O items i d) {b : Int} (h : items[i]? = some (-1, b)) : F_SymbolReader_even ⟨d⟩ = .ok (b, ⟨decItem d (-1, b)⟩) ∧ At O items (i + 1) (decItem d (-1, b)) := by
  obtain ⟨e, A'⟩ := even_read K A h
  refine ⟨?_, A'⟩
  unfold F_SymbolReader_even
  show ((F_Decoder_read_even d).bind _) = _
  rw [e]
  rfl
theorem get_one (K : Whole O items) (A : At O items i d) {base x : Int} (hb : base = 192 ∨ base = 208) (h : -524288 ≤ x ∧ x ≤ 524287) (c : x ≠ 0) (S : Seg items (oneI base x) i) :
    ∃ d1 d2, F_SymbolReader_number ⟨d⟩ base = .ok (absI x - 1, ⟨d1⟩) ∧ F_SymbolReader_even ⟨d1⟩ = .ok (if x < 0 then 1 else 0, ⟨d2⟩) ∧ At O items (i + (oneI base x).length) d2 := by
  unfold oneI at S ⊢
  obtain ⟨d1, e1, A1⟩ := get_number K A (one_nu hb h c) S.left
  obtain ⟨e2, A2⟩ := get_even K A1 (S.right 0 _ rfl)
  refine ⟨d1, _, e1, e2, ?_⟩
  rw [List.length_append, List.length_singleton, ← Nat.add_assoc]
  exact A2
theorem plI_split (st : Int) (v : List Int) (l : Nat) {k m : Nat} (h : k < m) : ∃ R, plI st v l m = plI st v l k ++ (flI st l k (itD v k) ++ R) := by
  induction m with
  | zero => omega
  | succ m ih =>
    rw [plI_succ]
    rcases Nat.lt_or_ge k m with c | c
    · obtain ⟨R, e⟩ := ih c
      exact ⟨R ++ flI st l m (itD v m), by rw [e, List.append_assoc, List.append_assoc]⟩
    · obtain rfl : k = m := by omega
      exact ⟨[], by rw [List.append_nil]⟩
theorem flI_seg {v : List Int} {l k m : Nat} {x : Int} (S : Seg items (plI (stp v) v l m) i) (h : k < m) (hx : v[k]? = some x) : Seg items (flI (stp v) l k x) (i + (plI (stp v) v l k).length) := by
  obtain ⟨R, e⟩ := plI_split (stp v) v l h
  rw [e, itD_of hx] at S
  exact S.right.left
end
theorem setL_at {α : Type} {xs : List α} {j : Nat} {y : α} (h : j < xs.length) : setL xs (j : Int) y = xs.set j y := by
  unfold setL ixN
  rw [if_pos (by omega), if_pos (by omega)]
  rfl
def fill (v : List Int) (z ks : List Int) : List Int := ks.foldl (fun s k => setL s k (itD v k)) z
theorem fill_get {v : List Int} : ∀ {ks z : List Int}, (∀ k ∈ ks, ∃ j : Nat, k = (j : Int) ∧ j < v.length) → z.length = v.length → (fill v z ks).length = v.length ∧ ∀ j : Nat, (fill v z ks)[j]? = if (j : Int) ∈ ks then v[j]? else z[j]?
  | [], z, _, hz => ⟨hz, fun j => by simp [fill]⟩
  | k :: r, z, h, hz => by
    obtain ⟨p, rfl, hp⟩ := h k List.mem_cons_self
    have e : setL z (p : Int) (itD v p) = z.set p (itD v p) := setL_at (by omega)
    obtain ⟨a, b⟩ := fill_get (ks := r) (z := setL z (p : Int) (itD v p)) (fun q hq => h q (List.mem_cons_of_mem _ hq)) (by rw [e, List.length_set]; exact hz)
    refine ⟨a, fun j => ?_⟩
    show (fill v (setL z (p : Int) (itD v p)) r)[j]? = _
    rw [b j]
    by_cases c : (j : Int) ∈ r
    · rw [if_pos c, if_pos (List.mem_cons_of_mem _ c)]
    · rw [if_neg c, e]
      by_cases q : j = p
      · subst q
        rw [if_pos List.mem_cons_self, List.getElem?_set_self (by omega), List.getElem?_eq_getElem hp, itD_of (List.getElem?_eq_getElem hp)]
      · rw [if_neg (fun z => (List.mem_cons.mp z).elim (fun z => q (by omega)) c), List.getElem?_set_ne (by omega)]
theorem fill_whole (v : List Int) : fill v (List.replicate v.length 0) (nzs v).reverse = v := by
  obtain ⟨a, b⟩ := fill_get (v := v) (ks := (nzs v).reverse) (z := List.replicate v.length 0) (fun k hk => by
    obtain ⟨j, x, rfl, hx, _⟩ := nzs_mem (List.mem_reverse.mp hk)
    exact ⟨j, rfl, get_len hx⟩) (by rw [List.length_replicate])
  apply List.ext_getElem?
  intro j
  rw [b j]
  by_cases c : (j : Int) ∈ (nzs v).reverse
  · rw [if_pos c]
  · rw [if_neg c]
    by_cases hj : j < v.length
    · have hv : v[j]? = some v[j] := List.getElem?_eq_getElem hj
      have z : v[j] = 0 := Decidable.byContradiction fun n => c (List.mem_reverse.mpr (nzs_has hv n))
      rw [List.getElem?_replicate, if_pos hj, hv, z]
    · rw [List.getElem?_replicate, if_neg hj, List.getElem?_eq_none (by omega)]
theorem fill_snoc (v z ks : List Int) (k : Int) : fill v z (ks ++ [k]) = setL (fill v z ks) k (itD v k) := by
  unfold fill
  rw [List.foldl_append]
  rfl
/-! ### the law's blocks -/
theorem set_rge {v : List Int} {k y : Int} (h : ∀ x ∈ v, -524288 ≤ x ∧ x ≤ 524287) (hy : -524288 ≤ y ∧ y ≤ 524287) : ∀ x ∈ setL v k y, -524288 ≤ x ∧ x ≤ 524287 := fun x hx => by
  unfold setL at hx
  rcases List.mem_or_eq_of_mem_set hx with z | z
  · exact h x z
  · rw [z]; exact hy
theorem setL_len' {v : List Int} {k y : Int} : (setL v k y).length = v.length := by unfold setL; rw [List.length_set]
section
variable {O : List Int} {items : List (Int × Int)} {i : Nat} {d : DecS}
theorem get_places_ok (K : Whole O items) {v : List Int} (h : Lv v) {l : Nat} (hL : Last v l) (A : At O items i d) (S : Seg items (plI (stp v) v l (min (l + 1) (v.length - 1))) i) :
    ∃ d', F__get_places ⟨d⟩ v.length = .ok (nzs v, ⟨d'⟩) ∧ At O items (i + (plI (stp v) v l (min (l + 1) (v.length - 1))).length) d' := by
  have hn := h.len
  have hl := hL.lt
  have key : Gv (F__get_places ⟨d⟩ v.length) (fun r => ∃ d', r = (nzs v, (⟨d'⟩ : St_SymbolReader)) ∧ At O items (i + (plI (stp v) v l (min (l + 1) (v.length - 1))).length) d') := by
    unfold F__get_places
    refine Gv.grd ⟨by omega, by omega⟩ (Gv.bnd fun st hst => Gv.grd ⟨by omega, by omega⟩ ?_)
    have est : st = stp v := hst
    subst est
    rw [show Int.toNat ((v.length : Int) - 1) = v.length - 1 by omega]
    refine Gv.bind (Gv.forRR (P := fun j (s : St_SymbolReader × List Int) => s.2 = nzs (v.take j) ∧ j ≤ l ∧ At O items (i + (plI (stp v) v l j).length) s.1.dec) (Q := fun r : List Int × St_SymbolReader => ∃ d', r = (nzs v, (⟨d'⟩ : St_SymbolReader)) ∧ At O items (i + (plI (stp v) v l (min (l + 1) (v.length - 1))).length) d') ⟨rfl, Nat.zero_le l, A⟩ fun j x s hx p => ?_) ?_
    · obtain ⟨rfl, hj⟩ := rng_at hx
      obtain ⟨⟨dj⟩, pl⟩ := s
      obtain ⟨p1, p2, p3⟩ := p
      have p1 : pl = nzs (v.take j) := p1
      subst p1
      have p3 : At O items (i + (plI (stp v) v l j).length) dj := p3
      rw [Int.zero_add]
      have hjv : j < v.length := by omega
      have hv : v[j]? = some v[j] := List.getElem?_eq_getElem hjv
      generalize v[j] = x at hv
      have Sf := flI_seg S (k := j) (by omega) hv
      obtain ⟨hs, s0, s1⟩ := stp_in h hjv
      have nl := nzs_len (v.take j)
      rw [List.length_take] at nl
      have es : plI (stp v) v l (j + 1) = plI (stp v) v l j ++ flI (stp v) l j x := by rw [plI_succ, itD_of hv]
      have hw : (-(2 ^ 64) < (stp v : Int) ∧ (stp v : Int) < 2 ^ 64) ∨ (-(2 ^ 64) < (j : Int) ∧ (j : Int) < 2 ^ 64) := .inr ⟨by omega, by omega⟩
      have e0 : items[i + (plI (stp v) v l j).length]? = some (64 + stp v * (j : Int), if x = 0 then 0 else 1) := Sf 0 _ rfl
      obtain ⟨f1, A1⟩ := get_flag K p3 e0 (by omega) (by omega)
      unfold F__get_places_b1
      refine Gv.grd hw (Gv.bind_eq (by rw [f1, noEr_ok]) ?_)
      by_cases c : x = 0
      · refine Gv.neg (by rw [if_pos c]; show ¬ decide ((0 : Int) = 1) = true; decide) (.ok (.inl ⟨_, rfl, ?_, ?_, ?_⟩))
        · show nzs (v.take j) = _
          rw [nzs_step hv, if_pos c, List.append_nil]
        · rcases Nat.lt_or_ge j l with z | z
          · exact z
          · obtain rfl : j = l := by omega
            obtain ⟨⟨y, hy, hny⟩, _⟩ := hL
            rw [hv] at hy
            exact absurd (Option.some.inj hy ▸ c) hny
        · rw [es, List.length_append, ← Nat.add_assoc]
          have : (flI (stp v) l j x).length = 1 := by simp [flI, c]
          rw [this]
          exact A1
      · have e1 : items[i + (plI (stp v) v l j).length + 1]? = some (128 + stp v * (j : Int), if j = l then 1 else 0) := Sf 1 _ (by simp [flI, c])
        obtain ⟨f2, A2⟩ := get_flag K A1 e1 (by omega) (by omega)
        have l2 : (flI (stp v) l j x).length = 2 := by simp [flI, c]
        have en : nzs (v.take j) ++ [(j : Int)] = nzs (v.take (j + 1)) := by rw [nzs_step hv, if_neg c]
        have el : i + (plI (stp v) v l (j + 1)).length = i + (plI (stp v) v l j).length + 1 + 1 := by rw [es, List.length_append, l2]; omega
        refine Gv.pos (by rw [if_neg c]; show decide ((1 : Int) = 1) = true; decide) (Gv.grd (by show (nzs (v.take j)).length ≤ _; omega) (Gv.bnd fun y hy => Gv.grd hw (Gv.bind_eq (by show noEr (F_SymbolReader_flag (⟨decItem dj _⟩ : St_SymbolReader) _) = _; rw [f2, noEr_ok]) ?_)))
        have hy : y = nzs (v.take j) ++ [(j : Int)] := hy
        rw [en] at hy
        subst hy
        by_cases q : j = l
        · subst q
          refine Gv.pos (by rw [if_pos rfl]; show decide ((1 : Int) = 1) = true; decide) (.ok (.inr ⟨_, rfl, decItem (decItem dj (64 + stp v * (j : Int), if x = 0 then 0 else 1)) (128 + stp v * (j : Int), if j = j then 1 else 0), ?_, ?_⟩))
          · show (nzs (v.take (j + 1)), (⟨decItem (decItem dj (64 + stp v * (j : Int), if x = 0 then 0 else 1)) (128 + stp v * (j : Int), if j = j then 1 else 0)⟩ : St_SymbolReader)) = _
            rw [nzs_last hL (j + 1) (by omega) (by omega), ← nzs_whole hL]
          · rw [show min (j + 1) (v.length - 1) = j + 1 by omega, el]
            exact A2
        · refine Gv.neg (by rw [if_neg q]; show ¬ decide ((0 : Int) = 1) = true; decide) (.ok (.inl ⟨_, rfl, rfl, by omega, ?_⟩))
          rw [el]
          exact A2
    · rintro _ (⟨s, rfl, p1, p2, p3⟩ | ⟨r, rfl, q⟩)
      · rw [rng_len] at p1 p2 p3
        have hle : l = v.length - 1 := by omega
        show Gv (F__get_places_r1 _ _ _) _
        unfold F__get_places_r1
        have nl := nzs_len (v.take (v.length - 1))
        rw [List.length_take] at nl
        refine Gv.grd (by rw [p1]; show _ + 1 ≤ _; omega) (.ok ⟨s.1.dec, ?_, ?_⟩)
        · rw [p1, ← hle, show (v.length : Int) - 1 = (l : Int) by omega, ← nzs_whole hL]
        · rw [show min (l + 1) (v.length - 1) = v.length - 1 by omega]
          exact p3
      · exact .ok q
  obtain ⟨r, e, d', rfl, A'⟩ := key
  exact ⟨d', e, A'⟩
theorem get_levels_ok (K : Whole O items) {v : List Int} (h : Lv v) {l : Nat} (hL : Last v l) {sz : Int} (hz : sz = 4 ∧ v.length = 16 ∨ sz = 8 ∧ v.length = 64) (A : At O items i d) (S : Seg items (blkI v l) i) :
    ∃ d', F_get_levels ⟨d⟩ sz = .ok (v, ⟨d'⟩) ∧ At O items (i + (blkI v l).length) d' := by
  have hn := h.len
  have hsz : sz * sz = (v.length : Int) := by rcases hz with ⟨rfl, e⟩ | ⟨rfl, e⟩ <;> rw [e] <;> decide
  have hcs : F_check_size sz = .ok () := by rcases hz with ⟨rfl, e⟩ | ⟨rfl, e⟩ <;> rfl
  have hw : (-(2 ^ 64) < sz ∧ sz < 2 ^ 64) ∨ (-(2 ^ 64) < sz ∧ sz < 2 ^ 64) := .inl ⟨by omega, by omega⟩
  unfold blkI at S ⊢
  obtain ⟨d1, e1, A1⟩ := get_places_ok K h hL A S.left
  have S2 := S.right
  rw [List.length_append, ← Nat.add_assoc]
  generalize i + (plI (stp v) v l (min (l + 1) (v.length - 1))).length = i1 at A1 S2 ⊢
  have nl := nzs_len v
  have key : Gv (F_get_levels ⟨d⟩ sz) (fun r => ∃ d', r = (v, (⟨d'⟩ : St_SymbolReader)) ∧ At O items (i1 + (lvI 192 (rv v)).length) d') := by
    unfold F_get_levels
    rw [hsz]
    refine Gv.bind_eq hcs (Gv.grd hw (Gv.grd ⟨by omega, by omega, by rw [Int.toNat_natCast, List.length_singleton]; omega⟩ (Gv.grd hw (Gv.bind_eq e1 ?_))))
    show Gv (Rx.bind (forS (nzs v).reverse ((⟨d1⟩ : St_SymbolReader), repL [0] (v.length : Int), (192 : Int)) _) _) _
    rw [rep1, Int.toNat_natCast]
    refine Gv.bind (Gv.forS (P := fun j (s : St_SymbolReader × List Int × Int) => s.2.1 = fill v (List.replicate v.length 0) ((nzs v).reverse.take j) ∧ s.2.2 = bs 192 ((rv v).take j) ∧ At O items (i1 + (lvI 192 ((rv v).take j)).length) s.1.dec) ⟨rfl, rfl, A1⟩ fun j k s hk p => ?_) fun s p => ?_
    · have hj := get_len hk
      rw [List.length_reverse] at hj
      obtain ⟨⟨dj⟩, lev, sm⟩ := s
      obtain ⟨p1, p2, p3⟩ := p
      have r1 : lev = fill v (List.replicate v.length 0) ((nzs v).reverse.take j) := p1
      have p2 : sm = bs 192 ((rv v).take j) := p2
      have p3 : At O items (i1 + (lvI 192 ((rv v).take j)).length) dj := p3
      have hmem := List.mem_reverse.mp (List.mem_of_getElem? hk)
      obtain ⟨q, y, rfl, hy, hny⟩ := nzs_mem hmem
      have hq := get_len hy
      have hyr := h.rge y (List.mem_of_getElem? hy)
      have hrv : (rv v)[j]? = some y := by
        unfold rv
        rw [List.getElem?_map, hk]
        show some (itD v (q : Int)) = _
        rw [itD_of hy]
      have et : (rv v).take (j + 1) = (rv v).take j ++ [y] := by rw [List.take_add_one, hrv]; rfl
      have ek : (nzs v).reverse.take (j + 1) = (nzs v).reverse.take j ++ [(q : Int)] := by rw [List.take_add_one, hk]; rfl
      have hb : bs 192 ((rv v).take j) = 192 ∨ bs 192 ((rv v).take j) = 208 := bs_in (.inl rfl)
      have So : Seg items (oneI (bs 192 ((rv v).take j)) y) (i1 + (lvI 192 ((rv v).take j)).length) := by
        have e : rv v = ((rv v).take j ++ [y]) ++ (rv v).drop (j + 1) := by rw [← et, List.take_append_drop]
        have e2 : ∃ R, lvI 192 (rv v) = lvI 192 ((rv v).take j) ++ (oneI (bs 192 ((rv v).take j)) y ++ R) := by
          rw [e]
          generalize (rv v).drop (j + 1) = T
          have z : ∀ (a b : List Int) (base : Int), lvI base (a ++ b) = lvI base a ++ lvI (bs base a) b := by
            intro a
            induction a with
            | nil => intro b base; rfl
            | cons x r ih =>
              intro b base
              rw [List.cons_append, lvI, lvI, ih, List.append_assoc]
              rfl
          refine ⟨lvI (bs 192 ((rv v).take j ++ [y])) T, ?_⟩
          have z1 := z ((rv v).take j ++ [y]) T 192
          rw [z1, lvI_snoc, List.append_assoc, List.take_append_of_le_length (by rw [List.length_append, List.length_take]; have := get_len hrv; simp; omega), List.take_append_of_le_length (by rw [List.length_take]; have := get_len hrv; omega), List.take_take, Nat.min_self]
        obtain ⟨R, e2⟩ := e2
        rw [e2] at S2
        exact S2.right.left
      obtain ⟨d2, d3, n1, n2, A3⟩ := get_one K p3 hb hyr hny So
      have habs := abs_in hyr hny
      subst p2
      have fl : lev.length = v.length := by
        rw [r1]
        exact (fill_get (v := v) (fun k hk => by
          obtain ⟨a, b, rfl, hb, _⟩ := nzs_mem (List.mem_reverse.mp (List.mem_of_mem_take hk))
          exact ⟨a, rfl, get_len hb⟩) (by rw [List.length_replicate])).1
      have fin : At O items (i1 + (lvI 192 ((rv v).take (j + 1))).length) d3 := by
        rw [et, lvI_snoc, List.length_append, ← Nat.add_assoc]
        exact A3
      have efill : fill v (List.replicate v.length 0) ((nzs v).reverse.take (j + 1)) = setL lev (q : Int) y := by rw [ek, fill_snoc, ← r1, itD_of hy]
      have eclip : F_clip y (-524288) 524287 = .ok y := by
        unfold F_clip
        by_cases c : (-524288 : Int) > y
        · omega
        · rw [if_neg c, if_neg (by omega)]
      have eb : F__base_after (bs 192 ((rv v).take j)) (absI y) = .ok (bsA (bs 192 ((rv v).take j)) y) := rfl
      have hgr : -(lev.length : Int) ≤ (q : Int) ∧ (q : Int) < (lev.length : Int) := by omega
      unfold F_get_levels_b1
      refine Gv.bind_eq (by rw [n1, noEr_ok]) (Gv.bnd fun w hw => Gv.bind_eq (by show noEr (F_SymbolReader_even ⟨d2⟩) = _; rw [n2, noEr_ok]) ?_)
      have hw : w = absI y := by
        have hw : w = absI y - 1 + 1 := hw
        omega
      subst hw
      refine Gv.ite (fun c => Gv.bnd fun u hu => ?_) fun c => ?_
      · have c : (if y < 0 then (1 : Int) else 0) = 1 := c
        have hneg : y < 0 := by
          refine Decidable.byContradiction fun z => ?_
          rw [if_neg z] at c
          cases c
        have z : absI y = -y := if_pos hneg
        have hu : u = y := by rw [hu, z, Int.neg_neg]
        subst hu
        refine Gv.bind_eq (by rw [eclip, noEr_ok]) (Gv.grd hgr (Gv.bnd fun t ht => Gv.bind_eq (by show noEr (F__base_after (bs 192 ((rv v).take j)) (absI u)) = _; rw [eb, noEr_ok]) (.ok ⟨?_, ?_, fin⟩)))
        · rw [efill]; exact ht
        · rw [et, bs_snoc]
      · have c : ¬ (if y < 0 then (1 : Int) else 0) = 1 := c
        have hnn : ¬ y < 0 := fun z => c (if_pos z)
        have z : absI y = y := if_neg hnn
        refine Gv.bind_eq (by rw [z, eclip, noEr_ok]) (Gv.grd hgr (Gv.bnd fun t ht => Gv.bind_eq (by show noEr (F__base_after (bs 192 ((rv v).take j)) (absI y)) = _; rw [eb, noEr_ok]) (.ok ⟨?_, ?_, fin⟩)))
        · rw [efill]; exact ht
        · rw [et, bs_snoc]
    · obtain ⟨p1, p2, p3⟩ := p
      rw [List.length_reverse] at p1 p3
      unfold F_get_levels_r1
      refine .ok ⟨s.1.dec, ?_, ?_⟩
      · rw [p1, List.take_of_length_le (by rw [List.length_reverse]; omega), fill_whole]
      · rw [List.take_of_length_le (by unfold rv; rw [List.length_map, List.length_reverse]; omega)] at p3
        exact p3
  obtain ⟨r, e, d', rfl, A'⟩ := key
  exact ⟨d', e, A'⟩
end
/-! numbers read from any octets (anyread without choices and signs) -/
section
variable {d : DecS}
theorem rd_bit (g : DecG d) {c : Int} (h0 : 0 ≤ c) (h1 : c < 256) : Gv (F_Decoder_read d c) (fun r => (0 ≤ r.1 ∧ r.1 ≤ 1) ∧ DecG r.2) := .of_eq (read_eq g h0 h1) ⟨bit_in d _, read_ok g h0 h1⟩
theorem rd_even (g : DecG d) : Gv (F_Decoder_read_even d) (fun r => (0 ≤ r.1 ∧ r.1 ≤ 1) ∧ DecG r.2) := .of_eq (reven_eq g) ⟨bit_in d _, decide_ok g ⟨by decide, by decide⟩⟩
theorem rd_unary (g : DecG d) {base most : Int} (h : UnOk base most) : Gv (F_SymbolReader_unary ⟨d⟩ base most) (fun r => (0 ≤ r.1 ∧ r.1 ≤ most) ∧ DecG r.2.dec) := by
  unfold F_SymbolReader_unary
  refine Gv.bind_eq (un_check h) (Gv.bind (Gv.whileR (P := fun s : St_SymbolReader × Int => (0 ≤ s.2 ∧ s.2 ≤ most) ∧ DecG s.1.dec) (R := fun s : St_SymbolReader × Int => (0 ≤ s.2 ∧ s.2 ≤ most) ∧ DecG s.1.dec) (fun s => (most - s.2).toNat) (fun s p => ?_) ⟨⟨Int.le_refl 0, h.1⟩, g⟩ (by have := h.2.1; show (most - 0).toNat < 1000000; omega)) ?_)
  · obtain ⟨⟨dd⟩, v⟩ := s
    obtain ⟨⟨p0, p1⟩, p2⟩ := p
    have p0 : 0 ≤ v := p0
    have p1 : v ≤ most := p1
    unfold F_SymbolReader_unary_b1
    refine Gv.ite (fun c => ?_) fun c => .ok (.inr ⟨_, rfl, ⟨p0, p1⟩, p2⟩)
    have c : v < most := c
    have cx := un_ctx h p0 c
    refine Gv.bind (Gv.noEr (rd_bit p2 (c := base + cap v) cx.1 (by omega))) fun r hr => Gv.ite (fun q => Gv.bnd fun w hw => .ok (.inl ⟨_, rfl, ⟨⟨?_, ?_⟩, hr.2⟩, ?_⟩)) fun q => .ok (.inr ⟨_, rfl, ⟨p0, p1⟩, hr.2⟩)
    · show 0 ≤ w
      have hw : w = v + 1 := hw
      omega
    · show w ≤ most
      have hw : w = v + 1 := hw
      omega
    · show (most - w).toNat < (most - v).toNat
      have hw : w = v + 1 := hw
      omega
  · rintro _ ⟨s, rfl, p⟩
    exact .ok p
theorem rd_number (g : DecG d) {base : Int} (b0 : 0 ≤ base) (b1 : base ≤ 240) : Gv (F_SymbolReader_number ⟨d⟩ base) (fun r => (0 ≤ r.1 ∧ r.1 ≤ 1048576) ∧ DecG r.2.dec) := by
  have hu : UnOk base 20 := ⟨by decide, by decide, .inr ⟨b0, by rw [if_pos (by decide)]; omega⟩⟩
  unfold F_SymbolReader_number
  refine Gv.bind_eq (checks_ok (.inr ⟨b0, by omega⟩)) (Gv.bind (rd_unary g hu) fun u hu => Gv.bind (P := fun s : St_SymbolReader × Int => 1 ≤ s.2 ∧ DecG s.1.dec) (Gv.ite (fun c => ?_) fun c => .ok ⟨Int.le_refl 1, hu.2⟩) fun s hs => ?_)
  · refine Gv.bind (P := fun x => 0 ≤ x ∧ x < 256) (Gv.noEr ?_) fun x hx => Gv.bind (Gv.noEr (rd_bit hu.2 hx.1 hx.2)) fun r hr => Gv.bnd fun z hz => .ok ⟨?_, hr.2⟩
    · unfold F__digit_context
      refine .ok ?_
      have := hu.1.2
      split <;> omega
    · show 1 ≤ z
      have := hr.1.1
      omega
  · obtain ⟨⟨dd⟩, v⟩ := s
    show Gv (F_SymbolReader_number_k1 u.1 ⟨dd⟩ v) _
    have h1 : 1 ≤ v := hs.1
    have h2 : DecG dd := hs.2
    unfold F_SymbolReader_number_k1
    refine Gv.grd (by have := hu.1; omega) (Gv.bind (Gv.forS (P := fun _ (s : St_SymbolReader × Int) => 1 ≤ s.2 ∧ DecG s.1.dec) ⟨h1, h2⟩ fun i x s _ p => ?_) fun s p => ?_)
    · obtain ⟨⟨de⟩, y⟩ := s
      have p1 : 1 ≤ y := p.1
      unfold F_SymbolReader_number_b2
      refine Gv.bind (Gv.noEr (rd_even p.2)) fun r hr => Gv.bnd fun z hz => .ok ⟨?_, hr.2⟩
      show 1 ≤ z
      have hz : z = 2 * y + r.1 := hz
      have := hr.1.1
      omega
    · obtain ⟨⟨de⟩, y⟩ := s
      have p1 : 1 ≤ y := p.1
      have p2 : DecG de := p.2
      show Gv (F_SymbolReader_number_r2 ⟨de⟩ y) _
      unfold F_SymbolReader_number_r2
      refine .ok ⟨?_, p2⟩
      show 0 ≤ (if 1048576 < y - 1 then 1048576 else y - 1) ∧ (if 1048576 < y - 1 then 1048576 else y - 1) ≤ 1048576
      split <;> omega
end
/-! k49 -/
theorem gv_go {σ ρ β : Type} {s : σ} {r : ρ → Rx β} {k : σ → Rx β} {Q : β → Prop} (h : Gv (k s) Q) : Gv ((Lp.go s : Lp σ ρ).aft r k) Q := h
theorem gv_rt {σ ρ β : Type} {x : ρ} {r : ρ → Rx β} {k : σ → Rx β} {Q : β → Prop} (h : Gv (r x) Q) : Gv ((Lp.rt x : Lp σ ρ).aft r k) Q := h
/-! ### levels from any octets -/
theorem rd_flag {d : DecS} (g : DecG d) {c : Int} (h0 : 0 ≤ c) (h1 : c ≤ 255) : Gv (F_SymbolReader_flag ⟨d⟩ c) (fun r => DecG r.2.dec) := by
  unfold F_SymbolReader_flag
  exact Gv.bind_eq (checks_ok (.inr ⟨h0, by omega⟩)) (Gv.bind (rd_bit g h0 (by omega)) fun r hr => .ok hr.2)
theorem rd_sign {d : DecS} (g : DecG d) : Gv (F_SymbolReader_even ⟨d⟩) (fun r => (0 ≤ r.1 ∧ r.1 ≤ 1) ∧ DecG r.2.dec) := by
  unfold F_SymbolReader_even
  exact Gv.bind (rd_even g) fun r hr => .ok hr
/-- places -/
def PlOk (n : Int) (p : List Int) : Prop := (0 < p.length ∧ p.length ≤ 64) ∧ ∀ k ∈ p, 0 ≤ k ∧ k < n
theorem places_any {d : DecS} (g : DecG d) {n : Int} (hn : n = 16 ∨ n = 64) : Gv (F__get_places ⟨d⟩ n) (fun r => PlOk n r.1 ∧ DecG r.2.dec) := by
  unfold F__get_places
  refine Gv.grd ⟨by omega, by omega⟩ (Gv.bnd fun st hst => Gv.grd ⟨by omega, by omega⟩ ?_)
  have hs : st = 4 ∧ n = 16 ∨ st = 1 ∧ n = 64 := by rcases hn with rfl | rfl <;> omega
  refine Gv.bind (Gv.forRR (P := fun j (s : St_SymbolReader × List Int) => (s.2.length ≤ j ∧ ∀ k ∈ s.2, 0 ≤ k ∧ k < n) ∧ DecG s.1.dec) (Q := fun r : List Int × St_SymbolReader => PlOk n r.1 ∧ DecG r.2.dec) ⟨⟨Nat.le_refl 0, fun k hk => nomatch hk⟩, g⟩ fun j x s hx p => ?_) ?_
  · obtain ⟨rfl, hj⟩ := rng_at hx
    obtain ⟨⟨dj⟩, pl⟩ := s
    obtain ⟨⟨p1, p2⟩, p3⟩ := p
    have p1 : pl.length ≤ j := p1
    have hx0 : 0 ≤ st * (0 + (j : Int)) ∧ st * (0 + (j : Int)) ≤ 63 := by rcases hs with ⟨rfl, rfl⟩ | ⟨rfl, rfl⟩ <;> omega
    have hw : (-(2 ^ 64) < (st : Int) ∧ (st : Int) < 2 ^ 64) ∨ (-(2 ^ 64) < (0 + (j : Int)) ∧ (0 + (j : Int)) < 2 ^ 64) := .inl ⟨by omega, by omega⟩
    unfold F__get_places_b1
    refine Gv.grd hw (Gv.bind (Gv.noEr (rd_flag p3 (c := 64 + st * (0 + (j : Int))) (by omega) (by omega))) fun r hr => Gv.ite (fun c => ?_) fun c => .ok (.inl ⟨_, rfl, ⟨by show pl.length ≤ j + 1; omega, p2⟩, hr⟩))
    have ap : ∀ k ∈ pl ++ [0 + (j : Int)], 0 ≤ k ∧ k < n := fun k hk => by
      rcases List.mem_append.mp hk with q | q
      · exact p2 k q
      · rw [List.mem_singleton.mp q]; omega
    refine Gv.grd (by show pl.length ≤ _; omega) (Gv.bnd fun y hy => Gv.grd hw (Gv.bind (Gv.noEr (rd_flag hr (c := 128 + st * (0 + (j : Int))) (by omega) (by omega))) fun r2 hr2 => ?_))
    have hy : y = pl ++ [0 + (j : Int)] := hy
    subst hy
    have yl : (pl ++ [0 + (j : Int)]).length = pl.length + 1 := by rw [List.length_append]; rfl
    exact Gv.ite (fun c => .ok (.inr ⟨_, rfl, ⟨⟨by show 0 < (pl ++ [0 + (j : Int)]).length; omega, by show (pl ++ [0 + (j : Int)]).length ≤ 64; omega⟩, ap⟩, hr2⟩)) fun c => .ok (.inl ⟨_, rfl, ⟨by show (pl ++ [0 + (j : Int)]).length ≤ j + 1; omega, ap⟩, hr2⟩)
  · rintro _ (⟨s, rfl, p⟩ | ⟨r, rfl, q⟩)
    · obtain ⟨⟨p1, p2⟩, p3⟩ := p
      rw [rng_len] at p1
      refine gv_go ?_
      unfold F__get_places_r1
      have yl : (s.2 ++ [n - 1]).length = s.2.length + 1 := by rw [List.length_append]; rfl
      refine Gv.grd (by show s.2.length + 1 ≤ _; omega) (.ok ⟨⟨⟨by show 0 < (s.2 ++ [n - 1]).length; omega, by show (s.2 ++ [n - 1]).length ≤ 64; omega⟩, fun k hk => ?_⟩, p3⟩)
      rcases List.mem_append.mp hk with q | q
      · exact p2 k q
      · rw [List.mem_singleton.mp q]; omega
    · exact gv_rt (.ok q)
theorem clip_eq (x : Int) : F_clip x (-524288) 524287 = .ok (if 524287 < (if (-524288 : Int) > x then -524288 else x) then 524287 else (if (-524288 : Int) > x then -524288 else x)) := rfl
theorem clip_in {x : Int} (h : x ≠ 0) : Gv (F_clip x (-524288) 524287) (fun y => (-524288 ≤ y ∧ y ≤ 524287) ∧ y ≠ 0) := by
  refine .of_eq (clip_eq x) ?_
  split <;> split at * <;> omega
theorem after_gv {base w : Int} (h : base = 192 ∨ base = 208) : Gv (F__base_after base w) (fun b => b = 192 ∨ b = 208) := by
  unfold F__base_after
  refine .ok ?_
  split
  · exact .inr rfl
  · exact h
/-- the list as it is being filled -/
def Fil (n : Nat) (j : Nat) (v : List Int) : Prop := v.length = n ∧ (∀ x ∈ v, -524288 ≤ x ∧ x ≤ 524287) ∧ (0 < j → ∃ x ∈ v, x ≠ 0)
theorem fil_set {n j : Nat} {v : List Int} {k y : Int} (h : Fil n j v) (k0 : 0 ≤ k) (k1 : k < n) (hy : (-524288 ≤ y ∧ y ≤ 524287) ∧ y ≠ 0) : Fil n (j + 1) (setL v k y) := by
  obtain ⟨a, b, c⟩ := h
  refine ⟨by rw [setL_len']; exact a, set_rge b hy.1, fun _ => ⟨y, ?_, hy.2⟩⟩
  obtain ⟨q, rfl⟩ : ∃ q : Nat, k = (q : Int) := ⟨k.toNat, by omega⟩
  rw [setL_at (by omega)]
  exact List.mem_iff_getElem?.mpr ⟨q, List.getElem?_set_self (by omega)⟩
theorem levels_any {d : DecS} (g : DecG d) {sz : Int} {n : Nat} (hz : sz = 4 ∧ n = 16 ∨ sz = 8 ∧ n = 64) : Gv (F_get_levels ⟨d⟩ sz) (fun r => (Lv r.1 ∧ r.1.length = n) ∧ DecG r.2.dec) := by
  have hsz : sz * sz = (n : Int) := by rcases hz with ⟨rfl, e⟩ | ⟨rfl, e⟩ <;> rw [e] <;> decide
  have hcs : F_check_size sz = .ok () := by rcases hz with ⟨rfl, e⟩ | ⟨rfl, e⟩ <;> rfl
  have hw : (-(2 ^ 64) < sz ∧ sz < 2 ^ 64) ∨ (-(2 ^ 64) < sz ∧ sz < 2 ^ 64) := .inl ⟨by omega, by omega⟩
  have hn : n = 16 ∨ n = 64 := by omega
  unfold F_get_levels
  rw [hsz]
  refine Gv.bind_eq hcs (Gv.grd hw (Gv.grd ⟨by omega, by omega, by rw [Int.toNat_natCast, List.length_singleton]; omega⟩ (Gv.grd hw (Gv.bind (places_any g (n := (n : Int)) (by omega)) fun r hr => ?_))))
  obtain ⟨⟨⟨l0, l1⟩, pin⟩, g1⟩ := hr
  have z0 : Fil n 0 (repL [0] (n : Int)) := by
    refine ⟨?_, fun x hx => ?_, fun z => absurd z (Nat.lt_irrefl 0)⟩
    · rw [rep1, Int.toNat_natCast, List.length_replicate]
    · rw [rep1, Int.toNat_natCast] at hx
      rw [(List.mem_replicate.mp hx).2]
      decide
  refine Gv.bind (Gv.forS (P := fun j (s : St_SymbolReader × List Int × Int) => Fil n j s.2.1 ∧ (s.2.2 = 192 ∨ s.2.2 = 208) ∧ DecG s.1.dec) ⟨z0, .inl rfl, g1⟩ fun j k s hk p => ?_) fun s p => ?_
  · obtain ⟨⟨dj⟩, lev, base⟩ := s
    obtain ⟨p1, p2, p3⟩ := p
    have p1 : Fil n j lev := p1
    have p2 : base = 192 ∨ base = 208 := p2
    have km := pin k (List.mem_reverse.mp (List.mem_of_getElem? hk))
    have ll := p1.1
    have hg : -(lev.length : Int) ≤ k ∧ k < (lev.length : Int) := by omega
    unfold F_get_levels_b1
    refine Gv.bind (Gv.noEr (rd_number p3 (base := base) (by omega) (by omega))) fun r hr => Gv.bnd fun w hw => Gv.bind (Gv.noEr (rd_sign hr.2)) fun q hq => ?_
    have w1 : 1 ≤ w := by
      have hw : w = r.1 + 1 := hw
      have := hr.1.1
      omega
    refine Gv.ite (fun c => Gv.bnd fun u hu => Gv.bind (Gv.noEr (clip_in (x := u) (by have hu : u = -w := hu; omega))) fun y hy => Gv.grd hg (Gv.bnd fun t ht => Gv.bind (Gv.noEr (after_gv p2)) fun b hb => .ok ⟨?_, hb, hq.2⟩)) fun c => Gv.bind (Gv.noEr (clip_in (x := w) (by omega))) fun y hy => Gv.grd hg (Gv.bnd fun t ht => Gv.bind (Gv.noEr (after_gv p2)) fun b hb => .ok ⟨?_, hb, hq.2⟩)
    · show Fil n (j + 1) t
      rw [ht]
      exact fil_set p1 km.1 km.2 hy
    · show Fil n (j + 1) t
      rw [ht]
      exact fil_set p1 km.1 km.2 hy
  · obtain ⟨⟨a, b, c⟩, _, p3⟩ := p
    unfold F_get_levels_r1
    refine .ok ⟨⟨⟨by rw [a]; exact hn, b, c (by rw [List.length_reverse]; exact l0)⟩, a⟩, p3⟩
/-! k49 two -/
/-! ### refused -/
theorem check_er {v : List Int} (h : ¬ Lv v) : F__check_levels v = .er 2 := by
  unfold F__check_levels
  by_cases a : ((v.length : Int)) ∈ ([16, 64] : List Int)
  · have hl : v.length = 16 ∨ v.length = 64 := by
      simp only [List.mem_cons, List.not_mem_nil, or_false] at a
      omega
    have ne : v ≠ [] := by intro z; rw [z] at hl; simp at hl
    have mn := minL_spec v ne
    have mx := maxL_spec v ne
    rw [if_pos a, grd_pos ne]
    by_cases b : minL v < -524288
    · rw [if_pos b]
    · rw [if_neg b, grd_pos ne]
      by_cases c : 524287 < maxL v
      · rw [if_pos c]
      · rw [if_neg c, if_neg]
        intro z
        obtain ⟨x, hx, e⟩ := List.any_eq_true.mp z
        exact h ⟨hl, fun y hy => by have := mn.2 y hy; have := mx.2 y hy; omega, x, hx, by simpa using e⟩
  · rw [if_neg a]
theorem prob_eq {e : EncS} (g : EncG e) {c : Int} (h0 : 0 ≤ c) (h1 : c < 256) : F_Encoder_probability e c = .ok (itD e.probs c) := by
  unfold F_Encoder_probability F__check_context
  rw [if_pos h0, if_pos h1, bind_ok, grd_pos (by rw [g.len]; omega)]
theorem nu77 : NuOk 192 77 := ⟨by decide, by decide, by decide, by decide⟩
theorem refused_ok {v : List Int} (h : ¬ Lv v) : F__law_refused v = .ok true := by
  have ge := items_ok init_ok (nuI_ok nu77)
  have le := items_len (nuI 192 77) encInit
  have e0 : encInit.front.length = 0 := rfl
  have ln : (nuI 192 77).length ≤ 200 := by decide +kernel
  generalize hE : encItems encInit (nuI 192 77) = E at ge le
  have o : F_Encoder_octets E = .ok (encOctets E) := octets_eq (by omega)
  have on : noEr (F_Encoder_octets E) = .ok (encOctets E) := by rw [o]; rfl
  have c1 : mapA (rng 0 (Int.toNat 256)) [] (fun x => noEr (F__law_refused_c1 E x)) = .ok ((rng 0 (Int.toNat 256)).map fun x => itD E.probs x) := mapA_pure0 (fun x hx => by
    have m := rng_mem hx
    unfold F__law_refused_c1
    rw [prob_eq ge m.1 (by have := m.2; omega)]
    rfl) (by rw [rng_len]; decide)
  have c2 : mapA (rng 0 (Int.toNat 256)) [] (fun x => noEr (F__law_refused_c2 E x)) = .ok ((rng 0 (Int.toNat 256)).map fun x => itD E.probs x) := mapA_pure0 (fun x hx => by
    have m := rng_mem hx
    unfold F__law_refused_c2
    rw [prob_eq ge m.1 (by have := m.2; omega)]
    rfl) (by rw [rng_len]; decide)
  have er : F_put_levels ⟨E⟩ v = .er 2 := by
    unfold F_put_levels
    rw [check_er h]
    rfl
  refine Gv.get ?_
  unfold F__law_refused
  refine Gv.bind_eq init_put (Gv.bind_eq (a := (⟨encInit⟩ : St_SymbolWriter)) rfl (Gv.bind_eq (put_number init_ok nu77 (by decide)) ?_))
  rw [hE]
  refine Gv.bind_eq o (Gv.bind_eq c1 (Gv.tryEr er (by decide) (Gv.bind_eq on (Gv.bind_eq c2 (Gv.bnd fun same hs => Gv.pos ?_ (.ok rfl))))))
  rw [hs]
  exact decide_eq_true rfl
/-! k49 three -/
/-! ### far levels -/
def farI (m sg : Int) : List (Int × Int) := [(64, 1)] ++ ([(128, 1)] ++ (nuI 192 (m - 1) ++ [(-1, sg)]))
def capL (x : Int) : Int := if 524287 < (if (-524288 : Int) > x then -524288 else x) then 524287 else (if (-524288 : Int) > x then -524288 else x)
section
variable {O : List Int} {items : List (Int × Int)} {d : DecS} {m sg c z : Int}
theorem far_places (hc : c = 16 ∨ c = 64) {d1 d2 : DecS} (f1 : F_SymbolReader_flag ⟨d⟩ 64 = .ok (true, ⟨d1⟩)) (f2 : F_SymbolReader_flag ⟨d1⟩ 128 = .ok (true, ⟨d2⟩)) : F__get_places ⟨d⟩ c = .ok ([0], ⟨d2⟩) := by
  have hr : ∃ T, rng 0 (Int.toNat (c - 1)) = 0 :: T := by
    rcases hc with rfl | rfl
    · exact ⟨(rng 0 15).tail, by decide +kernel⟩
    · exact ⟨(rng 0 63).tail, by decide +kernel⟩
  obtain ⟨T, hr⟩ := hr
  have b1 : ∀ st : Int, F__get_places_b1 st ⟨d⟩ [] 0 = .ok (.rt ([0], ⟨d2⟩)) := fun st => by
    refine Gv.get ?_
    unfold F__get_places_b1
    rw [Int.mul_zero, Int.add_zero, Int.add_zero]
    refine Gv.grd (.inr ⟨by decide, by decide⟩) (Gv.bind_eq (by rw [f1, noEr_ok]) (Gv.pos rfl (Gv.grd (by decide) (Gv.bnd fun y hy => Gv.grd (.inr ⟨by decide, by decide⟩) (Gv.bind_eq (by show noEr (F_SymbolReader_flag ⟨d1⟩ 128) = _; rw [f2, noEr_ok]) (Gv.pos rfl (.ok ?_)))))))
    rw [hy]
    rfl
  refine Gv.get ?_
  unfold F__get_places
  refine Gv.grd ⟨by omega, by omega⟩ (Gv.bnd fun st hst => Gv.grd ⟨by omega, by omega⟩ ?_)
  rw [hr]
  refine Gv.bind_eq (a := .rt ([0], ⟨d2⟩)) ?_ ?_
  · unfold forR
    show ((F__get_places_b1 st ⟨d⟩ [] 0).bind _) = _
    rw [b1 st]
    rfl
  · exact (Gv.ok rfl : Gv (Rx.ok (([0], ⟨d2⟩) : List Int × St_SymbolReader)) (fun v => v = ([0], ⟨d2⟩)))
theorem far_read (K : Whole O items) (A : At O items 0 d) (S : Seg items (farI m sg) 0) (hz : z = 4 ∧ c = 16 ∨ z = 8 ∧ c = 64) (hm : 1 ≤ m ∧ m ≤ 1048577) : ∃ r, F_get_levels ⟨d⟩ z = .ok (setL (repL [0] c) 0 (capL (if sg = 1 then -m else m)), r) := by
  have nu : NuOk 192 (m - 1) := ⟨by decide, by decide, by omega, by omega⟩
  have hc : c = 16 ∨ c = 64 := by omega
  unfold farI at S
  obtain ⟨f1, A1⟩ := get_flag K A (S.left 0 _ rfl) (by decide) (by decide)
  generalize decItem d (64, 1) = d1 at f1 A1
  obtain ⟨f2, A2⟩ := get_flag K A1 (S.right.left 0 _ rfl) (by decide) (by decide)
  generalize decItem d1 (128, 1) = d2 at f2 A2
  obtain ⟨d3, e3, A3⟩ := get_number K A2 nu S.right.right.left
  obtain ⟨e4, A4⟩ := get_even K A3 (S.right.right.right 0 _ rfl)
  generalize decItem d3 (-1, sg) = d4 at e4
  have hsz : z * z = c := by rcases hz with ⟨rfl, rfl⟩ | ⟨rfl, rfl⟩ <;> rfl
  have hcs : F_check_size z = .ok () := by rcases hz with ⟨rfl, e⟩ | ⟨rfl, e⟩ <;> rfl
  have hw : (-(2 ^ 64) < z ∧ z < 2 ^ 64) ∨ (-(2 ^ 64) < z ∧ z < 2 ^ 64) := .inl ⟨by omega, by omega⟩
  have rl : (repL [(0 : Int)] c).length = c.toNat := by rw [rep1, List.length_replicate]
  have hg : -((repL [(0 : Int)] c).length : Int) ≤ 0 ∧ 0 < ((repL [(0 : Int)] c).length : Int) := by omega
  have b1 : F_get_levels_b1 ⟨d2⟩ (repL [0] c) 192 0 = .ok (⟨d4⟩, setL (repL [0] c) 0 (capL (if sg = 1 then -m else m)), if 1 < m then (192 + 16) else 192) := by
    refine Gv.get ?_
    unfold F_get_levels_b1
    refine Gv.bind_eq (by rw [e3, noEr_ok]) (Gv.bnd fun w hw => Gv.bind_eq (by show noEr (F_SymbolReader_even ⟨d3⟩) = _; rw [e4, noEr_ok]) ?_)
    have hw : w = m := by
      have hw : w = m - 1 + 1 := hw
      omega
    subst hw
    refine Gv.ite (fun q => Gv.bnd fun u hu => Gv.bind_eq (a := capL u) rfl (Gv.grd hg (Gv.bnd fun t ht => Gv.bind_eq (a := if 1 < w then (192 + 16) else 192) rfl (.ok ?_)))) fun q => Gv.bind_eq (a := capL w) rfl (Gv.grd hg (Gv.bnd fun t ht => Gv.bind_eq (a := if 1 < w then (192 + 16) else 192) rfl (.ok ?_)))
    · have q : sg = 1 := q
      rw [if_pos q, ht, hu]
    · have q : ¬ sg = 1 := q
      rw [if_neg q, ht]
  refine ⟨⟨d4⟩, Gv.get ?_⟩
  unfold F_get_levels
  rw [hsz]
  refine Gv.bind_eq hcs (Gv.grd hw (Gv.grd ⟨by omega, by omega, by rw [List.length_singleton]; omega⟩ (Gv.grd hw (Gv.bind_eq (far_places hc f1 f2) ?_))))
  refine Gv.bind_eq (a := (⟨d4⟩, setL (repL [0] c) 0 (capL (if sg = 1 then -m else m)), if 1 < m then (192 + 16) else 192)) ?_ (.ok rfl)
  show Rx.bind (F_get_levels_b1 ⟨d2⟩ (repL [0] c) 192 0) _ = _
  rw [b1]
  rfl
end
theorem flag_put {e : EncS} (g : EncG e) {c : Int} (h0 : 0 ≤ c) (h1 : c ≤ 255) (hl : e.front.length ≤ 900000) : F_SymbolWriter_flag ⟨e⟩ c true = .ok ⟨encItems e [(c, 1)]⟩ := by
  rw [put_flag g h0 h1 hl, if_pos rfl]
  rfl
theorem even_put {e : EncS} (g : EncG e) {b : Int} (h0 : 0 ≤ b) (h1 : b ≤ 1) (hl : e.front.length ≤ 900000) : F_SymbolWriter_even ⟨e⟩ b = .ok ⟨encItems e [(-1, b)]⟩ := by
  rw [put_even g h0 h1 hl]
  rfl
theorem far_write {e : EncS} (ge : EncG e) (e0 : e.front.length = 0) {m sg : Int} (hm : 1 ≤ m ∧ m ≤ 1048577) (hs : sg = 0 ∨ sg = 1) :
    ItemsOk (farI m sg) ∧ (encItems e (farI m sg)).front.length ≤ 900000 ∧ ∃ e1 e2 e3, F_SymbolWriter_flag ⟨e⟩ 64 true = .ok ⟨e1⟩ ∧ F_SymbolWriter_flag ⟨e1⟩ 128 true = .ok ⟨e2⟩ ∧ F_SymbolWriter_number ⟨e2⟩ 192 (m - 1) = .ok ⟨e3⟩ ∧ F_SymbolWriter_even ⟨e3⟩ sg = .ok ⟨encItems e (farI m sg)⟩ := by
  have nu : NuOk 192 (m - 1) := ⟨by decide, by decide, by omega, by omega⟩
  have i1 : ItemsOk [((64 : Int), (1 : Int))] := fun t ht => by rw [List.mem_singleton.mp ht]; exact ⟨⟨by decide, by decide⟩, by decide, by decide⟩
  have i2 : ItemsOk [((128 : Int), (1 : Int))] := fun t ht => by rw [List.mem_singleton.mp ht]; exact ⟨⟨by decide, by decide⟩, by decide, by decide⟩
  have i4 : ItemsOk [((-1 : Int), sg)] := fun t ht => by
    rw [List.mem_singleton.mp ht]
    refine ⟨⟨by show (-1 : Int) ≤ -1; decide, by show (-1 : Int) ≤ 255; decide⟩, ?_, ?_⟩
    · show 0 ≤ sg; omega
    · show sg ≤ 1; omega
  have nl : (nuI 192 (m - 1)).length ≤ 86 := by
    have hd := nuD_in nu.2.2.1 nu.2.2.2
    have := unI_len 192 (nuD (m - 1) : Nat) 20 (by omega)
    unfold nuI nuR
    rw [List.length_append, List.length_map, List.length_range]
    omega
  have g1 := items_ok ge i1
  have g2 := items_ok g1 i2
  have g3 := items_ok g2 (nuI_ok nu)
  have l1 := items_len [((64 : Int), (1 : Int))] e
  have l2 := items_len [((128 : Int), (1 : Int))] (encItems e [(64, 1)])
  have l3 := items_len (nuI 192 (m - 1)) (encItems (encItems e [(64, 1)]) [(128, 1)])
  have l4 := items_len [((-1 : Int), sg)] (encItems (encItems (encItems e [(64, 1)]) [(128, 1)]) (nuI 192 (m - 1)))
  rw [List.length_singleton] at l1 l2 l4
  have whole : encItems (encItems (encItems (encItems e [(64, 1)]) [(128, 1)]) (nuI 192 (m - 1))) [(-1, sg)] = encItems e (farI m sg) := by
    unfold farI
    rw [items_app, items_app, items_app]
  have p4 := even_put g3 (b := sg) (by omega) (by omega) (by omega)
  rw [whole] at p4 l4
  exact ⟨items_app_ok i1 (items_app_ok i2 (items_app_ok (nuI_ok nu) i4)), by omega, _, _, _, flag_put ge (by decide) (by decide) (by omega), flag_put g1 (by decide) (by decide) (by omega), put_number g2 nu (by omega), p4⟩
theorem far_ok {c m sg : Int} (hc : c = 16 ∨ c = 64) (hm : 1 ≤ m ∧ m ≤ 1048577) (hs : sg = 0 ∨ sg = 1) : F__law_far c m sg = .ok (setL (repL [0] c) 0 (capL (if sg = 1 then -m else m))) := by
  obtain ⟨all, fl, e1, e2, e3, p1, p2, p3, p4⟩ := far_write init_ok rfl hm hs
  have g4 := items_ok init_ok all
  have K : Whole (encOctets (encItems encInit (farI m sg))) (farI m sg) := ⟨all, code_oct_in g4.mid, acc_code0 g4.mid⟩
  have A0 : At (encOctets (encItems encInit (farI m sg))) (farI m sg) 0 (decInit (encOctets (encItems encInit (farI m sg)))) := rel_start K.ok K.o K.a
  have o := octets_eq fl
  have di := dinit_eq K.o
  generalize encItems encInit (farI m sg) = E at *
  generalize decInit (encOctets E) = D at *
  refine Gv.get ?_
  unfold F__law_far
  refine Gv.bind_eq init_put (Gv.bind_eq (a := (⟨encInit⟩ : St_SymbolWriter)) rfl (Gv.bind_eq p1 (Gv.bind_eq p2 (Gv.bind_eq p3 (Gv.bind_eq p4 ?_)))))
  refine Gv.bind (P := fun z : Int => z = 4 ∧ c = 16 ∨ z = 8 ∧ c = 64) (.ite (fun q => .ok (.inr ⟨rfl, q⟩)) fun q => .ok (.inl ⟨rfl, by omega⟩)) fun z hz => ?_
  obtain ⟨r, er⟩ := far_read K A0 (fun j t ht => by rw [Nat.zero_add]; exact ht) hz hm
  unfold F__law_far_k1
  exact Gv.bind_eq o (Gv.bind_eq di (Gv.bind_eq (a := (⟨D⟩ : St_SymbolReader)) rfl (Gv.bind_eq er (.ok rfl))))
/-! k49 four -/
/-! ### all blocks -/
def lastOf (v : List Int) : Nat := ((nzs v).getLast?.getD 0).toNat
theorem lastOf_ok {v : List Int} (h : Lv v) : Last v (lastOf v) := by
  obtain ⟨l, e⟩ := last_ex h.nz
  have : lastOf v = l := by
    unfold lastOf
    rw [nzs_whole e]
    simp
  rw [this]
  exact e
def bI (v : List Int) : List (Int × Int) := blkI v (lastOf v)
def allC : List (List Int) → List (Int × Int)
  | [] => []
  | v :: r => bI v ++ allC r
theorem allC_app : ∀ (a b : List (List Int)), allC (a ++ b) = allC a ++ allC b
  | [], b => rfl
  | v :: r, b => by rw [List.cons_append, allC, allC, allC_app r b, List.append_assoc]
theorem allC_ok : ∀ {vs : List (List Int)}, (∀ v ∈ vs, Lv v) → ItemsOk (allC vs) ∧ (allC vs).length ≤ 5701 * vs.length
  | [], _ => ⟨(fun t ht => nomatch ht), Nat.le_refl 0⟩
  | v :: r, h => by
    obtain ⟨a, b⟩ := blkI_ok (h v List.mem_cons_self) (lastOf v)
    obtain ⟨c, e⟩ := allC_ok (vs := r) fun w hw => h w (List.mem_cons_of_mem _ hw)
    rw [allC, List.length_append, List.length_cons]
    refine ⟨items_app_ok a c, ?_⟩
    show (blkI v (lastOf v)).length + _ ≤ _
    omega
theorem allC_seg {vs : List (List Int)} {i : Nat} {v : List Int} (h : vs[i]? = some v) : Seg (allC vs) (bI v) (allC (vs.take i)).length ∧ (allC (vs.take i)).length + (bI v).length = (allC (vs.take (i + 1))).length := by
  have e : allC (vs.take (i + 1)) = allC (vs.take i) ++ bI v := by
    rw [List.take_add_one, h]
    show allC (vs.take i ++ [v]) = _
    rw [allC_app]
    simp [allC]
  refine ⟨?_, by rw [e, List.length_append]⟩
  have e2 := allC_app (vs.take (i + 1)) (vs.drop (i + 1))
  rw [List.take_append_drop] at e2
  rw [e2, e, List.append_assoc]
  intro j t ht
  have hj := get_len ht
  rw [List.getElem?_append_right (by omega), show (allC (vs.take i)).length + j - (allC (vs.take i)).length = j by omega, List.getElem?_append_left hj]
  exact ht
theorem ints_ok {v : List Int} {n : Int} (h : (v.length : Int) = n) : F__law_is_integers v n = .ok true := by
  unfold F__law_is_integers
  rw [if_pos h, forR_unit (fun x _ => rfl)]
  rfl
/-! ### what is refused, all -/
theorem not_lv_set {v : List Int} {k y : Int} (k0 : 0 ≤ k) (k1 : k < v.length) (hy : ¬ (-524288 ≤ y ∧ y ≤ 524287)) : ¬ Lv (setL v k y) := fun h => by
  obtain ⟨q, rfl⟩ : ∃ q : Nat, k = (q : Int) := ⟨k.toNat, by omega⟩
  refine hy (h.rge y ?_)
  rw [setL_at (by omega)]
  exact List.mem_iff_getElem?.mpr ⟨q, List.getElem?_set_self (by omega)⟩
theorem refuses_ok {cell : Int} (h : 0 ≤ cell) : F__law_refuses cell = .ok true := by
  refine Gv.get ?_
  unfold F__law_refuses
  refine Gv.bnd fun c hc => ?_
  have hc : c = 16 ∨ c = 64 := by omega
  have rl : ((repL [(0 : Int)] c).length : Int) = c := by rw [rep1, List.length_replicate]; omega
  have k0 := Int.emod_nonneg (cell / 2) (show c ≠ 0 by omega)
  have k1 := Int.emod_lt_of_pos (cell / 2) (show 0 < c by omega)
  refine Gv.grd ⟨by omega, by omega, by rw [List.length_singleton]; omega⟩ (Gv.bind_eq (refused_ok fun q => ?_) (Gv.pos rfl (Gv.grd (by omega) (Gv.grd (by omega) (Gv.bnd fun y1 hy1 => ?_)))))
  · obtain ⟨x, hx, n⟩ := q.nz
    rw [rep1] at hx
    exact n (List.mem_replicate.mp hx).2
  have l1 : (y1.length : Int) = c := by rw [hy1, setL_len']; exact rl
  refine Gv.bind_eq (refused_ok (by rw [hy1]; exact not_lv_set k0 (by omega) (by omega))) (Gv.pos rfl (Gv.grd (by omega) (Gv.grd (by omega) (Gv.bnd fun y2 hy2 => ?_))))
  refine Gv.bind_eq (refused_ok (by rw [hy2]; exact not_lv_set k0 (by omega) (by omega))) (Gv.pos rfl (Gv.bnd fun ln hln => ?_))
  refine Gv.bind (P := fun z : Int => 0 ≤ z ∧ z < 70 ∧ z ≠ 16 ∧ z ≠ 64) (.ite (fun _ => .ok (by decide)) fun a => .ite (fun _ => .ok (by decide)) fun b => .ok (by omega)) fun z hz => ?_
  unfold F__law_refuses_k1
  have zl : ((repL [(1 : Int)] z).length : Int) = z := by
    rw [rep1, List.length_replicate]
    omega
  refine Gv.grd ⟨by omega, by omega, by rw [List.length_singleton]; omega⟩ (Gv.bind_eq (refused_ok fun q => by have := q.len; omega) (Gv.pos rfl (Gv.bnd fun mg hmg => ?_)))
  refine Gv.bind (P := fun z : Int => 1 ≤ z ∧ z ≤ 1048577) (.ite (fun _ => Gv.bnd fun w hw => .ok (by omega)) fun _ => .ok (by omega)) fun m hm => ?_
  unfold F__law_refuses_k2
  refine Gv.bnd fun due hdue => Gv.bind (P := fun z : Int => z = capL (if (if cell % 4 < 2 then (0 : Int) else 1) = 1 then -m else m)) (.ite (fun a => Gv.bnd fun w hw => .ok ?_) fun a => .ok ?_) fun z hz => ?_
  · rw [if_pos a, hw, if_neg (show ¬ (0 : Int) = 1 by decide)]
    unfold capL
    rw [if_neg (show ¬ (-524288 : Int) > m by omega)]
    split <;> split <;> omega
  · rw [if_neg a, hdue, if_pos (show (1 : Int) = 1 from rfl)]
    unfold capL
    by_cases q : (-524288 : Int) > -m
    · have e1 : (if 0 - m > (-524288 : Int) then 0 - m else -524288) = -524288 := if_neg (by omega)
      have e2 : (if (-524288 : Int) > -m then (-524288 : Int) else -m) = -524288 := if_pos q
      rw [e1, e2]
      exact (if_neg (by decide)).symm
    · have e2 : (if (-524288 : Int) > -m then (-524288 : Int) else -m) = -m := if_neg q
      rw [e2, if_neg (show ¬ (524287 : Int) < -m by omega)]
      split <;> omega
  unfold F__law_refuses_k3
  have hsg : (if cell % 4 < 2 then (0 : Int) else 1) = 0 ∨ (if cell % 4 < 2 then (0 : Int) else 1) = 1 := by split <;> simp
  have zr : ((repL [(0 : Int)] (c - 1)).length : Int) = c - 1 := by rw [rep1, List.length_replicate]; omega
  refine Gv.bind_eq (far_ok hc hm hsg) (Gv.grd ⟨by omega, by omega, by rw [List.length_singleton]; omega⟩ (Gv.grd (by rw [List.length_singleton]; omega) (Gv.pos ?_ ?_)))
  · rw [← hz, rep1, rep1]
    obtain ⟨n, hn⟩ : ∃ n : Nat, c.toNat = n + 1 := ⟨c.toNat - 1, by omega⟩
    rw [hn, show (c - 1).toNat = n by omega, List.replicate_succ]
    exact (setL_at (j := 0) (by rw [List.length_cons]; omega)).trans rfl
  refine Gv.bind_eq (a := decInit []) (by rw [dinit_eq (o := []) (fun x hx => nomatch hx)]; rfl) (Gv.bind_eq (a := (⟨decInit []⟩ : St_SymbolReader)) rfl (Gv.grd ?_ ?_))
  · show -(11 : Int) ≤ cell % 11 ∧ cell % 11 < (11 : Int)
    omega
  have mem := itD_mem (xs := [0, 1, 2, 3, 5, 6, 7, 9, 16, 64, -4]) (k := cell % 11) (by omega) (by show cell % 11 < (11 : Int); omega)
  generalize itD [0, 1, 2, 3, 5, 6, 7, 9, 16, 64, -4] (cell % 11) = sz at mem
  have er : F_get_levels ⟨decInit []⟩ sz = .er 1 := by
    have bad : ¬ sz ∈ ([4, 8] : List Int) := by
      simp only [List.mem_cons, List.not_mem_nil, or_false] at mem ⊢
      omega
    unfold F_get_levels F_check_size
    rw [if_neg bad]
    rfl
  exact Gv.tryEr er (by decide) (.ok rfl)
/-! k49 five -/
/-! ### the law -/
theorem octs_gv {cell : Int} (h : 0 ≤ cell) : Gv (F__law_octets cell) (fun v => ∀ x ∈ v, 0 ≤ x ∧ x ≤ 255) := by
  unfold F__law_octets
  refine Gv.bind (digits_gv _ _ _ (by decide) (by decide) (by omega) (by omega)) fun v hv => ?_
  obtain ⟨vl, vb⟩ := hv
  have vl2 : v.length ≤ 1000000 := by omega
  refine Gv.bind (P := fun v : List Int => ∀ x ∈ v, 0 ≤ x ∧ x ≤ 255) (.ite (fun _ => Gv.bind_eq (mapA_pure0 (f := fun x => noEr (F__law_octets_c2 x)) (g := fun _ => 255) (fun x _ => rfl) vl2) (.ok fun x hx => ?_)) fun _ => .ite (fun _ => Gv.bind_eq (mapA_pure0 (f := fun x => noEr (F__law_octets_c3 x)) (g := fun x => x * (x % 2)) (fun x hx => ?_) vl2) (.ok fun x hx => ?_)) fun _ => .ok fun x hx => ?_) fun v hv => .ok hv
  · obtain ⟨y, _, rfl⟩ := List.mem_map.mp hx
    decide
  · have := vb x hx
    refine Gv.get (Gv.noEr ?_)
    unfold F__law_octets_c3
    exact Gv.grd (.inl ⟨by omega, by omega⟩) (.ok rfl)
  · obtain ⟨y, hy, rfl⟩ := List.mem_map.mp hx
    have := vb y hy
    have : y % 2 = 0 ∨ y % 2 = 1 := by omega
    rcases this with e | e <;> rw [e] <;> omega
  · have := vb x hx
    omega
theorem law_true (xs : List Int) (h : xs.length ≤ 63) : F_law xs = .ok true := by
  refine Gv.get ?_
  unfold F_law
  refine Gv.bind (cell_gv xs 0 (by decide)) fun first hf => Gv.bind (octs_gv hf) fun O0 ho => Gv.bind_eq (dinit_eq ho) (Gv.bind_eq (a := (⟨decInit O0⟩ : St_SymbolReader)) rfl (Gv.bind_eq init_put (Gv.bind_eq (a := (⟨encInit⟩ : St_SymbolWriter)) rfl (Gv.grd ⟨by omega, by omega⟩ ?_))))
  obtain ⟨n, hn, hn4⟩ : ∃ n : Nat, Int.toNat (1 + first / 7 % 5) = n ∧ n ≤ 5 := ⟨_, rfl, by omega⟩
  rw [hn]
  have g0 : DecG (decInit O0) := decInit_ok ho
  generalize decInit O0 = D0 at g0
  have e0 : encInit.front.length = 0 := rfl
  have ei := init_ok
  refine Gv.bind (Gv.forR (P := fun i (s : St_SymbolReader × St_SymbolWriter × List (List Int)) => DecG s.1.dec ∧ s.2.2.length = i ∧ (∀ v ∈ s.2.2, Lv v) ∧ s.2.1 = ⟨encItems encInit (allC s.2.2)⟩) ⟨g0, rfl, (fun v hv => nomatch hv), rfl⟩ fun i x s hx p => ?_) ?_
  · obtain ⟨rfl, hi⟩ := rng_at hx
    obtain ⟨⟨dd⟩, w, bl⟩ := s
    obtain ⟨pg, p1, p2, p3⟩ := p
    have p1 : bl.length = i := p1
    have p2 : ∀ v ∈ bl, Lv v := p2
    have p3 : w = ⟨encItems encInit (allC bl)⟩ := p3
    subst p3
    obtain ⟨ok, ln⟩ : ItemsOk (allC bl) ∧ (allC bl).length ≤ 5701 * bl.length := allC_ok p2
    have g := items_ok ei ok
    have f := items_len (allC bl) encInit
    unfold F_law_b1
    refine Gv.bind (P := fun z : Int => z = 4 ∨ z = 8) (.ite (fun _ => .ok (.inr rfl)) fun _ => .ok (.inl rfl)) fun sz hsz => ?_
    obtain ⟨m, hm⟩ : ∃ m : Nat, sz = 4 ∧ m = 16 ∨ sz = 8 ∧ m = 64 := by
      rcases hsz with e | e
      · exact ⟨16, .inl ⟨e, rfl⟩⟩
      · exact ⟨64, .inr ⟨e, rfl⟩⟩
    have hss : sz * sz = (m : Int) := by rcases hm with ⟨rfl, e⟩ | ⟨rfl, e⟩ <;> rw [e] <;> decide
    unfold F_law_k2
    refine Gv.bind (levels_any pg hm) fun r hr => ?_
    obtain ⟨v, rd⟩ := r
    obtain ⟨⟨lv, vl⟩, rg⟩ := hr
    have lv : Lv v := lv
    have vl : v.length = m := vl
    have ne : v ≠ [] := by intro z; rw [z] at vl; simp at vl; omega
    have mn := minL_spec v ne
    have mx := maxL_spec v ne
    have bn := lv.rge _ mn.1
    have bx := lv.rge _ mx.1
    rw [hss]
    refine Gv.grd (.inl ⟨by omega, by omega⟩) (Gv.bind_eq (ints_ok (v := v) (by rw [vl])) (Gv.pos rfl (Gv.grd ⟨by show -(2 ^ 63) ≤ (v.length : Int); omega, by show (v.length : Int) < 2 ^ 63; omega, by rw [List.length_singleton]; show 1 * (v.length : Int).toNat ≤ _; omega⟩ (Gv.neg ?_ (Gv.grd ne (Gv.neg (by show ¬ minL v < _; omega) (Gv.grd ne (Gv.neg (by show ¬ _ < maxL v; omega) (Gv.grd (by show bl.length ≤ _; omega) (Gv.bnd fun y hy => ?_))))))))))
    · intro z
      have z : v = repL [0] (v.length : Int) := z
      obtain ⟨x, hx, nx⟩ := lv.nz
      rw [z, rep1] at hx
      exact nx (List.mem_replicate.mp hx).2
    have hy : y = bl ++ [v] := hy
    subst hy
    refine Gv.bind_eq (put_levels_ok g lv (lastOf_ok lv) (by omega)) (.ok ⟨_, rfl, rg, ?_, ?_, ?_⟩)
    · show (bl ++ [v]).length = _
      rw [List.length_append, p1]; rfl
    · intro u hu
      rcases List.mem_append.mp hu with q | q
      · exact p2 u q
      · rw [List.mem_singleton.mp q]; exact lv
    · show (⟨encItems (encItems encInit (allC bl)) (blkI v (lastOf v))⟩ : St_SymbolWriter) = ⟨encItems encInit (allC (bl ++ [v]))⟩
      rw [allC_app, items_app]
      have : allC [v] = blkI v (lastOf v) := by simp [allC, bI]
      rw [this]
  · rintro _ ⟨s, rfl, p⟩
    rw [rng_len] at p
    obtain ⟨rr, w, bl⟩ := s
    obtain ⟨_, p1, p2, p3⟩ := p
    have p1 : bl.length = n := p1
    have p2 : ∀ v ∈ bl, Lv v := p2
    have p3 : w = ⟨encItems encInit (allC bl)⟩ := p3
    subst p3
    obtain ⟨ok, ln⟩ : ItemsOk (allC bl) ∧ (allC bl).length ≤ 5701 * bl.length := allC_ok p2
    have g := items_ok ei ok
    have f := items_len (allC bl) encInit
    have K : Whole (encOctets (encItems encInit (allC bl))) (allC bl) := ⟨ok, code_oct_in g.mid, acc_code0 g.mid⟩
    have A0 : At (encOctets (encItems encInit (allC bl))) (allC bl) 0 (decInit (encOctets (encItems encInit (allC bl)))) := rel_start K.ok K.o K.a
    have o := octets_eq (e := encItems encInit (allC bl)) (by omega)
    have di := dinit_eq K.o
    refine gv_go ?_
    unfold F_law_r1
    refine Gv.pos rfl (Gv.bind_eq o (Gv.bind_eq di (Gv.bind_eq (a := (⟨decInit (encOctets (encItems encInit (allC bl)))⟩ : St_SymbolReader)) rfl (Gv.grd (by show _ ≤ ((bl.length : Nat) : Int) ∧ ((bl.length : Nat) : Int) < _; omega) ?_))))
    generalize decInit (encOctets (encItems encInit (allC bl))) = D at A0 di
    refine Gv.bind (Gv.forR (P := fun i (s : St_SymbolReader) => At (encOctets (encItems encInit (allC bl))) (allC bl) (allC (bl.take i)).length s.dec) A0 fun i x s hx q2 => ?_) ?_
    · obtain ⟨rfl, hi⟩ := rng_at hx
      have hi2 : i < bl.length := by
        have hi : i < Int.toNat ((bl.length : Nat) : Int) := hi
        omega
      obtain ⟨dj⟩ := s
      rw [Int.zero_add]
      have hv : bl[i]? = some bl[i] := List.getElem?_eq_getElem hi2
      generalize bl[i] = v at hv
      have lv := p2 v (List.mem_of_getElem? hv)
      obtain ⟨S, e⟩ := allC_seg hv
      have it : itD bl (i : Int) = v := itD_nat i rfl hv
      have hin : -(bl.length : Int) ≤ (i : Int) ∧ (i : Int) < (bl.length : Int) := by omega
      unfold F_law_b3
      rw [it]
      refine Gv.bind (P := fun z : Int => z = 4 ∧ v.length = 16 ∨ z = 8 ∧ v.length = 64) (Gv.grd hin (.ite (fun c => .ok (.inr ⟨rfl, by omega⟩)) fun c => .ok (.inl ⟨rfl, by have := lv.len; omega⟩))) fun z hz => ?_
      obtain ⟨d', e1, A'⟩ := get_levels_ok K lv (lastOf_ok lv) hz q2 S
      unfold F_law_k4
      rw [it]
      refine Gv.bind_eq e1 (Gv.grd hin (Gv.pos rfl (.ok ⟨_, rfl, ?_⟩)))
      rw [← e]
      exact A'
    · rintro l ⟨s, rfl, _⟩
      refine gv_go ?_
      unfold F_law_r3
      exact Gv.bind (cell_gv xs 1 (by decide)) fun c hc => Gv.bind_eq (refuses_ok hc) (.ok rfl)

end Vx
namespace Vx
open PySem PySem.Spec PyProof.Rows L2
def topS (i : Nat) : Stmt := PySem.Challenge.pw_thaumatrope_k49_any_octets_read_as_level.main.body.getD i (.Pass ⟨0, 0, 0, 0⟩)
abbrev s__law_cell : Stmt := topS 50
abbrev s__law_digits : Stmt := topS 51
abbrev s__law_octets : Stmt := topS 53
abbrev s_SymbolReader___init__ : Stmt := inClass (topS 45) 0
abbrev s_Encoder___init__ : Stmt := inClass (topS 33) 0
abbrev s_SymbolWriter___init__ : Stmt := inClass (topS 44) 0
abbrev s__check_contexts : Stmt := topS 46
abbrev s__check_unary : Stmt := topS 47
abbrev s__check_context : Stmt := topS 35
abbrev s__check_decision : Stmt := topS 36
abbrev s__adapted : Stmt := topS 37
abbrev s_Encoder__carry : Stmt := inClass (topS 33) 6
abbrev s_Encoder__narrow : Stmt := inClass (topS 33) 5
abbrev s_Encoder_code : Stmt := inClass (topS 33) 1
abbrev s_SymbolWriter_unary : Stmt := inClass (topS 44) 3
abbrev s_Decoder__shift : Stmt := inClass (topS 34) 5
abbrev s_Decoder__decide : Stmt := inClass (topS 34) 4
abbrev s_Decoder_read : Stmt := inClass (topS 34) 1
abbrev s_SymbolReader_unary : Stmt := inClass (topS 45) 3
abbrev s__digit_context : Stmt := topS 48
abbrev s_Encoder_code_even : Stmt := inClass (topS 33) 2
abbrev s_SymbolWriter_number : Stmt := inClass (topS 44) 4
abbrev s_Decoder_read_even : Stmt := inClass (topS 34) 2
abbrev s_SymbolReader_number : Stmt := inClass (topS 45) 4
abbrev s__check_levels : Stmt := topS 21
abbrev s_SymbolWriter_flag : Stmt := inClass (topS 44) 1
abbrev s_SymbolReader_flag : Stmt := inClass (topS 45) 1
abbrev s__put_places : Stmt := topS 22
abbrev s__base_after : Stmt := topS 24
abbrev s_SymbolWriter_even : Stmt := inClass (topS 44) 6
abbrev s_SymbolReader_even : Stmt := inClass (topS 45) 6
abbrev s_put_levels : Stmt := topS 19
abbrev s_Encoder_octets : Stmt := inClass (topS 33) 3
abbrev s_Encoder_probability : Stmt := inClass (topS 33) 4
abbrev s_Decoder_probability : Stmt := inClass (topS 34) 3
abbrev s__law_refused : Stmt := topS 54
abbrev s_check_size : Stmt := topS 14
abbrev s__get_places : Stmt := topS 23
abbrev s_clip : Stmt := topS 2
abbrev s_get_levels : Stmt := topS 20
abbrev s_Decoder___init__ : Stmt := inClass (topS 34) 0
abbrev s__law_far : Stmt := topS 55
abbrev s__law_refuses : Stmt := topS 56
abbrev s__law_is_integers : Stmt := topS 52
abbrev s_law : Stmt := topS 57
structure Ads where
  c_Encoder : Addr
  c_SymbolWriter : Addr
  c_Decoder : Addr
  c_SymbolReader : Addr
  x_CodecError : Addr
  x_OutOfRange : Addr
  x_BadData : Addr
  t_SIZES_BY_COUNT : Addr
  t_SIZES : Addr
  z0 : Addr
def excA (AD : Ads) : Nat → Addr
  | 0 => AD.x_CodecError
  | 1 => AD.x_OutOfRange
  | 2 => AD.x_BadData
  | _ => AD.z0
structure Txt (w : World) (K : PySem.W.Frag) (mg : Str → Option Value) (AD : Ads) : Prop where
  b_len : mg "len" = none
  b_abs : mg "abs" = none
  b_int : mg "int" = none
  b_range : mg "range" = none
  g_EVEN : ∃ u, mg "EVEN" = some u ∧ RelV (V.int 2048) u
  g_CONTEXTS_coder : ∃ u, mg "CONTEXTS_coder" = some u ∧ RelV (V.int 256) u
  g_WORD : ∃ u, mg "WORD" = some u ∧ RelV (V.int 4294967296) u
  g_CONTEXTS_symbols : ∃ u, mg "CONTEXTS_symbols" = some u ∧ RelV (V.int 256) u
  g_GREATEST_UNARY : ∃ u, mg "GREATEST_UNARY" = some u ∧ RelV (V.int 64) u
  b_min : mg "min" = none
  g_SHARED : ∃ u, mg "SHARED" = some u ∧ RelV (V.int 8) u
  g_SCALE : ∃ u, mg "SCALE" = some u ∧ RelV (V.int 4096) u
  g_RATE : ∃ u, mg "RATE" = some u ∧ RelV (V.int 5) u
  g_SCALE_BITS : ∃ u, mg "SCALE_BITS" = some u ∧ RelV (V.int 12) u
  g_LEAST_SPAN : ∃ u, mg "LEAST_SPAN" = some u ∧ RelV (V.int 16777216) u
  g_GREATEST_NUMBER : ∃ u, mg "GREATEST_NUMBER" = some u ∧ RelV (V.int 1048576) u
  g_MOST_DIGITS : ∃ u, mg "MOST_DIGITS" = some u ∧ RelV (V.int 20) u
  g_SIZES_BY_COUNT : ∃ u, mg "SIZES_BY_COUNT" = some u ∧ RelV (V.ref AD.t_SIZES_BY_COUNT) u
  kd_SIZES_BY_COUNT : KDI K AD.t_SIZES_BY_COUNT [(16, 4), (64, 8)]
  b_max : mg "max" = none
  g_GREATEST_LEVEL : ∃ u, mg "GREATEST_LEVEL" = some u ∧ RelV (V.int 524287) u
  g_LEAST_LEVEL : ∃ u, mg "LEAST_LEVEL" = some u ∧ RelV (V.int (-524288)) u
  b_any : mg "any" = none
  g_CLASSES : ∃ u, mg "CLASSES" = some u ∧ RelV (V.int 64) u
  g_SIGNIFICANT : ∃ u, mg "SIGNIFICANT" = some u ∧ RelV (V.int 64) u
  g_LAST : ∃ u, mg "LAST" = some u ∧ RelV (V.int 128) u
  g_LEVEL : ∃ u, mg "LEVEL" = some u ∧ RelV (V.int 192) u
  g_VALUE_CONTEXTS : ∃ u, mg "VALUE_CONTEXTS" = some u ∧ RelV (V.int 16) u
  b_enumerate : mg "enumerate" = none
  b_reversed : mg "reversed" = none
  b_isinstance : mg "isinstance" = none
  g_SIZES : ∃ u, mg "SIZES" = some u ∧ RelV (V.ref AD.t_SIZES) u
  ts_SIZES : ∀ H, SqT K H AD.t_SIZES (([4, 8] : List Int).map V.int)
  b_list : mg "list" = none
  b_bool : mg "bool" = none
  cl_SymbolReader : Cls K AD.c_SymbolReader
  n_SymbolReader__decoder : NoAttr K AD.c_SymbolReader "_decoder"
  cl_Encoder : Cls K AD.c_Encoder
  n_Encoder__probabilities : NoAttr K AD.c_Encoder "_probabilities"
  n_Encoder__front : NoAttr K AD.c_Encoder "_front"
  n_Encoder__low : NoAttr K AD.c_Encoder "_low"
  n_Encoder__span : NoAttr K AD.c_Encoder "_span"
  cl_SymbolWriter : Cls K AD.c_SymbolWriter
  n_SymbolWriter__encoder : NoAttr K AD.c_SymbolWriter "_encoder"
  cl_Decoder : Cls K AD.c_Decoder
  n_Decoder__probabilities : NoAttr K AD.c_Decoder "_probabilities"
  n_Decoder__octets : NoAttr K AD.c_Decoder "_octets"
  n_Decoder__place : NoAttr K AD.c_Decoder "_place"
  n_Decoder__span : NoAttr K AD.c_Decoder "_span"
  n_Decoder__value : NoAttr K AD.c_Decoder "_value"
  xg_OutOfRange : mg "OutOfRange" = some (.ref AD.x_OutOfRange)
  xx_OutOfRange : PySem.W.excIn K AD.x_OutOfRange [.type "ValueError", .type "Exception", .type "BaseException", .type "object"] "ValueError.__new__" = true
  xk_OutOfRange : PySem.W.keepIn K (.ref AD.x_OutOfRange) = true
  xb_OutOfRange : PySem.W.subIn K (.ref AD.x_OutOfRange) (.type "BaseException") = some true
  xt_OutOfRange : PySem.W.typeIn K (.ref AD.x_OutOfRange) = some (.type "type")
  xg_BadData : mg "BadData" = some (.ref AD.x_BadData)
  xx_BadData : PySem.W.excIn K AD.x_BadData [.type "ValueError", .type "Exception", .type "BaseException", .type "object"] "ValueError.__new__" = true
  xk_BadData : PySem.W.keepIn K (.ref AD.x_BadData) = true
  xb_BadData : PySem.W.subIn K (.ref AD.x_BadData) (.type "BaseException") = some true
  xt_BadData : PySem.W.typeIn K (.ref AD.x_BadData) = some (.type "type")
  xg_CodecError : mg "CodecError" = some (.ref AD.x_CodecError)
  xx_CodecError : PySem.W.excIn K AD.x_CodecError [.type "ValueError", .type "Exception", .type "BaseException", .type "object"] "ValueError.__new__" = true
  xk_CodecError : PySem.W.keepIn K (.ref AD.x_CodecError) = true
  xb_CodecError : PySem.W.subIn K (.ref AD.x_CodecError) (.type "BaseException") = some true
  xt_CodecError : PySem.W.typeIn K (.ref AD.x_CodecError) = some (.type "type")
  xm_BadData_BadData : PySem.W.exmOne K (.ref AD.x_BadData) (.ref AD.x_BadData) = some true
  xm_OutOfRange_OutOfRange : PySem.W.exmOne K (.ref AD.x_OutOfRange) (.ref AD.x_OutOfRange) = some true
  xo_BadData_CodecError : PySem.W.kitOne K (.ref AD.x_BadData) (.ref AD.x_CodecError) = some true
  xn_BadData_OutOfRange : PySem.W.kitOne K (.ref AD.x_BadData) (.ref AD.x_OutOfRange) = some false
  xc_BadData : ExcC K AD.x_BadData
abbrev pat__law_cell_0 : Pat := (2, [], fun vs _ => vs)
abbrev pats__law_cell : List Pat := [pat__law_cell_0]
abbrev pat__law_digits_0 : Pat := (3, [], fun vs _ => vs)
abbrev pats__law_digits : List Pat := [pat__law_digits_0]
abbrev pat__law_octets_0 : Pat := (1, [], fun vs _ => vs)
abbrev pats__law_octets : List Pat := [pat__law_octets_0]
abbrev pat_SymbolReader___init___0 : Pat := (2, [], fun vs _ => vs)
abbrev pats_SymbolReader___init__ : List Pat := [pat_SymbolReader___init___0]
abbrev pat_Encoder___init___0 : Pat := (1, [], fun vs _ => vs)
abbrev pats_Encoder___init__ : List Pat := [pat_Encoder___init___0]
abbrev pat_SymbolWriter___init___0 : Pat := (2, [], fun vs _ => vs)
abbrev pats_SymbolWriter___init__ : List Pat := [pat_SymbolWriter___init___0]
abbrev pat__check_contexts_0 : Pat := (2, [], fun vs _ => vs)
abbrev pats__check_contexts : List Pat := [pat__check_contexts_0]
abbrev pat__check_unary_0 : Pat := (2, [], fun vs _ => vs)
abbrev pats__check_unary : List Pat := [pat__check_unary_0]
abbrev pat__check_context_0 : Pat := (1, [], fun vs _ => vs)
abbrev pats__check_context : List Pat := [pat__check_context_0]
abbrev pat__check_decision_0 : Pat := (1, [], fun vs _ => vs)
abbrev pats__check_decision : List Pat := [pat__check_decision_0]
abbrev pat__adapted_0 : Pat := (2, [], fun vs _ => vs)
abbrev pats__adapted : List Pat := [pat__adapted_0]
abbrev pat_Encoder__carry_0 : Pat := (1, [], fun vs _ => vs)
abbrev pats_Encoder__carry : List Pat := [pat_Encoder__carry_0]
abbrev pat_Encoder__narrow_0 : Pat := (3, [], fun vs _ => vs)
abbrev pats_Encoder__narrow : List Pat := [pat_Encoder__narrow_0]
abbrev pat_Encoder_code_0 : Pat := (3, [], fun vs _ => vs)
abbrev pats_Encoder_code : List Pat := [pat_Encoder_code_0]
abbrev pat_SymbolWriter_unary_0 : Pat := (3, ["most"], fun vs zs => match vs, zs with | [a0, a1, a2], [b0] => [a0, a1, a2, b0] | _, _ => [])
abbrev pats_SymbolWriter_unary : List Pat := [pat_SymbolWriter_unary_0]
abbrev pat_Decoder__shift_0 : Pat := (1, [], fun vs _ => vs)
abbrev pats_Decoder__shift : List Pat := [pat_Decoder__shift_0]
abbrev pat_Decoder__decide_0 : Pat := (2, [], fun vs _ => vs)
abbrev pats_Decoder__decide : List Pat := [pat_Decoder__decide_0]
abbrev pat_Decoder_read_0 : Pat := (2, [], fun vs _ => vs)
abbrev pats_Decoder_read : List Pat := [pat_Decoder_read_0]
abbrev pat_SymbolReader_unary_0 : Pat := (2, ["most"], fun vs zs => match vs, zs with | [a0, a1], [b0] => [a0, a1, b0] | _, _ => [])
abbrev pats_SymbolReader_unary : List Pat := [pat_SymbolReader_unary_0]
abbrev pat__digit_context_0 : Pat := (2, [], fun vs _ => vs)
abbrev pats__digit_context : List Pat := [pat__digit_context_0]
abbrev pat_Encoder_code_even_0 : Pat := (2, [], fun vs _ => vs)
abbrev pats_Encoder_code_even : List Pat := [pat_Encoder_code_even_0]
abbrev pat_SymbolWriter_number_0 : Pat := (3, [], fun vs _ => vs)
abbrev pats_SymbolWriter_number : List Pat := [pat_SymbolWriter_number_0]
abbrev pat_Decoder_read_even_0 : Pat := (1, [], fun vs _ => vs)
abbrev pats_Decoder_read_even : List Pat := [pat_Decoder_read_even_0]
abbrev pat_SymbolReader_number_0 : Pat := (2, [], fun vs _ => vs)
abbrev pats_SymbolReader_number : List Pat := [pat_SymbolReader_number_0]
abbrev pat__check_levels_0 : Pat := (1, [], fun vs _ => vs)
abbrev pats__check_levels : List Pat := [pat__check_levels_0]
abbrev pat_SymbolWriter_flag_0 : Pat := (3, [], fun vs _ => vs)
abbrev pats_SymbolWriter_flag : List Pat := [pat_SymbolWriter_flag_0]
abbrev pat_SymbolReader_flag_0 : Pat := (2, [], fun vs _ => vs)
abbrev pats_SymbolReader_flag : List Pat := [pat_SymbolReader_flag_0]
abbrev pat__put_places_0 : Pat := (3, [], fun vs _ => vs)
abbrev pats__put_places : List Pat := [pat__put_places_0]
abbrev pat__base_after_0 : Pat := (2, [], fun vs _ => vs)
abbrev pats__base_after : List Pat := [pat__base_after_0]
abbrev pat_SymbolWriter_even_0 : Pat := (2, [], fun vs _ => vs)
abbrev pats_SymbolWriter_even : List Pat := [pat_SymbolWriter_even_0]
abbrev pat_SymbolReader_even_0 : Pat := (1, [], fun vs _ => vs)
abbrev pats_SymbolReader_even : List Pat := [pat_SymbolReader_even_0]
abbrev pat_put_levels_0 : Pat := (2, [], fun vs _ => vs)
abbrev pats_put_levels : List Pat := [pat_put_levels_0]
abbrev pat_Encoder_octets_0 : Pat := (1, [], fun vs _ => vs)
abbrev pats_Encoder_octets : List Pat := [pat_Encoder_octets_0]
abbrev pat_Encoder_probability_0 : Pat := (2, [], fun vs _ => vs)
abbrev pats_Encoder_probability : List Pat := [pat_Encoder_probability_0]
abbrev pats_Decoder_probability : List Pat := []
abbrev pat__law_refused_0 : Pat := (1, [], fun vs _ => vs)
abbrev pats__law_refused : List Pat := [pat__law_refused_0]
abbrev pat_check_size_0 : Pat := (1, [], fun vs _ => vs)
abbrev pats_check_size : List Pat := [pat_check_size_0]
abbrev pat__get_places_0 : Pat := (2, [], fun vs _ => vs)
abbrev pats__get_places : List Pat := [pat__get_places_0]
abbrev pat_clip_0 : Pat := (3, [], fun vs _ => vs)
abbrev pats_clip : List Pat := [pat_clip_0]
abbrev pat_get_levels_0 : Pat := (2, [], fun vs _ => vs)
abbrev pats_get_levels : List Pat := [pat_get_levels_0]
abbrev pat_Decoder___init___0 : Pat := (2, [], fun vs _ => vs)
abbrev pats_Decoder___init__ : List Pat := [pat_Decoder___init___0]
abbrev pat__law_far_0 : Pat := (3, [], fun vs _ => vs)
abbrev pats__law_far : List Pat := [pat__law_far_0]
abbrev pat__law_refuses_0 : Pat := (1, [], fun vs _ => vs)
abbrev pats__law_refuses : List Pat := [pat__law_refuses_0]
abbrev pat__law_is_integers_0 : Pat := (2, [], fun vs _ => vs)
abbrev pats__law_is_integers : List Pat := [pat__law_is_integers_0]
abbrev pats_law : List Pat := []
def sp__law_cell (K : PySem.W.Frag) (AD : Ads) : Sp := fun vs H Q E => ∃ (G : Hp) (a_script : Addr) (script' : List Int) (k' : Int), vs = [.ref a_script, .int k'] ∧ Same G H ∧ SqL K H a_script ((script' : List Int).map V.int) ∧ cW (F__law_cell script' k') (fun v => Q (.int v) H) (fun e => E (.ref (excA AD e)) none H)
def sp__law_digits (K : PySem.W.Frag) (AD : Ads) : Sp := fun vs H Q E => ∃ (G : Hp) (cell' : Int) (base' : Int) (most' : Int), vs = [.int cell', .int base', .int most'] ∧ Same G H ∧ cW (F__law_digits cell' base' most') (fun v => ∀ p H', H p = none → Same H H' → H' p = some (.lst (v.map V.int)) → Q (.ref p) H') (fun e => ∀ H', Same H H' → E (.ref (excA AD e)) none H')
def sp__law_octets (K : PySem.W.Frag) (AD : Ads) : Sp := fun vs H Q E => ∃ (G : Hp) (cell' : Int), vs = [.int cell'] ∧ Same G H ∧ cW (F__law_octets cell') (fun v => ∀ p H', H p = none → Same H H' → H' p = some (.lst (v.map V.int)) → Q (.ref p) H') (fun e => ∀ H', Same H H' → E (.ref (excA AD e)) none H')
def sp_SymbolReader___init__ (K : PySem.W.Frag) (AD : Ads) : Sp := fun vs H Q E => ∃ (G : Hp) (p_self dx_self : Addr) (p_decoder l_decoder_probs l_decoder_octs dx_decoder : Addr) (decoder' : St_Decoder), vs = [.ref p_self, .ref p_decoder] ∧ Same G H ∧ (∀ a ∈ [p_self], G a = none) ∧ H p_self = some (.ins AD.c_SymbolReader dx_self []) ∧ (hideL [p_self] H) p_decoder = some (.ins AD.c_Decoder dx_decoder [("_probabilities", V.ref l_decoder_probs), ("_octets", V.ref l_decoder_octs), ("_place", V.int decoder'.place), ("_span", V.int decoder'.span), ("_value", V.int decoder'.value)]) ∧ (hideL [p_self] H) l_decoder_probs = some (.lst ((decoder'.probs : (List Int)).map V.int)) ∧ (hideL [p_self] H) l_decoder_octs = some (.lst ((decoder'.octs : (List Int)).map V.int)) ∧ cW (F_SymbolReader___init__ decoder') (fun v => ∀ (H' : Hp), SameX p_self H H' → H' p_self = some (.ins AD.c_SymbolReader dx_self [("_decoder", V.ref p_decoder)]) → Q .non H') (fun e => ∀ H', SameX p_self H H' → E (.ref (excA AD e)) none H')
def sp_Encoder___init__ (K : PySem.W.Frag) (AD : Ads) : Sp := fun vs H Q E => ∃ (G : Hp) (p_self dx_self : Addr), vs = [.ref p_self] ∧ Same G H ∧ (∀ a ∈ [p_self], G a = none) ∧ H p_self = some (.ins AD.c_Encoder dx_self []) ∧ cW (F_Encoder___init__ ) (fun v => ∀ (H' : Hp) (l_probs l_front : Addr), SameX p_self H H' → H l_probs = none → H l_front = none → l_probs ≠ l_front → H' p_self = some (.ins AD.c_Encoder dx_self [("_probabilities", V.ref l_probs), ("_front", V.ref l_front), ("_low", V.int v.low), ("_span", V.int v.span)]) → H' l_probs = some (.lst (v.probs.map V.int)) → H' l_front = some (.lst (v.front.map V.int)) → Q .non H') (fun e => ∀ H', SameX p_self H H' → E (.ref (excA AD e)) none H')
def sp_SymbolWriter___init__ (K : PySem.W.Frag) (AD : Ads) : Sp := fun vs H Q E => ∃ (G : Hp) (p_self dx_self : Addr) (p_encoder l_encoder_probs l_encoder_front dx_encoder : Addr) (encoder' : St_Encoder), vs = [.ref p_self, .ref p_encoder] ∧ Same G H ∧ (∀ a ∈ [p_self], G a = none) ∧ H p_self = some (.ins AD.c_SymbolWriter dx_self []) ∧ (hideL [p_self] H) p_encoder = some (.ins AD.c_Encoder dx_encoder [("_probabilities", V.ref l_encoder_probs), ("_front", V.ref l_encoder_front), ("_low", V.int encoder'.low), ("_span", V.int encoder'.span)]) ∧ (hideL [p_self] H) l_encoder_probs = some (.lst ((encoder'.probs : (List Int)).map V.int)) ∧ (hideL [p_self] H) l_encoder_front = some (.lst ((encoder'.front : (List Int)).map V.int)) ∧ cW (F_SymbolWriter___init__ encoder') (fun v => ∀ (H' : Hp), SameX p_self H H' → H' p_self = some (.ins AD.c_SymbolWriter dx_self [("_encoder", V.ref p_encoder)]) → Q .non H') (fun e => ∀ H', SameX p_self H H' → E (.ref (excA AD e)) none H')
def sp__check_contexts (K : PySem.W.Frag) (AD : Ads) : Sp := fun vs H Q E => ∃ (G : Hp) (base' : Int) (count' : Int), vs = [.int base', .int count'] ∧ Same G H ∧ cW (F__check_contexts base' count') (fun v => Q .non H) (fun e => E (.ref (excA AD e)) none H)
def sp__check_unary (K : PySem.W.Frag) (AD : Ads) : Sp := fun vs H Q E => ∃ (G : Hp) (base' : Int) (most' : Int), vs = [.int base', .int most'] ∧ Same G H ∧ cW (F__check_unary base' most') (fun v => Q .non H) (fun e => E (.ref (excA AD e)) none H)
def sp__check_context (K : PySem.W.Frag) (AD : Ads) : Sp := fun vs H Q E => ∃ (G : Hp) (context' : Int), vs = [.int context'] ∧ Same G H ∧ cW (F__check_context context') (fun v => Q .non H) (fun e => E (.ref (excA AD e)) none H)
def sp__check_decision (K : PySem.W.Frag) (AD : Ads) : Sp := fun vs H Q E => ∃ (G : Hp) (decision' : Int), vs = [.int decision'] ∧ Same G H ∧ cW (F__check_decision decision') (fun v => Q .non H) (fun e => E (.ref (excA AD e)) none H)
def sp__adapted (K : PySem.W.Frag) (AD : Ads) : Sp := fun vs H Q E => ∃ (G : Hp) (chance' : Int) (decision' : Int), vs = [.int chance', .int decision'] ∧ Same G H ∧ cW (F__adapted chance' decision') (fun v => Q (.int v) H) (fun e => E (.ref (excA AD e)) none H)
def sp_Encoder__carry (K : PySem.W.Frag) (AD : Ads) : Sp := fun vs H Q E => ∃ (G : Hp) (p_self l_self_probs l_self_front dx_self : Addr) (self' : St_Encoder), vs = [.ref p_self] ∧ Same G H ∧ (∀ a ∈ [p_self, l_self_probs, l_self_front], G a = none) ∧ H p_self = some (.ins AD.c_Encoder dx_self [("_probabilities", V.ref l_self_probs), ("_front", V.ref l_self_front), ("_low", V.int self'.low), ("_span", V.int self'.span)]) ∧ H l_self_probs = some (.lst ((self'.probs : (List Int)).map V.int)) ∧ H l_self_front = some (.lst ((self'.front : (List Int)).map V.int)) ∧ l_self_probs ≠ l_self_front ∧ cW (F_Encoder__carry self') (fun v => ∀ (H' : Hp), SameXs [p_self, l_self_probs, l_self_front] H H' → H' p_self = some (.ins AD.c_Encoder dx_self [("_probabilities", V.ref l_self_probs), ("_front", V.ref l_self_front), ("_low", V.int v.low), ("_span", V.int v.span)]) → H' l_self_probs = some (.lst ((v.probs : (List Int)).map V.int)) → H' l_self_front = some (.lst ((v.front : (List Int)).map V.int)) → Q .non H') (fun e => ∀ H', Same H H' → E (.ref (excA AD e)) none H')
def sp_Encoder__narrow (K : PySem.W.Frag) (AD : Ads) : Sp := fun vs H Q E => ∃ (G : Hp) (p_self l_self_probs l_self_front dx_self : Addr) (self' : St_Encoder) (chance' : Int) (decision' : Int), vs = [.ref p_self, .int chance', .int decision'] ∧ Same G H ∧ (∀ a ∈ [p_self, l_self_probs, l_self_front], G a = none) ∧ H p_self = some (.ins AD.c_Encoder dx_self [("_probabilities", V.ref l_self_probs), ("_front", V.ref l_self_front), ("_low", V.int self'.low), ("_span", V.int self'.span)]) ∧ H l_self_probs = some (.lst ((self'.probs : (List Int)).map V.int)) ∧ H l_self_front = some (.lst ((self'.front : (List Int)).map V.int)) ∧ l_self_probs ≠ l_self_front ∧ cW (F_Encoder__narrow self' chance' decision') (fun v => ∀ (H' : Hp), SameXs [p_self, l_self_probs, l_self_front] H H' → H' p_self = some (.ins AD.c_Encoder dx_self [("_probabilities", V.ref l_self_probs), ("_front", V.ref l_self_front), ("_low", V.int v.low), ("_span", V.int v.span)]) → H' l_self_probs = some (.lst ((v.probs : (List Int)).map V.int)) → H' l_self_front = some (.lst ((v.front : (List Int)).map V.int)) → Q .non H') (fun e => ∀ H', Same H H' → E (.ref (excA AD e)) none H')
def sp_Encoder_code (K : PySem.W.Frag) (AD : Ads) : Sp := fun vs H Q E => ∃ (G : Hp) (p_self l_self_probs l_self_front dx_self : Addr) (self' : St_Encoder) (context' : Int) (decision' : Int), vs = [.ref p_self, .int context', .int decision'] ∧ Same G H ∧ (∀ a ∈ [p_self, l_self_probs, l_self_front], G a = none) ∧ H p_self = some (.ins AD.c_Encoder dx_self [("_probabilities", V.ref l_self_probs), ("_front", V.ref l_self_front), ("_low", V.int self'.low), ("_span", V.int self'.span)]) ∧ H l_self_probs = some (.lst ((self'.probs : (List Int)).map V.int)) ∧ H l_self_front = some (.lst ((self'.front : (List Int)).map V.int)) ∧ l_self_probs ≠ l_self_front ∧ cW (F_Encoder_code self' context' decision') (fun v => ∀ (H' : Hp), SameXs [p_self, l_self_probs, l_self_front] H H' → H' p_self = some (.ins AD.c_Encoder dx_self [("_probabilities", V.ref l_self_probs), ("_front", V.ref l_self_front), ("_low", V.int v.low), ("_span", V.int v.span)]) → H' l_self_probs = some (.lst ((v.probs : (List Int)).map V.int)) → H' l_self_front = some (.lst ((v.front : (List Int)).map V.int)) → Q .non H') (fun e => ∀ H', Same H H' → E (.ref (excA AD e)) none H')
def sp_SymbolWriter_unary (K : PySem.W.Frag) (AD : Ads) : Sp := fun vs H Q E => ∃ (G : Hp) (p_self p_self_enc l_self_enc_probs l_self_enc_front dx_self dx_self_enc : Addr) (self' : St_SymbolWriter) (base' : Int) (value' : Int) (most' : Int), vs = [.ref p_self, .int base', .int value', .int most'] ∧ Same G H ∧ (∀ a ∈ [p_self, p_self_enc, l_self_enc_probs, l_self_enc_front], G a = none) ∧ H p_self = some (.ins AD.c_SymbolWriter dx_self [("_encoder", V.ref p_self_enc)]) ∧ H p_self_enc = some (.ins AD.c_Encoder dx_self_enc [("_probabilities", V.ref l_self_enc_probs), ("_front", V.ref l_self_enc_front), ("_low", V.int self'.enc.low), ("_span", V.int self'.enc.span)]) ∧ H l_self_enc_probs = some (.lst ((self'.enc.probs : (List Int)).map V.int)) ∧ H l_self_enc_front = some (.lst ((self'.enc.front : (List Int)).map V.int)) ∧ l_self_enc_probs ≠ l_self_enc_front ∧ p_self ≠ p_self_enc ∧ cW (F_SymbolWriter_unary self' base' value' most') (fun v => ∀ (H' : Hp), SameXs [p_self, p_self_enc, l_self_enc_probs, l_self_enc_front] H H' → H' p_self = some (.ins AD.c_SymbolWriter dx_self [("_encoder", V.ref p_self_enc)]) → H' p_self_enc = some (.ins AD.c_Encoder dx_self_enc [("_probabilities", V.ref l_self_enc_probs), ("_front", V.ref l_self_enc_front), ("_low", V.int v.enc.low), ("_span", V.int v.enc.span)]) → H' l_self_enc_probs = some (.lst ((v.enc.probs : (List Int)).map V.int)) → H' l_self_enc_front = some (.lst ((v.enc.front : (List Int)).map V.int)) → Q .non H') (fun e => ∀ H', Same H H' → E (.ref (excA AD e)) none H')
def sp_Decoder__shift (K : PySem.W.Frag) (AD : Ads) : Sp := fun vs H Q E => ∃ (G : Hp) (p_self l_self_probs l_self_octs dx_self : Addr) (self' : St_Decoder), vs = [.ref p_self] ∧ Same G H ∧ (∀ a ∈ [p_self, l_self_probs, l_self_octs], G a = none) ∧ H p_self = some (.ins AD.c_Decoder dx_self [("_probabilities", V.ref l_self_probs), ("_octets", V.ref l_self_octs), ("_place", V.int self'.place), ("_span", V.int self'.span), ("_value", V.int self'.value)]) ∧ H l_self_probs = some (.lst ((self'.probs : (List Int)).map V.int)) ∧ H l_self_octs = some (.lst ((self'.octs : (List Int)).map V.int)) ∧ l_self_probs ≠ l_self_octs ∧ cW (F_Decoder__shift self') (fun v => ∀ (H' : Hp), SameXs [p_self, l_self_probs, l_self_octs] H H' → H' p_self = some (.ins AD.c_Decoder dx_self [("_probabilities", V.ref l_self_probs), ("_octets", V.ref l_self_octs), ("_place", V.int v.place), ("_span", V.int v.span), ("_value", V.int v.value)]) → H' l_self_probs = some (.lst ((v.probs : (List Int)).map V.int)) → H' l_self_octs = some (.lst ((v.octs : (List Int)).map V.int)) → Q .non H') (fun e => ∀ H', Same H H' → E (.ref (excA AD e)) none H')
def sp_Decoder__decide (K : PySem.W.Frag) (AD : Ads) : Sp := fun vs H Q E => ∃ (G : Hp) (p_self l_self_probs l_self_octs dx_self : Addr) (self' : St_Decoder) (chance' : Int), vs = [.ref p_self, .int chance'] ∧ Same G H ∧ (∀ a ∈ [p_self, l_self_probs, l_self_octs], G a = none) ∧ H p_self = some (.ins AD.c_Decoder dx_self [("_probabilities", V.ref l_self_probs), ("_octets", V.ref l_self_octs), ("_place", V.int self'.place), ("_span", V.int self'.span), ("_value", V.int self'.value)]) ∧ H l_self_probs = some (.lst ((self'.probs : (List Int)).map V.int)) ∧ H l_self_octs = some (.lst ((self'.octs : (List Int)).map V.int)) ∧ l_self_probs ≠ l_self_octs ∧ cW (F_Decoder__decide self' chance') (fun v => ∀ (H' : Hp), SameXs [p_self, l_self_probs, l_self_octs] H H' → H' p_self = some (.ins AD.c_Decoder dx_self [("_probabilities", V.ref l_self_probs), ("_octets", V.ref l_self_octs), ("_place", V.int v.2.place), ("_span", V.int v.2.span), ("_value", V.int v.2.value)]) → H' l_self_probs = some (.lst ((v.2.probs : (List Int)).map V.int)) → H' l_self_octs = some (.lst ((v.2.octs : (List Int)).map V.int)) → Q (.int v.1) H') (fun e => ∀ H', Same H H' → E (.ref (excA AD e)) none H')
def sp_Decoder_read (K : PySem.W.Frag) (AD : Ads) : Sp := fun vs H Q E => ∃ (G : Hp) (p_self l_self_probs l_self_octs dx_self : Addr) (self' : St_Decoder) (context' : Int), vs = [.ref p_self, .int context'] ∧ Same G H ∧ (∀ a ∈ [p_self, l_self_probs, l_self_octs], G a = none) ∧ H p_self = some (.ins AD.c_Decoder dx_self [("_probabilities", V.ref l_self_probs), ("_octets", V.ref l_self_octs), ("_place", V.int self'.place), ("_span", V.int self'.span), ("_value", V.int self'.value)]) ∧ H l_self_probs = some (.lst ((self'.probs : (List Int)).map V.int)) ∧ H l_self_octs = some (.lst ((self'.octs : (List Int)).map V.int)) ∧ l_self_probs ≠ l_self_octs ∧ cW (F_Decoder_read self' context') (fun v => ∀ (H' : Hp), SameXs [p_self, l_self_probs, l_self_octs] H H' → H' p_self = some (.ins AD.c_Decoder dx_self [("_probabilities", V.ref l_self_probs), ("_octets", V.ref l_self_octs), ("_place", V.int v.2.place), ("_span", V.int v.2.span), ("_value", V.int v.2.value)]) → H' l_self_probs = some (.lst ((v.2.probs : (List Int)).map V.int)) → H' l_self_octs = some (.lst ((v.2.octs : (List Int)).map V.int)) → Q (.int v.1) H') (fun e => ∀ H', Same H H' → E (.ref (excA AD e)) none H')
def sp_SymbolReader_unary (K : PySem.W.Frag) (AD : Ads) : Sp := fun vs H Q E => ∃ (G : Hp) (p_self p_self_dec l_self_dec_probs l_self_dec_octs dx_self dx_self_dec : Addr) (self' : St_SymbolReader) (base' : Int) (most' : Int), vs = [.ref p_self, .int base', .int most'] ∧ Same G H ∧ (∀ a ∈ [p_self, p_self_dec, l_self_dec_probs, l_self_dec_octs], G a = none) ∧ H p_self = some (.ins AD.c_SymbolReader dx_self [("_decoder", V.ref p_self_dec)]) ∧ H p_self_dec = some (.ins AD.c_Decoder dx_self_dec [("_probabilities", V.ref l_self_dec_probs), ("_octets", V.ref l_self_dec_octs), ("_place", V.int self'.dec.place), ("_span", V.int self'.dec.span), ("_value", V.int self'.dec.value)]) ∧ H l_self_dec_probs = some (.lst ((self'.dec.probs : (List Int)).map V.int)) ∧ H l_self_dec_octs = some (.lst ((self'.dec.octs : (List Int)).map V.int)) ∧ l_self_dec_probs ≠ l_self_dec_octs ∧ p_self ≠ p_self_dec ∧ cW (F_SymbolReader_unary self' base' most') (fun v => ∀ (H' : Hp), SameXs [p_self, p_self_dec, l_self_dec_probs, l_self_dec_octs] H H' → H' p_self = some (.ins AD.c_SymbolReader dx_self [("_decoder", V.ref p_self_dec)]) → H' p_self_dec = some (.ins AD.c_Decoder dx_self_dec [("_probabilities", V.ref l_self_dec_probs), ("_octets", V.ref l_self_dec_octs), ("_place", V.int v.2.dec.place), ("_span", V.int v.2.dec.span), ("_value", V.int v.2.dec.value)]) → H' l_self_dec_probs = some (.lst ((v.2.dec.probs : (List Int)).map V.int)) → H' l_self_dec_octs = some (.lst ((v.2.dec.octs : (List Int)).map V.int)) → Q (.int v.1) H') (fun e => ∀ H', Same H H' → E (.ref (excA AD e)) none H')
def sp__digit_context (K : PySem.W.Frag) (AD : Ads) : Sp := fun vs H Q E => ∃ (G : Hp) (base' : Int) (digits' : Int), vs = [.int base', .int digits'] ∧ Same G H ∧ cW (F__digit_context base' digits') (fun v => Q (.int v) H) (fun e => E (.ref (excA AD e)) none H)
def sp_Encoder_code_even (K : PySem.W.Frag) (AD : Ads) : Sp := fun vs H Q E => ∃ (G : Hp) (p_self l_self_probs l_self_front dx_self : Addr) (self' : St_Encoder) (decision' : Int), vs = [.ref p_self, .int decision'] ∧ Same G H ∧ (∀ a ∈ [p_self, l_self_probs, l_self_front], G a = none) ∧ H p_self = some (.ins AD.c_Encoder dx_self [("_probabilities", V.ref l_self_probs), ("_front", V.ref l_self_front), ("_low", V.int self'.low), ("_span", V.int self'.span)]) ∧ H l_self_probs = some (.lst ((self'.probs : (List Int)).map V.int)) ∧ H l_self_front = some (.lst ((self'.front : (List Int)).map V.int)) ∧ l_self_probs ≠ l_self_front ∧ cW (F_Encoder_code_even self' decision') (fun v => ∀ (H' : Hp), SameXs [p_self, l_self_probs, l_self_front] H H' → H' p_self = some (.ins AD.c_Encoder dx_self [("_probabilities", V.ref l_self_probs), ("_front", V.ref l_self_front), ("_low", V.int v.low), ("_span", V.int v.span)]) → H' l_self_probs = some (.lst ((v.probs : (List Int)).map V.int)) → H' l_self_front = some (.lst ((v.front : (List Int)).map V.int)) → Q .non H') (fun e => ∀ H', Same H H' → E (.ref (excA AD e)) none H')
def sp_SymbolWriter_number (K : PySem.W.Frag) (AD : Ads) : Sp := fun vs H Q E => ∃ (G : Hp) (p_self p_self_enc l_self_enc_probs l_self_enc_front dx_self dx_self_enc : Addr) (self' : St_SymbolWriter) (base' : Int) (value' : Int), vs = [.ref p_self, .int base', .int value'] ∧ Same G H ∧ (∀ a ∈ [p_self, p_self_enc, l_self_enc_probs, l_self_enc_front], G a = none) ∧ H p_self = some (.ins AD.c_SymbolWriter dx_self [("_encoder", V.ref p_self_enc)]) ∧ H p_self_enc = some (.ins AD.c_Encoder dx_self_enc [("_probabilities", V.ref l_self_enc_probs), ("_front", V.ref l_self_enc_front), ("_low", V.int self'.enc.low), ("_span", V.int self'.enc.span)]) ∧ H l_self_enc_probs = some (.lst ((self'.enc.probs : (List Int)).map V.int)) ∧ H l_self_enc_front = some (.lst ((self'.enc.front : (List Int)).map V.int)) ∧ l_self_enc_probs ≠ l_self_enc_front ∧ p_self ≠ p_self_enc ∧ cW (F_SymbolWriter_number self' base' value') (fun v => ∀ (H' : Hp), SameXs [p_self, p_self_enc, l_self_enc_probs, l_self_enc_front] H H' → H' p_self = some (.ins AD.c_SymbolWriter dx_self [("_encoder", V.ref p_self_enc)]) → H' p_self_enc = some (.ins AD.c_Encoder dx_self_enc [("_probabilities", V.ref l_self_enc_probs), ("_front", V.ref l_self_enc_front), ("_low", V.int v.enc.low), ("_span", V.int v.enc.span)]) → H' l_self_enc_probs = some (.lst ((v.enc.probs : (List Int)).map V.int)) → H' l_self_enc_front = some (.lst ((v.enc.front : (List Int)).map V.int)) → Q .non H') (fun e => ∀ H', Same H H' → E (.ref (excA AD e)) none H')
def sp_Decoder_read_even (K : PySem.W.Frag) (AD : Ads) : Sp := fun vs H Q E => ∃ (G : Hp) (p_self l_self_probs l_self_octs dx_self : Addr) (self' : St_Decoder), vs = [.ref p_self] ∧ Same G H ∧ (∀ a ∈ [p_self, l_self_probs, l_self_octs], G a = none) ∧ H p_self = some (.ins AD.c_Decoder dx_self [("_probabilities", V.ref l_self_probs), ("_octets", V.ref l_self_octs), ("_place", V.int self'.place), ("_span", V.int self'.span), ("_value", V.int self'.value)]) ∧ H l_self_probs = some (.lst ((self'.probs : (List Int)).map V.int)) ∧ H l_self_octs = some (.lst ((self'.octs : (List Int)).map V.int)) ∧ l_self_probs ≠ l_self_octs ∧ cW (F_Decoder_read_even self') (fun v => ∀ (H' : Hp), SameXs [p_self, l_self_probs, l_self_octs] H H' → H' p_self = some (.ins AD.c_Decoder dx_self [("_probabilities", V.ref l_self_probs), ("_octets", V.ref l_self_octs), ("_place", V.int v.2.place), ("_span", V.int v.2.span), ("_value", V.int v.2.value)]) → H' l_self_probs = some (.lst ((v.2.probs : (List Int)).map V.int)) → H' l_self_octs = some (.lst ((v.2.octs : (List Int)).map V.int)) → Q (.int v.1) H') (fun e => ∀ H', Same H H' → E (.ref (excA AD e)) none H')
def sp_SymbolReader_number (K : PySem.W.Frag) (AD : Ads) : Sp := fun vs H Q E => ∃ (G : Hp) (p_self p_self_dec l_self_dec_probs l_self_dec_octs dx_self dx_self_dec : Addr) (self' : St_SymbolReader) (base' : Int), vs = [.ref p_self, .int base'] ∧ Same G H ∧ (∀ a ∈ [p_self, p_self_dec, l_self_dec_probs, l_self_dec_octs], G a = none) ∧ H p_self = some (.ins AD.c_SymbolReader dx_self [("_decoder", V.ref p_self_dec)]) ∧ H p_self_dec = some (.ins AD.c_Decoder dx_self_dec [("_probabilities", V.ref l_self_dec_probs), ("_octets", V.ref l_self_dec_octs), ("_place", V.int self'.dec.place), ("_span", V.int self'.dec.span), ("_value", V.int self'.dec.value)]) ∧ H l_self_dec_probs = some (.lst ((self'.dec.probs : (List Int)).map V.int)) ∧ H l_self_dec_octs = some (.lst ((self'.dec.octs : (List Int)).map V.int)) ∧ l_self_dec_probs ≠ l_self_dec_octs ∧ p_self ≠ p_self_dec ∧ cW (F_SymbolReader_number self' base') (fun v => ∀ (H' : Hp), SameXs [p_self, p_self_dec, l_self_dec_probs, l_self_dec_octs] H H' → H' p_self = some (.ins AD.c_SymbolReader dx_self [("_decoder", V.ref p_self_dec)]) → H' p_self_dec = some (.ins AD.c_Decoder dx_self_dec [("_probabilities", V.ref l_self_dec_probs), ("_octets", V.ref l_self_dec_octs), ("_place", V.int v.2.dec.place), ("_span", V.int v.2.dec.span), ("_value", V.int v.2.dec.value)]) → H' l_self_dec_probs = some (.lst ((v.2.dec.probs : (List Int)).map V.int)) → H' l_self_dec_octs = some (.lst ((v.2.dec.octs : (List Int)).map V.int)) → Q (.int v.1) H') (fun e => ∀ H', Same H H' → E (.ref (excA AD e)) none H')
def sp__check_levels (K : PySem.W.Frag) (AD : Ads) : Sp := fun vs H Q E => ∃ (G : Hp) (a_levels : Addr) (levels' : List Int), vs = [.ref a_levels] ∧ Same G H ∧ (hideL [] H) a_levels = some (.lst ((levels' : List Int).map V.int)) ∧ cW (F__check_levels levels') (fun v => Q .non H) (fun e => E (.ref (excA AD e)) none H)
def sp_SymbolWriter_flag (K : PySem.W.Frag) (AD : Ads) : Sp := fun vs H Q E => ∃ (G : Hp) (p_self p_self_enc l_self_enc_probs l_self_enc_front dx_self dx_self_enc : Addr) (self' : St_SymbolWriter) (base' : Int) (value' : Bool), vs = [.ref p_self, .int base', .bl value'] ∧ Same G H ∧ (∀ a ∈ [p_self, p_self_enc, l_self_enc_probs, l_self_enc_front], G a = none) ∧ H p_self = some (.ins AD.c_SymbolWriter dx_self [("_encoder", V.ref p_self_enc)]) ∧ H p_self_enc = some (.ins AD.c_Encoder dx_self_enc [("_probabilities", V.ref l_self_enc_probs), ("_front", V.ref l_self_enc_front), ("_low", V.int self'.enc.low), ("_span", V.int self'.enc.span)]) ∧ H l_self_enc_probs = some (.lst ((self'.enc.probs : (List Int)).map V.int)) ∧ H l_self_enc_front = some (.lst ((self'.enc.front : (List Int)).map V.int)) ∧ l_self_enc_probs ≠ l_self_enc_front ∧ p_self ≠ p_self_enc ∧ cW (F_SymbolWriter_flag self' base' value') (fun v => ∀ (H' : Hp), SameXs [p_self, p_self_enc, l_self_enc_probs, l_self_enc_front] H H' → H' p_self = some (.ins AD.c_SymbolWriter dx_self [("_encoder", V.ref p_self_enc)]) → H' p_self_enc = some (.ins AD.c_Encoder dx_self_enc [("_probabilities", V.ref l_self_enc_probs), ("_front", V.ref l_self_enc_front), ("_low", V.int v.enc.low), ("_span", V.int v.enc.span)]) → H' l_self_enc_probs = some (.lst ((v.enc.probs : (List Int)).map V.int)) → H' l_self_enc_front = some (.lst ((v.enc.front : (List Int)).map V.int)) → Q .non H') (fun e => ∀ H', Same H H' → E (.ref (excA AD e)) none H')
def sp_SymbolReader_flag (K : PySem.W.Frag) (AD : Ads) : Sp := fun vs H Q E => ∃ (G : Hp) (p_self p_self_dec l_self_dec_probs l_self_dec_octs dx_self dx_self_dec : Addr) (self' : St_SymbolReader) (base' : Int), vs = [.ref p_self, .int base'] ∧ Same G H ∧ (∀ a ∈ [p_self, p_self_dec, l_self_dec_probs, l_self_dec_octs], G a = none) ∧ H p_self = some (.ins AD.c_SymbolReader dx_self [("_decoder", V.ref p_self_dec)]) ∧ H p_self_dec = some (.ins AD.c_Decoder dx_self_dec [("_probabilities", V.ref l_self_dec_probs), ("_octets", V.ref l_self_dec_octs), ("_place", V.int self'.dec.place), ("_span", V.int self'.dec.span), ("_value", V.int self'.dec.value)]) ∧ H l_self_dec_probs = some (.lst ((self'.dec.probs : (List Int)).map V.int)) ∧ H l_self_dec_octs = some (.lst ((self'.dec.octs : (List Int)).map V.int)) ∧ l_self_dec_probs ≠ l_self_dec_octs ∧ p_self ≠ p_self_dec ∧ cW (F_SymbolReader_flag self' base') (fun v => ∀ (H' : Hp), SameXs [p_self, p_self_dec, l_self_dec_probs, l_self_dec_octs] H H' → H' p_self = some (.ins AD.c_SymbolReader dx_self [("_decoder", V.ref p_self_dec)]) → H' p_self_dec = some (.ins AD.c_Decoder dx_self_dec [("_probabilities", V.ref l_self_dec_probs), ("_octets", V.ref l_self_dec_octs), ("_place", V.int v.2.dec.place), ("_span", V.int v.2.dec.span), ("_value", V.int v.2.dec.value)]) → H' l_self_dec_probs = some (.lst ((v.2.dec.probs : (List Int)).map V.int)) → H' l_self_dec_octs = some (.lst ((v.2.dec.octs : (List Int)).map V.int)) → Q (.bl v.1) H') (fun e => ∀ H', Same H H' → E (.ref (excA AD e)) none H')
def sp__put_places (K : PySem.W.Frag) (AD : Ads) : Sp := fun vs H Q E => ∃ (G : Hp) (p_writer p_writer_enc l_writer_enc_probs l_writer_enc_front dx_writer dx_writer_enc : Addr) (writer' : St_SymbolWriter) (a_levels : Addr) (levels' : List Int) (last' : Int), vs = [.ref p_writer, .ref a_levels, .int last'] ∧ Same G H ∧ (∀ a ∈ [p_writer, p_writer_enc, l_writer_enc_probs, l_writer_enc_front], G a = none) ∧ H p_writer = some (.ins AD.c_SymbolWriter dx_writer [("_encoder", V.ref p_writer_enc)]) ∧ H p_writer_enc = some (.ins AD.c_Encoder dx_writer_enc [("_probabilities", V.ref l_writer_enc_probs), ("_front", V.ref l_writer_enc_front), ("_low", V.int writer'.enc.low), ("_span", V.int writer'.enc.span)]) ∧ H l_writer_enc_probs = some (.lst ((writer'.enc.probs : (List Int)).map V.int)) ∧ H l_writer_enc_front = some (.lst ((writer'.enc.front : (List Int)).map V.int)) ∧ l_writer_enc_probs ≠ l_writer_enc_front ∧ p_writer ≠ p_writer_enc ∧ (hideL [p_writer, p_writer_enc, l_writer_enc_probs, l_writer_enc_front] H) a_levels = some (.lst ((levels' : List Int).map V.int)) ∧ cW (F__put_places writer' levels' last') (fun v => ∀ (H' : Hp), SameXs [p_writer, p_writer_enc, l_writer_enc_probs, l_writer_enc_front] H H' → H' p_writer = some (.ins AD.c_SymbolWriter dx_writer [("_encoder", V.ref p_writer_enc)]) → H' p_writer_enc = some (.ins AD.c_Encoder dx_writer_enc [("_probabilities", V.ref l_writer_enc_probs), ("_front", V.ref l_writer_enc_front), ("_low", V.int v.enc.low), ("_span", V.int v.enc.span)]) → H' l_writer_enc_probs = some (.lst ((v.enc.probs : (List Int)).map V.int)) → H' l_writer_enc_front = some (.lst ((v.enc.front : (List Int)).map V.int)) → Q .non H') (fun e => ∀ H', Same H H' → E (.ref (excA AD e)) none H')
def sp__base_after (K : PySem.W.Frag) (AD : Ads) : Sp := fun vs H Q E => ∃ (G : Hp) (base' : Int) (worth' : Int), vs = [.int base', .int worth'] ∧ Same G H ∧ cW (F__base_after base' worth') (fun v => Q (.int v) H) (fun e => E (.ref (excA AD e)) none H)
def sp_SymbolWriter_even (K : PySem.W.Frag) (AD : Ads) : Sp := fun vs H Q E => ∃ (G : Hp) (p_self p_self_enc l_self_enc_probs l_self_enc_front dx_self dx_self_enc : Addr) (self' : St_SymbolWriter) (decision' : Int), vs = [.ref p_self, .int decision'] ∧ Same G H ∧ (∀ a ∈ [p_self, p_self_enc, l_self_enc_probs, l_self_enc_front], G a = none) ∧ H p_self = some (.ins AD.c_SymbolWriter dx_self [("_encoder", V.ref p_self_enc)]) ∧ H p_self_enc = some (.ins AD.c_Encoder dx_self_enc [("_probabilities", V.ref l_self_enc_probs), ("_front", V.ref l_self_enc_front), ("_low", V.int self'.enc.low), ("_span", V.int self'.enc.span)]) ∧ H l_self_enc_probs = some (.lst ((self'.enc.probs : (List Int)).map V.int)) ∧ H l_self_enc_front = some (.lst ((self'.enc.front : (List Int)).map V.int)) ∧ l_self_enc_probs ≠ l_self_enc_front ∧ p_self ≠ p_self_enc ∧ cW (F_SymbolWriter_even self' decision') (fun v => ∀ (H' : Hp), SameXs [p_self, p_self_enc, l_self_enc_probs, l_self_enc_front] H H' → H' p_self = some (.ins AD.c_SymbolWriter dx_self [("_encoder", V.ref p_self_enc)]) → H' p_self_enc = some (.ins AD.c_Encoder dx_self_enc [("_probabilities", V.ref l_self_enc_probs), ("_front", V.ref l_self_enc_front), ("_low", V.int v.enc.low), ("_span", V.int v.enc.span)]) → H' l_self_enc_probs = some (.lst ((v.enc.probs : (List Int)).map V.int)) → H' l_self_enc_front = some (.lst ((v.enc.front : (List Int)).map V.int)) → Q .non H') (fun e => ∀ H', Same H H' → E (.ref (excA AD e)) none H')
def sp_SymbolReader_even (K : PySem.W.Frag) (AD : Ads) : Sp := fun vs H Q E => ∃ (G : Hp) (p_self p_self_dec l_self_dec_probs l_self_dec_octs dx_self dx_self_dec : Addr) (self' : St_SymbolReader), vs = [.ref p_self] ∧ Same G H ∧ (∀ a ∈ [p_self, p_self_dec, l_self_dec_probs, l_self_dec_octs], G a = none) ∧ H p_self = some (.ins AD.c_SymbolReader dx_self [("_decoder", V.ref p_self_dec)]) ∧ H p_self_dec = some (.ins AD.c_Decoder dx_self_dec [("_probabilities", V.ref l_self_dec_probs), ("_octets", V.ref l_self_dec_octs), ("_place", V.int self'.dec.place), ("_span", V.int self'.dec.span), ("_value", V.int self'.dec.value)]) ∧ H l_self_dec_probs = some (.lst ((self'.dec.probs : (List Int)).map V.int)) ∧ H l_self_dec_octs = some (.lst ((self'.dec.octs : (List Int)).map V.int)) ∧ l_self_dec_probs ≠ l_self_dec_octs ∧ p_self ≠ p_self_dec ∧ cW (F_SymbolReader_even self') (fun v => ∀ (H' : Hp), SameXs [p_self, p_self_dec, l_self_dec_probs, l_self_dec_octs] H H' → H' p_self = some (.ins AD.c_SymbolReader dx_self [("_decoder", V.ref p_self_dec)]) → H' p_self_dec = some (.ins AD.c_Decoder dx_self_dec [("_probabilities", V.ref l_self_dec_probs), ("_octets", V.ref l_self_dec_octs), ("_place", V.int v.2.dec.place), ("_span", V.int v.2.dec.span), ("_value", V.int v.2.dec.value)]) → H' l_self_dec_probs = some (.lst ((v.2.dec.probs : (List Int)).map V.int)) → H' l_self_dec_octs = some (.lst ((v.2.dec.octs : (List Int)).map V.int)) → Q (.int v.1) H') (fun e => ∀ H', Same H H' → E (.ref (excA AD e)) none H')
def sp_put_levels (K : PySem.W.Frag) (AD : Ads) : Sp := fun vs H Q E => ∃ (G : Hp) (p_writer p_writer_enc l_writer_enc_probs l_writer_enc_front dx_writer dx_writer_enc : Addr) (writer' : St_SymbolWriter) (a_levels : Addr) (levels' : List Int), vs = [.ref p_writer, .ref a_levels] ∧ Same G H ∧ (∀ a ∈ [p_writer, p_writer_enc, l_writer_enc_probs, l_writer_enc_front], G a = none) ∧ H p_writer = some (.ins AD.c_SymbolWriter dx_writer [("_encoder", V.ref p_writer_enc)]) ∧ H p_writer_enc = some (.ins AD.c_Encoder dx_writer_enc [("_probabilities", V.ref l_writer_enc_probs), ("_front", V.ref l_writer_enc_front), ("_low", V.int writer'.enc.low), ("_span", V.int writer'.enc.span)]) ∧ H l_writer_enc_probs = some (.lst ((writer'.enc.probs : (List Int)).map V.int)) ∧ H l_writer_enc_front = some (.lst ((writer'.enc.front : (List Int)).map V.int)) ∧ l_writer_enc_probs ≠ l_writer_enc_front ∧ p_writer ≠ p_writer_enc ∧ (hideL [p_writer, p_writer_enc, l_writer_enc_probs, l_writer_enc_front] H) a_levels = some (.lst ((levels' : List Int).map V.int)) ∧ cW (F_put_levels writer' levels') (fun v => ∀ (H' : Hp), SameXs [p_writer, p_writer_enc, l_writer_enc_probs, l_writer_enc_front] H H' → H' p_writer = some (.ins AD.c_SymbolWriter dx_writer [("_encoder", V.ref p_writer_enc)]) → H' p_writer_enc = some (.ins AD.c_Encoder dx_writer_enc [("_probabilities", V.ref l_writer_enc_probs), ("_front", V.ref l_writer_enc_front), ("_low", V.int v.enc.low), ("_span", V.int v.enc.span)]) → H' l_writer_enc_probs = some (.lst ((v.enc.probs : (List Int)).map V.int)) → H' l_writer_enc_front = some (.lst ((v.enc.front : (List Int)).map V.int)) → Q .non H') (fun e => ∀ H', Same H H' → E (.ref (excA AD e)) none H')
def sp_Encoder_octets (K : PySem.W.Frag) (AD : Ads) : Sp := fun vs H Q E => ∃ (G : Hp) (p_self l_self_probs l_self_front dx_self : Addr) (self' : St_Encoder), vs = [.ref p_self] ∧ Same G H ∧ (hideL [] H) p_self = some (.ins AD.c_Encoder dx_self [("_probabilities", V.ref l_self_probs), ("_front", V.ref l_self_front), ("_low", V.int self'.low), ("_span", V.int self'.span)]) ∧ (hideL [] H) l_self_probs = some (.lst ((self'.probs : (List Int)).map V.int)) ∧ (hideL [] H) l_self_front = some (.lst ((self'.front : (List Int)).map V.int)) ∧ cW (F_Encoder_octets self') (fun v => ∀ p H', H p = none → Same H H' → H' p = some (.lst (v.map V.int)) → Q (.ref p) H') (fun e => ∀ H', Same H H' → E (.ref (excA AD e)) none H')
def sp_Encoder_probability (K : PySem.W.Frag) (AD : Ads) : Sp := fun vs H Q E => ∃ (G : Hp) (p_self l_self_probs l_self_front dx_self : Addr) (self' : St_Encoder) (context' : Int), vs = [.ref p_self, .int context'] ∧ Same G H ∧ (hideL [] H) p_self = some (.ins AD.c_Encoder dx_self [("_probabilities", V.ref l_self_probs), ("_front", V.ref l_self_front), ("_low", V.int self'.low), ("_span", V.int self'.span)]) ∧ (hideL [] H) l_self_probs = some (.lst ((self'.probs : (List Int)).map V.int)) ∧ (hideL [] H) l_self_front = some (.lst ((self'.front : (List Int)).map V.int)) ∧ cW (F_Encoder_probability self' context') (fun v => ∀ H', Same H H' → Q (.int v) H') (fun e => ∀ H', Same H H' → E (.ref (excA AD e)) none H')
def sp_Decoder_probability (K : PySem.W.Frag) (AD : Ads) : Sp := fun vs H Q E => ∃ (G : Hp) (p_self l_self_probs l_self_octs dx_self : Addr) (self' : St_Decoder) (context' : Int), vs = [.ref p_self, .int context'] ∧ Same G H ∧ (hideL [] H) p_self = some (.ins AD.c_Decoder dx_self [("_probabilities", V.ref l_self_probs), ("_octets", V.ref l_self_octs), ("_place", V.int self'.place), ("_span", V.int self'.span), ("_value", V.int self'.value)]) ∧ (hideL [] H) l_self_probs = some (.lst ((self'.probs : (List Int)).map V.int)) ∧ (hideL [] H) l_self_octs = some (.lst ((self'.octs : (List Int)).map V.int)) ∧ cW (F_Decoder_probability self' context') (fun v => ∀ H', Same H H' → Q (.int v) H') (fun e => ∀ H', Same H H' → E (.ref (excA AD e)) none H')
def sp__law_refused (K : PySem.W.Frag) (AD : Ads) : Sp := fun vs H Q E => ∃ (G : Hp) (a_levels : Addr) (levels' : List Int), vs = [.ref a_levels] ∧ Same G H ∧ (hideL [] H) a_levels = some (.lst ((levels' : List Int).map V.int)) ∧ cW (F__law_refused levels') (fun v => ∀ H', Same H H' → Q (.bl v) H') (fun e => ∀ H', Same H H' → E (.ref (excA AD e)) none H')
def sp_check_size (K : PySem.W.Frag) (AD : Ads) : Sp := fun vs H Q E => ∃ (G : Hp) (size' : Int), vs = [.int size'] ∧ Same G H ∧ cW (F_check_size size') (fun v => Q .non H) (fun e => E (.ref (excA AD e)) none H)
def sp__get_places (K : PySem.W.Frag) (AD : Ads) : Sp := fun vs H Q E => ∃ (G : Hp) (p_reader p_reader_dec l_reader_dec_probs l_reader_dec_octs dx_reader dx_reader_dec : Addr) (reader' : St_SymbolReader) (count' : Int), vs = [.ref p_reader, .int count'] ∧ Same G H ∧ (∀ a ∈ [p_reader, p_reader_dec, l_reader_dec_probs, l_reader_dec_octs], G a = none) ∧ H p_reader = some (.ins AD.c_SymbolReader dx_reader [("_decoder", V.ref p_reader_dec)]) ∧ H p_reader_dec = some (.ins AD.c_Decoder dx_reader_dec [("_probabilities", V.ref l_reader_dec_probs), ("_octets", V.ref l_reader_dec_octs), ("_place", V.int reader'.dec.place), ("_span", V.int reader'.dec.span), ("_value", V.int reader'.dec.value)]) ∧ H l_reader_dec_probs = some (.lst ((reader'.dec.probs : (List Int)).map V.int)) ∧ H l_reader_dec_octs = some (.lst ((reader'.dec.octs : (List Int)).map V.int)) ∧ l_reader_dec_probs ≠ l_reader_dec_octs ∧ p_reader ≠ p_reader_dec ∧ cW (F__get_places reader' count') (fun v => ∀ (H' : Hp), SameXs [p_reader, p_reader_dec, l_reader_dec_probs, l_reader_dec_octs] H H' → H' p_reader = some (.ins AD.c_SymbolReader dx_reader [("_decoder", V.ref p_reader_dec)]) → H' p_reader_dec = some (.ins AD.c_Decoder dx_reader_dec [("_probabilities", V.ref l_reader_dec_probs), ("_octets", V.ref l_reader_dec_octs), ("_place", V.int v.2.dec.place), ("_span", V.int v.2.dec.span), ("_value", V.int v.2.dec.value)]) → H' l_reader_dec_probs = some (.lst ((v.2.dec.probs : (List Int)).map V.int)) → H' l_reader_dec_octs = some (.lst ((v.2.dec.octs : (List Int)).map V.int)) → ∀ p, H p = none → H' p = some (.lst (v.1.map V.int)) → Q (.ref p) H') (fun e => ∀ H', Same H H' → E (.ref (excA AD e)) none H')
def sp_clip (K : PySem.W.Frag) (AD : Ads) : Sp := fun vs H Q E => ∃ (G : Hp) (value' : Int) (low' : Int) (high' : Int), vs = [.int value', .int low', .int high'] ∧ Same G H ∧ cW (F_clip value' low' high') (fun v => Q (.int v) H) (fun e => E (.ref (excA AD e)) none H)
def sp_get_levels (K : PySem.W.Frag) (AD : Ads) : Sp := fun vs H Q E => ∃ (G : Hp) (p_reader p_reader_dec l_reader_dec_probs l_reader_dec_octs dx_reader dx_reader_dec : Addr) (reader' : St_SymbolReader) (size' : Int), vs = [.ref p_reader, .int size'] ∧ Same G H ∧ (∀ a ∈ [p_reader, p_reader_dec, l_reader_dec_probs, l_reader_dec_octs], G a = none) ∧ H p_reader = some (.ins AD.c_SymbolReader dx_reader [("_decoder", V.ref p_reader_dec)]) ∧ H p_reader_dec = some (.ins AD.c_Decoder dx_reader_dec [("_probabilities", V.ref l_reader_dec_probs), ("_octets", V.ref l_reader_dec_octs), ("_place", V.int reader'.dec.place), ("_span", V.int reader'.dec.span), ("_value", V.int reader'.dec.value)]) ∧ H l_reader_dec_probs = some (.lst ((reader'.dec.probs : (List Int)).map V.int)) ∧ H l_reader_dec_octs = some (.lst ((reader'.dec.octs : (List Int)).map V.int)) ∧ l_reader_dec_probs ≠ l_reader_dec_octs ∧ p_reader ≠ p_reader_dec ∧ cW (F_get_levels reader' size') (fun v => ∀ (H' : Hp), SameXs [p_reader, p_reader_dec, l_reader_dec_probs, l_reader_dec_octs] H H' → H' p_reader = some (.ins AD.c_SymbolReader dx_reader [("_decoder", V.ref p_reader_dec)]) → H' p_reader_dec = some (.ins AD.c_Decoder dx_reader_dec [("_probabilities", V.ref l_reader_dec_probs), ("_octets", V.ref l_reader_dec_octs), ("_place", V.int v.2.dec.place), ("_span", V.int v.2.dec.span), ("_value", V.int v.2.dec.value)]) → H' l_reader_dec_probs = some (.lst ((v.2.dec.probs : (List Int)).map V.int)) → H' l_reader_dec_octs = some (.lst ((v.2.dec.octs : (List Int)).map V.int)) → ∀ p, H p = none → H' p = some (.lst (v.1.map V.int)) → Q (.ref p) H') (fun e => ∀ H', Same H H' → E (.ref (excA AD e)) none H')
def sp_Decoder___init__ (K : PySem.W.Frag) (AD : Ads) : Sp := fun vs H Q E => ∃ (G : Hp) (p_self dx_self : Addr) (a_octets : Addr) (octets' : List Int), vs = [.ref p_self, .ref a_octets] ∧ Same G H ∧ (∀ a ∈ [p_self], G a = none) ∧ H p_self = some (.ins AD.c_Decoder dx_self []) ∧ (hideL [p_self] H) a_octets = some (.lst ((octets' : List Int).map V.int)) ∧ cW (F_Decoder___init__ octets') (fun v => ∀ (H' : Hp) (l_probs l_octs : Addr), SameX p_self H H' → H l_probs = none → H l_octs = none → l_probs ≠ l_octs → H' p_self = some (.ins AD.c_Decoder dx_self [("_probabilities", V.ref l_probs), ("_octets", V.ref l_octs), ("_place", V.int v.place), ("_span", V.int v.span), ("_value", V.int v.value)]) → H' l_probs = some (.lst (v.probs.map V.int)) → H' l_octs = some (.lst (v.octs.map V.int)) → Q .non H') (fun e => ∀ H', SameX p_self H H' → E (.ref (excA AD e)) none H')
def sp__law_far (K : PySem.W.Frag) (AD : Ads) : Sp := fun vs H Q E => ∃ (G : Hp) (count' : Int) (magnitude' : Int) (sign' : Int), vs = [.int count', .int magnitude', .int sign'] ∧ Same G H ∧ cW (F__law_far count' magnitude' sign') (fun v => ∀ p H', H p = none → Same H H' → H' p = some (.lst (v.map V.int)) → Q (.ref p) H') (fun e => ∀ H', Same H H' → E (.ref (excA AD e)) none H')
def sp__law_refuses (K : PySem.W.Frag) (AD : Ads) : Sp := fun vs H Q E => ∃ (G : Hp) (cell' : Int), vs = [.int cell'] ∧ Same G H ∧ cW (F__law_refuses cell') (fun v => ∀ H', Same H H' → Q (.bl v) H') (fun e => ∀ H', Same H H' → E (.ref (excA AD e)) none H')
def sp__law_is_integers (K : PySem.W.Frag) (AD : Ads) : Sp := fun vs H Q E => ∃ (G : Hp) (a_actual : Addr) (actual' : List Int) (count' : Int), vs = [.ref a_actual, .int count'] ∧ Same G H ∧ (hideL [] H) a_actual = some (.lst ((actual' : List Int).map V.int)) ∧ cW (F__law_is_integers actual' count') (fun v => ∀ H', Same H H' → Q (.bl v) H') (fun e => ∀ H', Same H H' → E (.ref (excA AD e)) none H')
def sp_law (K : PySem.W.Frag) (AD : Ads) : Sp := fun vs H Q E => ∃ (a_script : Addr) (script : List Int), vs = [.ref a_script] ∧ SqL K H a_script (script.map V.int) ∧ cW (F_law script) (fun v => v = true) (fun _ => False) ∧ ∀ H', Q (.bl true) H'
section
variable {P : Program} {w : World} {K : PySem.W.Frag} {mg : Str → Option Value} {base : Heap} {AD : Ads}
abbrev N__law_cell : List Str := ["script", "k"]
theorem sc__law_cell : FnScope N__law_cell ["script", "k"] (defScope s__law_cell) := ⟨rfl, rfl, rfl, by decide +kernel, rfl, by decide +kernel, by decide +kernel⟩
theorem ok__law_cell (D : DefX K mg "_law_cell" s__law_cell ["script", "k"] pats__law_cell) (T : Txt w K mg AD)  : CalX P w K mg base 1 "_law_cell" (sp__law_cell K AD) pats__law_cell := by
  refine D.ok sc__law_cell (fun vs H Q E h => ?_) (fun f cdv A_ outer s H vs Q E hr h => ?_)
  · obtain ⟨G, a_script, script', k', rfl, _⟩ := h
    rfl
  · obtain ⟨G, a_script, script', k', rfl, sG, q_script, hw⟩ := h
    refine ⟨_, (pss_cons (ps_if (pt_cmp (pc_lt (pv 1) (pe_callB (call_lenLiK (K := K)) (by rfl) T.b_len (by decide +kernel) (pa_cons (pv 0) pa_nil)))) (pss_one (ps_ret (pe_callB call_abs (by rfl) T.b_abs (by decide +kernel) (pa_cons (pe_callTy call_int1 (by rfl) T.b_int (by decide +kernel) (pa_cons (pe_ix (ix_listK (K := K)) (pv 0) (pv 1) (fun _ _ => rfl)) pa_nil)) pa_nil)))) pss_nil)
      (pss_one (ps_ret pe_int))), ?_⟩
    obtain ⟨KK, EE, hK0, hE, hw⟩ := cW_gen hw
    have S0 := Sep.startG sG
    unfold F__law_cell at hw
    refine ⟨_, rfl, _, rfl, _, _, rfl, (S0.b0.seq q_script), _, _, rfl, rfl, _, rfl, ?_⟩
    refine iteD (fun c1 => ?_) (fun c1 => ?_)
    · have hw := cW_pos c1 hw
      obtain ⟨g2, hw⟩ := cW_grd hw
      refine ⟨_, rfl, _, rfl, _, _, _, _, rfl, rfl, (S0.b0.seq q_script), (atI_map g2), .inl ⟨_, rfl, ?_⟩⟩
      refine ⟨_, rfl, ?_⟩
      have hw := cW_ok hw
      exact hK0 _ hw
    · have hw := cW_neg c1 hw
      have hw := cW_ok hw
      exact hK0 _ hw

abbrev N__law_digits : List Str := ["cell", "base", "most", "digits", "large", "k"]
theorem sc__law_digits : FnScope N__law_digits ["cell", "base", "most"] (defScope s__law_digits) := ⟨rfl, rfl, rfl, by decide +kernel, rfl, by decide +kernel, by decide +kernel⟩
theorem ok__law_digits (D : DefX K mg "_law_digits" s__law_digits ["cell", "base", "most"] pats__law_digits) (T : Txt w K mg AD)  : CalX P w K mg base 1 "_law_digits" (sp__law_digits K AD) pats__law_digits := by
  refine D.ok sc__law_digits (fun vs H Q E h => ?_) (fun f cdv A_ outer s H vs Q E hr h => ?_)
  · obtain ⟨G, cell', base', most', rfl, _⟩ := h
    rfl
  · obtain ⟨G, cell', base', most', rfl, sG, hw⟩ := h
    refine ⟨_, (pss_cons (ps_set (i := 3) sc__law_digits.nd rfl (Or.inl rfl) (pe_lst pa_nil))
      (pss_cons (ps_set (i := 4) sc__law_digits.nd rfl (Or.inl rfl) (pe_cmp (pc_ge (pv 0) (pe_op op_pow pe_int pe_int))))
      (pss_cons (ps_for (passes_of rfl) rfl (pi_range1 rfl T.b_range (pa_cons (pv 2) pa_nil)) (pg_name (i := 5) sc__law_digits.nd rfl (Or.inl rfl)) (pss_one (ps_if (pt_val (pv 4)) (pss_cons (ps_expr (pe_bm PySem.F.plainAttrs_list PySem.F.slot_list_append PySem.F.type_list_append mt_append (pv 3) (pa_cons (pe_op op_mod (pe_callTy call_int1 (by rfl) T.b_int (by decide +kernel) (pa_cons (pv 0) pa_nil)) (pv 1)) pa_nil)))
      (pss_one (ps_set (i := 0) sc__law_digits.nd rfl (Or.inl rfl) (pe_op op_fdivW (pv 0) (pv 1))))) (pss_one (ps_expr (pe_bm PySem.F.plainAttrs_list PySem.F.slot_list_append PySem.F.type_list_append mt_append (pv 3) (pa_cons (pe_op op_mod (pe_op op_mod (pe_callTy call_int1 (by rfl) T.b_int (by decide +kernel) (pa_cons (pe_op op_add (pe_op op_add (pe_op op_mul (pv 0) pe_int) (pe_op op_mul (pe_op op_mul (pe_op op_add (pv 5) pe_int) (pe_op op_add (pv 5) pe_int)) pe_int)) (pe_op op_mul (pe_op op_fdivW (pv 0) pe_int) (pv 5))) pa_nil)) pe_int) (pv 1)) pa_nil)))))))
      (pss_one (ps_ret (pv 3)))))), ?_⟩
    obtain ⟨KK, EE, hK0, hE, hw⟩ := cW_gen hw
    have S0 := Sep.startG sG
    unfold F__law_digits at hw
    refine ⟨(by show 0 ≤ sizeLine; decide), fun p3 n4 => ?_⟩
    generalize g5 : upd H p3 _ = H6
    obtain ⟨e7, h8⟩ := gen_new n4 g5
    have h9 : H6 p3 = some (.lst ((([] : (List Int)) : (List Int)).map V.int)) := h8
    have fr10 := S0.free n4
    have S11 := S0.new n4 e7 h9 fr10
    refine ⟨_, rfl, _, _, rfl, rfl, ⟨by decide, by decide, by decide⟩, _, _, rfl, rfl, ?_⟩
    have hw := cW_bnd hw
    obtain ⟨g13, hw⟩ := cW_grd hw
    obtain ⟨K16, hK17, hw⟩ := cW_push hw
    refine ⟨_, rfl, _, rfl, g13.1, g13.2, for_range (lo := 0) (n := Int.toNat (most')) (fun i σ H' => ∃ (cell_18 : Int) (digits_19 : (List Int)) (u20 : Option V) (G' : Hp), σ = [some (V.int cell_18), some (V.int (base')), some (V.int (most')), some (V.ref p3), some (V.bl (decide (((10 : Int) ^ Int.toNat 18) ≤ cell'))), u20] ∧ Same G G' ∧ Sep [] H G G' H' [p3] ∧ H' p3 = some (.lst ((digits_19 : (List Int)).map V.int)) ∧ cW (forS (List.drop i (rng (0) (Int.toNat (most')))) (cell_18, digits_19) (fun s x => F__law_digits_b1 (base') (decide (((10 : Int) ^ Int.toNat 18) ≤ cell')) (s.1) (s.2) x)) K16 EE) ?_ ?_ ?_⟩
    · exact ⟨(cell'), (([] : (List Int))), _, _, rfl, (Same.refl _), S11, h9, hw⟩
    · intro i σ H21 hi hw
      obtain ⟨cell_18, digits_19, u20, G24, rfl, eG25, S22, h23, hw⟩ := hw
      have hw := cW_forS (rng_get hi) hw
      generalize (0 + (i : Int)) = x26 at hw ⊢
      have hw : cW (F__law_digits_b1 (base') (decide (((10 : Int) ^ Int.toNat 18) ≤ cell')) (cell_18) (digits_19) (x26)) _ EE := hw
      unfold F__law_digits_b1 at hw
      obtain ⟨K29, hK30, hw⟩ := cW_name hw
      refine ⟨_, rfl, _, rfl, ?_⟩
      refine iteB (fun c32 => ?_) (fun c32 => ?_)
      · have hw := cW_pos c32 hw
        refine ⟨_, rfl, (.inl ⟨rfl, _, SqL.of h23⟩), _, rfl, .inl ⟨_, rfl, ?_⟩⟩
        obtain ⟨g33, hw⟩ := cW_grd hw
        obtain ⟨g34, hw⟩ := cW_grd hw
        refine ⟨_, rfl, _, _, rfl, rfl, g33, _, _, _, rfl, rfl, h23, (app_lenM g34), ?_⟩
        generalize g35 : upd H21 p3 _ = H36
        obtain ⟨x37, h38⟩ := gen_mut g35
        have h39 : H36 p3 = some (.lst (((digits_19) ++ [(cell_18 % base')] : (List Int)).map V.int)) := snoc_map h38
        have S40 := S22.mut1 x37 (.head _) h39
        have hw := cW_bnd hw
        obtain ⟨g42, hw⟩ := cW_grd hw
        refine ⟨_, rfl, _, rfl, _, _, rfl, rfl, (divW_small g42.1 g42.2), ?_⟩
        have hw := cW_bnd hw
        have hw := cW_ok hw
        have hw := hK30 _ hw
        exact ⟨((cell_18 / base')), ((digits_19) ++ [(cell_18 % base')]), _, _, rfl, eG25, S40, h39, hw⟩
      · have hw := cW_negB c32 hw
        obtain ⟨g44, hw⟩ := cW_grd hw
        obtain ⟨g45, hw⟩ := cW_grd hw
        refine ⟨_, rfl, (.inl ⟨rfl, _, SqL.of h23⟩), _, rfl, _, _, rfl, rfl, (.inr ⟨by decide, by decide⟩), _, rfl, _, _, rfl, rfl, _, rfl, _, _, rfl, rfl, _, _, rfl, rfl, g44, _, _, rfl, rfl, (.inr ⟨by decide, by decide⟩), _, _, rfl, rfl, _, rfl, _, _, rfl, rfl, (divW_lit (by decide) (by decide)), _, rfl, _, _, rfl, rfl, g45, _, _, rfl, rfl, .inl ⟨_, rfl, ?_⟩⟩
        obtain ⟨g46, hw⟩ := cW_grd hw
        obtain ⟨g47, hw⟩ := cW_grd hw
        refine ⟨_, _, rfl, rfl, (show (0 : Int) < 2147483647 by decide), _, rfl, _, _, rfl, rfl, g46, _, _, _, rfl, rfl, h23, (app_lenM g47), ?_⟩
        generalize g48 : upd H21 p3 _ = H49
        obtain ⟨x50, h51⟩ := gen_mut g48
        have h52 : H49 p3 = some (.lst (((digits_19) ++ [(((((cell_18 * 48271) + (((x26 + 1) * (x26 + 5)) * 69621)) + ((cell_18 / 97) * x26)) % 2147483647) % base')] : (List Int)).map V.int)) := snoc_map h51
        have S53 := S22.mut1 x50 (.head _) h52
        have hw := cW_bnd hw
        have hw := cW_ok hw
        have hw := hK30 _ hw
        exact ⟨(cell_18), ((digits_19) ++ [(((((cell_18 * 48271) + (((x26 + 1) * (x26 + 5)) * 69621)) + ((cell_18 / 97) * x26)) % 2147483647) % base')]), _, _, rfl, eG25, S53, h52, hw⟩
    · intro σ H55 hw
      obtain ⟨cell_18, digits_19, u20, G58, rfl, eG59, S56, h57, hw⟩ := hw
      have hw := hK17 _ (cW_forS0 (rng_len _ _).symm hw)
      have hw : cW (F__law_digits_r1  (cell_18) (digits_19)) _ EE := hw
      unfold F__law_digits_r1 at hw
      refine ⟨_, rfl, ?_⟩
      have hw := cW_ok hw
      exact hK0 _ hw _ _ fr10 S56.b0 h57

abbrev N__law_octets : List Str := ["cell", "octets", "octet"]
theorem sc__law_octets : FnScope N__law_octets ["cell"] (defScope s__law_octets) := ⟨rfl, rfl, rfl, by decide +kernel, rfl, by decide +kernel, by decide +kernel⟩
theorem ok__law_octets (D : DefX K mg "_law_octets" s__law_octets ["cell"] pats__law_octets) (T : Txt w K mg AD) (c__law_digits : CalX P w K mg base 1 "_law_digits" (sp__law_digits K AD) pats__law_digits) : CalX P w K mg base 2 "_law_octets" (sp__law_octets K AD) pats__law_octets := by
  refine D.ok sc__law_octets (fun vs H Q E h => ?_) (fun f cdv A_ outer s H vs Q E hr h => ?_)
  · obtain ⟨G, cell', rfl, _⟩ := h
    rfl
  · obtain ⟨G, cell', rfl, sG, hw⟩ := h
    refine ⟨_, (pss_cons (ps_set (i := 1) sc__law_octets.nd rfl (Or.inl rfl) (vx_callX c__law_digits pat__law_digits_0 (.head _) hr (by decide) (L2N.takes_of rfl rfl rfl rfl) rfl (pa_cons (pv 0) (pa_cons pe_int (pa_cons (pe_op op_mod (pe_op op_fdivW (pv 0) pe_int) pe_int) pa_nil))) pk_nil))
      (C8.pss_cut (ps_if (pt_cmp (pc_eqI (pe_op op_mod (pe_op op_fdivW (pv 0) pe_int) pe_int) pe_int)) (pss_one (ps_setLc (i := 1) (y := "octets") rfl sc__law_octets.nd rfl rfl (sw_true rfl rfl rfl (by decide +kernel)) (own := [("octet", 2)]) (g := gName 2) (pi_listK (K := K) (pv 1)) (blkOk_by (own := [("octet", 2)]) (N := N__law_octets) (sc := defScope s__law_octets) (by decide +kernel)) (fun _ _ _ _ _ => (pg_name (i := 2) sc__law_octets.nd rfl (Or.inl rfl))) (fun _ _ _ _ _ => pts_nil) (fun _ _ _ _ _ => pe_int))) (pss_one (ps_if (pt_cmp (pc_eqI (pe_op op_mod (pe_op op_fdivW (pv 0) pe_int) pe_int) pe_int)) (pss_one (ps_setLc (i := 1) (y := "octets") rfl sc__law_octets.nd rfl rfl (sw_true rfl rfl rfl (by decide +kernel)) (own := [("octet", 2)]) (g := gName 2) (pi_listK (K := K) (pv 1)) (blkOk_by (own := [("octet", 2)]) (N := N__law_octets) (sc := defScope s__law_octets) (by decide +kernel)) (fun _ _ _ _ _ => (pg_name (i := 2) sc__law_octets.nd rfl (Or.inl rfl))) (fun _ _ _ _ _ => pts_nil) (fun _ _ _ _ _ => (pe_op op_mul (pv 2) (pe_op op_mod (pv 2) pe_int))))) pss_nil)))
      (pss_one (ps_ret (pv 1))))), ?_⟩
    obtain ⟨KK, EE, hK0, hE, hw⟩ := cW_gen hw
    have S0 := Sep.startG sG
    unfold F__law_octets at hw
    refine ⟨_, rfl, _, rfl, _, _, rfl, rfl, (divW_lit (by decide) (by decide)), _, _, rfl, rfl, (show (0 : Int) < 41 by decide), rfl, rfl, G, _, _, _, rfl, S0.sG, cW_call hw (fun v62 hw p65 H63 n66 e64 h67 => ?_) (fun e he H2 e2 => hE e he H2 (Same.trans S0.b0 e2))⟩
    have h68 : H63 p65 = some (.lst ((v62 : (List Int)).map V.int)) := h67
    have fr69 := S0.free n66
    have S70 := S0.new n66 e64 h68 fr69
    refine ⟨fun σ H' => ∃ (p73 : Addr) (octets_72 : (List Int)) (G' : Hp), σ = [some (V.int (cell')), some (V.ref p73), none] ∧ Same G G' ∧ Sep [] H G G' H' [p73] ∧ H' p73 = some (.lst ((octets_72 : (List Int)).map V.int)) ∧ H p73 = none ∧ cW (F__law_octets_k1  octets_72) KK EE, ?_, ?_⟩
    · obtain ⟨K74, hK75, hw⟩ := cW_push hw
      refine ⟨_, rfl, _, _, rfl, rfl, (divW_lit (by decide) (by decide)), _, _, rfl, rfl, (show (0 : Int) < 4 by decide), _, _, rfl, rfl, _, rfl, ?_⟩
      refine iteD (fun c76 => ?_) (fun c76 => ?_)
      · have hw := cW_pos c76 hw
        obtain ⟨K78, hK79, hw⟩ := cW_push hw
        refine ⟨_, rfl, _, rfl, ⟨_, (SqL.of h68)⟩, fun D80 n81 => lc_list (K := K) (a := p65) (xs := (v62 : (List Int)).map V.int) (fun i1 H' => ∃ (G' : Hp) (acc83 : (List Int)), Same G G' ∧ Sep [] H G G' H' [D80, p65] ∧ H' p65 = some (.lst ((v62 : (List Int)).map V.int)) ∧ H' D80 = some (.lst ((acc83 : (List Int)).map V.int)) ∧ Same H63 H' ∧ cW (mapA (List.drop i1 (v62)) acc83 (fun x => noEr (F__law_octets_c2  x))) K78 EE) ?_ ?_ ?_ ?_⟩
        · generalize g85 : upd H63 D80 _ = H86
          obtain ⟨e87, h88⟩ := gen_new n81 g85
          have fr89 := S70.free n81
          have S90 := S70.new n81 e87 h88 fr89
          have h91 := (e87 _ _ h68)
          exact ⟨_, [], Same.refl _, S90, h91, h88, e87, hw⟩
        · intro i1 H92 _ hw
          obtain ⟨G95, acc97, eG96, S93, h104, h94, eo103, hw⟩ := hw
          exact (SqL.of h104)
        · intro i1 x H105 hj hw
          obtain ⟨G108, acc110, eG109, S106, h117, h107, eo116, hw⟩ := hw
          obtain ⟨x118, hx, rfl⟩ := map_get hj
          obtain ⟨z119, hw⟩ := cW_mapA hx hw
          have hw := cW_noEr hw
          have hw : cW (F__law_octets_c2  (x118)) _ (fun _ => False) := hw
          unfold F__law_octets_c2 at hw
          refine ⟨rfl, ?_⟩
          refine tyes_go ?_
          refine ⟨_, h107, (app_lenM z119), ?_⟩
          generalize g121 : upd H105 D80 _ = H122
          obtain ⟨x123, h124⟩ := gen_mut g121
          have S125 := S106.mut1 x123 (.head _) h124
          have hw := cW_ok hw
          have h126 := (x123 _ _ h117 (ne_of_none h68 n81))
          exact ⟨_, (acc110 ++ [255]), eG109, S125, h126, (snoc_map h124), (same_mut eo116 x123 n81), hw⟩
        intro H127 hw
        obtain ⟨G130, acc132, eG131, S128, h139, h129, eo138, hw⟩ := hw
        have hw := hK79 _ (cW_mapA0 (by rw [List.length_map]) hw)
        have fr140 := S70.free n81
        have hw := cW_ok hw
        have hw := hK75 _ hw
        exact ⟨_, (acc132), _, rfl, eG131, (S128.sub (all_cons (.head _) all_nil)), h129, fr140, hw⟩
      · have hw := cW_neg c76 hw
        refine ⟨_, rfl, _, _, rfl, rfl, (divW_lit (by decide) (by decide)), _, _, rfl, rfl, (show (0 : Int) < 4 by decide), _, _, rfl, rfl, _, rfl, ?_⟩
        refine iteD (fun c141 => ?_) (fun c141 => ?_)
        · have hw := cW_pos c141 hw
          obtain ⟨K143, hK144, hw⟩ := cW_push hw
          refine ⟨_, rfl, _, rfl, ⟨_, (SqL.of h68)⟩, fun D145 n146 => lc_list (K := K) (a := p65) (xs := (v62 : (List Int)).map V.int) (fun i1 H' => ∃ (G' : Hp) (acc148 : (List Int)), Same G G' ∧ Sep [] H G G' H' [D145, p65] ∧ H' p65 = some (.lst ((v62 : (List Int)).map V.int)) ∧ H' D145 = some (.lst ((acc148 : (List Int)).map V.int)) ∧ Same H63 H' ∧ cW (mapA (List.drop i1 (v62)) acc148 (fun x => noEr (F__law_octets_c3  x))) K143 EE) ?_ ?_ ?_ ?_⟩
          · generalize g150 : upd H63 D145 _ = H151
            obtain ⟨e152, h153⟩ := gen_new n146 g150
            have fr154 := S70.free n146
            have S155 := S70.new n146 e152 h153 fr154
            have h156 := (e152 _ _ h68)
            exact ⟨_, [], Same.refl _, S155, h156, h153, e152, hw⟩
          · intro i1 H157 _ hw
            obtain ⟨G160, acc162, eG161, S158, h169, h159, eo168, hw⟩ := hw
            exact (SqL.of h169)
          · intro i1 x H170 hj hw
            obtain ⟨G173, acc175, eG174, S171, h182, h172, eo181, hw⟩ := hw
            obtain ⟨x183, hx, rfl⟩ := map_get hj
            obtain ⟨z184, hw⟩ := cW_mapA hx hw
            have hw := cW_noEr hw
            have hw : cW (F__law_octets_c3  (x183)) _ (fun _ => False) := hw
            unfold F__law_octets_c3 at hw
            refine ⟨rfl, ?_⟩
            refine tyes_go ?_
            obtain ⟨g186, hw⟩ := cW_grd hw
            refine ⟨_, rfl, _, rfl, _, _, rfl, rfl, (show (0 : Int) < 2 by decide), _, _, rfl, rfl, g186, _, h172, (app_lenM z184), ?_⟩
            generalize g187 : upd H170 D145 _ = H188
            obtain ⟨x189, h190⟩ := gen_mut g187
            have S191 := S171.mut1 x189 (.head _) h190
            have hw := cW_ok hw
            have h192 := (x189 _ _ h182 (ne_of_none h68 n146))
            exact ⟨_, (acc175 ++ [(x183 * (x183 % 2))]), eG174, S191, h192, (snoc_map h190), (same_mut eo181 x189 n146), hw⟩
          intro H193 hw
          obtain ⟨G196, acc198, eG197, S194, h205, h195, eo204, hw⟩ := hw
          have hw := hK144 _ (cW_mapA0 (by rw [List.length_map]) hw)
          have fr206 := S70.free n146
          have hw := cW_ok hw
          have hw := hK75 _ hw
          exact ⟨_, (acc198), _, rfl, eG197, (S194.sub (all_cons (.head _) all_nil)), h195, fr206, hw⟩
        · have hw := cW_neg c141 hw
          have hw := cW_ok hw
          have hw := hK75 _ hw
          exact ⟨_, (v62), _, rfl, (Same.refl _), S70, h68, fr69, hw⟩
    · intro σ H207 hw
      obtain ⟨p73, octets_72, G211, rfl, eG212, S208, h209, fr210, hw⟩ := hw
      unfold F__law_octets_k1 at hw
      refine ⟨_, rfl, ?_⟩
      have hw := cW_ok hw
      exact hK0 _ hw _ _ fr210 S208.b0 h209

abbrev N_SymbolReader___init__ : List Str := ["self", "decoder"]
theorem sc_SymbolReader___init__ : FnScope N_SymbolReader___init__ ["self", "decoder"] (defScope s_SymbolReader___init__) := ⟨rfl, rfl, rfl, by decide +kernel, rfl, by decide +kernel, by decide +kernel⟩
theorem ok_SymbolReader___init__ (D : InitX K mg AD.c_SymbolReader "SymbolReader" "SymbolReader.__init__" s_SymbolReader___init__ ["self", "decoder"] pats_SymbolReader___init__) (T : Txt w K mg AD)  : MakX P w K mg base 1 "SymbolReader" AD.c_SymbolReader (sp_SymbolReader___init__ K AD) pats_SymbolReader___init__ := by
  refine D.ok sc_SymbolReader___init__ (fun vs H Q E h => ?_) (fun f cdv A_ outer s H vs Q E hr h => ?_)
  · obtain ⟨G, p_self, dx_self, p_decoder, l_decoder_probs, l_decoder_octs, dx_decoder, decoder', rfl, _⟩ := h
    rfl
  · obtain ⟨G, p_self, dx_self, p_decoder, l_decoder_probs, l_decoder_octs, dx_decoder, decoder', rfl, sG, gM, h_self, h_p_decoder, h_l_decoder_probs, h_l_decoder_octs, hw⟩ := h
    refine ⟨_, (pss_one (ps_fld (pv 0) (pv 1) rfl)), ?_⟩
    obtain ⟨KK, EE, hK0, hE, hw⟩ := cW_gen hw
    have S0 := Sep.startM (M := [p_self]) sG (all_cons (some_ne h_self) all_nil) gM
    unfold F_SymbolReader___init__ at hw
    refine ⟨_, rfl, _, rfl, _, _, _, _, rfl, h_self, T.cl_SymbolReader, T.n_SymbolReader__decoder, (by show 0 < 1000; decide), ?_⟩
    generalize g213 : upd H p_self _ = H214
    obtain ⟨x215, h216⟩ := gen_mut g213
    have h217 : H214 p_self = some (.ins AD.c_SymbolReader dx_self [("_decoder", V.ref p_decoder)]) := h216
    have S218 := S0.mut1 x215 (.head _) h217
    have hw := cW_ok hw
    exact hK0 _ hw _ (sameX_of S218.base) h217

abbrev N_Encoder___init__ : List Str := ["self"]
theorem sc_Encoder___init__ : FnScope N_Encoder___init__ ["self"] (defScope s_Encoder___init__) := ⟨rfl, rfl, rfl, by decide +kernel, rfl, by decide +kernel, by decide +kernel⟩
theorem ok_Encoder___init__ (D : InitX K mg AD.c_Encoder "Encoder" "Encoder.__init__" s_Encoder___init__ ["self"] pats_Encoder___init__) (T : Txt w K mg AD)  : MakX P w K mg base 1 "Encoder" AD.c_Encoder (sp_Encoder___init__ K AD) pats_Encoder___init__ := by
  refine D.ok sc_Encoder___init__ (fun vs H Q E h => ?_) (fun f cdv A_ outer s H vs Q E hr h => ?_)
  · obtain ⟨G, p_self, dx_self, rfl, _⟩ := h
    rfl
  · obtain ⟨G, p_self, dx_self, rfl, sG, gM, h_self, hw⟩ := h
    refine ⟨_, (pss_cons (ps_fld (pv 0) (pe_op op_rep (pe_lst (pa_cons (C8.pe_gc rfl T.g_EVEN) pa_nil)) (C8.pe_gc rfl T.g_CONTEXTS_coder)) rfl)
      (pss_cons (ps_fld (pv 0) (pe_lst pa_nil) rfl)
      (pss_cons (ps_fld (pv 0) pe_int rfl)
      (pss_one (ps_fld (pv 0) (pe_op op_sub (C8.pe_gc rfl T.g_WORD) pe_int) rfl))))), ?_⟩
    obtain ⟨KK, EE, hK0, hE, hw⟩ := cW_gen hw
    have S0 := Sep.startM (M := [p_self]) sG (all_cons (some_ne h_self) all_nil) gM
    unfold F_Encoder___init__ at hw
    refine ⟨(by show 1 ≤ sizeLine; decide), fun p219 n220 => ?_⟩
    generalize g221 : upd H p219 _ = H222
    obtain ⟨e223, h224⟩ := gen_new n220 g221
    have h225 : H222 p219 = some (.lst (([2048] : (List Int)).map V.int)) := h224
    have fr226 := S0.free n220
    have S227 := S0.new n220 e223 h225 fr226
    obtain ⟨g228, hw⟩ := cW_grd hw
    refine ⟨_, _, _, rfl, rfl, h225, g228.1, g228.2.1, (rep_lenM g228.2.2), fun p229 n230 => ?_⟩
    generalize g231 : upd H222 p229 _ = H232
    obtain ⟨e233, h234⟩ := gen_new n230 g231
    have h235 : H232 p229 = some (.lst ((repL ([2048]) (256) : (List Int)).map V.int)) := rep_map h234
    have fr236 := S227.free n230
    have S237 := S227.new n230 e233 h235 fr236
    have h238 := (e233 _ _ (e223 _ _ h_self))
    refine ⟨_, rfl, _, _, _, _, rfl, h238, T.cl_Encoder, T.n_Encoder__probabilities, (by show 0 < 1000; decide), ?_⟩
    generalize g239 : upd H232 p_self _ = H240
    obtain ⟨x241, h242⟩ := gen_mut g239
    have h243 : H240 p_self = some (.ins AD.c_Encoder dx_self [("_probabilities", V.ref p229)]) := h242
    have S244 := S237.mut1 x241 (.tail _ (.tail _ (.head _))) h243
    refine ⟨(by show 0 ≤ sizeLine; decide), fun p245 n246 => ?_⟩
    generalize g247 : upd H240 p245 _ = H248
    obtain ⟨e249, h250⟩ := gen_new n246 g247
    have h251 : H248 p245 = some (.lst ((([] : (List Int)) : (List Int)).map V.int)) := h250
    have fr252 := S244.free n246
    have S253 := S244.new n246 e249 h251 fr252
    have h254 := (e249 _ _ h243)
    refine ⟨_, rfl, _, _, _, _, rfl, h254, T.cl_Encoder, T.n_Encoder__front, (by show 1 < 1000; decide), ?_⟩
    generalize g255 : upd H248 p_self _ = H256
    obtain ⟨x257, h258⟩ := gen_mut g255
    have h259 : H256 p_self = some (.ins AD.c_Encoder dx_self [("_probabilities", V.ref p229), ("_front", V.ref p245)]) := h258
    have S260 := S253.mut1 x257 (.tail _ (.tail _ (.tail _ (.head _)))) h259
    refine ⟨_, rfl, _, _, _, _, rfl, h259, T.cl_Encoder, T.n_Encoder__low, (by show 2 < 1000; decide), ?_⟩
    generalize g261 : upd H256 p_self _ = H262
    obtain ⟨x263, h264⟩ := gen_mut g261
    have h265 : H262 p_self = some (.ins AD.c_Encoder dx_self [("_probabilities", V.ref p229), ("_front", V.ref p245), ("_low", V.int (0))]) := h264
    have S266 := S260.mut1 x263 (.tail _ (.tail _ (.tail _ (.head _)))) h265
    have hw := cW_bnd hw
    refine ⟨_, _, rfl, rfl, _, rfl, _, _, _, _, rfl, h265, T.cl_Encoder, T.n_Encoder__span, (by show 3 < 1000; decide), ?_⟩
    generalize g268 : upd H262 p_self _ = H269
    obtain ⟨x270, h271⟩ := gen_mut g268
    have h272 : H269 p_self = some (.ins AD.c_Encoder dx_self [("_probabilities", V.ref p229), ("_front", V.ref p245), ("_low", V.int (0)), ("_span", V.int ((4294967296 - 1)))]) := h271
    have S273 := S266.mut1 x270 (.tail _ (.tail _ (.tail _ (.head _)))) h272
    have h274 := (x270 _ _ (x263 _ _ (x257 _ _ (e249 _ _ (x241 _ _ h235 (ne_of_none (e223 _ _ h_self) n230).symm)) (ne_of_none (e223 _ _ h_self) n230).symm) (ne_of_none (e223 _ _ h_self) n230).symm) (ne_of_none (e223 _ _ h_self) n230).symm)
    have h275 := (x270 _ _ (x263 _ _ (x257 _ _ h251 (ne_of_none h243 n246).symm) (ne_of_none h243 n246).symm) (ne_of_none h243 n246).symm)
    have hw := cW_ok hw
    exact hK0 _ hw _ _ _ (sameX_of S273.base) fr236 fr252 (ne_of_none (x241 _ _ h235 (ne_of_none (e223 _ _ h_self) n230).symm) n246) h272 h274 h275

abbrev N_SymbolWriter___init__ : List Str := ["self", "encoder"]
theorem sc_SymbolWriter___init__ : FnScope N_SymbolWriter___init__ ["self", "encoder"] (defScope s_SymbolWriter___init__) := ⟨rfl, rfl, rfl, by decide +kernel, rfl, by decide +kernel, by decide +kernel⟩
theorem ok_SymbolWriter___init__ (D : InitX K mg AD.c_SymbolWriter "SymbolWriter" "SymbolWriter.__init__" s_SymbolWriter___init__ ["self", "encoder"] pats_SymbolWriter___init__) (T : Txt w K mg AD)  : MakX P w K mg base 1 "SymbolWriter" AD.c_SymbolWriter (sp_SymbolWriter___init__ K AD) pats_SymbolWriter___init__ := by
  refine D.ok sc_SymbolWriter___init__ (fun vs H Q E h => ?_) (fun f cdv A_ outer s H vs Q E hr h => ?_)
  · obtain ⟨G, p_self, dx_self, p_encoder, l_encoder_probs, l_encoder_front, dx_encoder, encoder', rfl, _⟩ := h
    rfl
  · obtain ⟨G, p_self, dx_self, p_encoder, l_encoder_probs, l_encoder_front, dx_encoder, encoder', rfl, sG, gM, h_self, h_p_encoder, h_l_encoder_probs, h_l_encoder_front, hw⟩ := h
    refine ⟨_, (pss_one (ps_fld (pv 0) (pv 1) rfl)), ?_⟩
    obtain ⟨KK, EE, hK0, hE, hw⟩ := cW_gen hw
    have S0 := Sep.startM (M := [p_self]) sG (all_cons (some_ne h_self) all_nil) gM
    unfold F_SymbolWriter___init__ at hw
    refine ⟨_, rfl, _, rfl, _, _, _, _, rfl, h_self, T.cl_SymbolWriter, T.n_SymbolWriter__encoder, (by show 0 < 1000; decide), ?_⟩
    generalize g276 : upd H p_self _ = H277
    obtain ⟨x278, h279⟩ := gen_mut g276
    have h280 : H277 p_self = some (.ins AD.c_SymbolWriter dx_self [("_encoder", V.ref p_encoder)]) := h279
    have S281 := S0.mut1 x278 (.head _) h280
    have hw := cW_ok hw
    exact hK0 _ hw _ (sameX_of S281.base) h280

abbrev N__check_contexts : List Str := ["base", "count"]
theorem sc__check_contexts : FnScope N__check_contexts ["base", "count"] (defScope s__check_contexts) := ⟨rfl, rfl, rfl, by decide +kernel, rfl, by decide +kernel, by decide +kernel⟩
theorem ok__check_contexts (D : DefX K mg "_check_contexts" s__check_contexts ["base", "count"] pats__check_contexts) (T : Txt w K mg AD)  : CalX P w K mg base 1 "_check_contexts" (sp__check_contexts K AD) pats__check_contexts := by
  refine D.ok sc__check_contexts (fun vs H Q E h => ?_) (fun f cdv A_ outer s H vs Q E hr h => ?_)
  · obtain ⟨G, base', count', rfl, _⟩ := h
    rfl
  · obtain ⟨G, base', count', rfl, sG, hw⟩ := h
    refine ⟨_, (pss_one (ps_if (PW.pt (pw_and (pt_cmp (pc_gt (pv 1) pe_int)) (pw_and1 (pt_not (pt_chain op_le op_le pe_int (pv 0) (pe_op op_sub (C8.pe_gc rfl T.g_CONTEXTS_symbols) (pv 1))))))) (pss_one (L2N.ps_raise rfl (L2N.takes_of rfl rfl rfl rfl) (L2N.pmk_own PySem.F.excBase_ValueError T.xx_OutOfRange T.xg_OutOfRange T.xk_OutOfRange (raises_own T.xb_OutOfRange T.xt_OutOfRange) rfl))) pss_nil)), ?_⟩
    obtain ⟨KK, EE, hK0, hE, hw⟩ := cW_gen hw
    have S0 := Sep.startG sG
    unfold F__check_contexts at hw
    refine ⟨_, rfl, _, _, rfl, rfl, _, rfl, ?_⟩
    refine iteD (fun c282 => ?_) (fun c282 => ?_)
    · have hw := cW_pos c282 hw
      refine ⟨_, rfl, _, _, rfl, rfl, _, rfl, ?_⟩
      refine iteD (fun c283 => ?_) (fun c283 => ?_)
      · have hw := cW_pos c283 hw
        refine ⟨_, rfl, _, _, rfl, rfl, _, _, rfl, rfl, _, rfl, ?_⟩
        refine iteN (fun c284 => ?_) (fun c284 => ?_)
        · have hw := cW_neg c284 hw
          exact hE 1 (cW_er hw)
        · have hw := cW_pos c284 hw
          have hw := cW_ok hw
          exact hK0 _ hw
      · have hw := cW_neg c283 hw
        refine ⟨_, rfl, ?_⟩
        refine iteT ?_
        exact hE 1 (cW_er hw)
    · have hw := cW_neg c282 hw
      refine iteF ?_
      have hw := cW_ok hw
      exact hK0 _ hw

abbrev N__check_unary : List Str := ["base", "most"]
theorem sc__check_unary : FnScope N__check_unary ["base", "most"] (defScope s__check_unary) := ⟨rfl, rfl, rfl, by decide +kernel, rfl, by decide +kernel, by decide +kernel⟩
theorem ok__check_unary (D : DefX K mg "_check_unary" s__check_unary ["base", "most"] pats__check_unary) (T : Txt w K mg AD) (c__check_contexts : CalX P w K mg base 1 "_check_contexts" (sp__check_contexts K AD) pats__check_contexts) : CalX P w K mg base 2 "_check_unary" (sp__check_unary K AD) pats__check_unary := by
  refine D.ok sc__check_unary (fun vs H Q E h => ?_) (fun f cdv A_ outer s H vs Q E hr h => ?_)
  · obtain ⟨G, base', most', rfl, _⟩ := h
    rfl
  · obtain ⟨G, base', most', rfl, sG, hw⟩ := h
    refine ⟨_, (pss_cons (ps_if (pt_not (pt_chain op_le op_le pe_int (pv 1) (C8.pe_gc rfl T.g_GREATEST_UNARY))) (pss_one (L2N.ps_raise rfl (L2N.takes_of rfl rfl rfl rfl) (L2N.pmk_own PySem.F.excBase_ValueError T.xx_OutOfRange T.xg_OutOfRange T.xk_OutOfRange (raises_own T.xb_OutOfRange T.xt_OutOfRange) rfl))) pss_nil)
      (pss_one (ps_expr (vx_callX c__check_contexts pat__check_contexts_0 (.head _) hr (by decide) (L2N.takes_of rfl rfl rfl rfl) rfl (pa_cons (pv 0) (pa_cons (pe_callB (call_min2 rfl) (by rfl) T.b_min (by decide +kernel) (pa_cons (pv 1) (pa_cons (C8.pe_gc rfl T.g_SHARED) pa_nil))) pa_nil)) pk_nil)))), ?_⟩
    obtain ⟨KK, EE, hK0, hE, hw⟩ := cW_gen hw
    have S0 := Sep.startG sG
    unfold F__check_unary at hw
    refine ⟨_, rfl, _, _, rfl, rfl, _, rfl, ?_⟩
    refine iteD (fun c285 => ?_) (fun c285 => ?_)
    · have hw := cW_pos c285 hw
      refine ⟨_, _, rfl, rfl, _, rfl, ?_⟩
      refine iteN (fun c286 => ?_) (fun c286 => ?_)
      · have hw := cW_neg c286 hw
        exact hE 1 (cW_er hw)
      · have hw := cW_pos c286 hw
        refine ⟨_, rfl, _, rfl, _, _, rfl, rfl, rfl, G, _, _, rfl, S0.sG, cW_call hw (fun v287 hw => ?_) (fun e he => hE e he)⟩
        have hw := cW_ok hw
        exact hK0 _ hw
    · have hw := cW_neg c285 hw
      refine ⟨_, rfl, ?_⟩
      refine iteT ?_
      exact hE 1 (cW_er hw)

abbrev N__check_context : List Str := ["context"]
theorem sc__check_context : FnScope N__check_context ["context"] (defScope s__check_context) := ⟨rfl, rfl, rfl, by decide +kernel, rfl, by decide +kernel, by decide +kernel⟩
theorem ok__check_context (D : DefX K mg "_check_context" s__check_context ["context"] pats__check_context) (T : Txt w K mg AD)  : CalQ P w K mg base 1 "_check_context" (sp__check_context K AD) pats__check_context := by
  refine D.okQ0 sc__check_context (fun vs H Q E h => ?_) (fun f cdv A_ outer s H vs Q E hr h => ?_) (fun f cdv A_ outer s H vs Q pin_ hr h => ?_)
  · obtain ⟨G, context', rfl, _⟩ := h
    rfl
  · obtain ⟨G, context', rfl, sG, hw⟩ := h
    refine ⟨_, (pss_one (ps_if (pt_not (pt_chain op_le op_lt pe_int (pv 0) (C8.pe_gc rfl T.g_CONTEXTS_coder))) (pss_one (L2N.ps_raise rfl (L2N.takes_of rfl rfl rfl rfl) (L2N.pmk_own PySem.F.excBase_ValueError T.xx_OutOfRange T.xg_OutOfRange T.xk_OutOfRange (raises_own T.xb_OutOfRange T.xt_OutOfRange) rfl))) pss_nil)), ?_⟩
    obtain ⟨KK, EE, hK0, hE, hw⟩ := cW_gen hw
    have S0 := Sep.startG sG
    unfold F__check_context at hw
    refine ⟨_, rfl, _, _, rfl, rfl, _, rfl, ?_⟩
    refine iteD (fun c288 => ?_) (fun c288 => ?_)
    · have hw := cW_pos c288 hw
      refine ⟨_, _, rfl, rfl, _, rfl, ?_⟩
      refine iteN (fun c289 => ?_) (fun c289 => ?_)
      · have hw := cW_neg c289 hw
        exact hE 1 (cW_er hw)
      · have hw := cW_pos c289 hw
        have hw := cW_ok hw
        exact hK0 _ hw
    · have hw := cW_neg c288 hw
      refine ⟨_, rfl, ?_⟩
      refine iteT ?_
      exact hE 1 (cW_er hw)
  · obtain ⟨G, context', rfl, sG, hw⟩ := h
    refine ⟨_, (pss_one (ps_if (pt_not (pt_chain op_le op_lt pe_int (pv 0) (C8.pe_gc rfl T.g_CONTEXTS_coder))) (pss_one ps_never) pss_nil)), ?_⟩
    obtain ⟨KK, EE, hK0, hE, hw⟩ := cW_gen hw
    have S0 := Sep.startG sG
    unfold F__check_context at hw
    refine ⟨_, rfl, _, _, rfl, rfl, _, rfl, ?_⟩
    refine iteD (fun c288 => ?_) (fun c288 => ?_)
    · have hw := cW_pos c288 hw
      refine ⟨_, _, rfl, rfl, _, rfl, ?_⟩
      refine iteN (fun c289 => ?_) (fun c289 => ?_)
      · have hw := cW_neg c289 hw
        exact hE 1 (cW_er hw)
      · have hw := cW_pos c289 hw
        have hw := cW_ok hw
        exact hK0 _ hw
    · have hw := cW_neg c288 hw
      refine ⟨_, rfl, ?_⟩
      refine iteT ?_
      exact hE 1 (cW_er hw)

abbrev N__check_decision : List Str := ["decision"]
theorem sc__check_decision : FnScope N__check_decision ["decision"] (defScope s__check_decision) := ⟨rfl, rfl, rfl, by decide +kernel, rfl, by decide +kernel, by decide +kernel⟩
theorem ok__check_decision (D : DefX K mg "_check_decision" s__check_decision ["decision"] pats__check_decision) (T : Txt w K mg AD)  : CalX P w K mg base 1 "_check_decision" (sp__check_decision K AD) pats__check_decision := by
  refine D.ok sc__check_decision (fun vs H Q E h => ?_) (fun f cdv A_ outer s H vs Q E hr h => ?_)
  · obtain ⟨G, decision', rfl, _⟩ := h
    rfl
  · obtain ⟨G, decision', rfl, sG, hw⟩ := h
    refine ⟨_, (pss_one (ps_if (pt_not (pt_chain op_le op_le pe_int (pv 0) pe_int)) (pss_one (L2N.ps_raise rfl (L2N.takes_of rfl rfl rfl rfl) (L2N.pmk_own PySem.F.excBase_ValueError T.xx_OutOfRange T.xg_OutOfRange T.xk_OutOfRange (raises_own T.xb_OutOfRange T.xt_OutOfRange) rfl))) pss_nil)), ?_⟩
    obtain ⟨KK, EE, hK0, hE, hw⟩ := cW_gen hw
    have S0 := Sep.startG sG
    unfold F__check_decision at hw
    refine ⟨_, rfl, _, _, rfl, rfl, _, rfl, ?_⟩
    refine iteD (fun c290 => ?_) (fun c290 => ?_)
    · have hw := cW_pos c290 hw
      refine ⟨_, _, rfl, rfl, _, rfl, ?_⟩
      refine iteN (fun c291 => ?_) (fun c291 => ?_)
      · have hw := cW_neg c291 hw
        exact hE 1 (cW_er hw)
      · have hw := cW_pos c291 hw
        have hw := cW_ok hw
        exact hK0 _ hw
    · have hw := cW_neg c290 hw
      refine ⟨_, rfl, ?_⟩
      refine iteT ?_
      exact hE 1 (cW_er hw)

abbrev N__adapted : List Str := ["chance", "decision"]
theorem sc__adapted : FnScope N__adapted ["chance", "decision"] (defScope s__adapted) := ⟨rfl, rfl, rfl, by decide +kernel, rfl, by decide +kernel, by decide +kernel⟩
theorem ok__adapted (D : DefX K mg "_adapted" s__adapted ["chance", "decision"] pats__adapted) (T : Txt w K mg AD)  : CalX P w K mg base 1 "_adapted" (sp__adapted K AD) pats__adapted := by
  refine D.ok sc__adapted (fun vs H Q E h => ?_) (fun f cdv A_ outer s H vs Q E hr h => ?_)
  · obtain ⟨G, chance', decision', rfl, _⟩ := h
    rfl
  · obtain ⟨G, chance', decision', rfl, sG, hw⟩ := h
    refine ⟨_, (pss_cons (ps_if (pt_cmp (pc_eqI (pv 1) pe_int)) (pss_one (ps_ret (pe_op op_add (pv 0) (pe_op op_shr (pe_op op_sub (C8.pe_gc rfl T.g_SCALE) (pv 0)) (C8.pe_gc rfl T.g_RATE))))) pss_nil)
      (pss_one (ps_ret (pe_op op_sub (pv 0) (pe_op op_shr (pv 0) (C8.pe_gc rfl T.g_RATE)))))), ?_⟩
    obtain ⟨KK, EE, hK0, hE, hw⟩ := cW_gen hw
    have S0 := Sep.startG sG
    unfold F__adapted at hw
    refine ⟨_, rfl, _, _, rfl, rfl, _, rfl, ?_⟩
    refine iteD (fun c292 => ?_) (fun c292 => ?_)
    · have hw := cW_pos c292 hw
      refine ⟨_, rfl, _, rfl, _, _, rfl, rfl, _, _, rfl, rfl, (show (0 : Int) ≤ 5 by decide), _, _, rfl, rfl, ?_⟩
      have hw := cW_ok hw
      exact hK0 _ hw
    · have hw := cW_neg c292 hw
      refine ⟨_, rfl, _, rfl, _, _, rfl, rfl, (show (0 : Int) ≤ 5 by decide), _, _, rfl, rfl, ?_⟩
      have hw := cW_ok hw
      exact hK0 _ hw

abbrev N_Encoder__carry : List Str := ["self", "place"]
theorem sc_Encoder__carry : FnScope N_Encoder__carry ["self"] (defScope s_Encoder__carry) := ⟨rfl, rfl, rfl, by decide +kernel, rfl, by decide +kernel, by decide +kernel⟩
theorem ok_Encoder__carry (D : MethX K AD.c_Encoder "Encoder._carry" "_carry" s_Encoder__carry ["self"] pats_Encoder__carry) (T : Txt w K mg AD)  : MetX P w K mg base 1 AD.c_Encoder "_carry" (sp_Encoder__carry K AD) pats_Encoder__carry := by
  refine D.ok T.cl_Encoder sc_Encoder__carry (fun vs H Q E h => ?_) (fun f cdv A_ outer s H vs Q E hr h => ?_)
  · obtain ⟨G, p_self, l_self_probs, l_self_front, dx_self, self', rfl, _⟩ := h
    rfl
  · obtain ⟨G, p_self, l_self_probs, l_self_front, dx_self, self', rfl, sG, gM, h_p_self, h_l_self_probs, h_l_self_front, ne_self_0, hw⟩ := h
    refine ⟨_, (pss_cons (ps_set (i := 1) sc_Encoder__carry.nd rfl (Or.inl rfl) (pe_op op_sub (pe_callB (call_lenLiK (K := K)) (by rfl) T.b_len (by decide +kernel) (pa_cons (fldK (K := K) (pv 0)) pa_nil)) pe_int))
      (pss_cons (ps_while (passes_of rfl) (pt_cmp (pc_eqI (pe_ix (ix_listK (K := K)) (fldK (K := K) (pv 0)) (pv 1) (fun _ _ => rfl)) pe_int)) (pss_cons (ps_asg pe_int (pg_sub (fldK (K := K) (pv 0)) (pv 1) set_list))
      (pss_one (ps_aug (i := 1) sc_Encoder__carry.nd rfl (Or.inl rfl) pe_int (pip iop_sub)))))
      (pss_one (ps_augS (fldK (K := K) (pv 0)) (pv 1) (pget_list (K := K)) pe_int (pip iop_add) set_list)))), ?_⟩
    obtain ⟨KK, EE, hK0, hE, hw⟩ := cW_gen hw
    have S0 := Sep.startM (M := [p_self, l_self_probs, l_self_front]) sG (all_cons (some_ne h_p_self) (all_cons (some_ne h_l_self_probs) (all_cons (some_ne h_l_self_front) all_nil))) gM
    unfold F_Encoder__carry at hw
    refine ⟨_, rfl, _, _, _, _, _, rfl, h_p_self, T.cl_Encoder, T.n_Encoder__front, rfl, _, _, rfl, (SqL.of h_l_self_front), _, _, rfl, rfl, ?_⟩
    have hw := cW_bnd hw
    obtain ⟨K294, hK295, hw⟩ := cW_push hw
    refine ⟨fun m σ H' => ∃ (self_296 : St_Encoder) (place_297 : Int) (G' : Hp), σ = [some (V.ref p_self), some (V.int place_297)] ∧ Same G G' ∧ Sep [p_self, l_self_probs, l_self_front] H G G' H' [p_self, l_self_probs, l_self_front] ∧ H' p_self = some (.ins AD.c_Encoder dx_self [("_probabilities", V.ref l_self_probs), ("_front", V.ref l_self_front), ("_low", V.int (self_296.low)), ("_span", V.int (self_296.span))]) ∧ H' l_self_probs = some (.lst ((self_296.probs : (List Int)).map V.int)) ∧ H' l_self_front = some (.lst ((self_296.front : (List Int)).map V.int)) ∧ cW (whileR m (self_296, place_297) (fun s => F_Encoder__carry_b1  (s.1) (s.2))) K294 EE, ?_, ?_⟩
    · exact ⟨_, ⟨(self'), (((((self'.front) : (List Int)).length : Int) - 1)), _, rfl, (Same.refl _), S0, h_p_self, h_l_self_probs, h_l_self_front, hw⟩⟩
    · intro m σ H298 hw
      obtain ⟨self_296, place_297, G303, rfl, eG304, S299, h300, h301, h302, hw⟩ := hw
      obtain ⟨m305, rfl, hw2⟩ := cW_whileR hw
      have hw := hw2
      have hw : cW (F_Encoder__carry_b1  (self_296) (place_297)) _ EE := hw
      unfold F_Encoder__carry_b1 at hw
      obtain ⟨K308, hK309, hw⟩ := cW_name hw
      obtain ⟨g310, hw⟩ := cW_grd hw
      refine ⟨_, rfl, _, _, _, _, _, rfl, h300, T.cl_Encoder, T.n_Encoder__front, rfl, _, rfl, _, _, _, _, rfl, rfl, (SqL.of h302), (atI_map g310), _, _, rfl, rfl, _, rfl, ?_⟩
      refine iteD (fun c311 => ?_) (fun c311 => ?_)
      · have hw := cW_pos c311 hw
        refine ⟨(fun σ H' => ∃ m, (∃ (self_296 : St_Encoder) (place_297 : Int) (G' : Hp), σ = [some (V.ref p_self), some (V.int place_297)] ∧ Same G G' ∧ Sep [p_self, l_self_probs, l_self_front] H G G' H' [p_self, l_self_probs, l_self_front] ∧ H' p_self = some (.ins AD.c_Encoder dx_self [("_probabilities", V.ref l_self_probs), ("_front", V.ref l_self_front), ("_low", V.int (self_296.low)), ("_span", V.int (self_296.span))]) ∧ H' l_self_probs = some (.lst ((self_296.probs : (List Int)).map V.int)) ∧ H' l_self_front = some (.lst ((self_296.front : (List Int)).map V.int)) ∧ cW (whileR m (self_296, place_297) (fun s => F_Encoder__carry_b1  (s.1) (s.2))) K294 EE) ∧ m < m305 + 1), (fun _ _ ⟨m', a, b⟩ => ⟨m', b, a⟩), ?_⟩
        obtain ⟨g312, hw⟩ := cW_grd hw
        refine ⟨_, rfl, _, _, _, _, _, rfl, h300, T.cl_Encoder, T.n_Encoder__front, rfl, _, rfl, _, _, _, _, rfl, rfl, h302, (ixN_map g312), ?_⟩
        generalize g313 : upd H298 l_self_front _ = H314
        obtain ⟨x315, h316⟩ := gen_mut g313
        have h317 : H314 l_self_front = some (.lst ((setL (self_296.front) (place_297) (0) : (List Int)).map V.int)) := set_map h316
        have S318 := S299.mut1 x315 (.tail _ (.tail _ (.head _))) h317
        have hw := cW_bnd hw
        refine ⟨_, rfl, _, _, rfl, rfl, ?_⟩
        have hw := cW_bnd hw
        have hw := cW_ok hw
        have hw := hK309 _ hw
        have h321 := (x315 _ _ h300 (ne_of h300 h302 (fun z => nomatch z)))
        have h322 := (x315 _ _ h301 ne_self_0)
        exact ⟨m305, ⟨((⟨self_296.probs, setL (self_296.front) (place_297) (0), self_296.low, self_296.span⟩ : St_Encoder)), ((place_297 - 1)), _, rfl, eG304, S318, h321, h322, h317, hw⟩, Nat.lt_succ_self _⟩
      · have hw := cW_neg c311 hw
        have hw := cW_ok hw
        have hw := hK309 _ hw
        have hw := cW_aftgo (hK295 (.go _) hw)
        have hw : cW (F_Encoder__carry_r1  (self_296) (place_297)) _ EE := hw
        unfold F_Encoder__carry_r1 at hw
        obtain ⟨g325, hw⟩ := cW_grd hw
        obtain ⟨g326, hw⟩ := cW_grd hw
        refine ⟨_, rfl, _, _, _, _, _, rfl, h300, T.cl_Encoder, T.n_Encoder__front, rfl, _, rfl, _, _, _, _, rfl, rfl, (SqL.of h302), g325.1, g325.2.1, (atI_map (ix_nn g325.1 g325.2.2)), _, _, rfl, rfl, _, _, _, _, rfl, rfl, h302, (ixN_map g326), ?_⟩
        generalize g327 : upd H298 l_self_front _ = H328
        obtain ⟨x329, h330⟩ := gen_mut g327
        have h331 : H328 l_self_front = some (.lst ((setL (self_296.front) (place_297) (((itD (self_296.front) (place_297)) + 1)) : (List Int)).map V.int)) := set_map h330
        have S332 := S299.mut1 x329 (.tail _ (.tail _ (.head _))) h331
        have hw := cW_bnd hw
        have h334 := (x329 _ _ h300 (ne_of h300 h302 (fun z => nomatch z)))
        have h335 := (x329 _ _ h301 ne_self_0)
        have hw := cW_ok hw
        exact hK0 _ hw _ S332.base h334 h335 h331

abbrev N_Encoder__narrow : List Str := ["self", "chance", "decision", "part"]
theorem sc_Encoder__narrow : FnScope N_Encoder__narrow ["self", "chance", "decision"] (defScope s_Encoder__narrow) := ⟨rfl, rfl, rfl, by decide +kernel, rfl, by decide +kernel, by decide +kernel⟩
theorem ok_Encoder__narrow (D : MethX K AD.c_Encoder "Encoder._narrow" "_narrow" s_Encoder__narrow ["self", "chance", "decision"] pats_Encoder__narrow) (T : Txt w K mg AD) (c_Encoder__carry : MetX P w K mg base 1 AD.c_Encoder "_carry" (sp_Encoder__carry K AD) pats_Encoder__carry) : MetX P w K mg base 2 AD.c_Encoder "_narrow" (sp_Encoder__narrow K AD) pats_Encoder__narrow := by
  refine D.ok T.cl_Encoder sc_Encoder__narrow (fun vs H Q E h => ?_) (fun f cdv A_ outer s H vs Q E hr h => ?_)
  · obtain ⟨G, p_self, l_self_probs, l_self_front, dx_self, self', chance', decision', rfl, _⟩ := h
    rfl
  · obtain ⟨G, p_self, l_self_probs, l_self_front, dx_self, self', chance', decision', rfl, sG, gM, h_p_self, h_l_self_probs, h_l_self_front, ne_self_0, hw⟩ := h
    refine ⟨_, (pss_cons (ps_set (i := 3) sc_Encoder__narrow.nd rfl (Or.inl rfl) (pe_op op_mul (pe_op op_shr (fldK (K := K) (pv 0)) (C8.pe_gc rfl T.g_SCALE_BITS)) (pv 1)))
      (C8.pss_cut (ps_if (pt_cmp (pc_eqI (pv 2) pe_int)) (pss_one (ps_fld (pv 0) (pv 3) rfl)) (pss_cons (ps_fldaug (pv 0) (pv 3) (pip iop_sub))
      (pss_cons (ps_fldaug (pv 0) (pv 3) (pip iop_add))
      (pss_one (ps_if (pt_cmp (pc_ge (fldK (K := K) (pv 0)) (C8.pe_gc rfl T.g_WORD))) (pss_cons (ps_fldaug (pv 0) (C8.pe_gc rfl T.g_WORD) (pip iop_sub))
      (pss_one (ps_expr (vx_methX0 c_Encoder__carry pat_Encoder__carry_0 (.head _) hr (by decide) (L2N.takes_of rfl rfl rfl rfl) (pv 0))))) pss_nil)))))
      (pss_one (ps_while (passes_of rfl) (pt_cmp (pc_lt (fldK (K := K) (pv 0)) (C8.pe_gc rfl T.g_LEAST_SPAN))) (pss_cons (ps_expr (pe_bm PySem.F.plainAttrs_list PySem.F.slot_list_append PySem.F.type_list_append mt_append (fldK (K := K) (pv 0)) (pa_cons (pe_op op_shr (fldK (K := K) (pv 0)) pe_int) pa_nil)))
      (pss_cons (ps_fld (pv 0) (pe_op op_and (pe_op op_shlW (fldK (K := K) (pv 0)) pe_int) (pe_op op_sub (C8.pe_gc rfl T.g_WORD) pe_int)) rfl)
      (pss_one (ps_fldaug (pv 0) pe_int (pip iop_shlW))))))))), ?_⟩
    obtain ⟨KK, EE, hK0, hE, hw⟩ := cW_gen hw
    have S0 := Sep.startM (M := [p_self, l_self_probs, l_self_front]) sG (all_cons (some_ne h_p_self) (all_cons (some_ne h_l_self_probs) (all_cons (some_ne h_l_self_front) all_nil))) gM
    unfold F_Encoder__narrow at hw
    obtain ⟨g336, hw⟩ := cW_grd hw
    refine ⟨_, rfl, _, _, _, _, _, rfl, h_p_self, T.cl_Encoder, T.n_Encoder__span, rfl, _, _, rfl, rfl, (show (0 : Int) ≤ 12 by decide), _, rfl, _, _, rfl, rfl, g336, ?_⟩
    have hw := cW_bnd hw
    refine ⟨fun σ H' => ∃ (self_339 : St_Encoder) (G' : Hp), σ = [some (V.ref p_self), some (V.int (chance')), some (V.int (decision')), some (V.int (((self'.span / 4096) * chance')))] ∧ Same G G' ∧ Sep [p_self, l_self_probs, l_self_front] H G G' H' [p_self, l_self_probs, l_self_front] ∧ H' p_self = some (.ins AD.c_Encoder dx_self [("_probabilities", V.ref l_self_probs), ("_front", V.ref l_self_front), ("_low", V.int (self_339.low)), ("_span", V.int (self_339.span))]) ∧ H' l_self_probs = some (.lst ((self_339.probs : (List Int)).map V.int)) ∧ H' l_self_front = some (.lst ((self_339.front : (List Int)).map V.int)) ∧ cW (F_Encoder__narrow_k1  self_339) KK EE, ?_, ?_⟩
    · obtain ⟨K340, hK341, hw⟩ := cW_push hw
      refine ⟨_, rfl, _, _, rfl, rfl, _, rfl, ?_⟩
      refine iteD (fun c342 => ?_) (fun c342 => ?_)
      · have hw := cW_pos c342 hw
        refine ⟨_, rfl, _, rfl, _, _, _, _, rfl, h_p_self, T.cl_Encoder, T.n_Encoder__span, (by show 4 < 1000; decide), ?_⟩
        generalize g343 : upd H p_self _ = H344
        obtain ⟨x345, h346⟩ := gen_mut g343
        have h347 : H344 p_self = some (.ins AD.c_Encoder dx_self [("_probabilities", V.ref l_self_probs), ("_front", V.ref l_self_front), ("_low", V.int (self'.low)), ("_span", V.int (((self'.span / 4096) * chance')))]) := h346
        have S348 := S0.mut1 x345 (.head _) h347
        have hw := cW_ok hw
        have hw := hK341 _ hw
        have h349 := (x345 _ _ h_l_self_probs (ne_of h_l_self_probs h_p_self (fun z => nomatch z)))
        have h350 := (x345 _ _ h_l_self_front (ne_of h_l_self_front h_p_self (fun z => nomatch z)))
        exact ⟨((⟨self'.probs, self'.front, self'.low, ((self'.span / 4096) * chance')⟩ : St_Encoder)), _, rfl, (Same.refl _), S348, h347, h349, h350, hw⟩
      · have hw := cW_neg c342 hw
        have hw := cW_bnd hw
        refine ⟨_, rfl, _, _, _, _, _, rfl, h_p_self, T.cl_Encoder, T.n_Encoder__span, rfl, _, rfl, _, _, rfl, rfl, _, _, h_p_self, (by show 4 < 1000; decide), ?_⟩
        generalize g352 : upd H p_self _ = H353
        obtain ⟨x354, h355⟩ := gen_mut g352
        have h356 : H353 p_self = some (.ins AD.c_Encoder dx_self [("_probabilities", V.ref l_self_probs), ("_front", V.ref l_self_front), ("_low", V.int (self'.low)), ("_span", V.int ((self'.span - ((self'.span / 4096) * chance'))))]) := h355
        have S357 := S0.mut1 x354 (.head _) h356
        have hw := cW_bnd hw
        refine ⟨_, rfl, _, _, _, _, _, rfl, h356, T.cl_Encoder, T.n_Encoder__low, rfl, _, rfl, _, _, rfl, rfl, _, _, h356, (by show 4 < 1000; decide), ?_⟩
        generalize g359 : upd H353 p_self _ = H360
        obtain ⟨x361, h362⟩ := gen_mut g359
        have h363 : H360 p_self = some (.ins AD.c_Encoder dx_self [("_probabilities", V.ref l_self_probs), ("_front", V.ref l_self_front), ("_low", V.int ((self'.low + ((self'.span / 4096) * chance')))), ("_span", V.int ((self'.span - ((self'.span / 4096) * chance'))))]) := h362
        have S364 := S357.mut1 x361 (.head _) h363
        refine ⟨_, rfl, _, _, _, _, _, rfl, h363, T.cl_Encoder, T.n_Encoder__low, rfl, _, _, rfl, rfl, _, rfl, ?_⟩
        refine iteD (fun c365 => ?_) (fun c365 => ?_)
        · have hw := cW_pos c365 hw
          have hw := cW_bnd hw
          refine ⟨_, rfl, _, _, _, _, _, rfl, h363, T.cl_Encoder, T.n_Encoder__low, rfl, _, _, rfl, rfl, _, _, h363, (by show 4 < 1000; decide), ?_⟩
          generalize g367 : upd H360 p_self _ = H368
          obtain ⟨x369, h370⟩ := gen_mut g367
          have h371 : H368 p_self = some (.ins AD.c_Encoder dx_self [("_probabilities", V.ref l_self_probs), ("_front", V.ref l_self_front), ("_low", V.int (((self'.low + ((self'.span / 4096) * chance')) - 4294967296))), ("_span", V.int ((self'.span - ((self'.span / 4096) * chance'))))]) := h370
          have S372 := S364.mut1 x369 (.head _) h371
          have h373 := (x369 _ _ (x361 _ _ (x354 _ _ h_l_self_probs (ne_of h_l_self_probs h_p_self (fun z => nomatch z))) (ne_of h_l_self_probs h_p_self (fun z => nomatch z))) (ne_of h_l_self_probs h_p_self (fun z => nomatch z)))
          have h374 := (x369 _ _ (x361 _ _ (x354 _ _ h_l_self_front (ne_of h_l_self_front h_p_self (fun z => nomatch z))) (ne_of h_l_self_front h_p_self (fun z => nomatch z))) (ne_of h_l_self_front h_p_self (fun z => nomatch z)))
          refine ⟨_, rfl, _, _, _, rfl, h371, rfl, rfl, rfl, G, _, _, _, _, (⟨self'.probs, self'.front, ((self'.low + ((self'.span / 4096) * chance')) - 4294967296), (self'.span - ((self'.span / 4096) * chance'))⟩ : St_Encoder), rfl, S372.sG, (S372.gno (all_cons (.head _) (all_cons (.tail _ (.head _)) (all_cons (.tail _ (.tail _ (.head _))) all_nil)))), h371, h373, h374, ne_self_0, cW_callN hw (fun v375 hw H376 x377 h379 h380 h381  => ?_) trivial⟩
          have S378 := S372.mut x377 (all_cons (.head _) (all_cons (.tail _ (.head _)) (all_cons (.tail _ (.tail _ (.head _))) all_nil))) (all_cons (some_ne h379) (all_cons (some_ne h380) (all_cons (some_ne h381) all_nil)))
          have hw := cW_ok hw
          have hw := hK341 _ hw
          exact ⟨(v375), _, rfl, (Same.refl _), S378, h379, h380, h381, hw⟩
        · have hw := cW_neg c365 hw
          have hw := cW_ok hw
          have hw := hK341 _ hw
          have h386 := (x361 _ _ (x354 _ _ h_l_self_probs (ne_of h_l_self_probs h_p_self (fun z => nomatch z))) (ne_of h_l_self_probs h_p_self (fun z => nomatch z)))
          have h387 := (x361 _ _ (x354 _ _ h_l_self_front (ne_of h_l_self_front h_p_self (fun z => nomatch z))) (ne_of h_l_self_front h_p_self (fun z => nomatch z)))
          exact ⟨((⟨self'.probs, self'.front, (self'.low + ((self'.span / 4096) * chance')), (self'.span - ((self'.span / 4096) * chance'))⟩ : St_Encoder)), _, rfl, (Same.refl _), S364, h363, h386, h387, hw⟩
    · intro σ H388 hw
      obtain ⟨self_339, G393, rfl, eG394, S389, h390, h391, h392, hw⟩ := hw
      unfold F_Encoder__narrow_k1 at hw
      obtain ⟨K395, hK396, hw⟩ := cW_push hw
      refine ⟨fun m σ H' => ∃ (self_397 : St_Encoder) (G' : Hp), σ = [some (V.ref p_self), some (V.int (chance')), some (V.int (decision')), some (V.int (((self'.span / 4096) * chance')))] ∧ Same G393 G' ∧ Sep [p_self, l_self_probs, l_self_front] H G G' H' [p_self, l_self_probs, l_self_front] ∧ H' p_self = some (.ins AD.c_Encoder dx_self [("_probabilities", V.ref l_self_probs), ("_front", V.ref l_self_front), ("_low", V.int (self_397.low)), ("_span", V.int (self_397.span))]) ∧ H' l_self_probs = some (.lst ((self_397.probs : (List Int)).map V.int)) ∧ H' l_self_front = some (.lst ((self_397.front : (List Int)).map V.int)) ∧ cW (whileR m self_397 (fun s => F_Encoder__narrow_b2  s)) K395 EE, ?_, ?_⟩
      · exact ⟨_, ⟨(self_339), _, rfl, (Same.refl _), S389, h390, h391, h392, hw⟩⟩
      · intro m σ H398 hw
        obtain ⟨self_397, G403, rfl, eG404, S399, h400, h401, h402, hw⟩ := hw
        obtain ⟨m405, rfl, hw2⟩ := cW_whileR hw
        have hw := hw2
        have hw : cW (F_Encoder__narrow_b2  (self_397)) _ EE := hw
        unfold F_Encoder__narrow_b2 at hw
        obtain ⟨K407, hK408, hw⟩ := cW_name hw
        refine ⟨_, rfl, _, _, _, _, _, rfl, h400, T.cl_Encoder, T.n_Encoder__span, rfl, _, _, rfl, rfl, _, rfl, ?_⟩
        refine iteD (fun c409 => ?_) (fun c409 => ?_)
        · have hw := cW_pos c409 hw
          refine ⟨(fun σ H' => ∃ m, (∃ (self_397 : St_Encoder) (G' : Hp), σ = [some (V.ref p_self), some (V.int (chance')), some (V.int (decision')), some (V.int (((self'.span / 4096) * chance')))] ∧ Same G393 G' ∧ Sep [p_self, l_self_probs, l_self_front] H G G' H' [p_self, l_self_probs, l_self_front] ∧ H' p_self = some (.ins AD.c_Encoder dx_self [("_probabilities", V.ref l_self_probs), ("_front", V.ref l_self_front), ("_low", V.int (self_397.low)), ("_span", V.int (self_397.span))]) ∧ H' l_self_probs = some (.lst ((self_397.probs : (List Int)).map V.int)) ∧ H' l_self_front = some (.lst ((self_397.front : (List Int)).map V.int)) ∧ cW (whileR m self_397 (fun s => F_Encoder__narrow_b2  s)) K395 EE) ∧ m < m405 + 1), (fun _ _ ⟨m', a, b⟩ => ⟨m', b, a⟩), ?_⟩
          obtain ⟨g410, hw⟩ := cW_grd hw
          refine ⟨_, rfl, _, _, _, _, _, rfl, h400, T.cl_Encoder, T.n_Encoder__front, rfl, (.inl ⟨rfl, _, SqL.of h402⟩), _, rfl, _, _, _, _, _, rfl, h400, T.cl_Encoder, T.n_Encoder__low, rfl, _, _, rfl, rfl, (show (0 : Int) ≤ 24 by decide), _, _, _, rfl, rfl, h402, (app_lenM g410), ?_⟩
          generalize g411 : upd H398 l_self_front _ = H412
          obtain ⟨x413, h414⟩ := gen_mut g411
          have h415 : H412 l_self_front = some (.lst (((self_397.front) ++ [(self_397.low / 16777216)] : (List Int)).map V.int)) := snoc_map h414
          have S416 := S399.mut1 x413 (.tail _ (.tail _ (.head _))) h415
          have hw := cW_bnd hw
          have h418 := (x413 _ _ h400 (ne_of h400 h402 (fun z => nomatch z)))
          obtain ⟨g419, hw⟩ := cW_grd hw
          have hw := cW_bnd hw
          refine ⟨_, rfl, _, _, _, _, _, rfl, h418, T.cl_Encoder, T.n_Encoder__low, rfl, _, _, rfl, rfl, (shl_side g419.1 g419.2.1 g419.2.2.1 g419.2.2.2), _, _, rfl, rfl, _, _, rfl, rfl, _, rfl, _, _, _, _, rfl, h418, T.cl_Encoder, T.n_Encoder__low, (by show 4 < 1000; decide), ?_⟩
          generalize g421 : upd H412 p_self _ = H422
          obtain ⟨x423, h424⟩ := gen_mut g421
          have h425 : H422 p_self = some (.ins AD.c_Encoder dx_self [("_probabilities", V.ref l_self_probs), ("_front", V.ref l_self_front), ("_low", V.int ((PySem.Builtin.bitAnd ((self_397.low * 2 ^ Int.toNat (8))) ((4294967296 - 1))))), ("_span", V.int (self_397.span))]) := h424
          have S426 := S416.mut1 x423 (.head _) h425
          obtain ⟨g427, hw⟩ := cW_grd hw
          have hw := cW_bnd hw
          refine ⟨_, rfl, _, _, _, _, _, rfl, h425, T.cl_Encoder, T.n_Encoder__span, rfl, _, _, rfl, rfl, (shl_side g427.1 g427.2.1 g427.2.2.1 g427.2.2.2), _, _, h425, (by show 4 < 1000; decide), ?_⟩
          generalize g429 : upd H422 p_self _ = H430
          obtain ⟨x431, h432⟩ := gen_mut g429
          have h433 : H430 p_self = some (.ins AD.c_Encoder dx_self [("_probabilities", V.ref l_self_probs), ("_front", V.ref l_self_front), ("_low", V.int ((PySem.Builtin.bitAnd ((self_397.low * 2 ^ Int.toNat (8))) ((4294967296 - 1))))), ("_span", V.int ((self_397.span * 2 ^ Int.toNat (8))))]) := h432
          have S434 := S426.mut1 x431 (.head _) h433
          have hw := cW_ok hw
          have hw := hK408 _ hw
          have h435 := (x431 _ _ (x423 _ _ (x413 _ _ h401 ne_self_0) (ne_of h401 h400 (fun z => nomatch z))) (ne_of h401 h400 (fun z => nomatch z)))
          have h436 := (x431 _ _ (x423 _ _ h415 (ne_of h415 h418 (fun z => nomatch z))) (ne_of h415 h418 (fun z => nomatch z)))
          exact ⟨m405, ⟨((⟨self_397.probs, (self_397.front) ++ [(self_397.low / 16777216)], (PySem.Builtin.bitAnd ((self_397.low * 2 ^ Int.toNat (8))) ((4294967296 - 1))), (self_397.span * 2 ^ Int.toNat (8))⟩ : St_Encoder)), _, rfl, eG404, S434, h433, h435, h436, hw⟩, Nat.lt_succ_self _⟩
        · have hw := cW_neg c409 hw
          have hw := cW_ok hw
          have hw := hK408 _ hw
          have hw := cW_aftgo (hK396 (.go _) hw)
          have hw : cW (F_Encoder__narrow_r2  (self_397)) _ EE := hw
          unfold F_Encoder__narrow_r2 at hw
          have hw := cW_ok hw
          exact hK0 _ hw _ S399.base h400 h401 h402

abbrev N_Encoder_code : List Str := ["self", "context", "decision", "chance"]
theorem sc_Encoder_code : FnScope N_Encoder_code ["self", "context", "decision"] (defScope s_Encoder_code) := ⟨rfl, rfl, rfl, by decide +kernel, rfl, by decide +kernel, by decide +kernel⟩
theorem ok_Encoder_code (D : MethX K AD.c_Encoder "Encoder.code" "code" s_Encoder_code ["self", "context", "decision"] pats_Encoder_code) (T : Txt w K mg AD) (c__check_context : CalQ P w K mg base 1 "_check_context" (sp__check_context K AD) pats__check_context) (c__check_decision : CalX P w K mg base 1 "_check_decision" (sp__check_decision K AD) pats__check_decision) (c_Encoder__narrow : MetX P w K mg base 2 AD.c_Encoder "_narrow" (sp_Encoder__narrow K AD) pats_Encoder__narrow) (c__adapted : CalX P w K mg base 1 "_adapted" (sp__adapted K AD) pats__adapted) : MetX P w K mg base 3 AD.c_Encoder "code" (sp_Encoder_code K AD) pats_Encoder_code := by
  refine D.ok T.cl_Encoder sc_Encoder_code (fun vs H Q E h => ?_) (fun f cdv A_ outer s H vs Q E hr h => ?_)
  · obtain ⟨G, p_self, l_self_probs, l_self_front, dx_self, self', context', decision', rfl, _⟩ := h
    rfl
  · obtain ⟨G, p_self, l_self_probs, l_self_front, dx_self, self', context', decision', rfl, sG, gM, h_p_self, h_l_self_probs, h_l_self_front, ne_self_0, hw⟩ := h
    refine ⟨_, (pss_cons (ps_expr (vx_callX c__check_context.y pat__check_context_0 (.head _) hr (by decide) (L2N.takes_of rfl rfl rfl rfl) rfl (pa_cons (pv 1) pa_nil) pk_nil))
      (pss_cons (ps_expr (vx_callX c__check_decision pat__check_decision_0 (.head _) hr (by decide) (L2N.takes_of rfl rfl rfl rfl) rfl (pa_cons (pv 2) pa_nil) pk_nil))
      (pss_cons (ps_set (i := 3) sc_Encoder_code.nd rfl (Or.inl rfl) (pe_ix (ix_listK (K := K)) (fldK (K := K) (pv 0)) (pv 1) (fun _ _ => rfl)))
      (pss_cons (ps_expr (vx_methX c_Encoder__narrow pat_Encoder__narrow_0 (.head _) hr (by decide) (L2N.takes_of rfl rfl rfl rfl) (pv 0) (pa_cons (pv 3) (pa_cons (pv 2) pa_nil)) pk_nil))
      (pss_one (ps_asg (vx_callX c__adapted pat__adapted_0 (.head _) hr (by decide) (L2N.takes_of rfl rfl rfl rfl) rfl (pa_cons (pv 3) (pa_cons (pv 2) pa_nil)) pk_nil) (pg_sub (fldK (K := K) (pv 0)) (pv 1) set_list))))))), ?_⟩
    obtain ⟨KK, EE, hK0, hE, hw⟩ := cW_gen hw
    have S0 := Sep.startM (M := [p_self, l_self_probs, l_self_front]) sG (all_cons (some_ne h_p_self) (all_cons (some_ne h_l_self_probs) (all_cons (some_ne h_l_self_front) all_nil))) gM
    unfold F_Encoder_code at hw
    refine ⟨_, rfl, rfl, rfl, G, _, rfl, S0.sG, cW_call hw (fun v438 hw => ?_) (fun e he => hE e he _ (Same.refl _))⟩
    refine ⟨_, rfl, rfl, rfl, G, _, rfl, S0.sG, cW_call hw (fun v439 hw => ?_) (fun e he => hE e he _ (Same.refl _))⟩
    obtain ⟨g440, hw⟩ := cW_grd hw
    refine ⟨_, rfl, _, _, _, _, _, rfl, h_p_self, T.cl_Encoder, T.n_Encoder__probabilities, rfl, _, rfl, _, _, _, _, rfl, rfl, (SqL.of h_l_self_probs), (atI_map g440), ?_⟩
    have hw := cW_bnd hw
    refine ⟨_, rfl, _, _, _, rfl, h_p_self, rfl, _, rfl, _, rfl, rfl, rfl, G, _, _, _, _, self', _, _, rfl, S0.sG, (S0.gno (all_cons (.head _) (all_cons (.tail _ (.head _)) (all_cons (.tail _ (.tail _ (.head _))) all_nil)))), h_p_self, h_l_self_probs, h_l_self_front, ne_self_0, cW_call hw (fun v442 hw H443 x444 h446 h447 h448  => ?_) (fun e he H2 e2 => hE e he H2 (Same.trans (Same.refl _) e2))⟩
    have S445 := S0.mut x444 (all_cons (.head _) (all_cons (.tail _ (.head _)) (all_cons (.tail _ (.tail _ (.head _))) all_nil))) (all_cons (some_ne h446) (all_cons (some_ne h447) (all_cons (some_ne h448) all_nil)))
    refine ⟨_, rfl, _, rfl, rfl, rfl, G, _, _, rfl, S445.sG, cW_callN hw (fun v453 hw => ?_) trivial⟩
    obtain ⟨g454, hw⟩ := cW_grd hw
    refine ⟨_, rfl, _, _, _, _, _, rfl, h446, T.cl_Encoder, T.n_Encoder__probabilities, rfl, _, rfl, _, _, _, _, rfl, rfl, h447, (ixN_map g454), ?_⟩
    generalize g455 : upd H443 l_self_probs _ = H456
    obtain ⟨x457, h458⟩ := gen_mut g455
    have h459 : H456 l_self_probs = some (.lst ((setL (v442.probs) (context') (v453) : (List Int)).map V.int)) := set_map h458
    have S460 := S445.mut1 x457 (.tail _ (.head _)) h459
    have hw := cW_bnd hw
    have h462 := (x457 _ _ h446 (ne_of h446 h447 (fun z => nomatch z)))
    have h463 := (x457 _ _ h448 (ne_self_0).symm)
    have hw := cW_ok hw
    exact hK0 _ hw _ S460.base h462 h459 h463

abbrev N_SymbolWriter_unary : List Str := ["self", "base", "value", "most", "index"]
theorem sc_SymbolWriter_unary : FnScope N_SymbolWriter_unary ["self", "base", "value", "most"] (defScope s_SymbolWriter_unary) := ⟨rfl, rfl, rfl, by decide +kernel, rfl, by decide +kernel, by decide +kernel⟩
theorem ok_SymbolWriter_unary (D : MethX K AD.c_SymbolWriter "SymbolWriter.unary" "unary" s_SymbolWriter_unary ["self", "base", "value", "most"] pats_SymbolWriter_unary) (T : Txt w K mg AD) (c__check_unary : CalX P w K mg base 2 "_check_unary" (sp__check_unary K AD) pats__check_unary) (c_Encoder_code : MetX P w K mg base 3 AD.c_Encoder "code" (sp_Encoder_code K AD) pats_Encoder_code) : MetX P w K mg base 4 AD.c_SymbolWriter "unary" (sp_SymbolWriter_unary K AD) pats_SymbolWriter_unary := by
  refine D.ok T.cl_SymbolWriter sc_SymbolWriter_unary (fun vs H Q E h => ?_) (fun f cdv A_ outer s H vs Q E hr h => ?_)
  · obtain ⟨G, p_self, p_self_enc, l_self_enc_probs, l_self_enc_front, dx_self, dx_self_enc, self', base', value', most', rfl, _⟩ := h
    rfl
  · obtain ⟨G, p_self, p_self_enc, l_self_enc_probs, l_self_enc_front, dx_self, dx_self_enc, self', base', value', most', rfl, sG, gM, h_p_self, h_p_self_enc, h_l_self_enc_probs, h_l_self_enc_front, ne_self_0, ne_self_1, hw⟩ := h
    refine ⟨_, (pss_cons (ps_expr (vx_callX c__check_unary pat__check_unary_0 (.head _) hr (by decide) (L2N.takes_of rfl rfl rfl rfl) rfl (pa_cons (pv 1) (pa_cons (pv 3) pa_nil)) pk_nil))
      (pss_cons (ps_if (pt_not (pt_chain op_le op_le pe_int (pv 2) (pv 3))) (pss_one (L2N.ps_raise rfl (L2N.takes_of rfl rfl rfl rfl) (L2N.pmk_own PySem.F.excBase_ValueError T.xx_OutOfRange T.xg_OutOfRange T.xk_OutOfRange (raises_own T.xb_OutOfRange T.xt_OutOfRange) rfl))) pss_nil)
      (pss_cons (ps_for (passes_of rfl) rfl (pi_range1 rfl T.b_range (pa_cons (pv 2) pa_nil)) (pg_name (i := 4) sc_SymbolWriter_unary.nd rfl (Or.inl rfl)) (pss_one (ps_expr (vx_methX c_Encoder_code pat_Encoder_code_0 (.head _) hr (by decide) (L2N.takes_of rfl rfl rfl rfl) (fldK (K := K) (pv 0)) (pa_cons (pe_op op_add (pv 1) (pe_callB (call_min2 rfl) (by rfl) T.b_min (by decide +kernel) (pa_cons (pv 4) (pa_cons (pe_op op_sub (C8.pe_gc rfl T.g_SHARED) pe_int) pa_nil)))) (pa_cons pe_int pa_nil)) pk_nil))))
      (pss_one (ps_if (pt_cmp (pc_lt (pv 2) (pv 3))) (pss_one (ps_expr (vx_methX c_Encoder_code pat_Encoder_code_0 (.head _) hr (by decide) (L2N.takes_of rfl rfl rfl rfl) (fldK (K := K) (pv 0)) (pa_cons (pe_op op_add (pv 1) (pe_callB (call_min2 rfl) (by rfl) T.b_min (by decide +kernel) (pa_cons (pv 2) (pa_cons (pe_op op_sub (C8.pe_gc rfl T.g_SHARED) pe_int) pa_nil)))) (pa_cons pe_int pa_nil)) pk_nil))) pss_nil))))), ?_⟩
    obtain ⟨KK, EE, hK0, hE, hw⟩ := cW_gen hw
    have S0 := Sep.startM (M := [p_self, p_self_enc, l_self_enc_probs, l_self_enc_front]) sG (all_cons (some_ne h_p_self) (all_cons (some_ne h_p_self_enc) (all_cons (some_ne h_l_self_enc_probs) (all_cons (some_ne h_l_self_enc_front) all_nil)))) gM
    unfold F_SymbolWriter_unary at hw
    refine ⟨_, rfl, _, rfl, rfl, rfl, G, _, _, rfl, S0.sG, cW_call hw (fun v464 hw => ?_) (fun e he => hE e he _ (Same.refl _))⟩
    refine ⟨_, rfl, _, _, rfl, rfl, _, rfl, ?_⟩
    refine iteD (fun c465 => ?_) (fun c465 => ?_)
    · have hw := cW_pos c465 hw
      refine ⟨_, rfl, _, _, rfl, rfl, _, rfl, ?_⟩
      refine iteN (fun c466 => ?_) (fun c466 => ?_)
      · have hw := cW_neg c466 hw
        exact hE 1 (cW_er hw) _ (Same.refl _)
      · have hw := cW_pos c466 hw
        obtain ⟨g467, hw⟩ := cW_grd hw
        obtain ⟨K472, hK473, hw⟩ := cW_push hw
        refine ⟨_, rfl, _, rfl, g467.1, g467.2, for_range (lo := 0) (n := Int.toNat (value')) (fun i σ H' => ∃ (self_474 : St_SymbolWriter) (u475 : Option V) (G' : Hp), σ = [some (V.ref p_self), some (V.int (base')), some (V.int (value')), some (V.int (most')), u475] ∧ Same G G' ∧ Sep [p_self, p_self_enc, l_self_enc_probs, l_self_enc_front] H G G' H' [p_self, p_self_enc, l_self_enc_probs, l_self_enc_front] ∧ H' p_self = some (.ins AD.c_SymbolWriter dx_self [("_encoder", V.ref p_self_enc)]) ∧ H' p_self_enc = some (.ins AD.c_Encoder dx_self_enc [("_probabilities", V.ref l_self_enc_probs), ("_front", V.ref l_self_enc_front), ("_low", V.int (self_474.enc.low)), ("_span", V.int (self_474.enc.span))]) ∧ H' l_self_enc_probs = some (.lst ((self_474.enc.probs : (List Int)).map V.int)) ∧ H' l_self_enc_front = some (.lst ((self_474.enc.front : (List Int)).map V.int)) ∧ cW (forS (List.drop i (rng (0) (Int.toNat (value')))) self_474 (fun s x => F_SymbolWriter_unary_b1 (base') s x)) K472 EE) ?_ ?_ ?_⟩
        · exact ⟨(self'), _, _, rfl, (Same.refl _), S0, h_p_self, h_p_self_enc, h_l_self_enc_probs, h_l_self_enc_front, hw⟩
        · intro i σ H476 hi hw
          obtain ⟨self_474, u475, G482, rfl, eG483, S477, h478, h479, h480, h481, hw⟩ := hw
          have hw := cW_forS (rng_get hi) hw
          generalize (0 + (i : Int)) = x484 at hw ⊢
          have hw : cW (F_SymbolWriter_unary_b1 (base') (self_474) (x484)) _ EE := hw
          unfold F_SymbolWriter_unary_b1 at hw
          obtain ⟨K486, hK487, hw⟩ := cW_name hw
          refine ⟨_, rfl, _, _, _, _, _, rfl, h478, T.cl_SymbolWriter, T.n_SymbolWriter__encoder, rfl, _, _, _, rfl, h479, rfl, _, rfl, _, rfl, _, _, rfl, rfl, _, _, rfl, _, _, rfl, rfl, rfl, rfl, G482, _, _, _, _, self_474.enc, _, _, rfl, S477.sG, (S477.gno (all_cons (.tail _ (.head _)) (all_cons (.tail _ (.tail _ (.head _))) (all_cons (.tail _ (.tail _ (.tail _ (.head _)))) all_nil)))), h479, h480, h481, ne_self_0, cW_callN hw (fun v489 hw H490 x491 h493 h494 h495  => ?_) trivial⟩
          have S492 := S477.mut x491 (all_cons (.tail _ (.head _)) (all_cons (.tail _ (.tail _ (.head _))) (all_cons (.tail _ (.tail _ (.tail _ (.head _)))) all_nil))) (all_cons (some_ne h493) (all_cons (some_ne h494) (all_cons (some_ne h495) all_nil)))
          have hw := cW_ok hw
          have hw := hK487 _ hw
          have h500 := (x491 _ _ h478 (ni3 ne_self_1 (ne_of h478 h480 (fun z => nomatch z)) (ne_of h478 h481 (fun z => nomatch z))))
          exact ⟨((⟨v489⟩ : St_SymbolWriter)), _, _, rfl, eG483, S492, h500, h493, h494, h495, hw⟩
        · intro σ H501 hw
          obtain ⟨self_474, u475, G507, rfl, eG508, S502, h503, h504, h505, h506, hw⟩ := hw
          have hw := hK473 _ (cW_forS0 (rng_len _ _).symm hw)
          have hw : cW (F_SymbolWriter_unary_r1 (base') (value') (most') (self_474)) _ EE := hw
          unfold F_SymbolWriter_unary_r1 at hw
          refine ⟨_, rfl, _, rfl, _, _, rfl, rfl, _, rfl, ?_⟩
          refine iteD (fun c510 => ?_) (fun c510 => ?_)
          · have hw := cW_pos c510 hw
            refine ⟨_, rfl, _, _, _, _, _, rfl, h503, T.cl_SymbolWriter, T.n_SymbolWriter__encoder, rfl, _, _, _, rfl, h504, rfl, _, rfl, _, rfl, _, _, rfl, rfl, _, _, rfl, _, _, rfl, rfl, rfl, rfl, G507, _, _, _, _, self_474.enc, _, _, rfl, S502.sG, (S502.gno (all_cons (.tail _ (.head _)) (all_cons (.tail _ (.tail _ (.head _))) (all_cons (.tail _ (.tail _ (.tail _ (.head _)))) all_nil)))), h504, h505, h506, ne_self_0, cW_callN hw (fun v511 hw H512 x513 h515 h516 h517  => ?_) trivial⟩
            have S514 := S502.mut x513 (all_cons (.tail _ (.head _)) (all_cons (.tail _ (.tail _ (.head _))) (all_cons (.tail _ (.tail _ (.tail _ (.head _)))) all_nil))) (all_cons (some_ne h515) (all_cons (some_ne h516) (all_cons (some_ne h517) all_nil)))
            have h522 := (x513 _ _ h503 (ni3 ne_self_1 (ne_of h503 h505 (fun z => nomatch z)) (ne_of h503 h506 (fun z => nomatch z))))
            have hw := cW_ok hw
            exact hK0 _ hw _ S514.base h522 h515 h516 h517
          · have hw := cW_neg c510 hw
            have hw := cW_ok hw
            exact hK0 _ hw _ S502.base h503 h504 h505 h506
    · have hw := cW_neg c465 hw
      refine ⟨_, rfl, ?_⟩
      refine iteT ?_
      exact hE 1 (cW_er hw) _ (Same.refl _)

abbrev N_Decoder__shift : List Str := ["self", "octet"]
theorem sc_Decoder__shift : FnScope N_Decoder__shift ["self"] (defScope s_Decoder__shift) := ⟨rfl, rfl, rfl, by decide +kernel, rfl, by decide +kernel, by decide +kernel⟩
theorem ok_Decoder__shift (D : MethX K AD.c_Decoder "Decoder._shift" "_shift" s_Decoder__shift ["self"] pats_Decoder__shift) (T : Txt w K mg AD)  : MetX P w K mg base 1 AD.c_Decoder "_shift" (sp_Decoder__shift K AD) pats_Decoder__shift := by
  refine D.ok T.cl_Decoder sc_Decoder__shift (fun vs H Q E h => ?_) (fun f cdv A_ outer s H vs Q E hr h => ?_)
  · obtain ⟨G, p_self, l_self_probs, l_self_octs, dx_self, self', rfl, _⟩ := h
    rfl
  · obtain ⟨G, p_self, l_self_probs, l_self_octs, dx_self, self', rfl, sG, gM, h_p_self, h_l_self_probs, h_l_self_octs, ne_self_0, hw⟩ := h
    refine ⟨_, (pss_cons (ps_set (i := 1) sc_Decoder__shift.nd rfl (Or.inl rfl) pe_int)
      (C8.pss_cut (ps_if (pt_cmp (pc_lt (fldK (K := K) (pv 0)) (pe_callB (call_lenLiK (K := K)) (by rfl) T.b_len (by decide +kernel) (pa_cons (fldK (K := K) (pv 0)) pa_nil)))) (pss_cons (ps_set (i := 1) sc_Decoder__shift.nd rfl (Or.inl rfl) (pe_ix (ix_listK (K := K)) (fldK (K := K) (pv 0)) (fldK (K := K) (pv 0)) (fun _ _ => rfl)))
      (pss_one (ps_fldaug (pv 0) pe_int (pip iop_add)))) pss_nil)
      (pss_one (ps_fld (pv 0) (pe_op op_or (pe_op op_shlW (fldK (K := K) (pv 0)) pe_int) (pv 1)) rfl)))), ?_⟩
    obtain ⟨KK, EE, hK0, hE, hw⟩ := cW_gen hw
    have S0 := Sep.startM (M := [p_self, l_self_probs, l_self_octs]) sG (all_cons (some_ne h_p_self) (all_cons (some_ne h_l_self_probs) (all_cons (some_ne h_l_self_octs) all_nil))) gM
    unfold F_Decoder__shift at hw
    refine ⟨fun σ H' => ∃ (self_525 : St_Decoder) (octet_526 : Int) (G' : Hp), σ = [some (V.ref p_self), some (V.int octet_526)] ∧ Same G G' ∧ Sep [p_self, l_self_probs, l_self_octs] H G G' H' [p_self, l_self_probs, l_self_octs] ∧ H' p_self = some (.ins AD.c_Decoder dx_self [("_probabilities", V.ref l_self_probs), ("_octets", V.ref l_self_octs), ("_place", V.int (self_525.place)), ("_span", V.int (self_525.span)), ("_value", V.int (self_525.value))]) ∧ H' l_self_probs = some (.lst ((self_525.probs : (List Int)).map V.int)) ∧ H' l_self_octs = some (.lst ((self_525.octs : (List Int)).map V.int)) ∧ cW (F_Decoder__shift_k1  self_525 octet_526) KK EE, ?_, ?_⟩
    · obtain ⟨K527, hK528, hw⟩ := cW_push hw
      refine ⟨_, rfl, _, _, _, _, _, rfl, h_p_self, T.cl_Decoder, T.n_Decoder__place, rfl, _, rfl, _, _, _, _, _, rfl, h_p_self, T.cl_Decoder, T.n_Decoder__octets, rfl, _, _, rfl, (SqL.of h_l_self_octs), _, _, rfl, rfl, _, rfl, ?_⟩
      refine iteD (fun c529 => ?_) (fun c529 => ?_)
      · have hw := cW_pos c529 hw
        obtain ⟨g530, hw⟩ := cW_grd hw
        refine ⟨_, rfl, _, _, _, _, _, rfl, h_p_self, T.cl_Decoder, T.n_Decoder__octets, rfl, _, rfl, _, _, _, _, _, rfl, h_p_self, T.cl_Decoder, T.n_Decoder__place, rfl, _, _, _, _, rfl, rfl, (SqL.of h_l_self_octs), (atI_map g530), ?_⟩
        have hw := cW_bnd hw
        have hw := cW_bnd hw
        refine ⟨_, rfl, _, _, _, _, _, rfl, h_p_self, T.cl_Decoder, T.n_Decoder__place, rfl, _, _, rfl, rfl, _, _, h_p_self, (by show 5 < 1000; decide), ?_⟩
        generalize g533 : upd H p_self _ = H534
        obtain ⟨x535, h536⟩ := gen_mut g533
        have h537 : H534 p_self = some (.ins AD.c_Decoder dx_self [("_probabilities", V.ref l_self_probs), ("_octets", V.ref l_self_octs), ("_place", V.int ((self'.place + 1))), ("_span", V.int (self'.span)), ("_value", V.int (self'.value))]) := h536
        have S538 := S0.mut1 x535 (.head _) h537
        have hw := cW_ok hw
        have hw := hK528 _ hw
        have h539 := (x535 _ _ h_l_self_probs (ne_of h_l_self_probs h_p_self (fun z => nomatch z)))
        have h540 := (x535 _ _ h_l_self_octs (ne_of h_l_self_octs h_p_self (fun z => nomatch z)))
        exact ⟨((⟨self'.probs, self'.octs, (self'.place + 1), self'.span, self'.value⟩ : St_Decoder)), ((itD (self'.octs) (self'.place))), _, rfl, (Same.refl _), S538, h537, h539, h540, hw⟩
      · have hw := cW_neg c529 hw
        have hw := cW_ok hw
        have hw := hK528 _ hw
        exact ⟨(self'), (0), _, rfl, (Same.refl _), S0, h_p_self, h_l_self_probs, h_l_self_octs, hw⟩
    · intro σ H541 hw
      obtain ⟨self_525, octet_526, G546, rfl, eG547, S542, h543, h544, h545, hw⟩ := hw
      unfold F_Decoder__shift_k1 at hw
      obtain ⟨g548, hw⟩ := cW_grd hw
      have hw := cW_bnd hw
      refine ⟨_, rfl, _, _, _, _, _, rfl, h543, T.cl_Decoder, T.n_Decoder__value, rfl, _, _, rfl, rfl, (shl_side g548.1 g548.2.1 g548.2.2.1 g548.2.2.2), _, rfl, _, _, rfl, rfl, _, rfl, _, _, _, _, rfl, h543, T.cl_Decoder, T.n_Decoder__value, (by show 5 < 1000; decide), ?_⟩
      generalize g550 : upd H541 p_self _ = H551
      obtain ⟨x552, h553⟩ := gen_mut g550
      have h554 : H551 p_self = some (.ins AD.c_Decoder dx_self [("_probabilities", V.ref l_self_probs), ("_octets", V.ref l_self_octs), ("_place", V.int (self_525.place)), ("_span", V.int (self_525.span)), ("_value", V.int ((PySem.Builtin.bitOr ((self_525.value * 2 ^ Int.toNat (8))) (octet_526))))]) := h553
      have S555 := S542.mut1 x552 (.head _) h554
      have h556 := (x552 _ _ h544 (ne_of h544 h543 (fun z => nomatch z)))
      have h557 := (x552 _ _ h545 (ne_of h545 h543 (fun z => nomatch z)))
      have hw := cW_ok hw
      exact hK0 _ hw _ S555.base h554 h556 h557

abbrev N_Decoder__decide : List Str := ["self", "chance", "part", "decision"]
theorem sc_Decoder__decide : FnScope N_Decoder__decide ["self", "chance"] (defScope s_Decoder__decide) := ⟨rfl, rfl, rfl, by decide +kernel, rfl, by decide +kernel, by decide +kernel⟩
theorem ok_Decoder__decide (D : MethX K AD.c_Decoder "Decoder._decide" "_decide" s_Decoder__decide ["self", "chance"] pats_Decoder__decide) (T : Txt w K mg AD) (c_Decoder__shift : MetX P w K mg base 1 AD.c_Decoder "_shift" (sp_Decoder__shift K AD) pats_Decoder__shift) : MetX P w K mg base 2 AD.c_Decoder "_decide" (sp_Decoder__decide K AD) pats_Decoder__decide := by
  refine D.ok T.cl_Decoder sc_Decoder__decide (fun vs H Q E h => ?_) (fun f cdv A_ outer s H vs Q E hr h => ?_)
  · obtain ⟨G, p_self, l_self_probs, l_self_octs, dx_self, self', chance', rfl, _⟩ := h
    rfl
  · obtain ⟨G, p_self, l_self_probs, l_self_octs, dx_self, self', chance', rfl, sG, gM, h_p_self, h_l_self_probs, h_l_self_octs, ne_self_0, hw⟩ := h
    refine ⟨_, (pss_cons (ps_set (i := 2) sc_Decoder__decide.nd rfl (Or.inl rfl) (pe_op op_mul (pe_op op_shr (fldK (K := K) (pv 0)) (C8.pe_gc rfl T.g_SCALE_BITS)) (pv 1)))
      (pss_cons (ps_set (i := 3) sc_Decoder__decide.nd rfl (Or.inl rfl) (pe_ifExp (pt_cmp (pc_lt (fldK (K := K) (pv 0)) (pv 2))) pe_int pe_int))
      (C8.pss_cut (ps_if (pt_cmp (pc_eqI (pv 3) pe_int)) (pss_one (ps_fld (pv 0) (pv 2) rfl)) (pss_cons (ps_fldaug (pv 0) (pv 2) (pip iop_sub))
      (pss_one (ps_fldaug (pv 0) (pv 2) (pip iop_sub)))))
      (pss_cons (ps_while (passes_of rfl) (pt_cmp (pc_lt (fldK (K := K) (pv 0)) (C8.pe_gc rfl T.g_LEAST_SPAN))) (pss_cons (ps_expr (vx_methX0 c_Decoder__shift pat_Decoder__shift_0 (.head _) hr (by decide) (L2N.takes_of rfl rfl rfl rfl) (pv 0)))
      (pss_one (ps_fldaug (pv 0) pe_int (pip iop_shlW)))))
      (pss_one (ps_ret (pv 3))))))), ?_⟩
    obtain ⟨KK, EE, hK0, hE, hw⟩ := cW_gen hw
    have S0 := Sep.startM (M := [p_self, l_self_probs, l_self_octs]) sG (all_cons (some_ne h_p_self) (all_cons (some_ne h_l_self_probs) (all_cons (some_ne h_l_self_octs) all_nil))) gM
    unfold F_Decoder__decide at hw
    obtain ⟨g558, hw⟩ := cW_grd hw
    refine ⟨_, rfl, _, _, _, _, _, rfl, h_p_self, T.cl_Decoder, T.n_Decoder__span, rfl, _, _, rfl, rfl, (show (0 : Int) ≤ 12 by decide), _, rfl, _, _, rfl, rfl, g558, ?_⟩
    have hw := cW_bnd hw
    refine vv_if (vt_cmp (vv_cmp (val_fld (val_var rfl) h_p_self T.cl_Decoder T.n_Decoder__value rfl) (val_var rfl) (fun Q q => ⟨_, _, rfl, rfl, q⟩))) val_c val_c _ ?_
    have hw := cW_bnd hw
    refine ⟨fun σ H' => ∃ (self_566 : St_Decoder) (G' : Hp), σ = [some (V.ref p_self), some (V.int (chance')), some (V.int (((self'.span / 4096) * chance'))), some (V.int ((if self'.value < ((self'.span / 4096) * chance') then 0 else 1)))] ∧ Same G G' ∧ Sep [p_self, l_self_probs, l_self_octs] H G G' H' [p_self, l_self_probs, l_self_octs] ∧ H' p_self = some (.ins AD.c_Decoder dx_self [("_probabilities", V.ref l_self_probs), ("_octets", V.ref l_self_octs), ("_place", V.int (self_566.place)), ("_span", V.int (self_566.span)), ("_value", V.int (self_566.value))]) ∧ H' l_self_probs = some (.lst ((self_566.probs : (List Int)).map V.int)) ∧ H' l_self_octs = some (.lst ((self_566.octs : (List Int)).map V.int)) ∧ cW (F_Decoder__decide_k1 ((if self'.value < ((self'.span / 4096) * chance') then 0 else 1)) self_566) KK EE, ?_, ?_⟩
    · obtain ⟨K567, hK568, hw⟩ := cW_push hw
      refine ⟨_, rfl, _, _, rfl, rfl, _, rfl, ?_⟩
      refine iteD (fun c569 => ?_) (fun c569 => ?_)
      · have hw := cW_pos c569 hw
        refine ⟨_, rfl, _, rfl, _, _, _, _, rfl, h_p_self, T.cl_Decoder, T.n_Decoder__span, (by show 5 < 1000; decide), ?_⟩
        generalize g570 : upd H p_self _ = H571
        obtain ⟨x572, h573⟩ := gen_mut g570
        have h574 : H571 p_self = some (.ins AD.c_Decoder dx_self [("_probabilities", V.ref l_self_probs), ("_octets", V.ref l_self_octs), ("_place", V.int (self'.place)), ("_span", V.int (((self'.span / 4096) * chance'))), ("_value", V.int (self'.value))]) := h573
        have S575 := S0.mut1 x572 (.head _) h574
        have hw := cW_ok hw
        have hw := hK568 _ hw
        have h576 := (x572 _ _ h_l_self_probs (ne_of h_l_self_probs h_p_self (fun z => nomatch z)))
        have h577 := (x572 _ _ h_l_self_octs (ne_of h_l_self_octs h_p_self (fun z => nomatch z)))
        exact ⟨((⟨self'.probs, self'.octs, self'.place, ((self'.span / 4096) * chance'), self'.value⟩ : St_Decoder)), _, rfl, (Same.refl _), S575, h574, h576, h577, hw⟩
      · have hw := cW_neg c569 hw
        have hw := cW_bnd hw
        refine ⟨_, rfl, _, _, _, _, _, rfl, h_p_self, T.cl_Decoder, T.n_Decoder__value, rfl, _, rfl, _, _, rfl, rfl, _, _, h_p_self, (by show 5 < 1000; decide), ?_⟩
        generalize g579 : upd H p_self _ = H580
        obtain ⟨x581, h582⟩ := gen_mut g579
        have h583 : H580 p_self = some (.ins AD.c_Decoder dx_self [("_probabilities", V.ref l_self_probs), ("_octets", V.ref l_self_octs), ("_place", V.int (self'.place)), ("_span", V.int (self'.span)), ("_value", V.int ((self'.value - ((self'.span / 4096) * chance'))))]) := h582
        have S584 := S0.mut1 x581 (.head _) h583
        have hw := cW_bnd hw
        refine ⟨_, rfl, _, _, _, _, _, rfl, h583, T.cl_Decoder, T.n_Decoder__span, rfl, _, rfl, _, _, rfl, rfl, _, _, h583, (by show 5 < 1000; decide), ?_⟩
        generalize g586 : upd H580 p_self _ = H587
        obtain ⟨x588, h589⟩ := gen_mut g586
        have h590 : H587 p_self = some (.ins AD.c_Decoder dx_self [("_probabilities", V.ref l_self_probs), ("_octets", V.ref l_self_octs), ("_place", V.int (self'.place)), ("_span", V.int ((self'.span - ((self'.span / 4096) * chance')))), ("_value", V.int ((self'.value - ((self'.span / 4096) * chance'))))]) := h589
        have S591 := S584.mut1 x588 (.head _) h590
        have hw := cW_ok hw
        have hw := hK568 _ hw
        have h592 := (x588 _ _ (x581 _ _ h_l_self_probs (ne_of h_l_self_probs h_p_self (fun z => nomatch z))) (ne_of h_l_self_probs h_p_self (fun z => nomatch z)))
        have h593 := (x588 _ _ (x581 _ _ h_l_self_octs (ne_of h_l_self_octs h_p_self (fun z => nomatch z))) (ne_of h_l_self_octs h_p_self (fun z => nomatch z)))
        exact ⟨((⟨self'.probs, self'.octs, self'.place, (self'.span - ((self'.span / 4096) * chance')), (self'.value - ((self'.span / 4096) * chance'))⟩ : St_Decoder)), _, rfl, (Same.refl _), S591, h590, h592, h593, hw⟩
    · intro σ H594 hw
      obtain ⟨self_566, G599, rfl, eG600, S595, h596, h597, h598, hw⟩ := hw
      unfold F_Decoder__decide_k1 at hw
      obtain ⟨K602, hK603, hw⟩ := cW_push hw
      refine ⟨fun m σ H' => ∃ (self_604 : St_Decoder) (G' : Hp), σ = [some (V.ref p_self), some (V.int (chance')), some (V.int (((self'.span / 4096) * chance'))), some (V.int ((if self'.value < ((self'.span / 4096) * chance') then 0 else 1)))] ∧ Same G599 G' ∧ Sep [p_self, l_self_probs, l_self_octs] H G G' H' [p_self, l_self_probs, l_self_octs] ∧ H' p_self = some (.ins AD.c_Decoder dx_self [("_probabilities", V.ref l_self_probs), ("_octets", V.ref l_self_octs), ("_place", V.int (self_604.place)), ("_span", V.int (self_604.span)), ("_value", V.int (self_604.value))]) ∧ H' l_self_probs = some (.lst ((self_604.probs : (List Int)).map V.int)) ∧ H' l_self_octs = some (.lst ((self_604.octs : (List Int)).map V.int)) ∧ cW (whileR m self_604 (fun s => F_Decoder__decide_b2  s)) K602 EE, ?_, ?_⟩
      · exact ⟨_, ⟨(self_566), _, rfl, (Same.refl _), S595, h596, h597, h598, hw⟩⟩
      · intro m σ H605 hw
        obtain ⟨self_604, G610, rfl, eG611, S606, h607, h608, h609, hw⟩ := hw
        obtain ⟨m612, rfl, hw2⟩ := cW_whileR hw
        have hw := hw2
        have hw : cW (F_Decoder__decide_b2  (self_604)) _ EE := hw
        unfold F_Decoder__decide_b2 at hw
        obtain ⟨K614, hK615, hw⟩ := cW_name hw
        refine ⟨_, rfl, _, _, _, _, _, rfl, h607, T.cl_Decoder, T.n_Decoder__span, rfl, _, _, rfl, rfl, _, rfl, ?_⟩
        refine iteD (fun c616 => ?_) (fun c616 => ?_)
        · have hw := cW_pos c616 hw
          refine ⟨(fun σ H' => ∃ m, (∃ (self_604 : St_Decoder) (G' : Hp), σ = [some (V.ref p_self), some (V.int (chance')), some (V.int (((self'.span / 4096) * chance'))), some (V.int ((if self'.value < ((self'.span / 4096) * chance') then 0 else 1)))] ∧ Same G599 G' ∧ Sep [p_self, l_self_probs, l_self_octs] H G G' H' [p_self, l_self_probs, l_self_octs] ∧ H' p_self = some (.ins AD.c_Decoder dx_self [("_probabilities", V.ref l_self_probs), ("_octets", V.ref l_self_octs), ("_place", V.int (self_604.place)), ("_span", V.int (self_604.span)), ("_value", V.int (self_604.value))]) ∧ H' l_self_probs = some (.lst ((self_604.probs : (List Int)).map V.int)) ∧ H' l_self_octs = some (.lst ((self_604.octs : (List Int)).map V.int)) ∧ cW (whileR m self_604 (fun s => F_Decoder__decide_b2  s)) K602 EE) ∧ m < m612 + 1), (fun _ _ ⟨m', a, b⟩ => ⟨m', b, a⟩), ?_⟩
          refine ⟨_, rfl, _, _, _, rfl, h607, rfl, rfl, rfl, G610, _, _, _, _, self_604, rfl, S606.sG, (S606.gno (all_cons (.head _) (all_cons (.tail _ (.head _)) (all_cons (.tail _ (.tail _ (.head _))) all_nil)))), h607, h608, h609, ne_self_0, cW_callN hw (fun v617 hw H618 x619 h621 h622 h623  => ?_) trivial⟩
          have S620 := S606.mut x619 (all_cons (.head _) (all_cons (.tail _ (.head _)) (all_cons (.tail _ (.tail _ (.head _))) all_nil))) (all_cons (some_ne h621) (all_cons (some_ne h622) (all_cons (some_ne h623) all_nil)))
          obtain ⟨g628, hw⟩ := cW_grd hw
          have hw := cW_bnd hw
          refine ⟨_, rfl, _, _, _, _, _, rfl, h621, T.cl_Decoder, T.n_Decoder__span, rfl, _, _, rfl, rfl, (shl_side g628.1 g628.2.1 g628.2.2.1 g628.2.2.2), _, _, h621, (by show 5 < 1000; decide), ?_⟩
          generalize g630 : upd H618 p_self _ = H631
          obtain ⟨x632, h633⟩ := gen_mut g630
          have h634 : H631 p_self = some (.ins AD.c_Decoder dx_self [("_probabilities", V.ref l_self_probs), ("_octets", V.ref l_self_octs), ("_place", V.int (v617.place)), ("_span", V.int ((v617.span * 2 ^ Int.toNat (8)))), ("_value", V.int (v617.value))]) := h633
          have S635 := S620.mut1 x632 (.head _) h634
          have hw := cW_ok hw
          have hw := hK615 _ hw
          have h636 := (x632 _ _ h622 (ne_of h622 h621 (fun z => nomatch z)))
          have h637 := (x632 _ _ h623 (ne_of h623 h621 (fun z => nomatch z)))
          exact ⟨m612, ⟨((⟨v617.probs, v617.octs, v617.place, (v617.span * 2 ^ Int.toNat (8)), v617.value⟩ : St_Decoder)), _, rfl, eG611, S635, h634, h636, h637, hw⟩, Nat.lt_succ_self _⟩
        · have hw := cW_neg c616 hw
          have hw := cW_ok hw
          have hw := hK615 _ hw
          have hw := cW_aftgo (hK603 (.go _) hw)
          have hw : cW (F_Decoder__decide_r2 ((if self'.value < ((self'.span / 4096) * chance') then 0 else 1)) (self_604)) _ EE := hw
          unfold F_Decoder__decide_r2 at hw
          refine ⟨_, rfl, ?_⟩
          have hw := cW_ok hw
          exact hK0 _ hw _ S606.base h607 h608 h609

abbrev N_Decoder_read : List Str := ["self", "context", "chance", "decision"]
theorem sc_Decoder_read : FnScope N_Decoder_read ["self", "context"] (defScope s_Decoder_read) := ⟨rfl, rfl, rfl, by decide +kernel, rfl, by decide +kernel, by decide +kernel⟩
theorem ok_Decoder_read (D : MethX K AD.c_Decoder "Decoder.read" "read" s_Decoder_read ["self", "context"] pats_Decoder_read) (T : Txt w K mg AD) (c__check_context : CalQ P w K mg base 1 "_check_context" (sp__check_context K AD) pats__check_context) (c_Decoder__decide : MetX P w K mg base 2 AD.c_Decoder "_decide" (sp_Decoder__decide K AD) pats_Decoder__decide) (c__adapted : CalX P w K mg base 1 "_adapted" (sp__adapted K AD) pats__adapted) : MetX P w K mg base 3 AD.c_Decoder "read" (sp_Decoder_read K AD) pats_Decoder_read := by
  refine D.ok T.cl_Decoder sc_Decoder_read (fun vs H Q E h => ?_) (fun f cdv A_ outer s H vs Q E hr h => ?_)
  · obtain ⟨G, p_self, l_self_probs, l_self_octs, dx_self, self', context', rfl, _⟩ := h
    rfl
  · obtain ⟨G, p_self, l_self_probs, l_self_octs, dx_self, self', context', rfl, sG, gM, h_p_self, h_l_self_probs, h_l_self_octs, ne_self_0, hw⟩ := h
    refine ⟨_, (pss_cons (ps_expr (vx_callX c__check_context.y pat__check_context_0 (.head _) hr (by decide) (L2N.takes_of rfl rfl rfl rfl) rfl (pa_cons (pv 1) pa_nil) pk_nil))
      (pss_cons (ps_set (i := 2) sc_Decoder_read.nd rfl (Or.inl rfl) (pe_ix (ix_listK (K := K)) (fldK (K := K) (pv 0)) (pv 1) (fun _ _ => rfl)))
      (pss_cons (ps_set (i := 3) sc_Decoder_read.nd rfl (Or.inl rfl) (vx_methX c_Decoder__decide pat_Decoder__decide_0 (.head _) hr (by decide) (L2N.takes_of rfl rfl rfl rfl) (pv 0) (pa_cons (pv 2) pa_nil) pk_nil))
      (pss_cons (ps_asg (vx_callX c__adapted pat__adapted_0 (.head _) hr (by decide) (L2N.takes_of rfl rfl rfl rfl) rfl (pa_cons (pv 2) (pa_cons (pv 3) pa_nil)) pk_nil) (pg_sub (fldK (K := K) (pv 0)) (pv 1) set_list))
      (pss_one (ps_ret (pv 3))))))), ?_⟩
    obtain ⟨KK, EE, hK0, hE, hw⟩ := cW_gen hw
    have S0 := Sep.startM (M := [p_self, l_self_probs, l_self_octs]) sG (all_cons (some_ne h_p_self) (all_cons (some_ne h_l_self_probs) (all_cons (some_ne h_l_self_octs) all_nil))) gM
    unfold F_Decoder_read at hw
    refine ⟨_, rfl, rfl, rfl, G, _, rfl, S0.sG, cW_call hw (fun v639 hw => ?_) (fun e he => hE e he _ (Same.refl _))⟩
    obtain ⟨g640, hw⟩ := cW_grd hw
    refine ⟨_, rfl, _, _, _, _, _, rfl, h_p_self, T.cl_Decoder, T.n_Decoder__probabilities, rfl, _, rfl, _, _, _, _, rfl, rfl, (SqL.of h_l_self_probs), (atI_map g640), ?_⟩
    have hw := cW_bnd hw
    refine ⟨_, rfl, _, _, _, rfl, h_p_self, rfl, _, rfl, rfl, rfl, G, _, _, _, _, self', _, rfl, S0.sG, (S0.gno (all_cons (.head _) (all_cons (.tail _ (.head _)) (all_cons (.tail _ (.tail _ (.head _))) all_nil)))), h_p_self, h_l_self_probs, h_l_self_octs, ne_self_0, cW_call hw (fun v642 hw H643 x644 h646 h647 h648  => ?_) (fun e he H2 e2 => hE e he H2 (Same.trans (Same.refl _) e2))⟩
    have S645 := S0.mut x644 (all_cons (.head _) (all_cons (.tail _ (.head _)) (all_cons (.tail _ (.tail _ (.head _))) all_nil))) (all_cons (some_ne h646) (all_cons (some_ne h647) (all_cons (some_ne h648) all_nil)))
    refine ⟨_, rfl, _, rfl, rfl, rfl, G, _, _, rfl, S645.sG, cW_callN hw (fun v653 hw => ?_) trivial⟩
    obtain ⟨g654, hw⟩ := cW_grd hw
    refine ⟨_, rfl, _, _, _, _, _, rfl, h646, T.cl_Decoder, T.n_Decoder__probabilities, rfl, _, rfl, _, _, _, _, rfl, rfl, h647, (ixN_map g654), ?_⟩
    generalize g655 : upd H643 l_self_probs _ = H656
    obtain ⟨x657, h658⟩ := gen_mut g655
    have h659 : H656 l_self_probs = some (.lst ((setL (v642.2.probs) (context') (v653) : (List Int)).map V.int)) := set_map h658
    have S660 := S645.mut1 x657 (.tail _ (.head _)) h659
    have hw := cW_bnd hw
    refine ⟨_, rfl, ?_⟩
    have h662 := (x657 _ _ h646 (ne_of h646 h647 (fun z => nomatch z)))
    have h663 := (x657 _ _ h648 (ne_self_0).symm)
    have hw := cW_ok hw
    exact hK0 _ hw _ S660.base h662 h659 h663

abbrev N_SymbolReader_unary : List Str := ["self", "base", "most", "value"]
theorem sc_SymbolReader_unary : FnScope N_SymbolReader_unary ["self", "base", "most"] (defScope s_SymbolReader_unary) := ⟨rfl, rfl, rfl, by decide +kernel, rfl, by decide +kernel, by decide +kernel⟩
theorem ok_SymbolReader_unary (D : MethX K AD.c_SymbolReader "SymbolReader.unary" "unary" s_SymbolReader_unary ["self", "base", "most"] pats_SymbolReader_unary) (T : Txt w K mg AD) (c__check_unary : CalX P w K mg base 2 "_check_unary" (sp__check_unary K AD) pats__check_unary) (c_Decoder_read : MetX P w K mg base 3 AD.c_Decoder "read" (sp_Decoder_read K AD) pats_Decoder_read) : MetX P w K mg base 4 AD.c_SymbolReader "unary" (sp_SymbolReader_unary K AD) pats_SymbolReader_unary := by
  refine D.ok T.cl_SymbolReader sc_SymbolReader_unary (fun vs H Q E h => ?_) (fun f cdv A_ outer s H vs Q E hr h => ?_)
  · obtain ⟨G, p_self, p_self_dec, l_self_dec_probs, l_self_dec_octs, dx_self, dx_self_dec, self', base', most', rfl, _⟩ := h
    rfl
  · obtain ⟨G, p_self, p_self_dec, l_self_dec_probs, l_self_dec_octs, dx_self, dx_self_dec, self', base', most', rfl, sG, gM, h_p_self, h_p_self_dec, h_l_self_dec_probs, h_l_self_dec_octs, ne_self_0, ne_self_1, hw⟩ := h
    refine ⟨_, (pss_cons (ps_expr (vx_callX c__check_unary pat__check_unary_0 (.head _) hr (by decide) (L2N.takes_of rfl rfl rfl rfl) rfl (pa_cons (pv 1) (pa_cons (pv 2) pa_nil)) pk_nil))
      (pss_cons (ps_set (i := 3) sc_SymbolReader_unary.nd rfl (Or.inl rfl) pe_int)
      (pss_cons (ps_while (passes_of rfl) (PW.pt (pw_and (pt_cmp (pc_lt (pv 3) (pv 2))) (pw_and1 (pt_cmp (pc_eqI (vx_methX c_Decoder_read pat_Decoder_read_0 (.head _) hr (by decide) (L2N.takes_of rfl rfl rfl rfl) (fldK (K := K) (pv 0)) (pa_cons (pe_op op_add (pv 1) (pe_callB (call_min2 rfl) (by rfl) T.b_min (by decide +kernel) (pa_cons (pv 3) (pa_cons (pe_op op_sub (C8.pe_gc rfl T.g_SHARED) pe_int) pa_nil)))) pa_nil) pk_nil) pe_int))))) (pss_one (ps_aug (i := 3) sc_SymbolReader_unary.nd rfl (Or.inl rfl) pe_int (pip iop_add))))
      (pss_one (ps_ret (pv 3)))))), ?_⟩
    obtain ⟨KK, EE, hK0, hE, hw⟩ := cW_gen hw
    have S0 := Sep.startM (M := [p_self, p_self_dec, l_self_dec_probs, l_self_dec_octs]) sG (all_cons (some_ne h_p_self) (all_cons (some_ne h_p_self_dec) (all_cons (some_ne h_l_self_dec_probs) (all_cons (some_ne h_l_self_dec_octs) all_nil)))) gM
    unfold F_SymbolReader_unary at hw
    refine ⟨_, rfl, _, rfl, rfl, rfl, G, _, _, rfl, S0.sG, cW_call hw (fun v664 hw => ?_) (fun e he => hE e he _ (Same.refl _))⟩
    obtain ⟨K667, hK668, hw⟩ := cW_push hw
    refine ⟨fun m σ H' => ∃ (self_669 : St_SymbolReader) (value_670 : Int) (G' : Hp), σ = [some (V.ref p_self), some (V.int (base')), some (V.int (most')), some (V.int value_670)] ∧ Same G G' ∧ Sep [p_self, p_self_dec, l_self_dec_probs, l_self_dec_octs] H G G' H' [p_self, p_self_dec, l_self_dec_probs, l_self_dec_octs] ∧ H' p_self = some (.ins AD.c_SymbolReader dx_self [("_decoder", V.ref p_self_dec)]) ∧ H' p_self_dec = some (.ins AD.c_Decoder dx_self_dec [("_probabilities", V.ref l_self_dec_probs), ("_octets", V.ref l_self_dec_octs), ("_place", V.int (self_669.dec.place)), ("_span", V.int (self_669.dec.span)), ("_value", V.int (self_669.dec.value))]) ∧ H' l_self_dec_probs = some (.lst ((self_669.dec.probs : (List Int)).map V.int)) ∧ H' l_self_dec_octs = some (.lst ((self_669.dec.octs : (List Int)).map V.int)) ∧ cW (whileR m (self_669, value_670) (fun s => F_SymbolReader_unary_b1 (base') (most') (s.1) (s.2))) K667 EE, ?_, ?_⟩
    · exact ⟨_, ⟨(self'), (0), _, rfl, (Same.refl _), S0, h_p_self, h_p_self_dec, h_l_self_dec_probs, h_l_self_dec_octs, hw⟩⟩
    · intro m σ H671 hw
      obtain ⟨self_669, value_670, G677, rfl, eG678, S672, h673, h674, h675, h676, hw⟩ := hw
      obtain ⟨m679, rfl, hw2⟩ := cW_whileR hw
      have hw := hw2
      have hw : cW (F_SymbolReader_unary_b1 (base') (most') (self_669) (value_670)) _ EE := hw
      unfold F_SymbolReader_unary_b1 at hw
      obtain ⟨K682, hK683, hw⟩ := cW_name hw
      refine ⟨_, rfl, _, rfl, _, _, rfl, rfl, _, rfl, ?_⟩
      refine iteD (fun c684 => ?_) (fun c684 => ?_)
      · have hw := cW_pos c684 hw
        refine ⟨_, rfl, _, _, _, _, _, rfl, h673, T.cl_SymbolReader, T.n_SymbolReader__decoder, rfl, _, _, _, rfl, h674, rfl, _, rfl, _, rfl, _, _, rfl, rfl, _, _, rfl, _, _, rfl, rfl, rfl, rfl, G677, _, _, _, _, self_669.dec, _, rfl, S672.sG, (S672.gno (all_cons (.tail _ (.head _)) (all_cons (.tail _ (.tail _ (.head _))) (all_cons (.tail _ (.tail _ (.tail _ (.head _)))) all_nil)))), h674, h675, h676, ne_self_0, cW_callN hw (fun v685 hw H686 x687 h689 h690 h691  => ?_) trivial⟩
        have S688 := S672.mut x687 (all_cons (.tail _ (.head _)) (all_cons (.tail _ (.tail _ (.head _))) (all_cons (.tail _ (.tail _ (.tail _ (.head _)))) all_nil))) (all_cons (some_ne h689) (all_cons (some_ne h690) (all_cons (some_ne h691) all_nil)))
        refine ⟨_, _, rfl, rfl, _, rfl, ?_⟩
        refine iteD (fun c696 => ?_) (fun c696 => ?_)
        · have hw := cW_pos c696 hw
          refine ⟨(fun σ H' => ∃ m, (∃ (self_669 : St_SymbolReader) (value_670 : Int) (G' : Hp), σ = [some (V.ref p_self), some (V.int (base')), some (V.int (most')), some (V.int value_670)] ∧ Same G G' ∧ Sep [p_self, p_self_dec, l_self_dec_probs, l_self_dec_octs] H G G' H' [p_self, p_self_dec, l_self_dec_probs, l_self_dec_octs] ∧ H' p_self = some (.ins AD.c_SymbolReader dx_self [("_decoder", V.ref p_self_dec)]) ∧ H' p_self_dec = some (.ins AD.c_Decoder dx_self_dec [("_probabilities", V.ref l_self_dec_probs), ("_octets", V.ref l_self_dec_octs), ("_place", V.int (self_669.dec.place)), ("_span", V.int (self_669.dec.span)), ("_value", V.int (self_669.dec.value))]) ∧ H' l_self_dec_probs = some (.lst ((self_669.dec.probs : (List Int)).map V.int)) ∧ H' l_self_dec_octs = some (.lst ((self_669.dec.octs : (List Int)).map V.int)) ∧ cW (whileR m (self_669, value_670) (fun s => F_SymbolReader_unary_b1 (base') (most') (s.1) (s.2))) K667 EE) ∧ m < m679 + 1), (fun _ _ ⟨m', a, b⟩ => ⟨m', b, a⟩), ?_⟩
          refine ⟨_, rfl, _, _, rfl, rfl, ?_⟩
          have hw := cW_bnd hw
          have hw := cW_ok hw
          have hw := hK683 _ hw
          have h698 := (x687 _ _ h673 (ni3 ne_self_1 (ne_of h673 h675 (fun z => nomatch z)) (ne_of h673 h676 (fun z => nomatch z))))
          exact ⟨m679, ⟨((⟨v685.2⟩ : St_SymbolReader)), ((value_670 + 1)), _, rfl, eG678, S688, h698, h689, h690, h691, hw⟩, Nat.lt_succ_self _⟩
        · have hw := cW_neg c696 hw
          have hw := cW_ok hw
          have hw := hK683 _ hw
          have hw := cW_aftgo (hK668 (.go _) hw)
          have hw : cW (F_SymbolReader_unary_r1  ((⟨v685.2⟩ : St_SymbolReader)) (value_670)) _ EE := hw
          unfold F_SymbolReader_unary_r1 at hw
          refine ⟨_, rfl, ?_⟩
          have h701 := (x687 _ _ h673 (ni3 ne_self_1 (ne_of h673 h675 (fun z => nomatch z)) (ne_of h673 h676 (fun z => nomatch z))))
          have hw := cW_ok hw
          exact hK0 _ hw _ S688.base h701 h689 h690 h691
      · have hw := cW_neg c684 hw
        refine iteF ?_
        have hw := cW_ok hw
        have hw := hK683 _ hw
        have hw := cW_aftgo (hK668 (.go _) hw)
        have hw : cW (F_SymbolReader_unary_r1  (self_669) (value_670)) _ EE := hw
        unfold F_SymbolReader_unary_r1 at hw
        refine ⟨_, rfl, ?_⟩
        have hw := cW_ok hw
        exact hK0 _ hw _ S672.base h673 h674 h675 h676

abbrev N__digit_context : List Str := ["base", "digits"]
theorem sc__digit_context : FnScope N__digit_context ["base", "digits"] (defScope s__digit_context) := ⟨rfl, rfl, rfl, by decide +kernel, rfl, by decide +kernel, by decide +kernel⟩
theorem ok__digit_context (D : DefX K mg "_digit_context" s__digit_context ["base", "digits"] pats__digit_context) (T : Txt w K mg AD)  : CalX P w K mg base 1 "_digit_context" (sp__digit_context K AD) pats__digit_context := by
  refine D.ok sc__digit_context (fun vs H Q E h => ?_) (fun f cdv A_ outer s H vs Q E hr h => ?_)
  · obtain ⟨G, base', digits', rfl, _⟩ := h
    rfl
  · obtain ⟨G, base', digits', rfl, sG, hw⟩ := h
    refine ⟨_, (pss_one (ps_ret (pe_op op_add (pe_op op_add (pv 0) (C8.pe_gc rfl T.g_SHARED)) (pe_callB (call_min2 rfl) (by rfl) T.b_min (by decide +kernel) (pa_cons (pe_op op_sub (pv 1) pe_int) (pa_cons (pe_op op_sub (C8.pe_gc rfl T.g_SHARED) pe_int) pa_nil)))))), ?_⟩
    obtain ⟨KK, EE, hK0, hE, hw⟩ := cW_gen hw
    have S0 := Sep.startG sG
    unfold F__digit_context at hw
    refine ⟨_, rfl, _, _, rfl, rfl, _, rfl, _, _, rfl, rfl, _, _, rfl, rfl, _, _, rfl, _, _, rfl, rfl, ?_⟩
    have hw := cW_ok hw
    exact hK0 _ hw

abbrev N_Encoder_code_even : List Str := ["self", "decision"]
theorem sc_Encoder_code_even : FnScope N_Encoder_code_even ["self", "decision"] (defScope s_Encoder_code_even) := ⟨rfl, rfl, rfl, by decide +kernel, rfl, by decide +kernel, by decide +kernel⟩
theorem ok_Encoder_code_even (D : MethX K AD.c_Encoder "Encoder.code_even" "code_even" s_Encoder_code_even ["self", "decision"] pats_Encoder_code_even) (T : Txt w K mg AD) (c__check_decision : CalX P w K mg base 1 "_check_decision" (sp__check_decision K AD) pats__check_decision) (c_Encoder__narrow : MetX P w K mg base 2 AD.c_Encoder "_narrow" (sp_Encoder__narrow K AD) pats_Encoder__narrow) : MetX P w K mg base 3 AD.c_Encoder "code_even" (sp_Encoder_code_even K AD) pats_Encoder_code_even := by
  refine D.ok T.cl_Encoder sc_Encoder_code_even (fun vs H Q E h => ?_) (fun f cdv A_ outer s H vs Q E hr h => ?_)
  · obtain ⟨G, p_self, l_self_probs, l_self_front, dx_self, self', decision', rfl, _⟩ := h
    rfl
  · obtain ⟨G, p_self, l_self_probs, l_self_front, dx_self, self', decision', rfl, sG, gM, h_p_self, h_l_self_probs, h_l_self_front, ne_self_0, hw⟩ := h
    refine ⟨_, (pss_cons (ps_expr (vx_callX c__check_decision pat__check_decision_0 (.head _) hr (by decide) (L2N.takes_of rfl rfl rfl rfl) rfl (pa_cons (pv 1) pa_nil) pk_nil))
      (pss_one (ps_expr (vx_methX c_Encoder__narrow pat_Encoder__narrow_0 (.head _) hr (by decide) (L2N.takes_of rfl rfl rfl rfl) (pv 0) (pa_cons (C8.pe_gc rfl T.g_EVEN) (pa_cons (pv 1) pa_nil)) pk_nil)))), ?_⟩
    obtain ⟨KK, EE, hK0, hE, hw⟩ := cW_gen hw
    have S0 := Sep.startM (M := [p_self, l_self_probs, l_self_front]) sG (all_cons (some_ne h_p_self) (all_cons (some_ne h_l_self_probs) (all_cons (some_ne h_l_self_front) all_nil))) gM
    unfold F_Encoder_code_even at hw
    refine ⟨_, rfl, rfl, rfl, G, _, rfl, S0.sG, cW_call hw (fun v704 hw => ?_) (fun e he => hE e he _ (Same.refl _))⟩
    refine ⟨_, rfl, _, _, _, rfl, h_p_self, rfl, _, rfl, rfl, rfl, G, _, _, _, _, self', _, _, rfl, S0.sG, (S0.gno (all_cons (.head _) (all_cons (.tail _ (.head _)) (all_cons (.tail _ (.tail _ (.head _))) all_nil)))), h_p_self, h_l_self_probs, h_l_self_front, ne_self_0, cW_call hw (fun v705 hw H706 x707 h709 h710 h711  => ?_) (fun e he H2 e2 => hE e he H2 (Same.trans (Same.refl _) e2))⟩
    have S708 := S0.mut x707 (all_cons (.head _) (all_cons (.tail _ (.head _)) (all_cons (.tail _ (.tail _ (.head _))) all_nil))) (all_cons (some_ne h709) (all_cons (some_ne h710) (all_cons (some_ne h711) all_nil)))
    have hw := cW_ok hw
    exact hK0 _ hw _ S708.base h709 h710 h711

abbrev N_SymbolWriter_number : List Str := ["self", "base", "value", "digits", "shift", "digit"]
theorem sc_SymbolWriter_number : FnScope N_SymbolWriter_number ["self", "base", "value"] (defScope s_SymbolWriter_number) := ⟨rfl, rfl, rfl, by decide +kernel, rfl, by decide +kernel, by decide +kernel⟩
theorem ok_SymbolWriter_number (D : MethX K AD.c_SymbolWriter "SymbolWriter.number" "number" s_SymbolWriter_number ["self", "base", "value"] pats_SymbolWriter_number) (T : Txt w K mg AD) (c__check_contexts : CalX P w K mg base 1 "_check_contexts" (sp__check_contexts K AD) pats__check_contexts) (c_SymbolWriter_unary : MetX P w K mg base 4 AD.c_SymbolWriter "unary" (sp_SymbolWriter_unary K AD) pats_SymbolWriter_unary) (c_Encoder_code : MetX P w K mg base 3 AD.c_Encoder "code" (sp_Encoder_code K AD) pats_Encoder_code) (c__digit_context : CalX P w K mg base 1 "_digit_context" (sp__digit_context K AD) pats__digit_context) (c_Encoder_code_even : MetX P w K mg base 3 AD.c_Encoder "code_even" (sp_Encoder_code_even K AD) pats_Encoder_code_even) : MetX P w K mg base 5 AD.c_SymbolWriter "number" (sp_SymbolWriter_number K AD) pats_SymbolWriter_number := by
  refine D.ok T.cl_SymbolWriter sc_SymbolWriter_number (fun vs H Q E h => ?_) (fun f cdv A_ outer s H vs Q E hr h => ?_)
  · obtain ⟨G, p_self, p_self_enc, l_self_enc_probs, l_self_enc_front, dx_self, dx_self_enc, self', base', value', rfl, _⟩ := h
    rfl
  · obtain ⟨G, p_self, p_self_enc, l_self_enc_probs, l_self_enc_front, dx_self, dx_self_enc, self', base', value', rfl, sG, gM, h_p_self, h_p_self_enc, h_l_self_enc_probs, h_l_self_enc_front, ne_self_0, ne_self_1, hw⟩ := h
    refine ⟨_, (pss_cons (ps_expr (vx_callX c__check_contexts pat__check_contexts_0 (.head _) hr (by decide) (L2N.takes_of rfl rfl rfl rfl) rfl (pa_cons (pv 1) (pa_cons (pe_op op_mul pe_int (C8.pe_gc rfl T.g_SHARED)) pa_nil)) pk_nil))
      (pss_cons (ps_if (pt_not (pt_chain op_le op_le pe_int (pv 2) (C8.pe_gc rfl T.g_GREATEST_NUMBER))) (pss_one (L2N.ps_raise rfl (L2N.takes_of rfl rfl rfl rfl) (L2N.pmk_own PySem.F.excBase_ValueError T.xx_OutOfRange T.xg_OutOfRange T.xk_OutOfRange (raises_own T.xb_OutOfRange T.xt_OutOfRange) rfl))) pss_nil)
      (pss_cons (ps_set (i := 3) sc_SymbolWriter_number.nd rfl (Or.inl rfl) (pe_op op_sub (pe_bits (pe_op op_add (pv 2) pe_int)) pe_int))
      (pss_cons (ps_expr (vx_methX c_SymbolWriter_unary pat_SymbolWriter_unary_0 (.head _) hr (by decide) (L2N.takes_of rfl rfl rfl rfl) (pv 0) (pa_cons (pv 1) (pa_cons (pv 3) pa_nil)) (pk_cons (C8.pe_gc rfl T.g_MOST_DIGITS) pk_nil)))
      (pss_one (ps_for (passes_of rfl) rfl (pi_range3 rfl T.b_range (pa_cons (pe_op op_sub (pv 3) pe_int) (pa_cons (pe_un un_neg pe_int) (pa_cons (pe_un un_neg pe_int) pa_nil)))) (pg_name (i := 4) sc_SymbolWriter_number.nd rfl (Or.inl rfl)) (pss_cons (ps_set (i := 5) sc_SymbolWriter_number.nd rfl (Or.inl rfl) (pe_op op_and (pe_op op_shr (pe_op op_add (pv 2) pe_int) (pv 4)) pe_int))
      (pss_one (ps_if (pt_cmp (pc_eqI (pv 4) (pe_op op_sub (pv 3) pe_int))) (pss_one (ps_expr (vx_methX c_Encoder_code pat_Encoder_code_0 (.head _) hr (by decide) (L2N.takes_of rfl rfl rfl rfl) (fldK (K := K) (pv 0)) (pa_cons (vx_callX c__digit_context pat__digit_context_0 (.head _) hr (by decide) (L2N.takes_of rfl rfl rfl rfl) rfl (pa_cons (pv 1) (pa_cons (pv 3) pa_nil)) pk_nil) (pa_cons (pv 5) pa_nil)) pk_nil))) (pss_one (ps_expr (vx_methX c_Encoder_code_even pat_Encoder_code_even_0 (.head _) hr (by decide) (L2N.takes_of rfl rfl rfl rfl) (fldK (K := K) (pv 0)) (pa_cons (pv 5) pa_nil) pk_nil)))))))))))), ?_⟩
    obtain ⟨KK, EE, hK0, hE, hw⟩ := cW_gen hw
    have S0 := Sep.startM (M := [p_self, p_self_enc, l_self_enc_probs, l_self_enc_front]) sG (all_cons (some_ne h_p_self) (all_cons (some_ne h_p_self_enc) (all_cons (some_ne h_l_self_enc_probs) (all_cons (some_ne h_l_self_enc_front) all_nil)))) gM
    unfold F_SymbolWriter_number at hw
    refine ⟨_, rfl, _, _, rfl, rfl, (.inl ⟨by decide, by decide⟩), rfl, rfl, G, _, _, rfl, S0.sG, cW_call hw (fun v716 hw => ?_) (fun e he => hE e he _ (Same.refl _))⟩
    refine ⟨_, rfl, _, _, rfl, rfl, _, rfl, ?_⟩
    refine iteD (fun c717 => ?_) (fun c717 => ?_)
    · have hw := cW_pos c717 hw
      refine ⟨_, _, rfl, rfl, _, rfl, ?_⟩
      refine iteN (fun c718 => ?_) (fun c718 => ?_)
      · have hw := cW_neg c718 hw
        exact hE 1 (cW_er hw) _ (Same.refl _)
      · have hw := cW_pos c718 hw
        refine ⟨_, rfl, _, _, rfl, rfl, _, rfl, _, _, rfl, rfl, ?_⟩
        have hw := cW_bnd hw
        refine ⟨_, rfl, _, _, _, rfl, h_p_self, rfl, _, rfl, _, rfl, rfl, rfl, G, _, _, _, _, _, _, self', _, _, _, rfl, S0.sG, (S0.gno (all_cons (.head _) (all_cons (.tail _ (.head _)) (all_cons (.tail _ (.tail _ (.head _))) (all_cons (.tail _ (.tail _ (.tail _ (.head _)))) all_nil))))), h_p_self, h_p_self_enc, h_l_self_enc_probs, h_l_self_enc_front, ne_self_0, ne_self_1, cW_call hw (fun v720 hw H721 x722 h724 h725 h726 h727  => ?_) (fun e he H2 e2 => hE e he H2 (Same.trans (Same.refl _) e2))⟩
        have S723 := S0.mut x722 (all_cons (.head _) (all_cons (.tail _ (.head _)) (all_cons (.tail _ (.tail _ (.head _))) (all_cons (.tail _ (.tail _ (.tail _ (.head _)))) all_nil)))) (all_cons (some_ne h724) (all_cons (some_ne h725) (all_cons (some_ne h726) (all_cons (some_ne h727) all_nil))))
        obtain ⟨g732, hw⟩ := cW_grd hw
        obtain ⟨K736, hK737, hw⟩ := cW_push hw
        refine ⟨_, rfl, _, _, rfl, rfl, _, rfl, _, rfl, _, _, _, _, rfl, (RgC.neg g732.1 g732.2.1 g732.2.2.1 g732.2.2.2), for_rangeC (lo := ((((PySem.Builtin.Int.intBits ((value' + 1)) : Nat) : Int) - 1) - 1)) (c := -1) (n := Int.toNat (((((PySem.Builtin.Int.intBits ((value' + 1)) : Nat) : Int) - 1) - 1) - (-1))) (fun i σ H' => ∃ (self_738 : St_SymbolWriter) (u739 : Option V) (u740 : Option V) (G' : Hp), σ = [some (V.ref p_self), some (V.int (base')), some (V.int (value')), some (V.int ((((PySem.Builtin.Int.intBits ((value' + 1)) : Nat) : Int) - 1))), u739, u740] ∧ Same G G' ∧ Sep [p_self, p_self_enc, l_self_enc_probs, l_self_enc_front] H G G' H' [p_self, p_self_enc, l_self_enc_probs, l_self_enc_front] ∧ H' p_self = some (.ins AD.c_SymbolWriter dx_self [("_encoder", V.ref p_self_enc)]) ∧ H' p_self_enc = some (.ins AD.c_Encoder dx_self_enc [("_probabilities", V.ref l_self_enc_probs), ("_front", V.ref l_self_enc_front), ("_low", V.int (self_738.enc.low)), ("_span", V.int (self_738.enc.span))]) ∧ H' l_self_enc_probs = some (.lst ((self_738.enc.probs : (List Int)).map V.int)) ∧ H' l_self_enc_front = some (.lst ((self_738.enc.front : (List Int)).map V.int)) ∧ cW (forS (List.drop i (rngD (((((PySem.Builtin.Int.intBits ((value' + 1)) : Nat) : Int) - 1) - 1)) (Int.toNat (((((PySem.Builtin.Int.intBits ((value' + 1)) : Nat) : Int) - 1) - 1) - (-1))))) self_738 (fun s x => F_SymbolWriter_number_b1 (base') (value') ((((PySem.Builtin.Int.intBits ((value' + 1)) : Nat) : Int) - 1)) s x)) K736 EE) ?_ ?_ ?_⟩
        · exact ⟨(v720), _, _, _, rfl, (Same.refl _), S723, h724, h725, h726, h727, hw⟩
        · intro i σ H741 hi hw
          obtain ⟨self_738, u739, u740, G747, rfl, eG748, S742, h743, h744, h745, h746, hw⟩ := hw
          have hw := cW_forS (rngD_get hi) hw
          generalize (((((PySem.Builtin.Int.intBits ((value' + 1)) : Nat) : Int) - 1) - 1) + ((i : Nat) : Int) * (-1)) = x749 at hw ⊢
          have hw : cW (F_SymbolWriter_number_b1 (base') (value') ((((PySem.Builtin.Int.intBits ((value' + 1)) : Nat) : Int) - 1)) (self_738) (x749)) _ EE := hw
          unfold F_SymbolWriter_number_b1 at hw
          obtain ⟨K751, hK752, hw⟩ := cW_name hw
          obtain ⟨g754, hw⟩ := cW_grd hw
          refine ⟨_, rfl, _, _, rfl, rfl, _, rfl, _, _, rfl, rfl, g754, _, _, rfl, rfl, ?_⟩
          have hw := cW_bnd hw
          refine ⟨_, rfl, _, rfl, _, _, rfl, rfl, _, _, rfl, rfl, _, rfl, ?_⟩
          refine iteD (fun c756 => ?_) (fun c756 => ?_)
          · have hw := cW_pos c756 hw
            refine ⟨_, rfl, _, _, _, _, _, rfl, h743, T.cl_SymbolWriter, T.n_SymbolWriter__encoder, rfl, _, _, _, rfl, h744, rfl, _, rfl, _, rfl, rfl, rfl, G747, _, _, rfl, S742.sG, cW_callN hw (fun v757 hw => ?_) trivial⟩
            refine ⟨_, rfl, rfl, rfl, G747, _, _, _, _, self_738.enc, _, _, rfl, S742.sG, (S742.gno (all_cons (.tail _ (.head _)) (all_cons (.tail _ (.tail _ (.head _))) (all_cons (.tail _ (.tail _ (.tail _ (.head _)))) all_nil)))), h744, h745, h746, ne_self_0, cW_callN hw (fun v758 hw H759 x760 h762 h763 h764  => ?_) trivial⟩
            have S761 := S742.mut x760 (all_cons (.tail _ (.head _)) (all_cons (.tail _ (.tail _ (.head _))) (all_cons (.tail _ (.tail _ (.tail _ (.head _)))) all_nil))) (all_cons (some_ne h762) (all_cons (some_ne h763) (all_cons (some_ne h764) all_nil)))
            have hw := cW_ok hw
            have hw := hK752 _ hw
            have h769 := (x760 _ _ h743 (ni3 ne_self_1 (ne_of h743 h745 (fun z => nomatch z)) (ne_of h743 h746 (fun z => nomatch z))))
            exact ⟨((⟨v758⟩ : St_SymbolWriter)), _, _, _, rfl, eG748, S761, h769, h762, h763, h764, hw⟩
          · have hw := cW_neg c756 hw
            refine ⟨_, rfl, _, _, _, _, _, rfl, h743, T.cl_SymbolWriter, T.n_SymbolWriter__encoder, rfl, _, _, _, rfl, h744, rfl, _, rfl, rfl, rfl, G747, _, _, _, _, self_738.enc, _, rfl, S742.sG, (S742.gno (all_cons (.tail _ (.head _)) (all_cons (.tail _ (.tail _ (.head _))) (all_cons (.tail _ (.tail _ (.tail _ (.head _)))) all_nil)))), h744, h745, h746, ne_self_0, cW_callN hw (fun v770 hw H771 x772 h774 h775 h776  => ?_) trivial⟩
            have S773 := S742.mut x772 (all_cons (.tail _ (.head _)) (all_cons (.tail _ (.tail _ (.head _))) (all_cons (.tail _ (.tail _ (.tail _ (.head _)))) all_nil))) (all_cons (some_ne h774) (all_cons (some_ne h775) (all_cons (some_ne h776) all_nil)))
            have hw := cW_ok hw
            have hw := hK752 _ hw
            have h781 := (x772 _ _ h743 (ni3 ne_self_1 (ne_of h743 h745 (fun z => nomatch z)) (ne_of h743 h746 (fun z => nomatch z))))
            exact ⟨((⟨v770⟩ : St_SymbolWriter)), _, _, _, rfl, eG748, S773, h781, h774, h775, h776, hw⟩
        · intro σ H782 hw
          obtain ⟨self_738, u739, u740, G788, rfl, eG789, S783, h784, h785, h786, h787, hw⟩ := hw
          have hw := hK737 _ (cW_forS0 (rngD_len _ _).symm hw)
          have hw : cW (F_SymbolWriter_number_r1  (self_738)) _ EE := hw
          unfold F_SymbolWriter_number_r1 at hw
          have hw := cW_ok hw
          exact hK0 _ hw _ S783.base h784 h785 h786 h787
    · have hw := cW_neg c717 hw
      refine ⟨_, rfl, ?_⟩
      refine iteT ?_
      exact hE 1 (cW_er hw) _ (Same.refl _)

abbrev N_Decoder_read_even : List Str := ["self"]
theorem sc_Decoder_read_even : FnScope N_Decoder_read_even ["self"] (defScope s_Decoder_read_even) := ⟨rfl, rfl, rfl, by decide +kernel, rfl, by decide +kernel, by decide +kernel⟩
theorem ok_Decoder_read_even (D : MethX K AD.c_Decoder "Decoder.read_even" "read_even" s_Decoder_read_even ["self"] pats_Decoder_read_even) (T : Txt w K mg AD) (c_Decoder__decide : MetX P w K mg base 2 AD.c_Decoder "_decide" (sp_Decoder__decide K AD) pats_Decoder__decide) : MetX P w K mg base 3 AD.c_Decoder "read_even" (sp_Decoder_read_even K AD) pats_Decoder_read_even := by
  refine D.ok T.cl_Decoder sc_Decoder_read_even (fun vs H Q E h => ?_) (fun f cdv A_ outer s H vs Q E hr h => ?_)
  · obtain ⟨G, p_self, l_self_probs, l_self_octs, dx_self, self', rfl, _⟩ := h
    rfl
  · obtain ⟨G, p_self, l_self_probs, l_self_octs, dx_self, self', rfl, sG, gM, h_p_self, h_l_self_probs, h_l_self_octs, ne_self_0, hw⟩ := h
    refine ⟨_, (pss_one (ps_ret (vx_methX c_Decoder__decide pat_Decoder__decide_0 (.head _) hr (by decide) (L2N.takes_of rfl rfl rfl rfl) (pv 0) (pa_cons (C8.pe_gc rfl T.g_EVEN) pa_nil) pk_nil))), ?_⟩
    obtain ⟨KK, EE, hK0, hE, hw⟩ := cW_gen hw
    have S0 := Sep.startM (M := [p_self, l_self_probs, l_self_octs]) sG (all_cons (some_ne h_p_self) (all_cons (some_ne h_l_self_probs) (all_cons (some_ne h_l_self_octs) all_nil))) gM
    unfold F_Decoder_read_even at hw
    refine ⟨_, rfl, _, _, _, rfl, h_p_self, rfl, rfl, rfl, G, _, _, _, _, self', _, rfl, S0.sG, (S0.gno (all_cons (.head _) (all_cons (.tail _ (.head _)) (all_cons (.tail _ (.tail _ (.head _))) all_nil)))), h_p_self, h_l_self_probs, h_l_self_octs, ne_self_0, cW_call hw (fun v791 hw H792 x793 h795 h796 h797  => ?_) (fun e he H2 e2 => hE e he H2 (Same.trans (Same.refl _) e2))⟩
    have S794 := S0.mut x793 (all_cons (.head _) (all_cons (.tail _ (.head _)) (all_cons (.tail _ (.tail _ (.head _))) all_nil))) (all_cons (some_ne h795) (all_cons (some_ne h796) (all_cons (some_ne h797) all_nil)))
    have hw := cW_ok hw
    exact hK0 _ hw _ S794.base h795 h796 h797

abbrev N_SymbolReader_number : List Str := ["self", "base", "digits", "grown", "_"]
theorem sc_SymbolReader_number : FnScope N_SymbolReader_number ["self", "base"] (defScope s_SymbolReader_number) := ⟨rfl, rfl, rfl, by decide +kernel, rfl, by decide +kernel, by decide +kernel⟩
theorem ok_SymbolReader_number (D : MethX K AD.c_SymbolReader "SymbolReader.number" "number" s_SymbolReader_number ["self", "base"] pats_SymbolReader_number) (T : Txt w K mg AD) (c__check_contexts : CalX P w K mg base 1 "_check_contexts" (sp__check_contexts K AD) pats__check_contexts) (c_SymbolReader_unary : MetX P w K mg base 4 AD.c_SymbolReader "unary" (sp_SymbolReader_unary K AD) pats_SymbolReader_unary) (c_Decoder_read : MetX P w K mg base 3 AD.c_Decoder "read" (sp_Decoder_read K AD) pats_Decoder_read) (c__digit_context : CalX P w K mg base 1 "_digit_context" (sp__digit_context K AD) pats__digit_context) (c_Decoder_read_even : MetX P w K mg base 3 AD.c_Decoder "read_even" (sp_Decoder_read_even K AD) pats_Decoder_read_even) : MetX P w K mg base 5 AD.c_SymbolReader "number" (sp_SymbolReader_number K AD) pats_SymbolReader_number := by
  refine D.ok T.cl_SymbolReader sc_SymbolReader_number (fun vs H Q E h => ?_) (fun f cdv A_ outer s H vs Q E hr h => ?_)
  · obtain ⟨G, p_self, p_self_dec, l_self_dec_probs, l_self_dec_octs, dx_self, dx_self_dec, self', base', rfl, _⟩ := h
    rfl
  · obtain ⟨G, p_self, p_self_dec, l_self_dec_probs, l_self_dec_octs, dx_self, dx_self_dec, self', base', rfl, sG, gM, h_p_self, h_p_self_dec, h_l_self_dec_probs, h_l_self_dec_octs, ne_self_0, ne_self_1, hw⟩ := h
    refine ⟨_, (pss_cons (ps_expr (vx_callX c__check_contexts pat__check_contexts_0 (.head _) hr (by decide) (L2N.takes_of rfl rfl rfl rfl) rfl (pa_cons (pv 1) (pa_cons (pe_op op_mul pe_int (C8.pe_gc rfl T.g_SHARED)) pa_nil)) pk_nil))
      (pss_cons (ps_set (i := 2) sc_SymbolReader_number.nd rfl (Or.inl rfl) (vx_methX c_SymbolReader_unary pat_SymbolReader_unary_0 (.head _) hr (by decide) (L2N.takes_of rfl rfl rfl rfl) (pv 0) (pa_cons (pv 1) pa_nil) (pk_cons (C8.pe_gc rfl T.g_MOST_DIGITS) pk_nil)))
      (pss_cons (ps_set (i := 3) sc_SymbolReader_number.nd rfl (Or.inl rfl) pe_int)
      (C8.pss_cut (ps_if (pt_cmp (pc_gt (pv 2) pe_int)) (pss_one (ps_set (i := 3) sc_SymbolReader_number.nd rfl (Or.inl rfl) (pe_op op_add pe_int (vx_methX c_Decoder_read pat_Decoder_read_0 (.head _) hr (by decide) (L2N.takes_of rfl rfl rfl rfl) (fldK (K := K) (pv 0)) (pa_cons (vx_callX c__digit_context pat__digit_context_0 (.head _) hr (by decide) (L2N.takes_of rfl rfl rfl rfl) rfl (pa_cons (pv 1) (pa_cons (pv 2) pa_nil)) pk_nil) pa_nil) pk_nil)))) pss_nil)
      (pss_cons (ps_for (passes_of rfl) rfl (pi_range1 rfl T.b_range (pa_cons (pe_op op_sub (pv 2) pe_int) pa_nil)) (pg_name (i := 4) sc_SymbolReader_number.nd rfl (Or.inl rfl)) (pss_one (ps_set (i := 3) sc_SymbolReader_number.nd rfl (Or.inl rfl) (pe_op op_add (pe_op op_mul pe_int (pv 3)) (vx_methX0 c_Decoder_read_even pat_Decoder_read_even_0 (.head _) hr (by decide) (L2N.takes_of rfl rfl rfl rfl) (fldK (K := K) (pv 0)))))))
      (pss_one (ps_ret (pe_callB (call_min2 rfl) (by rfl) T.b_min (by decide +kernel) (pa_cons (pe_op op_sub (pv 3) pe_int) (pa_cons (C8.pe_gc rfl T.g_GREATEST_NUMBER) pa_nil)))))))))), ?_⟩
    obtain ⟨KK, EE, hK0, hE, hw⟩ := cW_gen hw
    have S0 := Sep.startM (M := [p_self, p_self_dec, l_self_dec_probs, l_self_dec_octs]) sG (all_cons (some_ne h_p_self) (all_cons (some_ne h_p_self_dec) (all_cons (some_ne h_l_self_dec_probs) (all_cons (some_ne h_l_self_dec_octs) all_nil)))) gM
    unfold F_SymbolReader_number at hw
    refine ⟨_, rfl, _, _, rfl, rfl, (.inl ⟨by decide, by decide⟩), rfl, rfl, G, _, _, rfl, S0.sG, cW_call hw (fun v802 hw => ?_) (fun e he => hE e he _ (Same.refl _))⟩
    refine ⟨_, rfl, _, _, _, rfl, h_p_self, rfl, _, rfl, rfl, rfl, G, _, _, _, _, _, _, self', _, _, rfl, S0.sG, (S0.gno (all_cons (.head _) (all_cons (.tail _ (.head _)) (all_cons (.tail _ (.tail _ (.head _))) (all_cons (.tail _ (.tail _ (.tail _ (.head _)))) all_nil))))), h_p_self, h_p_self_dec, h_l_self_dec_probs, h_l_self_dec_octs, ne_self_0, ne_self_1, cW_call hw (fun v803 hw H804 x805 h807 h808 h809 h810  => ?_) (fun e he H2 e2 => hE e he H2 (Same.trans (Same.refl _) e2))⟩
    have S806 := S0.mut x805 (all_cons (.head _) (all_cons (.tail _ (.head _)) (all_cons (.tail _ (.tail _ (.head _))) (all_cons (.tail _ (.tail _ (.tail _ (.head _)))) all_nil)))) (all_cons (some_ne h807) (all_cons (some_ne h808) (all_cons (some_ne h809) (all_cons (some_ne h810) all_nil))))
    refine ⟨fun σ H' => ∃ (self_818 : St_SymbolReader) (grown_819 : Int) (G' : Hp), σ = [some (V.ref p_self), some (V.int (base')), some (V.int (v803.1)), some (V.int grown_819), none] ∧ Same G G' ∧ Sep [p_self, p_self_dec, l_self_dec_probs, l_self_dec_octs] H G G' H' [p_self, p_self_dec, l_self_dec_probs, l_self_dec_octs] ∧ H' p_self = some (.ins AD.c_SymbolReader dx_self [("_decoder", V.ref p_self_dec)]) ∧ H' p_self_dec = some (.ins AD.c_Decoder dx_self_dec [("_probabilities", V.ref l_self_dec_probs), ("_octets", V.ref l_self_dec_octs), ("_place", V.int (self_818.dec.place)), ("_span", V.int (self_818.dec.span)), ("_value", V.int (self_818.dec.value))]) ∧ H' l_self_dec_probs = some (.lst ((self_818.dec.probs : (List Int)).map V.int)) ∧ H' l_self_dec_octs = some (.lst ((self_818.dec.octs : (List Int)).map V.int)) ∧ cW (F_SymbolReader_number_k1 (v803.1) self_818 grown_819) KK EE, ?_, ?_⟩
    · obtain ⟨K820, hK821, hw⟩ := cW_push hw
      refine ⟨_, rfl, _, _, rfl, rfl, _, rfl, ?_⟩
      refine iteD (fun c822 => ?_) (fun c822 => ?_)
      · have hw := cW_pos c822 hw
        refine ⟨_, rfl, _, _, _, _, _, rfl, h807, T.cl_SymbolReader, T.n_SymbolReader__decoder, rfl, _, _, _, rfl, h808, rfl, _, rfl, _, rfl, rfl, rfl, G, _, _, rfl, S806.sG, cW_callN hw (fun v823 hw => ?_) trivial⟩
        refine ⟨rfl, rfl, G, _, _, _, _, v803.2.dec, _, rfl, S806.sG, (S806.gno (all_cons (.tail _ (.head _)) (all_cons (.tail _ (.tail _ (.head _))) (all_cons (.tail _ (.tail _ (.tail _ (.head _)))) all_nil)))), h808, h809, h810, ne_self_0, cW_callN hw (fun v824 hw H825 x826 h828 h829 h830  => ?_) trivial⟩
        have S827 := S806.mut x826 (all_cons (.tail _ (.head _)) (all_cons (.tail _ (.tail _ (.head _))) (all_cons (.tail _ (.tail _ (.tail _ (.head _)))) all_nil))) (all_cons (some_ne h828) (all_cons (some_ne h829) (all_cons (some_ne h830) all_nil)))
        refine ⟨_, _, rfl, rfl, ?_⟩
        have hw := cW_bnd hw
        have hw := cW_ok hw
        have hw := hK821 _ hw
        have h836 := (x826 _ _ h807 (ni3 ne_self_1 (ne_of h807 h809 (fun z => nomatch z)) (ne_of h807 h810 (fun z => nomatch z))))
        exact ⟨((⟨v824.2⟩ : St_SymbolReader)), ((2 + v824.1)), _, rfl, (Same.refl _), S827, h836, h828, h829, h830, hw⟩
      · have hw := cW_neg c822 hw
        have hw := cW_ok hw
        have hw := hK821 _ hw
        exact ⟨(v803.2), (1), _, rfl, (Same.refl _), S806, h807, h808, h809, h810, hw⟩
    · intro σ H837 hw
      obtain ⟨self_818, grown_819, G843, rfl, eG844, S838, h839, h840, h841, h842, hw⟩ := hw
      unfold F_SymbolReader_number_k1 at hw
      obtain ⟨g845, hw⟩ := cW_grd hw
      obtain ⟨K846, hK847, hw⟩ := cW_push hw
      refine ⟨_, rfl, _, _, rfl, rfl, _, rfl, g845.1, g845.2, for_range (lo := 0) (n := Int.toNat ((v803.1 - 1))) (fun i σ H' => ∃ (self_848 : St_SymbolReader) (grown_849 : Int) (u850 : Option V) (G' : Hp), σ = [some (V.ref p_self), some (V.int (base')), some (V.int (v803.1)), some (V.int grown_849), u850] ∧ Same G843 G' ∧ Sep [p_self, p_self_dec, l_self_dec_probs, l_self_dec_octs] H G G' H' [p_self, p_self_dec, l_self_dec_probs, l_self_dec_octs] ∧ H' p_self = some (.ins AD.c_SymbolReader dx_self [("_decoder", V.ref p_self_dec)]) ∧ H' p_self_dec = some (.ins AD.c_Decoder dx_self_dec [("_probabilities", V.ref l_self_dec_probs), ("_octets", V.ref l_self_dec_octs), ("_place", V.int (self_848.dec.place)), ("_span", V.int (self_848.dec.span)), ("_value", V.int (self_848.dec.value))]) ∧ H' l_self_dec_probs = some (.lst ((self_848.dec.probs : (List Int)).map V.int)) ∧ H' l_self_dec_octs = some (.lst ((self_848.dec.octs : (List Int)).map V.int)) ∧ cW (forS (List.drop i (rng (0) (Int.toNat ((v803.1 - 1))))) (self_848, grown_849) (fun s x => F_SymbolReader_number_b2  (s.1) (s.2) x)) K846 EE) ?_ ?_ ?_⟩
      · exact ⟨(self_818), (grown_819), _, _, rfl, (Same.refl _), S838, h839, h840, h841, h842, hw⟩
      · intro i σ H851 hi hw
        obtain ⟨self_848, grown_849, u850, G857, rfl, eG858, S852, h853, h854, h855, h856, hw⟩ := hw
        have hw := cW_forS (rng_get hi) hw
        generalize (0 + (i : Int)) = x859 at hw ⊢
        have hw : cW (F_SymbolReader_number_b2  (self_848) (grown_849) (x859)) _ EE := hw
        unfold F_SymbolReader_number_b2 at hw
        obtain ⟨K862, hK863, hw⟩ := cW_name hw
        refine ⟨_, rfl, _, _, rfl, rfl, (.inl ⟨by decide, by decide⟩), _, rfl, _, _, _, _, _, rfl, h853, T.cl_SymbolReader, T.n_SymbolReader__decoder, rfl, _, _, _, rfl, h854, rfl, rfl, rfl, G857, _, _, _, _, self_848.dec, rfl, S852.sG, (S852.gno (all_cons (.tail _ (.head _)) (all_cons (.tail _ (.tail _ (.head _))) (all_cons (.tail _ (.tail _ (.tail _ (.head _)))) all_nil)))), h854, h855, h856, ne_self_0, cW_callN hw (fun v865 hw H866 x867 h869 h870 h871  => ?_) trivial⟩
        have S868 := S852.mut x867 (all_cons (.tail _ (.head _)) (all_cons (.tail _ (.tail _ (.head _))) (all_cons (.tail _ (.tail _ (.tail _ (.head _)))) all_nil))) (all_cons (some_ne h869) (all_cons (some_ne h870) (all_cons (some_ne h871) all_nil)))
        refine ⟨_, _, rfl, rfl, ?_⟩
        have hw := cW_bnd hw
        have hw := cW_ok hw
        have hw := hK863 _ hw
        have h877 := (x867 _ _ h853 (ni3 ne_self_1 (ne_of h853 h855 (fun z => nomatch z)) (ne_of h853 h856 (fun z => nomatch z))))
        exact ⟨((⟨v865.2⟩ : St_SymbolReader)), (((2 * grown_849) + v865.1)), _, _, rfl, eG858, S868, h877, h869, h870, h871, hw⟩
      · intro σ H878 hw
        obtain ⟨self_848, grown_849, u850, G884, rfl, eG885, S879, h880, h881, h882, h883, hw⟩ := hw
        have hw := hK847 _ (cW_forS0 (rng_len _ _).symm hw)
        have hw : cW (F_SymbolReader_number_r2  (self_848) (grown_849)) _ EE := hw
        unfold F_SymbolReader_number_r2 at hw
        refine ⟨_, rfl, _, _, rfl, rfl, _, _, rfl, ?_⟩
        have hw := cW_ok hw
        exact hK0 _ hw _ S879.base h880 h881 h882 h883

abbrev N__check_levels : List Str := ["levels"]
theorem sc__check_levels : FnScope N__check_levels ["levels"] (defScope s__check_levels) := ⟨rfl, rfl, rfl, by decide +kernel, rfl, by decide +kernel, by decide +kernel⟩
theorem ok__check_levels (D : DefX K mg "_check_levels" s__check_levels ["levels"] pats__check_levels) (T : Txt w K mg AD)  : CalX P w K mg base 1 "_check_levels" (sp__check_levels K AD) pats__check_levels := by
  refine D.ok sc__check_levels (fun vs H Q E h => ?_) (fun f cdv A_ outer s H vs Q E hr h => ?_)
  · obtain ⟨G, a_levels, levels', rfl, _⟩ := h
    rfl
  · obtain ⟨G, a_levels, levels', rfl, sG, q_levels, hw⟩ := h
    refine ⟨_, (pss_cons (ps_if (pt_cmpR (op_notInDI (K := K)) (pe_callB (call_lenLiK (K := K)) (by rfl) T.b_len (by decide +kernel) (pa_cons (pv 0) pa_nil)) (C8.pe_gc (v := V.ref AD.t_SIZES_BY_COUNT) rfl T.g_SIZES_BY_COUNT) (by with_unfolding_all rfl)) (pss_one (L2N.ps_raise rfl (L2N.takes_of rfl rfl rfl rfl) (L2N.pmk_own PySem.F.excBase_ValueError T.xx_BadData T.xg_BadData T.xk_BadData (raises_own T.xb_BadData T.xt_BadData) rfl))) pss_nil)
      (pss_cons (ps_if (PW.pt (pw_or (pt_cmp (pc_lt (pe_callB (cr_minL (K := K) rfl) (by rfl) T.b_min (by decide +kernel) (pa_cons (pv 0) pa_nil)) (C8.pe_gc rfl T.g_LEAST_LEVEL))) (pw_or1 (pt_cmp (pc_gt (pe_callB (cr_maxL (K := K) rfl) (by rfl) T.b_max (by decide +kernel) (pa_cons (pv 0) pa_nil)) (C8.pe_gc rfl T.g_GREATEST_LEVEL)))))) (pss_one (L2N.ps_raise rfl (L2N.takes_of rfl rfl rfl rfl) (L2N.pmk_own PySem.F.excBase_ValueError T.xx_BadData T.xg_BadData T.xk_BadData (raises_own T.xb_BadData T.xt_BadData) rfl))) pss_nil)
      (pss_one (ps_if (pt_not (pt_val (pe_callB (cr_anyIK (K := K) rfl) (by rfl) T.b_any (by decide +kernel) (pa_cons (pv 0) pa_nil)))) (pss_one (L2N.ps_raise rfl (L2N.takes_of rfl rfl rfl rfl) (L2N.pmk_own PySem.F.excBase_ValueError T.xx_BadData T.xg_BadData T.xk_BadData (raises_own T.xb_BadData T.xt_BadData) rfl))) pss_nil)))), ?_⟩
    obtain ⟨KK, EE, hK0, hE, hw⟩ := cW_gen hw
    have S0 := Sep.startG sG
    unfold F__check_levels at hw
    refine ⟨_, rfl, _, _, rfl, (SqL.of (S0.bM _ _ q_levels)), _, _, [(16, 4), (64, 8)], [16, 64], rfl, rfl, T.kd_SIZES_BY_COUNT, rfl, _, rfl, ?_⟩
    refine iteN (fun c888 => ?_) (fun c888 => ?_)
    · have hw := cW_neg c888 hw
      exact hE 2 (cW_er hw)
    · have hw := cW_pos c888 hw
      obtain ⟨g889, hw⟩ := cW_grd hw
      refine ⟨_, rfl, _, _, rfl, (SqL.of (S0.bM _ _ q_levels)), g889, _, _, rfl, rfl, _, rfl, ?_⟩
      refine iteD (fun c890 => ?_) (fun c890 => ?_)
      · have hw := cW_pos c890 hw
        refine iteT ?_
        exact hE 2 (cW_er hw)
      · have hw := cW_neg c890 hw
        obtain ⟨g891, hw⟩ := cW_grd hw
        refine ⟨_, rfl, _, _, rfl, (SqL.of (S0.bM _ _ q_levels)), g891, _, _, rfl, rfl, _, rfl, ?_⟩
        refine iteD (fun c892 => ?_) (fun c892 => ?_)
        · have hw := cW_pos c892 hw
          exact hE 2 (cW_er hw)
        · have hw := cW_neg c892 hw
          refine ⟨_, rfl, _, _, rfl, (SqL.of (S0.bM _ _ q_levels)), _, rfl, ?_⟩
          refine iteBN (fun c893 => ?_) (fun c893 => ?_)
          · have hw := cW_negB c893 hw
            exact hE 2 (cW_er hw)
          · have hw := cW_pos c893 hw
            have hw := cW_ok hw
            exact hK0 _ hw

abbrev N_SymbolWriter_flag : List Str := ["self", "base", "value"]
theorem sc_SymbolWriter_flag : FnScope N_SymbolWriter_flag ["self", "base", "value"] (defScope s_SymbolWriter_flag) := ⟨rfl, rfl, rfl, by decide +kernel, rfl, by decide +kernel, by decide +kernel⟩
theorem ok_SymbolWriter_flag (D : MethX K AD.c_SymbolWriter "SymbolWriter.flag" "flag" s_SymbolWriter_flag ["self", "base", "value"] pats_SymbolWriter_flag) (T : Txt w K mg AD) (c__check_contexts : CalX P w K mg base 1 "_check_contexts" (sp__check_contexts K AD) pats__check_contexts) (c_Encoder_code : MetX P w K mg base 3 AD.c_Encoder "code" (sp_Encoder_code K AD) pats_Encoder_code) : MetX P w K mg base 4 AD.c_SymbolWriter "flag" (sp_SymbolWriter_flag K AD) pats_SymbolWriter_flag := by
  refine D.ok T.cl_SymbolWriter sc_SymbolWriter_flag (fun vs H Q E h => ?_) (fun f cdv A_ outer s H vs Q E hr h => ?_)
  · obtain ⟨G, p_self, p_self_enc, l_self_enc_probs, l_self_enc_front, dx_self, dx_self_enc, self', base', value', rfl, _⟩ := h
    rfl
  · obtain ⟨G, p_self, p_self_enc, l_self_enc_probs, l_self_enc_front, dx_self, dx_self_enc, self', base', value', rfl, sG, gM, h_p_self, h_p_self_enc, h_l_self_enc_probs, h_l_self_enc_front, ne_self_0, ne_self_1, hw⟩ := h
    refine ⟨_, (pss_cons (ps_expr (vx_callX c__check_contexts pat__check_contexts_0 (.head _) hr (by decide) (L2N.takes_of rfl rfl rfl rfl) rfl (pa_cons (pv 1) (pa_cons pe_int pa_nil)) pk_nil))
      (pss_one (ps_expr (vx_methX c_Encoder_code pat_Encoder_code_0 (.head _) hr (by decide) (L2N.takes_of rfl rfl rfl rfl) (fldK (K := K) (pv 0)) (pa_cons (pv 1) (pa_cons (pe_ifExp (pt_val (pv 2)) pe_int pe_int) pa_nil)) pk_nil)))), ?_⟩
    obtain ⟨KK, EE, hK0, hE, hw⟩ := cW_gen hw
    have S0 := Sep.startM (M := [p_self, p_self_enc, l_self_enc_probs, l_self_enc_front]) sG (all_cons (some_ne h_p_self) (all_cons (some_ne h_p_self_enc) (all_cons (some_ne h_l_self_enc_probs) (all_cons (some_ne h_l_self_enc_front) all_nil)))) gM
    unfold F_SymbolWriter_flag at hw
    refine ⟨_, rfl, rfl, rfl, G, _, _, rfl, S0.sG, cW_call hw (fun v894 hw => ?_) (fun e he => hE e he _ (Same.refl _))⟩
    refine ⟨_, rfl, _, _, _, _, _, rfl, h_p_self, T.cl_SymbolWriter, T.n_SymbolWriter__encoder, rfl, _, _, _, rfl, h_p_self_enc, rfl, _, rfl, ?_⟩
    refine vv_ifb (vt_val (val_var rfl)) val_c val_c _ ?_
    refine ⟨rfl, rfl, G, _, _, _, _, self'.enc, _, _, rfl, S0.sG, (S0.gno (all_cons (.tail _ (.head _)) (all_cons (.tail _ (.tail _ (.head _))) (all_cons (.tail _ (.tail _ (.tail _ (.head _)))) all_nil)))), h_p_self_enc, h_l_self_enc_probs, h_l_self_enc_front, ne_self_0, cW_call hw (fun v898 hw H899 x900 h902 h903 h904  => ?_) (fun e he H2 e2 => hE e he H2 (Same.trans (Same.refl _) e2))⟩
    have S901 := S0.mut x900 (all_cons (.tail _ (.head _)) (all_cons (.tail _ (.tail _ (.head _))) (all_cons (.tail _ (.tail _ (.tail _ (.head _)))) all_nil))) (all_cons (some_ne h902) (all_cons (some_ne h903) (all_cons (some_ne h904) all_nil)))
    have h909 := (x900 _ _ h_p_self (ni3 ne_self_1 (ne_of h_p_self h_l_self_enc_probs (fun z => nomatch z)) (ne_of h_p_self h_l_self_enc_front (fun z => nomatch z))))
    have hw := cW_ok hw
    exact hK0 _ hw _ S901.base h909 h902 h903 h904

abbrev N_SymbolReader_flag : List Str := ["self", "base"]
theorem sc_SymbolReader_flag : FnScope N_SymbolReader_flag ["self", "base"] (defScope s_SymbolReader_flag) := ⟨rfl, rfl, rfl, by decide +kernel, rfl, by decide +kernel, by decide +kernel⟩
theorem ok_SymbolReader_flag (D : MethX K AD.c_SymbolReader "SymbolReader.flag" "flag" s_SymbolReader_flag ["self", "base"] pats_SymbolReader_flag) (T : Txt w K mg AD) (c__check_contexts : CalX P w K mg base 1 "_check_contexts" (sp__check_contexts K AD) pats__check_contexts) (c_Decoder_read : MetX P w K mg base 3 AD.c_Decoder "read" (sp_Decoder_read K AD) pats_Decoder_read) : MetX P w K mg base 4 AD.c_SymbolReader "flag" (sp_SymbolReader_flag K AD) pats_SymbolReader_flag := by
  refine D.ok T.cl_SymbolReader sc_SymbolReader_flag (fun vs H Q E h => ?_) (fun f cdv A_ outer s H vs Q E hr h => ?_)
  · obtain ⟨G, p_self, p_self_dec, l_self_dec_probs, l_self_dec_octs, dx_self, dx_self_dec, self', base', rfl, _⟩ := h
    rfl
  · obtain ⟨G, p_self, p_self_dec, l_self_dec_probs, l_self_dec_octs, dx_self, dx_self_dec, self', base', rfl, sG, gM, h_p_self, h_p_self_dec, h_l_self_dec_probs, h_l_self_dec_octs, ne_self_0, ne_self_1, hw⟩ := h
    refine ⟨_, (pss_cons (ps_expr (vx_callX c__check_contexts pat__check_contexts_0 (.head _) hr (by decide) (L2N.takes_of rfl rfl rfl rfl) rfl (pa_cons (pv 1) (pa_cons pe_int pa_nil)) pk_nil))
      (pss_one (ps_ret (pe_cmp (pc_eqI (vx_methX c_Decoder_read pat_Decoder_read_0 (.head _) hr (by decide) (L2N.takes_of rfl rfl rfl rfl) (fldK (K := K) (pv 0)) (pa_cons (pv 1) pa_nil) pk_nil) pe_int))))), ?_⟩
    obtain ⟨KK, EE, hK0, hE, hw⟩ := cW_gen hw
    have S0 := Sep.startM (M := [p_self, p_self_dec, l_self_dec_probs, l_self_dec_octs]) sG (all_cons (some_ne h_p_self) (all_cons (some_ne h_p_self_dec) (all_cons (some_ne h_l_self_dec_probs) (all_cons (some_ne h_l_self_dec_octs) all_nil)))) gM
    unfold F_SymbolReader_flag at hw
    refine ⟨_, rfl, rfl, rfl, G, _, _, rfl, S0.sG, cW_call hw (fun v910 hw => ?_) (fun e he => hE e he _ (Same.refl _))⟩
    refine ⟨_, rfl, _, _, _, _, _, rfl, h_p_self, T.cl_SymbolReader, T.n_SymbolReader__decoder, rfl, _, _, _, rfl, h_p_self_dec, rfl, _, rfl, rfl, rfl, G, _, _, _, _, self'.dec, _, rfl, S0.sG, (S0.gno (all_cons (.tail _ (.head _)) (all_cons (.tail _ (.tail _ (.head _))) (all_cons (.tail _ (.tail _ (.tail _ (.head _)))) all_nil)))), h_p_self_dec, h_l_self_dec_probs, h_l_self_dec_octs, ne_self_0, cW_call hw (fun v911 hw H912 x913 h915 h916 h917  => ?_) (fun e he H2 e2 => hE e he H2 (Same.trans (Same.refl _) e2))⟩
    have S914 := S0.mut x913 (all_cons (.tail _ (.head _)) (all_cons (.tail _ (.tail _ (.head _))) (all_cons (.tail _ (.tail _ (.tail _ (.head _)))) all_nil))) (all_cons (some_ne h915) (all_cons (some_ne h916) (all_cons (some_ne h917) all_nil)))
    refine ⟨_, _, rfl, rfl, ?_⟩
    have h922 := (x913 _ _ h_p_self (ni3 ne_self_1 (ne_of h_p_self h_l_self_dec_probs (fun z => nomatch z)) (ne_of h_p_self h_l_self_dec_octs (fun z => nomatch z))))
    have hw := cW_ok hw
    exact hK0 _ hw _ S914.base h922 h915 h916 h917

abbrev N__put_places : List Str := ["writer", "levels", "last", "stride", "place"]
theorem sc__put_places : FnScope N__put_places ["writer", "levels", "last"] (defScope s__put_places) := ⟨rfl, rfl, rfl, by decide +kernel, rfl, by decide +kernel, by decide +kernel⟩
theorem ok__put_places (D : DefX K mg "_put_places" s__put_places ["writer", "levels", "last"] pats__put_places) (T : Txt w K mg AD) (c_SymbolWriter_flag : MetX P w K mg base 4 AD.c_SymbolWriter "flag" (sp_SymbolWriter_flag K AD) pats_SymbolWriter_flag) : CalX P w K mg base 5 "_put_places" (sp__put_places K AD) pats__put_places := by
  refine D.ok sc__put_places (fun vs H Q E h => ?_) (fun f cdv A_ outer s H vs Q E hr h => ?_)
  · obtain ⟨G, p_writer, p_writer_enc, l_writer_enc_probs, l_writer_enc_front, dx_writer, dx_writer_enc, writer', a_levels, levels', last', rfl, _⟩ := h
    rfl
  · obtain ⟨G, p_writer, p_writer_enc, l_writer_enc_probs, l_writer_enc_front, dx_writer, dx_writer_enc, writer', a_levels, levels', last', rfl, sG, gM, h_p_writer, h_p_writer_enc, h_l_writer_enc_probs, h_l_writer_enc_front, ne_writer_0, ne_writer_1, q_levels, hw⟩ := h
    refine ⟨_, (pss_cons (ps_set (i := 3) sc__put_places.nd rfl (Or.inl rfl) (pe_op op_fdivW (C8.pe_gc rfl T.g_CLASSES) (pe_callB (call_lenLiK (K := K)) (by rfl) T.b_len (by decide +kernel) (pa_cons (pv 1) pa_nil))))
      (pss_one (ps_for (passes_of rfl) rfl (pi_range1 rfl T.b_range (pa_cons (pe_callB (call_min2 rfl) (by rfl) T.b_min (by decide +kernel) (pa_cons (pe_op op_add (pv 2) pe_int) (pa_cons (pe_op op_sub (pe_callB (call_lenLiK (K := K)) (by rfl) T.b_len (by decide +kernel) (pa_cons (pv 1) pa_nil)) pe_int) pa_nil))) pa_nil)) (pg_name (i := 4) sc__put_places.nd rfl (Or.inl rfl)) (pss_cons (ps_expr (vx_methX c_SymbolWriter_flag pat_SymbolWriter_flag_0 (.head _) hr (by decide) (L2N.takes_of rfl rfl rfl rfl) (pv 0) (pa_cons (pe_op op_add (C8.pe_gc rfl T.g_SIGNIFICANT) (pe_op op_mul (pv 3) (pv 4))) (pa_cons (pe_cmp (pc_neI (pe_ix (ix_listK (K := K)) (pv 1) (pv 4) (fun _ _ => rfl)) pe_int)) pa_nil)) pk_nil))
      (pss_one (ps_if (pt_cmp (pc_neI (pe_ix (ix_listK (K := K)) (pv 1) (pv 4) (fun _ _ => rfl)) pe_int)) (pss_one (ps_expr (vx_methX c_SymbolWriter_flag pat_SymbolWriter_flag_0 (.head _) hr (by decide) (L2N.takes_of rfl rfl rfl rfl) (pv 0) (pa_cons (pe_op op_add (C8.pe_gc rfl T.g_LAST) (pe_op op_mul (pv 3) (pv 4))) (pa_cons (pe_cmp (pc_eqI (pv 4) (pv 2))) pa_nil)) pk_nil))) pss_nil)))))), ?_⟩
    obtain ⟨KK, EE, hK0, hE, hw⟩ := cW_gen hw
    have S0 := Sep.startM (M := [p_writer, p_writer_enc, l_writer_enc_probs, l_writer_enc_front]) sG (all_cons (some_ne h_p_writer) (all_cons (some_ne h_p_writer_enc) (all_cons (some_ne h_l_writer_enc_probs) (all_cons (some_ne h_l_writer_enc_front) all_nil)))) gM
    unfold F__put_places at hw
    obtain ⟨g923, hw⟩ := cW_grd hw
    refine ⟨_, rfl, _, _, rfl, (SqL.of (S0.bM _ _ q_levels)), _, _, rfl, rfl, (divW_small g923.1 g923.2), ?_⟩
    have hw := cW_bnd hw
    obtain ⟨g925, hw⟩ := cW_grd hw
    obtain ⟨K929, hK930, hw⟩ := cW_push hw
    refine ⟨_, rfl, _, _, rfl, rfl, _, rfl, _, _, rfl, (SqL.of (S0.bM _ _ q_levels)), _, _, rfl, rfl, _, _, rfl, _, rfl, g925.1, g925.2, for_range (lo := 0) (n := Int.toNat ((if ((((levels') : (List Int)).length : Int) - 1) < (last' + 1) then ((((levels') : (List Int)).length : Int) - 1) else (last' + 1)))) (fun i σ H' => ∃ (writer_931 : St_SymbolWriter) (u932 : Option V) (G' : Hp), σ = [some (V.ref p_writer), some (V.ref a_levels), some (V.int (last')), some (V.int ((64 / (((levels') : (List Int)).length : Int)))), u932] ∧ Same G G' ∧ Sep [p_writer, p_writer_enc, l_writer_enc_probs, l_writer_enc_front] H G G' H' [p_writer, p_writer_enc, l_writer_enc_probs, l_writer_enc_front] ∧ H' p_writer = some (.ins AD.c_SymbolWriter dx_writer [("_encoder", V.ref p_writer_enc)]) ∧ H' p_writer_enc = some (.ins AD.c_Encoder dx_writer_enc [("_probabilities", V.ref l_writer_enc_probs), ("_front", V.ref l_writer_enc_front), ("_low", V.int (writer_931.enc.low)), ("_span", V.int (writer_931.enc.span))]) ∧ H' l_writer_enc_probs = some (.lst ((writer_931.enc.probs : (List Int)).map V.int)) ∧ H' l_writer_enc_front = some (.lst ((writer_931.enc.front : (List Int)).map V.int)) ∧ cW (forS (List.drop i (rng (0) (Int.toNat ((if ((((levels') : (List Int)).length : Int) - 1) < (last' + 1) then ((((levels') : (List Int)).length : Int) - 1) else (last' + 1)))))) writer_931 (fun s x => F__put_places_b1 (levels') (last') ((64 / (((levels') : (List Int)).length : Int))) s x)) K929 EE) ?_ ?_ ?_⟩
    · exact ⟨(writer'), _, _, rfl, (Same.refl _), S0, h_p_writer, h_p_writer_enc, h_l_writer_enc_probs, h_l_writer_enc_front, hw⟩
    · intro i σ H933 hi hw
      obtain ⟨writer_931, u932, G939, rfl, eG940, S934, h935, h936, h937, h938, hw⟩ := hw
      have hw := cW_forS (rng_get hi) hw
      generalize (0 + (i : Int)) = x941 at hw ⊢
      have hw : cW (F__put_places_b1 (levels') (last') ((64 / (((levels') : (List Int)).length : Int))) (writer_931) (x941)) _ EE := hw
      unfold F__put_places_b1 at hw
      obtain ⟨K943, hK944, hw⟩ := cW_name hw
      obtain ⟨g946, hw⟩ := cW_grd hw
      obtain ⟨g947, hw⟩ := cW_grd hw
      refine ⟨_, rfl, _, _, _, rfl, h935, rfl, _, rfl, _, rfl, _, _, rfl, rfl, g946, _, _, rfl, rfl, _, rfl, _, rfl, _, _, _, _, rfl, rfl, (SqL.of (S934.bM _ _ q_levels)), (atI_map g947), _, _, rfl, rfl, rfl, rfl, G939, _, _, _, _, _, _, writer_931, _, _, rfl, S934.sG, (S934.gno (all_cons (.head _) (all_cons (.tail _ (.head _)) (all_cons (.tail _ (.tail _ (.head _))) (all_cons (.tail _ (.tail _ (.tail _ (.head _)))) all_nil))))), h935, h936, h937, h938, ne_writer_0, ne_writer_1, cW_callN hw (fun v948 hw H949 x950 h952 h953 h954 h955  => ?_) trivial⟩
      have S951 := S934.mut x950 (all_cons (.head _) (all_cons (.tail _ (.head _)) (all_cons (.tail _ (.tail _ (.head _))) (all_cons (.tail _ (.tail _ (.tail _ (.head _)))) all_nil)))) (all_cons (some_ne h952) (all_cons (some_ne h953) (all_cons (some_ne h954) (all_cons (some_ne h955) all_nil))))
      obtain ⟨g960, hw⟩ := cW_grd hw
      refine ⟨_, rfl, _, rfl, _, _, _, _, rfl, rfl, (SqL.of (S951.bM _ _ q_levels)), (atI_map g960), _, _, rfl, rfl, _, rfl, ?_⟩
      refine iteN (fun c961 => ?_) (fun c961 => ?_)
      · have hw := cW_neg c961 hw
        obtain ⟨g962, hw⟩ := cW_grd hw
        refine ⟨_, rfl, _, _, _, rfl, h952, rfl, _, rfl, _, rfl, _, _, rfl, rfl, g962, _, _, rfl, rfl, _, rfl, _, rfl, _, _, rfl, rfl, rfl, rfl, G939, _, _, _, _, _, _, v948, _, _, rfl, S951.sG, (S951.gno (all_cons (.head _) (all_cons (.tail _ (.head _)) (all_cons (.tail _ (.tail _ (.head _))) (all_cons (.tail _ (.tail _ (.tail _ (.head _)))) all_nil))))), h952, h953, h954, h955, ne_writer_0, ne_writer_1, cW_callN hw (fun v963 hw H964 x965 h967 h968 h969 h970  => ?_) trivial⟩
        have S966 := S951.mut x965 (all_cons (.head _) (all_cons (.tail _ (.head _)) (all_cons (.tail _ (.tail _ (.head _))) (all_cons (.tail _ (.tail _ (.tail _ (.head _)))) all_nil)))) (all_cons (some_ne h967) (all_cons (some_ne h968) (all_cons (some_ne h969) (all_cons (some_ne h970) all_nil))))
        have hw := cW_ok hw
        have hw := hK944 _ hw
        exact ⟨(v963), _, _, rfl, eG940, S966, h967, h968, h969, h970, hw⟩
      · have hw := cW_pos c961 hw
        have hw := cW_ok hw
        have hw := hK944 _ hw
        exact ⟨(v948), _, _, rfl, eG940, S951, h952, h953, h954, h955, hw⟩
    · intro σ H975 hw
      obtain ⟨writer_931, u932, G981, rfl, eG982, S976, h977, h978, h979, h980, hw⟩ := hw
      have hw := hK930 _ (cW_forS0 (rng_len _ _).symm hw)
      have hw : cW (F__put_places_r1  (writer_931)) _ EE := hw
      unfold F__put_places_r1 at hw
      have hw := cW_ok hw
      exact hK0 _ hw _ S976.base h977 h978 h979 h980

abbrev N__base_after : List Str := ["base", "worth"]
theorem sc__base_after : FnScope N__base_after ["base", "worth"] (defScope s__base_after) := ⟨rfl, rfl, rfl, by decide +kernel, rfl, by decide +kernel, by decide +kernel⟩
theorem ok__base_after (D : DefX K mg "_base_after" s__base_after ["base", "worth"] pats__base_after) (T : Txt w K mg AD)  : CalX P w K mg base 1 "_base_after" (sp__base_after K AD) pats__base_after := by
  refine D.ok sc__base_after (fun vs H Q E h => ?_) (fun f cdv A_ outer s H vs Q E hr h => ?_)
  · obtain ⟨G, base', worth', rfl, _⟩ := h
    rfl
  · obtain ⟨G, base', worth', rfl, sG, hw⟩ := h
    refine ⟨_, (pss_one (ps_ret (pe_ifExp (pt_cmp (pc_gt (pv 1) pe_int)) (pe_op op_add (C8.pe_gc rfl T.g_LEVEL) (C8.pe_gc rfl T.g_VALUE_CONTEXTS)) (pv 0)))), ?_⟩
    obtain ⟨KK, EE, hK0, hE, hw⟩ := cW_gen hw
    have S0 := Sep.startG sG
    unfold F__base_after at hw
    refine vv_if (p := 1 < worth') (ta := (tOp (rI0 fun i j => V.int (i + j)) (tC (V.int 192)) (tC (V.int 16)))) (tb := (tVar 0)) (t := tB (tGt (tVar 1) (tC (V.int 1)))) (a := (192 + 16)) (b := base') ?hx984 ?hy985 ?hz986 _ ?_
    case hx984 => exact vt_cmp (vv_cmp (val_var rfl) val_c (fun Q q => ⟨_, _, rfl, rfl, q⟩))
    case hy985 => exact (val_op val_c val_c (fun Q q => ⟨_, _, rfl, rfl, q⟩))
    case hz986 => exact (val_var rfl)
    have hw := cW_ok hw
    exact hK0 _ hw

abbrev N_SymbolWriter_even : List Str := ["self", "decision"]
theorem sc_SymbolWriter_even : FnScope N_SymbolWriter_even ["self", "decision"] (defScope s_SymbolWriter_even) := ⟨rfl, rfl, rfl, by decide +kernel, rfl, by decide +kernel, by decide +kernel⟩
theorem ok_SymbolWriter_even (D : MethX K AD.c_SymbolWriter "SymbolWriter.even" "even" s_SymbolWriter_even ["self", "decision"] pats_SymbolWriter_even) (T : Txt w K mg AD) (c_Encoder_code_even : MetX P w K mg base 3 AD.c_Encoder "code_even" (sp_Encoder_code_even K AD) pats_Encoder_code_even) : MetX P w K mg base 4 AD.c_SymbolWriter "even" (sp_SymbolWriter_even K AD) pats_SymbolWriter_even := by
  refine D.ok T.cl_SymbolWriter sc_SymbolWriter_even (fun vs H Q E h => ?_) (fun f cdv A_ outer s H vs Q E hr h => ?_)
  · obtain ⟨G, p_self, p_self_enc, l_self_enc_probs, l_self_enc_front, dx_self, dx_self_enc, self', decision', rfl, _⟩ := h
    rfl
  · obtain ⟨G, p_self, p_self_enc, l_self_enc_probs, l_self_enc_front, dx_self, dx_self_enc, self', decision', rfl, sG, gM, h_p_self, h_p_self_enc, h_l_self_enc_probs, h_l_self_enc_front, ne_self_0, ne_self_1, hw⟩ := h
    refine ⟨_, (pss_one (ps_expr (vx_methX c_Encoder_code_even pat_Encoder_code_even_0 (.head _) hr (by decide) (L2N.takes_of rfl rfl rfl rfl) (fldK (K := K) (pv 0)) (pa_cons (pv 1) pa_nil) pk_nil))), ?_⟩
    obtain ⟨KK, EE, hK0, hE, hw⟩ := cW_gen hw
    have S0 := Sep.startM (M := [p_self, p_self_enc, l_self_enc_probs, l_self_enc_front]) sG (all_cons (some_ne h_p_self) (all_cons (some_ne h_p_self_enc) (all_cons (some_ne h_l_self_enc_probs) (all_cons (some_ne h_l_self_enc_front) all_nil)))) gM
    unfold F_SymbolWriter_even at hw
    refine ⟨_, rfl, _, _, _, _, _, rfl, h_p_self, T.cl_SymbolWriter, T.n_SymbolWriter__encoder, rfl, _, _, _, rfl, h_p_self_enc, rfl, _, rfl, rfl, rfl, G, _, _, _, _, self'.enc, _, rfl, S0.sG, (S0.gno (all_cons (.tail _ (.head _)) (all_cons (.tail _ (.tail _ (.head _))) (all_cons (.tail _ (.tail _ (.tail _ (.head _)))) all_nil)))), h_p_self_enc, h_l_self_enc_probs, h_l_self_enc_front, ne_self_0, cW_call hw (fun v987 hw H988 x989 h991 h992 h993  => ?_) (fun e he H2 e2 => hE e he H2 (Same.trans (Same.refl _) e2))⟩
    have S990 := S0.mut x989 (all_cons (.tail _ (.head _)) (all_cons (.tail _ (.tail _ (.head _))) (all_cons (.tail _ (.tail _ (.tail _ (.head _)))) all_nil))) (all_cons (some_ne h991) (all_cons (some_ne h992) (all_cons (some_ne h993) all_nil)))
    have h998 := (x989 _ _ h_p_self (ni3 ne_self_1 (ne_of h_p_self h_l_self_enc_probs (fun z => nomatch z)) (ne_of h_p_self h_l_self_enc_front (fun z => nomatch z))))
    have hw := cW_ok hw
    exact hK0 _ hw _ S990.base h998 h991 h992 h993

abbrev N_SymbolReader_even : List Str := ["self"]
theorem sc_SymbolReader_even : FnScope N_SymbolReader_even ["self"] (defScope s_SymbolReader_even) := ⟨rfl, rfl, rfl, by decide +kernel, rfl, by decide +kernel, by decide +kernel⟩
theorem ok_SymbolReader_even (D : MethX K AD.c_SymbolReader "SymbolReader.even" "even" s_SymbolReader_even ["self"] pats_SymbolReader_even) (T : Txt w K mg AD) (c_Decoder_read_even : MetX P w K mg base 3 AD.c_Decoder "read_even" (sp_Decoder_read_even K AD) pats_Decoder_read_even) : MetX P w K mg base 4 AD.c_SymbolReader "even" (sp_SymbolReader_even K AD) pats_SymbolReader_even := by
  refine D.ok T.cl_SymbolReader sc_SymbolReader_even (fun vs H Q E h => ?_) (fun f cdv A_ outer s H vs Q E hr h => ?_)
  · obtain ⟨G, p_self, p_self_dec, l_self_dec_probs, l_self_dec_octs, dx_self, dx_self_dec, self', rfl, _⟩ := h
    rfl
  · obtain ⟨G, p_self, p_self_dec, l_self_dec_probs, l_self_dec_octs, dx_self, dx_self_dec, self', rfl, sG, gM, h_p_self, h_p_self_dec, h_l_self_dec_probs, h_l_self_dec_octs, ne_self_0, ne_self_1, hw⟩ := h
    refine ⟨_, (pss_one (ps_ret (vx_methX0 c_Decoder_read_even pat_Decoder_read_even_0 (.head _) hr (by decide) (L2N.takes_of rfl rfl rfl rfl) (fldK (K := K) (pv 0))))), ?_⟩
    obtain ⟨KK, EE, hK0, hE, hw⟩ := cW_gen hw
    have S0 := Sep.startM (M := [p_self, p_self_dec, l_self_dec_probs, l_self_dec_octs]) sG (all_cons (some_ne h_p_self) (all_cons (some_ne h_p_self_dec) (all_cons (some_ne h_l_self_dec_probs) (all_cons (some_ne h_l_self_dec_octs) all_nil)))) gM
    unfold F_SymbolReader_even at hw
    refine ⟨_, rfl, _, _, _, _, _, rfl, h_p_self, T.cl_SymbolReader, T.n_SymbolReader__decoder, rfl, _, _, _, rfl, h_p_self_dec, rfl, rfl, rfl, G, _, _, _, _, self'.dec, rfl, S0.sG, (S0.gno (all_cons (.tail _ (.head _)) (all_cons (.tail _ (.tail _ (.head _))) (all_cons (.tail _ (.tail _ (.tail _ (.head _)))) all_nil)))), h_p_self_dec, h_l_self_dec_probs, h_l_self_dec_octs, ne_self_0, cW_call hw (fun v999 hw H1000 x1001 h1003 h1004 h1005  => ?_) (fun e he H2 e2 => hE e he H2 (Same.trans (Same.refl _) e2))⟩
    have S1002 := S0.mut x1001 (all_cons (.tail _ (.head _)) (all_cons (.tail _ (.tail _ (.head _))) (all_cons (.tail _ (.tail _ (.tail _ (.head _)))) all_nil))) (all_cons (some_ne h1003) (all_cons (some_ne h1004) (all_cons (some_ne h1005) all_nil)))
    have h1010 := (x1001 _ _ h_p_self (ni3 ne_self_1 (ne_of h_p_self h_l_self_dec_probs (fun z => nomatch z)) (ne_of h_p_self h_l_self_dec_octs (fun z => nomatch z))))
    have hw := cW_ok hw
    exact hK0 _ hw _ S1002.base h1010 h1003 h1004 h1005

abbrev N_put_levels : List Str := ["writer", "levels", "places", "base", "place", "level"]
theorem sc_put_levels : FnScope N_put_levels ["writer", "levels"] (defScope s_put_levels) := ⟨rfl, rfl, rfl, by decide +kernel, rfl, by decide +kernel, by decide +kernel⟩
theorem ok_put_levels (D : DefX K mg "put_levels" s_put_levels ["writer", "levels"] pats_put_levels) (T : Txt w K mg AD) (c__check_levels : CalX P w K mg base 1 "_check_levels" (sp__check_levels K AD) pats__check_levels) (c__put_places : CalX P w K mg base 5 "_put_places" (sp__put_places K AD) pats__put_places) (c_SymbolWriter_number : MetX P w K mg base 5 AD.c_SymbolWriter "number" (sp_SymbolWriter_number K AD) pats_SymbolWriter_number) (c_SymbolWriter_even : MetX P w K mg base 4 AD.c_SymbolWriter "even" (sp_SymbolWriter_even K AD) pats_SymbolWriter_even) (c__base_after : CalX P w K mg base 1 "_base_after" (sp__base_after K AD) pats__base_after) : CalX P w K mg base 6 "put_levels" (sp_put_levels K AD) pats_put_levels := by
  refine D.ok sc_put_levels (fun vs H Q E h => ?_) (fun f cdv A_ outer s H vs Q E hr h => ?_)
  · obtain ⟨G, p_writer, p_writer_enc, l_writer_enc_probs, l_writer_enc_front, dx_writer, dx_writer_enc, writer', a_levels, levels', rfl, _⟩ := h
    rfl
  · obtain ⟨G, p_writer, p_writer_enc, l_writer_enc_probs, l_writer_enc_front, dx_writer, dx_writer_enc, writer', a_levels, levels', rfl, sG, gM, h_p_writer, h_p_writer_enc, h_l_writer_enc_probs, h_l_writer_enc_front, ne_writer_0, ne_writer_1, q_levels, hw⟩ := h
    refine ⟨_, (pss_cons (ps_expr (vx_callX c__check_levels pat__check_levels_0 (.head _) hr (by decide) (L2N.takes_of rfl rfl rfl rfl) rfl (pa_cons (pv 1) pa_nil) pk_nil))
      (pss_cons (ps_setLc (i := 2) (y := "places") rfl sc_put_levels.nd rfl rfl (sw_true rfl rfl rfl (by decide +kernel)) (own := [("place", 4), ("level", 5)]) (g := gTup K 2 (gCons (gName 4) (gCons (gName 5) gNil))) (pi_enumK (K := K) rfl T.b_enumerate (pa_cons (pv 1) pa_nil)) (blkOk_by (own := [("place", 4), ("level", 5)]) (N := N_put_levels) (sc := defScope s_put_levels) (by decide +kernel)) (fun _ _ _ _ _ => (pg_tupK (K := K) (n := 2) (pgs_cons (pg_name (i := 4) sc_put_levels.nd rfl (Or.inl rfl)) (pgs_cons (pg_name (i := 5) sc_put_levels.nd rfl (Or.inl rfl)) pgs_nil)))) (fun _ _ _ _ _ => pts_one (pt_cmp (pc_neI (pv 5) pe_int))) (fun _ _ _ _ _ => (pv 4)))
      (pss_cons (ps_expr (vx_callX c__put_places pat__put_places_0 (.head _) hr (by decide) (L2N.takes_of rfl rfl rfl rfl) rfl (pa_cons (pv 0) (pa_cons (pv 1) (pa_cons (pe_ix (ix_listK (K := K)) (pv 2) (pe_un un_neg pe_int) (fun _ _ => rfl)) pa_nil))) pk_nil))
      (pss_cons (ps_set (i := 3) sc_put_levels.nd rfl (Or.inl rfl) (C8.pe_gc rfl T.g_LEVEL))
      (pss_one (ps_for (passes_of rfl) rfl (pi_revK (K := K) rfl T.b_reversed (pa_cons (pv 2) pa_nil)) (pg_name (i := 4) sc_put_levels.nd rfl (Or.inl rfl)) (pss_cons (ps_set (i := 5) sc_put_levels.nd rfl (Or.inl rfl) (pe_ix (ix_listK (K := K)) (pv 1) (pv 4) (fun _ _ => rfl)))
      (pss_cons (ps_expr (vx_methX c_SymbolWriter_number pat_SymbolWriter_number_0 (.head _) hr (by decide) (L2N.takes_of rfl rfl rfl rfl) (pv 0) (pa_cons (pv 3) (pa_cons (pe_op op_sub (pe_callB call_abs (by rfl) T.b_abs (by decide +kernel) (pa_cons (pv 5) pa_nil)) pe_int) pa_nil)) pk_nil))
      (pss_cons (ps_expr (vx_methX c_SymbolWriter_even pat_SymbolWriter_even_0 (.head _) hr (by decide) (L2N.takes_of rfl rfl rfl rfl) (pv 0) (pa_cons (pe_ifExp (pt_cmp (pc_lt (pv 5) pe_int)) pe_int pe_int) pa_nil) pk_nil))
      (pss_one (ps_set (i := 3) sc_put_levels.nd rfl (Or.inl rfl) (vx_callX c__base_after pat__base_after_0 (.head _) hr (by decide) (L2N.takes_of rfl rfl rfl rfl) rfl (pa_cons (pv 3) (pa_cons (pe_callB call_abs (by rfl) T.b_abs (by decide +kernel) (pa_cons (pv 5) pa_nil)) pa_nil)) pk_nil)))))))))))), ?_⟩
    obtain ⟨KK, EE, hK0, hE, hw⟩ := cW_gen hw
    have S0 := Sep.startM (M := [p_writer, p_writer_enc, l_writer_enc_probs, l_writer_enc_front]) sG (all_cons (some_ne h_p_writer) (all_cons (some_ne h_p_writer_enc) (all_cons (some_ne h_l_writer_enc_probs) (all_cons (some_ne h_l_writer_enc_front) all_nil)))) gM
    unfold F_put_levels at hw
    refine ⟨_, rfl, rfl, rfl, G, _, _, rfl, S0.sG, (hide_nil (S0.bM _ _ q_levels)), cW_call hw (fun v1011 hw => ?_) (fun e he => hE e he _ (Same.refl _))⟩
    obtain ⟨K1013, hK1014, hw⟩ := cW_push hw
    refine ⟨_, rfl, _, _, rfl, (SqL.of (S0.bM _ _ q_levels)), fun D1015 n1016 => lc_enum (K := K) (a := a_levels) (xs := (levels' : List Int).map V.int) (fun i1 H' => ∃ (G' : Hp) (acc1018 : (List Int)), Same G G' ∧ Sep [p_writer, p_writer_enc, l_writer_enc_probs, l_writer_enc_front] H G G' H' [D1015, p_writer, p_writer_enc, l_writer_enc_probs, l_writer_enc_front] ∧ H' p_writer = some (.ins AD.c_SymbolWriter dx_writer [("_encoder", V.ref p_writer_enc)]) ∧ H' p_writer_enc = some (.ins AD.c_Encoder dx_writer_enc [("_probabilities", V.ref l_writer_enc_probs), ("_front", V.ref l_writer_enc_front), ("_low", V.int (writer'.enc.low)), ("_span", V.int (writer'.enc.span))]) ∧ H' l_writer_enc_probs = some (.lst ((writer'.enc.probs : (List Int)).map V.int)) ∧ H' l_writer_enc_front = some (.lst ((writer'.enc.front : (List Int)).map V.int)) ∧ H' D1015 = some (.lst ((acc1018 : (List Int)).map V.int)) ∧ Same H H' ∧ cW (mapF (List.drop i1 (enumL (levels'))) acc1018 (fun x => noEr (F_put_levels_c1  x))) K1013 EE) ?_ ?_ ?_ ?_⟩
    · generalize g1020 : upd H D1015 _ = H1021
      obtain ⟨e1022, h1023⟩ := gen_new n1016 g1020
      have fr1024 := S0.free n1016
      have S1025 := S0.new n1016 e1022 h1023 fr1024
      have h1026 := (e1022 _ _ h_p_writer)
      have h1027 := (e1022 _ _ h_p_writer_enc)
      have h1028 := (e1022 _ _ h_l_writer_enc_probs)
      have h1029 := (e1022 _ _ h_l_writer_enc_front)
      exact ⟨_, [], Same.refl _, S1025, h1026, h1027, h1028, h1029, h1023, e1022, hw⟩
    · intro i1 H1030 _ hw
      obtain ⟨G1033, acc1035, eG1034, S1031, h1042, h1043, h1044, h1045, h1032, eo1041, hw⟩ := hw
      exact (SqL.of (S1031.bM _ _ q_levels))
    · intro i1 x T1048 H1046 hj n1047 hw
      obtain ⟨G1051, acc1053, eG1052, S1049, h1060, h1061, h1062, h1063, h1050, eo1059, hw⟩ := hw
      obtain ⟨x1064, hx1065, rfl⟩ := map_get hj
      generalize g1066 : upd H1046 T1048 _ = H1067
      obtain ⟨e1068, h1069⟩ := gen_new n1047 g1066
      have h1070 : H1067 T1048 = some (.tup [V.int (((i1 : Nat) : Int)), V.int (x1064)]) := h1069
      have fr1071 := S1049.free n1047
      obtain ⟨G1073, eG1074, hg1075, S1072⟩ := S1049.grow n1047 e1068 h1070 fr1071
      obtain ⟨z1076, hw⟩ := cW_mapF (enumL_get hx1065) hw
      have hw := cW_noEr hw
      have hw : cW (F_put_levels_c1  ((((i1 : Nat) : Int), x1064))) _ (fun _ => False) := hw
      unfold F_put_levels_c1 at hw
      refine ⟨_, _, rfl, (SqT.of (S1072.sG _ _ hg1075)), rfl, _, _, rfl, _, _, rfl, rfl, rfl, ?_⟩
      refine ⟨_, rfl, _, _, rfl, rfl, _, rfl, ?_⟩
      refine iteN (fun c1078 => ?_) (fun c1078 => ?_)
      · have hw := cW_neg c1078 hw
        have h1079 := (e1068 _ _ h1050)
        refine ⟨_, rfl, _, h1079, (app_lenM z1076), ?_⟩
        generalize g1080 : upd H1067 D1015 _ = H1081
        obtain ⟨x1082, h1083⟩ := gen_mut g1080
        have S1084 := S1072.mut1 x1082 (.head _) h1083
        have hw := cW_ok hw
        have h1085 := (x1082 _ _ (e1068 _ _ h1060) (ne_of_none h_p_writer n1016))
        have h1086 := (x1082 _ _ (e1068 _ _ h1061) (ne_of_none h_p_writer_enc n1016))
        have h1087 := (x1082 _ _ (e1068 _ _ h1062) (ne_of_none h_l_writer_enc_probs n1016))
        have h1088 := (x1082 _ _ (e1068 _ _ h1063) (ne_of_none h_l_writer_enc_front n1016))
        exact ⟨_, (acc1053 ++ [((i1 : Nat) : Int)]), (Same.trans eG1052 eG1074), S1084, h1085, h1086, h1087, h1088, (snoc_map h1083), (same_mut (Same.trans eo1059 e1068) x1082 n1016), hw⟩
      · have hw := cW_pos c1078 hw
        have hw := cW_ok hw
        have h1089 := (e1068 _ _ h1060)
        have h1090 := (e1068 _ _ h1061)
        have h1091 := (e1068 _ _ h1062)
        have h1092 := (e1068 _ _ h1063)
        have h1093 := (e1068 _ _ h1050)
        exact ⟨_, acc1053, (Same.trans eG1052 eG1074), S1072, h1089, h1090, h1091, h1092, h1093, (Same.trans eo1059 e1068), hw⟩
    intro H1094 hw
    obtain ⟨G1097, acc1099, eG1098, S1095, h1106, h1107, h1108, h1109, h1096, eo1105, hw⟩ := hw
    have hw := hK1014 _ (cW_mapF0 (by rw [enumL_len]; exact (by rw [List.length_map])) hw)
    have fr1110 := S0.free n1016
    obtain ⟨g1111, hw⟩ := cW_grd hw
    refine ⟨_, rfl, _, rfl, _, rfl, _, rfl, _, _, _, _, rfl, rfl, (SqL.of h1096), (atI_map g1111), rfl, rfl, G1097, _, _, _, _, _, _, writer', _, _, _, rfl, S1095.sG, (S1095.gno (all_cons (.tail _ (.head _)) (all_cons (.tail _ (.tail _ (.head _))) (all_cons (.tail _ (.tail _ (.tail _ (.head _)))) (all_cons (.tail _ (.tail _ (.tail _ (.tail _ (.head _))))) all_nil))))), h1106, h1107, h1108, h1109, ne_writer_0, ne_writer_1, ((hideL_out (ni4 (b_ne q_levels S1095 (.tail _ (.head _))) (b_ne q_levels S1095 (.tail _ (.tail _ (.head _)))) (b_ne q_levels S1095 (.tail _ (.tail _ (.tail _ (.head _))))) (b_ne q_levels S1095 (.tail _ (.tail _ (.tail _ (.tail _ (.head _)))))))).trans (S1095.bM _ _ q_levels)), cW_call hw (fun v1112 hw H1113 x1114 h1116 h1117 h1118 h1119  => ?_) (fun e he H2 e2 => hE e he H2 (Same.trans eo1105 e2))⟩
    have S1115 := S1095.mut x1114 (all_cons (.tail _ (.head _)) (all_cons (.tail _ (.tail _ (.head _))) (all_cons (.tail _ (.tail _ (.tail _ (.head _)))) (all_cons (.tail _ (.tail _ (.tail _ (.tail _ (.head _))))) all_nil)))) (all_cons (some_ne h1116) (all_cons (some_ne h1117) (all_cons (some_ne h1118) (all_cons (some_ne h1119) all_nil))))
    have h1124 := (x1114 _ _ h1096 (ni4 (ne_of_none h_p_writer n1016).symm (ne_of_none h_p_writer_enc n1016).symm (ne_of_none h_l_writer_enc_probs n1016).symm (ne_of_none h_l_writer_enc_front n1016).symm))
    obtain ⟨K1126, hK1127, hw⟩ := cW_push hw
    refine ⟨_, rfl, _, _, rfl, (SqL.of h1124), for_revI (K := K) (a := D1015) (xs := acc1099) (fun i σ H' => ∃ (writer_1128 : St_SymbolWriter) (base_1129 : Int) (u1130 : Option V) (u1131 : Option V) (G' : Hp), σ = [some (V.ref p_writer), some (V.ref a_levels), some (V.ref D1015), some (V.int base_1129), u1130, u1131] ∧ Same G1097 G' ∧ Sep [p_writer, p_writer_enc, l_writer_enc_probs, l_writer_enc_front] H G G' H' [p_writer, p_writer_enc, l_writer_enc_probs, l_writer_enc_front, D1015] ∧ H' p_writer = some (.ins AD.c_SymbolWriter dx_writer [("_encoder", V.ref p_writer_enc)]) ∧ H' p_writer_enc = some (.ins AD.c_Encoder dx_writer_enc [("_probabilities", V.ref l_writer_enc_probs), ("_front", V.ref l_writer_enc_front), ("_low", V.int (writer_1128.enc.low)), ("_span", V.int (writer_1128.enc.span))]) ∧ H' l_writer_enc_probs = some (.lst ((writer_1128.enc.probs : (List Int)).map V.int)) ∧ H' l_writer_enc_front = some (.lst ((writer_1128.enc.front : (List Int)).map V.int)) ∧ H' D1015 = some (.lst ((acc1099 : (List Int)).map V.int)) ∧ cW (forS (List.drop i ((List.reverse (acc1099 : List Int)))) (writer_1128, base_1129) (fun s x => F_put_levels_b2 (levels') (s.1) (s.2) x)) K1126 EE) ?_ ?_ ?_ ?_⟩
    · exact ⟨(v1112), (192), _, _, _, rfl, (Same.refl _), (S1115.sub (all_cons (.tail _ (.head _)) (all_cons (.tail _ (.tail _ (.head _))) (all_cons (.tail _ (.tail _ (.tail _ (.head _)))) (all_cons (.tail _ (.tail _ (.tail _ (.tail _ (.head _))))) (all_cons (.head _) all_nil)))))), h1116, h1117, h1118, h1119, h1124, hw⟩
    · intro i σ H1132 _ hw
      obtain ⟨writer_1128, base_1129, u1130, u1131, G1139, rfl, eG1140, S1133, h1134, h1135, h1136, h1137, h1138, hw⟩ := hw
      exact (SqL.of h1138)
    · intro i x σ H1141 hj hw
      obtain ⟨writer_1128, base_1129, u1130, u1131, G1148, rfl, eG1149, S1142, h1143, h1144, h1145, h1146, h1147, hw⟩ := hw
      obtain ⟨x1150, hx, rfl⟩ := map_get hj
      have hw := cW_forS hx hw
      have hw : cW (F_put_levels_b2 (levels') (writer_1128) (base_1129) (x1150)) _ EE := hw
      unfold F_put_levels_b2 at hw
      obtain ⟨K1153, hK1154, hw⟩ := cW_name hw
      obtain ⟨g1156, hw⟩ := cW_grd hw
      refine ⟨_, rfl, _, rfl, _, _, _, _, rfl, rfl, (SqL.of (S1142.bM _ _ q_levels)), (atI_map g1156), ?_⟩
      have hw := cW_bnd hw
      refine ⟨_, rfl, _, _, _, rfl, h1143, rfl, _, rfl, _, rfl, _, rfl, _, _, rfl, rfl, rfl, rfl, G1148, _, _, _, _, _, _, writer_1128, _, _, rfl, S1142.sG, (S1142.gno (all_cons (.head _) (all_cons (.tail _ (.head _)) (all_cons (.tail _ (.tail _ (.head _))) (all_cons (.tail _ (.tail _ (.tail _ (.head _)))) all_nil))))), h1143, h1144, h1145, h1146, ne_writer_0, ne_writer_1, cW_callN hw (fun v1158 hw H1159 x1160 h1162 h1163 h1164 h1165  => ?_) trivial⟩
      have S1161 := S1142.mut x1160 (all_cons (.head _) (all_cons (.tail _ (.head _)) (all_cons (.tail _ (.tail _ (.head _))) (all_cons (.tail _ (.tail _ (.tail _ (.head _)))) all_nil)))) (all_cons (some_ne h1162) (all_cons (some_ne h1163) (all_cons (some_ne h1164) (all_cons (some_ne h1165) all_nil))))
      refine ⟨_, rfl, _, _, _, rfl, h1162, rfl, ?_⟩
      refine vv_if (vt_cmp (vv_cmp (val_var rfl) val_c (fun Q q => ⟨_, _, rfl, rfl, q⟩))) val_c val_c _ ?_
      refine ⟨rfl, rfl, G1148, _, _, _, _, _, _, v1158, _, rfl, S1161.sG, (S1161.gno (all_cons (.head _) (all_cons (.tail _ (.head _)) (all_cons (.tail _ (.tail _ (.head _))) (all_cons (.tail _ (.tail _ (.tail _ (.head _)))) all_nil))))), h1162, h1163, h1164, h1165, ne_writer_0, ne_writer_1, cW_callN hw (fun v1173 hw H1174 x1175 h1177 h1178 h1179 h1180  => ?_) trivial⟩
      have S1176 := S1161.mut x1175 (all_cons (.head _) (all_cons (.tail _ (.head _)) (all_cons (.tail _ (.tail _ (.head _))) (all_cons (.tail _ (.tail _ (.tail _ (.head _)))) all_nil)))) (all_cons (some_ne h1177) (all_cons (some_ne h1178) (all_cons (some_ne h1179) (all_cons (some_ne h1180) all_nil))))
      refine ⟨_, rfl, _, rfl, _, rfl, rfl, rfl, G1148, _, _, rfl, S1176.sG, cW_callN hw (fun v1185 hw => ?_) trivial⟩
      have hw := cW_ok hw
      have hw := hK1154 _ hw
      have h1186 := (x1175 _ _ (x1160 _ _ h1147 (ni4 (ne_of_none h_p_writer n1016).symm (ne_of_none h_p_writer_enc n1016).symm (ne_of_none h_l_writer_enc_probs n1016).symm (ne_of_none h_l_writer_enc_front n1016).symm)) (ni4 (ne_of_none h_p_writer n1016).symm (ne_of_none h_p_writer_enc n1016).symm (ne_of_none h_l_writer_enc_probs n1016).symm (ne_of_none h_l_writer_enc_front n1016).symm))
      exact ⟨(v1173), (v1185), _, _, _, rfl, eG1149, S1176, h1177, h1178, h1179, h1180, h1186, hw⟩
    · intro σ H1187 hw
      obtain ⟨writer_1128, base_1129, u1130, u1131, G1194, rfl, eG1195, S1188, h1189, h1190, h1191, h1192, h1193, hw⟩ := hw
      have hw := hK1127 _ (cW_forS0 (by rw [List.length_map]) hw)
      have hw : cW (F_put_levels_r2  (writer_1128) (base_1129)) _ EE := hw
      unfold F_put_levels_r2 at hw
      have hw := cW_ok hw
      exact hK0 _ hw _ S1188.base h1189 h1190 h1191 h1192

abbrev N_Encoder_octets : List Str := ["self", "octets", "shift"]
theorem sc_Encoder_octets : FnScope N_Encoder_octets ["self"] (defScope s_Encoder_octets) := ⟨rfl, rfl, rfl, by decide +kernel, rfl, by decide +kernel, by decide +kernel⟩
theorem ok_Encoder_octets (D : MethX K AD.c_Encoder "Encoder.octets" "octets" s_Encoder_octets ["self"] pats_Encoder_octets) (T : Txt w K mg AD)  : MetH P w K mg base 1 AD.c_Encoder "octets" (sp_Encoder_octets K AD) pats_Encoder_octets := by
  refine D.okH T.cl_Encoder sc_Encoder_octets (fun vs H Q E h => ?_) (fun f cdv A_ outer s H vs Q E hr h => ?_) (fun f cdv A_ outer s H vs Q E pin_ hot_ hr h => ?_)
  · obtain ⟨G, p_self, l_self_probs, l_self_front, dx_self, self', rfl, _⟩ := h
    rfl
  · obtain ⟨G, p_self, l_self_probs, l_self_front, dx_self, self', rfl, sG, h_p_self, h_l_self_probs, h_l_self_front, hw⟩ := h
    refine ⟨_, (pss_cons (ps_set (i := 1) sc_Encoder_octets.nd rfl (Or.inl rfl) (pe_op op_cat (fldK (K := K) (pv 0)) (pe_lc (own := [("shift", 2)]) (g := gName 2) (by rfl) sc_Encoder_octets.nd (pi_tupK (K := K) (pe_tup (pa_cons pe_int (pa_cons pe_int (pa_cons pe_int (pa_cons pe_int pa_nil)))))) (blkOk_by (own := [("shift", 2)]) (N := N_Encoder_octets) (sc := defScope s_Encoder_octets) (by decide +kernel)) (fun _ _ _ _ _ => (pg_name (i := 2) sc_Encoder_octets.nd rfl (Or.inl rfl))) (fun _ _ _ _ _ => pts_nil) (fun _ _ _ _ _ => (pe_op op_and (pe_op op_shr (fldK (K := K) (pv 0)) (pv 2)) pe_int)))))
      (pss_cons (ps_while (passes_of rfl) (PW.pt (pw_and (pt_truth (pv 1) (fun _ => rfl)) (pw_and1 (pt_cmp (pc_eqI (pe_ix (ix_listK (K := K)) (pv 1) (pe_un un_neg pe_int) (fun _ _ => rfl)) pe_int))))) (pss_one (ps_expr (pe_bm0 PySem.F.plainAttrs_list PySem.F.slot_list_pop PySem.F.type_list_pop mt_pop (pv 1)))))
      (pss_one (ps_ret (pv 1))))), ?_⟩
    obtain ⟨KK, EE, hK0, hE, hw⟩ := cW_gen hw
    have S0 := Sep.startG sG
    unfold F_Encoder_octets at hw
    refine ⟨_, rfl, _, _, _, _, _, rfl, (S0.bM _ _ h_p_self), T.cl_Encoder, T.n_Encoder__front, rfl, (by show 4 ≤ sizeLine; decide), fun p1198 n1199 => ?_⟩
    generalize g1200 : upd H p1198 _ = H1201
    obtain ⟨e1202, h1203⟩ := gen_new n1199 g1200
    have h1204 : H1201 p1198 = some (.tup [V.int (24), V.int (16), V.int (8), V.int (0)]) := h1203
    have fr1205 := S0.free n1199
    obtain ⟨G1207, eG1208, hg1209, S1206⟩ := S0.grow n1199 e1202 h1204 fr1205
    obtain ⟨K1212, hK1213, hw⟩ := cW_push hw
    refine ⟨_, rfl, ⟨_, (SqT.of (S1206.sG _ _ hg1209))⟩, fun D1214 n1215 => lc_tup (K := K) (a := p1198) (xs := (([24, 16, 8, 0] : List Int).map V.int)) (fun i1 H' => ∃ (G' : Hp) (acc1217 : (List Int)), Same G1207 G' ∧ Sep [] H G G' H' [D1214] ∧ H' D1214 = some (.lst ((acc1217 : (List Int)).map V.int)) ∧ Same H1201 H' ∧ cW (mapA (List.drop i1 ([24, 16, 8, 0])) acc1217 (fun x => noEr (F_Encoder_octets_c1 (self') x))) K1212 EE) ?_ ?_ ?_ ?_⟩
    · generalize g1219 : upd H1201 D1214 _ = H1220
      obtain ⟨e1221, h1222⟩ := gen_new n1215 g1219
      have fr1223 := S1206.free n1215
      have S1224 := S1206.new n1215 e1221 h1222 fr1223
      exact ⟨_, [], Same.refl _, S1224, h1222, e1221, hw⟩
    · intro i1 H1225 _ hw
      obtain ⟨G1228, acc1230, eG1229, S1226, h1227, eo1236, hw⟩ := hw
      exact (SqT.of (S1226.sG _ _ (eG1229 _ _ hg1209)))
    · intro i1 x H1237 hj hw
      obtain ⟨G1240, acc1242, eG1241, S1238, h1239, eo1248, hw⟩ := hw
      obtain ⟨x1249, hx, rfl⟩ := map_get hj
      obtain ⟨z1250, hw⟩ := cW_mapA hx hw
      have hw := cW_noEr hw
      have hw : cW (F_Encoder_octets_c1 (self') (x1249)) _ (fun _ => False) := hw
      unfold F_Encoder_octets_c1 at hw
      refine ⟨rfl, ?_⟩
      refine tyes_go ?_
      obtain ⟨g1252, hw⟩ := cW_grd hw
      refine ⟨_, rfl, _, _, _, _, _, rfl, (S1238.bM _ _ h_p_self), T.cl_Encoder, T.n_Encoder__low, rfl, _, rfl, _, _, rfl, rfl, g1252, _, _, rfl, rfl, _, h1239, (app_lenM z1250), ?_⟩
      generalize g1253 : upd H1237 D1214 _ = H1254
      obtain ⟨x1255, h1256⟩ := gen_mut g1253
      have S1257 := S1238.mut1 x1255 (.head _) h1256
      have hw := cW_ok hw
      exact ⟨_, (acc1242 ++ [(PySem.Builtin.bitAnd ((self'.low / 2 ^ Int.toNat (x1249))) (255))]), eG1241, S1257, (snoc_map h1256), (same_mut eo1248 x1255 n1215), hw⟩
    intro H1258 hw
    obtain ⟨G1261, acc1263, eG1262, S1259, h1260, eo1269, hw⟩ := hw
    have hw := hK1213 _ (cW_mapA0 (by rw [List.length_map]) hw)
    have fr1270 := S1206.free n1215
    obtain ⟨g1271, hw⟩ := cW_grd hw
    refine ⟨_, _, _, _, rfl, rfl, (S1259.bM _ _ h_l_self_front), h1260, (cat_lenM g1271), fun p1272 n1273 => ?_⟩
    generalize g1274 : upd H1258 p1272 _ = H1275
    obtain ⟨e1276, h1277⟩ := gen_new n1273 g1274
    have h1278 : H1275 p1272 = some (.lst (((self'.front) ++ (acc1263) : (List Int)).map V.int)) := cat_map h1277
    have fr1279 := S1259.free n1273
    have S1280 := S1259.new n1273 e1276 h1278 fr1279
    obtain ⟨K1281, hK1282, hw⟩ := cW_push hw
    refine ⟨fun m σ H' => ∃ (octets_1283 : (List Int)) (G' : Hp), σ = [some (V.ref p_self), some (V.ref p1272), none] ∧ Same G1261 G' ∧ Sep [] H G G' H' [p1272] ∧ H' p1272 = some (.lst ((octets_1283 : (List Int)).map V.int)) ∧ cW (whileR m octets_1283 (fun s => F_Encoder_octets_b2  s)) K1281 EE, ?_, ?_⟩
    · exact ⟨_, ⟨((self'.front) ++ (acc1263)), _, rfl, (Same.refl _), (S1280.sub (all_cons (.head _) all_nil)), h1278, hw⟩⟩
    · intro m σ H1284 hw
      obtain ⟨octets_1283, G1287, rfl, eG1288, S1285, h1286, hw⟩ := hw
      obtain ⟨m1289, rfl, hw2⟩ := cW_whileR hw
      have hw := hw2
      have hw : cW (F_Encoder_octets_b2  (octets_1283)) _ EE := hw
      unfold F_Encoder_octets_b2 at hw
      obtain ⟨K1291, hK1292, hw⟩ := cW_name hw
      refine ⟨_, rfl, _, (.inl ⟨_, (SqL.of h1286), tru_map⟩), ?_⟩
      refine iteN (fun c1293 => ?_) (fun c1293 => ?_)
      · have hw := cW_neg c1293 hw
        obtain ⟨g1294, hw⟩ := cW_grd hw
        refine ⟨_, rfl, _, rfl, _, _, _, _, rfl, rfl, (SqL.of h1286), (atI_map g1294), _, _, rfl, rfl, _, rfl, ?_⟩
        refine iteD (fun c1295 => ?_) (fun c1295 => ?_)
        · have hw := cW_pos c1295 hw
          refine ⟨(fun σ H' => ∃ m, (∃ (octets_1283 : (List Int)) (G' : Hp), σ = [some (V.ref p_self), some (V.ref p1272), none] ∧ Same G1261 G' ∧ Sep [] H G G' H' [p1272] ∧ H' p1272 = some (.lst ((octets_1283 : (List Int)).map V.int)) ∧ cW (whileR m octets_1283 (fun s => F_Encoder_octets_b2  s)) K1281 EE) ∧ m < m1289 + 1), (fun _ _ ⟨m', a, b⟩ => ⟨m', b, a⟩), ?_⟩
          obtain ⟨g1296, hw⟩ := cW_grd hw
          refine ⟨_, rfl, (.inl ⟨rfl, _, SqL.of h1286⟩), _, _, _, rfl, rfl, h1286, (pop_map g1296), ?_⟩
          generalize g1297 : upd H1284 p1272 _ = H1298
          obtain ⟨x1299, h1300⟩ := gen_mut g1297
          have h1301 : H1298 p1272 = some (.lst (((octets_1283).dropLast : (List Int)).map V.int)) := drop_map h1300
          have S1302 := S1285.mut1 x1299 (.head _) h1301
          have hw := cW_bnd hw
          have hw := cW_ok hw
          have hw := hK1292 _ hw
          exact ⟨m1289, ⟨((octets_1283).dropLast), _, rfl, eG1288, S1302, h1301, hw⟩, Nat.lt_succ_self _⟩
        · have hw := cW_neg c1295 hw
          have hw := cW_ok hw
          have hw := hK1292 _ hw
          have hw := cW_aftgo (hK1282 (.go _) hw)
          have hw : cW (F_Encoder_octets_r2  (octets_1283)) _ EE := hw
          unfold F_Encoder_octets_r2 at hw
          refine ⟨_, rfl, ?_⟩
          have hw := cW_ok hw
          exact hK0 _ hw _ _ fr1279 S1285.b0 h1286
      · have hw := cW_pos c1293 hw
        refine iteF ?_
        have hw := cW_ok hw
        have hw := hK1292 _ hw
        have hw := cW_aftgo (hK1282 (.go _) hw)
        have hw : cW (F_Encoder_octets_r2  (octets_1283)) _ EE := hw
        unfold F_Encoder_octets_r2 at hw
        refine ⟨_, rfl, ?_⟩
        have hw := cW_ok hw
        exact hK0 _ hw _ _ fr1279 S1285.b0 h1286
  · obtain ⟨G, p_self, l_self_probs, l_self_front, dx_self, self', rfl, sG, h_p_self, h_l_self_probs, h_l_self_front, hw⟩ := h
    refine ⟨_, (pss_cons (ps_set (i := 1) sc_Encoder_octets.nd rfl (Or.inl rfl) (pe_op op_cat (fldK (K := K) (pv 0)) (Vn.pe_lcN (own := [("shift", 2)]) (g := gName 2) (Vn.hotc_of hot_) sc_Encoder_octets.nd (Vn.pi_tupKN (K := K) (pe_tup (pa_cons pe_int (pa_cons pe_int (pa_cons pe_int (pa_cons pe_int pa_nil)))))) (blkOk_by (own := [("shift", 2)]) (N := N_Encoder_octets) (sc := defScope s_Encoder_octets) (by decide +kernel)) (fun _ _ _ _ _ => (pg_name (i := 2) sc_Encoder_octets.nd rfl (Or.inl rfl))) (fun _ _ _ _ _ => pts_nil) (fun _ _ _ _ _ => (pe_op op_and (pe_op op_shr (fldK (K := K) (pv 0)) (pv 2)) pe_int)))))
      (pss_cons (ps_while (passes_of rfl) (PW.pt (pw_and (pt_truth (pv 1) (fun _ => rfl)) (pw_and1 (pt_cmp (pc_eqI (pe_ix (ix_listK (K := K)) (pv 1) (pe_un un_neg pe_int) (fun _ _ => rfl)) pe_int))))) (pss_one (ps_expr (pe_bm0 PySem.F.plainAttrs_list PySem.F.slot_list_pop PySem.F.type_list_pop mt_pop (pv 1)))))
      (pss_one (ps_ret (pv 1))))), ?_⟩
    obtain ⟨KK, EE, hK0, hE, hw⟩ := cW_gen hw
    have S0 := Sep.startG sG
    unfold F_Encoder_octets at hw
    refine ⟨_, rfl, _, _, _, _, _, rfl, (S0.bM _ _ h_p_self), T.cl_Encoder, T.n_Encoder__front, rfl, (by show 4 ≤ sizeLine; decide), fun p1198 n1199 => ?_⟩
    generalize g1200 : upd H p1198 _ = H1201
    obtain ⟨e1202, h1203⟩ := gen_new n1199 g1200
    have h1204 : H1201 p1198 = some (.tup [V.int (24), V.int (16), V.int (8), V.int (0)]) := h1203
    have fr1205 := S0.free n1199
    obtain ⟨G1207, eG1208, hg1209, S1206⟩ := S0.grow n1199 e1202 h1204 fr1205
    obtain ⟨K1212, hK1213, hw⟩ := cW_push hw
    refine ⟨_, rfl, ⟨_, (SqT.of (S1206.sG _ _ hg1209))⟩, fun D1214 n1215 => lc_tup (K := K) (a := p1198) (xs := (([24, 16, 8, 0] : List Int).map V.int)) (fun i1 H' => ∃ (G' : Hp) (acc1217 : (List Int)), Same G1207 G' ∧ Sep [] H G G' H' [D1214] ∧ H' D1214 = some (.lst ((acc1217 : (List Int)).map V.int)) ∧ Same H1201 H' ∧ cW (mapA (List.drop i1 ([24, 16, 8, 0])) acc1217 (fun x => noEr (F_Encoder_octets_c1 (self') x))) K1212 EE) ?_ ?_ ?_ ?_⟩
    · generalize g1219 : upd H1201 D1214 _ = H1220
      obtain ⟨e1221, h1222⟩ := gen_new n1215 g1219
      have fr1223 := S1206.free n1215
      have S1224 := S1206.new n1215 e1221 h1222 fr1223
      exact ⟨_, [], Same.refl _, S1224, h1222, e1221, hw⟩
    · intro i1 H1225 _ hw
      obtain ⟨G1228, acc1230, eG1229, S1226, h1227, eo1236, hw⟩ := hw
      exact (SqT.of (S1226.sG _ _ (eG1229 _ _ hg1209)))
    · intro i1 x H1237 hj hw
      obtain ⟨G1240, acc1242, eG1241, S1238, h1239, eo1248, hw⟩ := hw
      obtain ⟨x1249, hx, rfl⟩ := map_get hj
      obtain ⟨z1250, hw⟩ := cW_mapA hx hw
      have hw := cW_noEr hw
      have hw : cW (F_Encoder_octets_c1 (self') (x1249)) _ (fun _ => False) := hw
      unfold F_Encoder_octets_c1 at hw
      refine ⟨rfl, ?_⟩
      refine tyes_go ?_
      obtain ⟨g1252, hw⟩ := cW_grd hw
      refine ⟨_, rfl, _, _, _, _, _, rfl, (S1238.bM _ _ h_p_self), T.cl_Encoder, T.n_Encoder__low, rfl, _, rfl, _, _, rfl, rfl, g1252, _, _, rfl, rfl, _, h1239, (app_lenM z1250), ?_⟩
      generalize g1253 : upd H1237 D1214 _ = H1254
      obtain ⟨x1255, h1256⟩ := gen_mut g1253
      have S1257 := S1238.mut1 x1255 (.head _) h1256
      have hw := cW_ok hw
      exact ⟨_, (acc1242 ++ [(PySem.Builtin.bitAnd ((self'.low / 2 ^ Int.toNat (x1249))) (255))]), eG1241, S1257, (snoc_map h1256), (same_mut eo1248 x1255 n1215), hw⟩
    intro H1258 hw
    obtain ⟨G1261, acc1263, eG1262, S1259, h1260, eo1269, hw⟩ := hw
    have hw := hK1213 _ (cW_mapA0 (by rw [List.length_map]) hw)
    have fr1270 := S1206.free n1215
    obtain ⟨g1271, hw⟩ := cW_grd hw
    refine ⟨_, _, _, _, rfl, rfl, (S1259.bM _ _ h_l_self_front), h1260, (cat_lenM g1271), fun p1272 n1273 => ?_⟩
    generalize g1274 : upd H1258 p1272 _ = H1275
    obtain ⟨e1276, h1277⟩ := gen_new n1273 g1274
    have h1278 : H1275 p1272 = some (.lst (((self'.front) ++ (acc1263) : (List Int)).map V.int)) := cat_map h1277
    have fr1279 := S1259.free n1273
    have S1280 := S1259.new n1273 e1276 h1278 fr1279
    obtain ⟨K1281, hK1282, hw⟩ := cW_push hw
    refine ⟨fun m σ H' => ∃ (octets_1283 : (List Int)) (G' : Hp), σ = [some (V.ref p_self), some (V.ref p1272), none] ∧ Same G1261 G' ∧ Sep [] H G G' H' [p1272] ∧ H' p1272 = some (.lst ((octets_1283 : (List Int)).map V.int)) ∧ cW (whileR m octets_1283 (fun s => F_Encoder_octets_b2  s)) K1281 EE, ?_, ?_⟩
    · exact ⟨_, ⟨((self'.front) ++ (acc1263)), _, rfl, (Same.refl _), (S1280.sub (all_cons (.head _) all_nil)), h1278, hw⟩⟩
    · intro m σ H1284 hw
      obtain ⟨octets_1283, G1287, rfl, eG1288, S1285, h1286, hw⟩ := hw
      obtain ⟨m1289, rfl, hw2⟩ := cW_whileR hw
      have hw := hw2
      have hw : cW (F_Encoder_octets_b2  (octets_1283)) _ EE := hw
      unfold F_Encoder_octets_b2 at hw
      obtain ⟨K1291, hK1292, hw⟩ := cW_name hw
      refine ⟨_, rfl, _, (.inl ⟨_, (SqL.of h1286), tru_map⟩), ?_⟩
      refine iteN (fun c1293 => ?_) (fun c1293 => ?_)
      · have hw := cW_neg c1293 hw
        obtain ⟨g1294, hw⟩ := cW_grd hw
        refine ⟨_, rfl, _, rfl, _, _, _, _, rfl, rfl, (SqL.of h1286), (atI_map g1294), _, _, rfl, rfl, _, rfl, ?_⟩
        refine iteD (fun c1295 => ?_) (fun c1295 => ?_)
        · have hw := cW_pos c1295 hw
          refine ⟨(fun σ H' => ∃ m, (∃ (octets_1283 : (List Int)) (G' : Hp), σ = [some (V.ref p_self), some (V.ref p1272), none] ∧ Same G1261 G' ∧ Sep [] H G G' H' [p1272] ∧ H' p1272 = some (.lst ((octets_1283 : (List Int)).map V.int)) ∧ cW (whileR m octets_1283 (fun s => F_Encoder_octets_b2  s)) K1281 EE) ∧ m < m1289 + 1), (fun _ _ ⟨m', a, b⟩ => ⟨m', b, a⟩), ?_⟩
          obtain ⟨g1296, hw⟩ := cW_grd hw
          refine ⟨_, rfl, (.inl ⟨rfl, _, SqL.of h1286⟩), _, _, _, rfl, rfl, h1286, (pop_map g1296), ?_⟩
          generalize g1297 : upd H1284 p1272 _ = H1298
          obtain ⟨x1299, h1300⟩ := gen_mut g1297
          have h1301 : H1298 p1272 = some (.lst (((octets_1283).dropLast : (List Int)).map V.int)) := drop_map h1300
          have S1302 := S1285.mut1 x1299 (.head _) h1301
          have hw := cW_bnd hw
          have hw := cW_ok hw
          have hw := hK1292 _ hw
          exact ⟨m1289, ⟨((octets_1283).dropLast), _, rfl, eG1288, S1302, h1301, hw⟩, Nat.lt_succ_self _⟩
        · have hw := cW_neg c1295 hw
          have hw := cW_ok hw
          have hw := hK1292 _ hw
          have hw := cW_aftgo (hK1282 (.go _) hw)
          have hw : cW (F_Encoder_octets_r2  (octets_1283)) _ EE := hw
          unfold F_Encoder_octets_r2 at hw
          refine ⟨_, rfl, ?_⟩
          have hw := cW_ok hw
          exact hK0 _ hw _ _ fr1279 S1285.b0 h1286
      · have hw := cW_pos c1293 hw
        refine iteF ?_
        have hw := cW_ok hw
        have hw := hK1292 _ hw
        have hw := cW_aftgo (hK1282 (.go _) hw)
        have hw : cW (F_Encoder_octets_r2  (octets_1283)) _ EE := hw
        unfold F_Encoder_octets_r2 at hw
        refine ⟨_, rfl, ?_⟩
        have hw := cW_ok hw
        exact hK0 _ hw _ _ fr1279 S1285.b0 h1286

abbrev N_Encoder_probability : List Str := ["self", "context"]
theorem sc_Encoder_probability : FnScope N_Encoder_probability ["self", "context"] (defScope s_Encoder_probability) := ⟨rfl, rfl, rfl, by decide +kernel, rfl, by decide +kernel, by decide +kernel⟩
theorem ok_Encoder_probability (D : MethX K AD.c_Encoder "Encoder.probability" "probability" s_Encoder_probability ["self", "context"] pats_Encoder_probability) (T : Txt w K mg AD) (c__check_context : CalQ P w K mg base 1 "_check_context" (sp__check_context K AD) pats__check_context) : MetQ P w K mg base 2 AD.c_Encoder "probability" (sp_Encoder_probability K AD) pats_Encoder_probability := by
  refine D.okQ0 T.cl_Encoder sc_Encoder_probability (fun vs H Q E h => ?_) (fun f cdv A_ outer s H vs Q E hr h => ?_) (fun f cdv A_ outer s H vs Q pin_ hr h => ?_)
  · obtain ⟨G, p_self, l_self_probs, l_self_front, dx_self, self', context', rfl, _⟩ := h
    rfl
  · obtain ⟨G, p_self, l_self_probs, l_self_front, dx_self, self', context', rfl, sG, h_p_self, h_l_self_probs, h_l_self_front, hw⟩ := h
    refine ⟨_, (pss_cons (ps_expr (vx_callX c__check_context.y pat__check_context_0 (.head _) hr (by decide) (L2N.takes_of rfl rfl rfl rfl) rfl (pa_cons (pv 1) pa_nil) pk_nil))
      (pss_one (ps_ret (pe_ix (ix_listK (K := K)) (fldK (K := K) (pv 0)) (pv 1) (fun _ _ => rfl))))), ?_⟩
    obtain ⟨KK, EE, hK0, hE, hw⟩ := cW_gen hw
    have S0 := Sep.startG sG
    unfold F_Encoder_probability at hw
    refine ⟨_, rfl, rfl, rfl, G, _, rfl, S0.sG, cW_call hw (fun v1306 hw => ?_) (fun e he => hE e he _ S0.b0)⟩
    obtain ⟨g1307, hw⟩ := cW_grd hw
    refine ⟨_, rfl, _, _, _, _, _, rfl, (S0.bM _ _ h_p_self), T.cl_Encoder, T.n_Encoder__probabilities, rfl, _, rfl, _, _, _, _, rfl, rfl, (SqL.of (S0.bM _ _ h_l_self_probs)), (atI_map g1307), ?_⟩
    have hw := cW_ok hw
    exact hK0 _ hw _ S0.b0
  · obtain ⟨G, p_self, l_self_probs, l_self_front, dx_self, self', context', rfl, sG, h_p_self, h_l_self_probs, h_l_self_front, hw⟩ := h
    refine ⟨_, (pss_cons (ps_expr (vx_callQ c__check_context pat__check_context_0 (.head _) hr (by decide) takes0n rfl (pa_cons (pv 1) pa_nil) pk_nil))
      (pss_one (ps_ret (pe_ix (ix_listK (K := K)) (fldK (K := K) (pv 0)) (pv 1) (fun _ _ => rfl))))), ?_⟩
    obtain ⟨KK, EE, hK0, hE, hw⟩ := cW_gen hw
    have S0 := Sep.startG sG
    unfold F_Encoder_probability at hw
    refine ⟨_, rfl, rfl, rfl, G, _, rfl, S0.sG, cW_call hw (fun v1306 hw => ?_) (fun e he => hE e he _ S0.b0)⟩
    obtain ⟨g1307, hw⟩ := cW_grd hw
    refine ⟨_, rfl, _, _, _, _, _, rfl, (S0.bM _ _ h_p_self), T.cl_Encoder, T.n_Encoder__probabilities, rfl, _, rfl, _, _, _, _, rfl, rfl, (SqL.of (S0.bM _ _ h_l_self_probs)), (atI_map g1307), ?_⟩
    have hw := cW_ok hw
    exact hK0 _ hw _ S0.b0

abbrev N_Decoder_probability : List Str := ["self", "context"]
theorem sc_Decoder_probability : FnScope N_Decoder_probability ["self", "context"] (defScope s_Decoder_probability) := ⟨rfl, rfl, rfl, by decide +kernel, rfl, by decide +kernel, by decide +kernel⟩
theorem ok_Decoder_probability (D : MethX K AD.c_Decoder "Decoder.probability" "probability" s_Decoder_probability ["self", "context"] pats_Decoder_probability) (T : Txt w K mg AD) (c__check_context : CalQ P w K mg base 1 "_check_context" (sp__check_context K AD) pats__check_context) : MetX P w K mg base 2 AD.c_Decoder "probability" (sp_Decoder_probability K AD) pats_Decoder_probability := by
  refine D.ok T.cl_Decoder sc_Decoder_probability (fun vs H Q E h => ?_) (fun f cdv A_ outer s H vs Q E hr h => ?_)
  · obtain ⟨G, p_self, l_self_probs, l_self_octs, dx_self, self', context', rfl, _⟩ := h
    rfl
  · obtain ⟨G, p_self, l_self_probs, l_self_octs, dx_self, self', context', rfl, sG, h_p_self, h_l_self_probs, h_l_self_octs, hw⟩ := h
    refine ⟨_, (pss_cons (ps_expr (vx_callX c__check_context.y pat__check_context_0 (.head _) hr (by decide) (L2N.takes_of rfl rfl rfl rfl) rfl (pa_cons (pv 1) pa_nil) pk_nil))
      (pss_one (ps_ret (pe_ix (ix_listK (K := K)) (fldK (K := K) (pv 0)) (pv 1) (fun _ _ => rfl))))), ?_⟩
    obtain ⟨KK, EE, hK0, hE, hw⟩ := cW_gen hw
    have S0 := Sep.startG sG
    unfold F_Decoder_probability at hw
    refine ⟨_, rfl, rfl, rfl, G, _, rfl, S0.sG, cW_call hw (fun v1308 hw => ?_) (fun e he => hE e he _ S0.b0)⟩
    obtain ⟨g1309, hw⟩ := cW_grd hw
    refine ⟨_, rfl, _, _, _, _, _, rfl, (S0.bM _ _ h_p_self), T.cl_Decoder, T.n_Decoder__probabilities, rfl, _, rfl, _, _, _, _, rfl, rfl, (SqL.of (S0.bM _ _ h_l_self_probs)), (atI_map g1309), ?_⟩
    have hw := cW_ok hw
    exact hK0 _ hw _ S0.b0

abbrev N__law_refused : List Str := ["levels", "encoder", "writer", "before", "e", "same", "k"]
theorem sc__law_refused : FnScope N__law_refused ["levels"] (defScope s__law_refused) := ⟨rfl, rfl, rfl, by decide +kernel, rfl, by decide +kernel, by decide +kernel⟩
theorem ok__law_refused (D : DefX K mg "_law_refused" s__law_refused ["levels"] pats__law_refused) (T : Txt w K mg AD) (c_Encoder___init__ : MakX P w K mg base 1 "Encoder" AD.c_Encoder (sp_Encoder___init__ K AD) pats_Encoder___init__) (c_SymbolWriter___init__ : MakX P w K mg base 1 "SymbolWriter" AD.c_SymbolWriter (sp_SymbolWriter___init__ K AD) pats_SymbolWriter___init__) (c_SymbolWriter_number : MetX P w K mg base 5 AD.c_SymbolWriter "number" (sp_SymbolWriter_number K AD) pats_SymbolWriter_number) (c_Encoder_probability : MetQ P w K mg base 2 AD.c_Encoder "probability" (sp_Encoder_probability K AD) pats_Encoder_probability) (c_Encoder_octets : MetH P w K mg base 1 AD.c_Encoder "octets" (sp_Encoder_octets K AD) pats_Encoder_octets) (c_put_levels : CalX P w K mg base 6 "put_levels" (sp_put_levels K AD) pats_put_levels) : CalX P w K mg base 7 "_law_refused" (sp__law_refused K AD) pats__law_refused := by
  refine D.ok sc__law_refused (fun vs H Q E h => ?_) (fun f cdv A_ outer s H vs Q E hr h => ?_)
  · obtain ⟨G, a_levels, levels', rfl, _⟩ := h
    rfl
  · obtain ⟨G, a_levels, levels', rfl, sG, q_levels, hw⟩ := h
    refine ⟨_, (pss_cons (ps_set (i := 1) sc__law_refused.nd rfl (Or.inr rfl) (vx_makeX0 c_Encoder___init__ pat_Encoder___init___0 (.head _) hr (by decide) (L2N.takes_of rfl rfl rfl rfl) rfl))
      (pss_cons (ps_set (i := 2) sc__law_refused.nd rfl (Or.inl rfl) (vx_makeX c_SymbolWriter___init__ pat_SymbolWriter___init___0 (.head _) hr (by decide) (L2N.takes_of rfl rfl rfl rfl) rfl (pa_cons (pv 1) pa_nil) pk_nil))
      (pss_cons (ps_expr (vx_methX c_SymbolWriter_number pat_SymbolWriter_number_0 (.head _) hr (by decide) (L2N.takes_of rfl rfl rfl rfl) (pv 2) (pa_cons (C8.pe_gc rfl T.g_LEVEL) (pa_cons pe_int pa_nil)) pk_nil))
      (pss_cons (ps_set (i := 3) sc__law_refused.nd rfl (Or.inl rfl) (pe_lst (pa_cons (vx_methX0 c_Encoder_octets.y pat_Encoder_octets_0 (.head _) hr (by decide) (L2N.takes_of rfl rfl rfl rfl) (pv 1)) (pa_cons (pe_lc (own := [("k", 6)]) (g := gName 6) (by rfl) sc__law_refused.nd (pi_range1 rfl T.b_range (pa_cons pe_int pa_nil)) (blkOk_by (own := [("k", 6)]) (N := N__law_refused) (sc := defScope s__law_refused) (by decide +kernel)) (fun _ _ _ _ _ => (pg_name (i := 6) sc__law_refused.nd rfl (Or.inl rfl))) (fun _ _ _ _ _ => pts_nil) (fun _ _ _ _ _ => (vx_methX c_Encoder_probability.y pat_Encoder_probability_0 (.head _) hr (by decide) takes0n (pv 1) (pa_cons (pv 6) pa_nil) pk_nil))) pa_nil))))
      (pss_cons (L2N.ps_try_as (i := 4) rfl rfl sc__law_refused.nd rfl rfl ⟨rfl, by decide, .inl T.xg_BadData⟩ (L2N.takes_of rfl rfl rfl rfl) (fun W pn xe tk pse => (pss_one (ps_expr (vx_callX c_put_levels pat_put_levels_0 (.head _) hr (by decide) tk rfl (pa_cons (pv 2) (pa_cons (pv 0) pa_nil)) pk_nil)))) (fun a oe cls d pn hz hf => (pss_cons (ps_set (i := 5) sc__law_refused.nd rfl (Or.inl rfl) (pe_cmpR (op_eqT (encOk_L (encOk_L encOk_int)) hr.units) (pv 3) (pe_lst (pa_cons (vx_methH0 List.mem_cons_self (Vn.hot_suite hz hf) c_Encoder_octets pat_Encoder_octets_0 (.head _) hr.hot (by decide) takes0n (pv 1)) (pa_cons (Vn.pe_lcN (own := [("k", 6)]) (g := gName 6) (Vn.hotc_suite hz hf) sc__law_refused.nd (Vn.pi_rng1N rfl T.b_range (pa_cons pe_int pa_nil)) (blkOk_by (own := [("k", 6)]) (N := N__law_refused) (sc := defScope s__law_refused) (by decide +kernel)) (fun _ _ _ _ _ => (pg_name (i := 6) sc__law_refused.nd rfl (Or.inl rfl))) (fun _ _ _ _ _ => pts_nil) (fun _ _ _ _ _ => (vx_methQ c_Encoder_probability pat_Encoder_probability_0 (.head _) hr.hot (by decide) takes0n (pv 1) (pa_cons (pv 6) pa_nil) pk_nil))) pa_nil))) (nomark _)))
      (pss_one (ps_ret (pe_and (pv 5) (pe_and (pe_callB (call_isX (K := K) hz.zc hf) (by rfl) T.b_isinstance (by decide +kernel) (pa_cons (pv 4) (pa_cons (C8.pe_gc (v := V.ref AD.x_CodecError) rfl ⟨_, T.xg_CodecError, rfl⟩) pa_nil))) (pe_one (pe_not (pe_callB (call_isX (K := K) hz.zc hf) (by rfl) T.b_isinstance (by decide +kernel) (pa_cons (pv 4) (pa_cons (C8.pe_gc (v := V.ref AD.x_OutOfRange) rfl ⟨_, T.xg_OutOfRange, rfl⟩) pa_nil))))))))))))
      (pss_one (ps_ret pe_bl))))))), ?_⟩
    obtain ⟨KK, EE, hK0, hE, hw⟩ := cW_gen hw
    have S0 := Sep.startG sG
    unfold F__law_refused at hw
    refine ⟨rfl, rfl, fun x1310 dx1311 n1312 n1313 n1314 => ?_⟩
    generalize g1315 : upd (upd H dx1311 _) x1310 _ = H1316
    obtain ⟨e1317, h1318⟩ := gen_obj n1312 n1313 n1314 g1315
    have fr1319 := S0.free n1312
    have S1320 := S0.new n1312 e1317 h1318 fr1319
    refine ⟨G, _, _, rfl, S1320.sG, (S1320.gno (all_cons (.head _) all_nil)), h1318, cW_call hw (fun v1321 hw H1324 l1322 l1323 x1325 n1330 n1331 ne1332 h1326 h1328 h1329 => ⟨rfl, ?_⟩) (fun e he H2 e2 => hE e he H2 (Same.trans S0.b0 (same_mut e1317 e2 n1312)))⟩
    have fr1333 := S1320.free n1330
    have fr1334 := S1320.free n1331
    have S1327 : Sep _ _ _ _ H1324 [l1322, l1323, x1310] := Sep.init S1320 x1325 (.head _) h1326 [l1322, l1323] (all_cons ⟨n1330, some_ne h1328, fr1333⟩ (all_cons ⟨n1331, some_ne h1329, fr1334⟩ all_nil))
    refine ⟨_, rfl, rfl, rfl, fun x1335 dx1336 n1337 n1338 n1339 => ?_⟩
    generalize g1340 : upd (upd H1324 dx1336 _) x1335 _ = H1341
    obtain ⟨e1342, h1343⟩ := gen_obj n1337 n1338 n1339 g1340
    have fr1344 := S1327.free n1337
    have S1345 := S1327.new n1337 e1342 h1343 fr1344
    have h1346 := (e1342 _ _ h1326)
    have h1347 := (e1342 _ _ h1328)
    have h1348 := (e1342 _ _ h1329)
    refine ⟨G, _, _, _, _, _, _, v1321, rfl, S1345.sG, (S1345.gno (all_cons (.head _) all_nil)), h1343, ((hideL_out (ni1 (ne_of_none h1326 n1337))).trans h1346), ((hideL_out (ni1 (ne_of_none h1328 n1337))).trans h1347), ((hideL_out (ni1 (ne_of_none h1329 n1337))).trans h1348), cW_call hw (fun v1349 hw H1350 x1351 h1352 => ⟨rfl, ?_⟩) (fun e he H2 e2 => hE e he H2 (Same.trans S1327.b0 (same_mut e1342 e2 n1337)))⟩
    have S1353 : Sep _ _ _ _ H1350 [x1335, l1322, l1323, x1310] := Sep.init S1345 x1351 (.head _) h1352 [] all_nil
    have h1354 := ((SameXs.of x1351) _ _ h1346 (ni1 (ne_of_none h1326 n1337)))
    have h1355 := ((SameXs.of x1351) _ _ h1347 (ni1 (ne_of_none h1328 n1337)))
    have h1356 := ((SameXs.of x1351) _ _ h1348 (ni1 (ne_of_none h1329 n1337)))
    refine ⟨_, rfl, _, _, _, rfl, h1352, rfl, rfl, rfl, G, _, _, _, _, _, _, (⟨v1321⟩ : St_SymbolWriter), _, _, rfl, S1353.sG, (S1353.gno (all_cons (.head _) (all_cons (.tail _ (.tail _ (.tail _ (.head _)))) (all_cons (.tail _ (.head _)) (all_cons (.tail _ (.tail _ (.head _))) all_nil))))), h1352, h1354, h1355, h1356, ne1332, (ne_of_none h1326 n1337).symm, cW_call hw (fun v1357 hw H1358 x1359 h1361 h1362 h1363 h1364  => ?_) (fun e he H2 e2 => hE e he H2 (Same.trans S1353.b0 e2))⟩
    have S1360 := S1353.mut x1359 (all_cons (.head _) (all_cons (.tail _ (.tail _ (.tail _ (.head _)))) (all_cons (.tail _ (.head _)) (all_cons (.tail _ (.tail _ (.head _))) all_nil)))) (all_cons (some_ne h1361) (all_cons (some_ne h1362) (all_cons (some_ne h1363) (all_cons (some_ne h1364) all_nil))))
    refine ⟨_, rfl, _, _, _, rfl, h1362, rfl, rfl, rfl, G, _, _, _, _, v1357.enc, rfl, S1360.sG, (hide_nil h1362), (hide_nil h1363), (hide_nil h1364), cW_call hw (fun v1369 hw p1372 H1370 n1373 e1371 h1374 => ?_) (fun e he H2 e2 => hE e he H2 (Same.trans S1360.b0 e2))⟩
    have h1375 : H1370 p1372 = some (.lst ((v1369 : (List Int)).map V.int)) := h1374
    have fr1376 := S1360.free n1373
    have S1377 := S1360.new n1373 e1371 h1375 fr1376
    obtain ⟨K1380, hK1381, hw⟩ := cW_push hw
    refine ⟨_, rfl, (by decide), (by decide), fun D1382 n1383 => lc_range (lo := 0) (n := Int.toNat (256)) (fun i1 H' => ∃ (G' : Hp) (acc1385 : (List Int)), Same G G' ∧ Sep [] H G G' H' [D1382, x1310, l1322, l1323, x1335, p1372] ∧ H' x1310 = some (.ins AD.c_Encoder dx1311 [("_probabilities", V.ref l1322), ("_front", V.ref l1323), ("_low", V.int (v1357.enc.low)), ("_span", V.int (v1357.enc.span))]) ∧ H' l1322 = some (.lst ((v1357.enc.probs : (List Int)).map V.int)) ∧ H' l1323 = some (.lst ((v1357.enc.front : (List Int)).map V.int)) ∧ H' x1335 = some (.ins AD.c_SymbolWriter dx1336 [("_encoder", V.ref x1310)]) ∧ H' p1372 = some (.lst ((v1369 : (List Int)).map V.int)) ∧ H' D1382 = some (.lst ((acc1385 : (List Int)).map V.int)) ∧ Same H1370 H' ∧ cW (mapA (List.drop i1 (rng (0) (Int.toNat (256)))) acc1385 (fun x => noEr (F__law_refused_c1 (v1357.enc) x))) K1380 EE) ?_ ?_ ?_⟩
    · generalize g1387 : upd H1370 D1382 _ = H1388
      obtain ⟨e1389, h1390⟩ := gen_new n1383 g1387
      have fr1391 := S1377.free n1383
      have S1392 := S1377.new n1383 e1389 h1390 fr1391
      have h1393 := (e1389 _ _ (e1371 _ _ h1362))
      have h1394 := (e1389 _ _ (e1371 _ _ h1363))
      have h1395 := (e1389 _ _ (e1371 _ _ h1364))
      have h1396 := (e1389 _ _ (e1371 _ _ h1361))
      have h1397 := (e1389 _ _ h1375)
      exact ⟨_, [], Same.refl _, (S1392.sub (all_cons (.head _) (all_cons (.tail _ (.tail _ (.tail _ (.tail _ (.tail _ (.head _)))))) (all_cons (.tail _ (.tail _ (.tail _ (.head _)))) (all_cons (.tail _ (.tail _ (.tail _ (.tail _ (.head _))))) (all_cons (.tail _ (.tail _ (.head _))) (all_cons (.tail _ (.head _)) all_nil))))))), h1393, h1394, h1395, h1396, h1397, h1390, e1389, hw⟩
    · intro i1 H1398 hi hw
      obtain ⟨G1401, acc1403, eG1402, S1399, h1410, h1411, h1412, h1413, h1414, h1400, eo1409, hw⟩ := hw
      obtain ⟨z1415, hw⟩ := cW_mapA (rng_get hi) hw
      generalize (0 + (i1 : Int)) = x1416 at hw ⊢
      have hw := cW_noEr hw
      have hw : cW (F__law_refused_c1 (v1357.enc) (x1416)) _ (fun _ => False) := hw
      unfold F__law_refused_c1 at hw
      refine ⟨rfl, ?_⟩
      refine tyes_go ?_
      refine ⟨_, rfl, _, _, _, rfl, h1410, rfl, _, rfl, rfl, rfl, G1401, _, _, _, _, v1357.enc, _, rfl, S1399.sG, (hide_nil h1410), (hide_nil h1411), (hide_nil h1412), cW_call hw (fun v1418 hw H1419 e1420 => ?_) (fun e he => he.elim)⟩
      have S1421 := S1399.same e1420
      have h1422 := (e1420 _ _ h1400)
      refine ⟨_, h1422, (app_lenM z1415), ?_⟩
      generalize g1423 : upd H1419 D1382 _ = H1424
      obtain ⟨x1425, h1426⟩ := gen_mut g1423
      have S1427 := S1421.mut1 x1425 (.head _) h1426
      have hw := cW_ok hw
      have h1428 := (x1425 _ _ (e1420 _ _ h1410) (ne_of_none (e1371 _ _ h1362) n1383))
      have h1429 := (x1425 _ _ (e1420 _ _ h1411) (ne_of_none (e1371 _ _ h1363) n1383))
      have h1430 := (x1425 _ _ (e1420 _ _ h1412) (ne_of_none (e1371 _ _ h1364) n1383))
      have h1431 := (x1425 _ _ (e1420 _ _ h1413) (ne_of_none (e1371 _ _ h1361) n1383))
      have h1432 := (x1425 _ _ (e1420 _ _ h1414) (ne_of_none h1375 n1383))
      exact ⟨_, (acc1403 ++ [v1418]), eG1402, S1427, h1428, h1429, h1430, h1431, h1432, (snoc_map h1426), (same_mut (Same.trans eo1409 e1420) x1425 n1383), hw⟩
    intro H1433 hw
    obtain ⟨G1436, acc1438, eG1437, S1434, h1445, h1446, h1447, h1448, h1449, h1435, eo1444, hw⟩ := hw
    have hw := hK1381 _ (cW_mapA0 (rng_len _ _).symm hw)
    have fr1450 := S1377.free n1383
    obtain ⟨G1451, eG1452, hg1453, S1454⟩ := Sep.freeze (O' := [D1382, x1310, l1322, l1323, x1335]) S1434 (.tail _ (.tail _ (.tail _ (.tail _ (.tail _ (.head _)))))) h1449 fr1376 ((all_cons ⟨(.head _), (ne_of_none h1375 n1383).symm⟩ (all_cons ⟨(.tail _ (.head _)), (ne_of_none h1362 n1373)⟩ (all_cons ⟨(.tail _ (.tail _ (.head _))), (ne_of_none h1363 n1373)⟩ (all_cons ⟨(.tail _ (.tail _ (.tail _ (.head _)))), (ne_of_none h1364 n1373)⟩ (all_cons ⟨(.tail _ (.tail _ (.tail _ (.tail _ (.head _))))), (ne_of_none h1361 n1373)⟩ all_nil))))))
    obtain ⟨G1455, eG1456, hg1457, S1458⟩ := Sep.freeze (O' := [x1310, l1322, l1323, x1335]) S1454 (.head _) h1435 fr1450 ((all_cons ⟨(.tail _ (.head _)), (ne_of_none (e1371 _ _ h1362) n1383)⟩ (all_cons ⟨(.tail _ (.tail _ (.head _))), (ne_of_none (e1371 _ _ h1363) n1383)⟩ (all_cons ⟨(.tail _ (.tail _ (.tail _ (.head _)))), (ne_of_none (e1371 _ _ h1364) n1383)⟩ (all_cons ⟨(.tail _ (.tail _ (.tail _ (.tail _ (.head _))))), (ne_of_none (e1371 _ _ h1361) n1383)⟩ all_nil)))))
    refine ⟨(by show 2 ≤ sizeLine; decide), fun p1459 n1460 => ?_⟩
    generalize g1461 : upd H1433 p1459 _ = H1462
    obtain ⟨e1463, h1464⟩ := gen_new n1460 g1461
    have h1465 : H1462 p1459 = some (.lst ([V.ref p1372, V.ref D1382])) := h1464
    have fr1466 := S1458.free n1460
    have S1467 := S1458.new n1460 e1463 h1465 fr1466
    have d1468 : RpAll G1455 ([V.ref p1372, V.ref D1382]) (([v1369, acc1438] : (List (List Int))).map (encL PyData.int)) := (RpAll.cons (rp_mk_ints (eG1456 _ _ hg1453)) (RpAll.cons (rp_mk_ints hg1457) RpAll.nil))
    have h1469 := (e1463 _ _ h1448)
    have h1470 := (e1463 _ _ h1445)
    have h1471 := (e1463 _ _ h1446)
    have h1472 := (e1463 _ _ h1447)
    refine ⟨_, rfl, _, rfl, rfl, rfl, G1455, _, _, _, _, _, _, v1357, _, _, rfl, S1467.sG, (S1467.gno (all_cons (.tail _ (.tail _ (.tail _ (.tail _ (.head _))))) (all_cons (.tail _ (.head _)) (all_cons (.tail _ (.tail _ (.head _))) (all_cons (.tail _ (.tail _ (.tail _ (.head _)))) all_nil))))), h1469, h1470, h1471, h1472, ne1332, (ne_of_none h1326 n1337).symm, ((hideL_out (ni4 (b_ne q_levels S1467 (.tail _ (.tail _ (.tail _ (.tail _ (.head _)))))) (b_ne q_levels S1467 (.tail _ (.head _))) (b_ne q_levels S1467 (.tail _ (.tail _ (.head _)))) (b_ne q_levels S1467 (.tail _ (.tail _ (.tail _ (.head _))))))).trans (S1467.bM _ _ q_levels)), cW_try hw (fun v1473 hw H1474 x1475 h1477 h1478 h1479 h1480  => ?_) ?_⟩
    · have S1476 := S1467.mut x1475 (all_cons (.tail _ (.tail _ (.tail _ (.tail _ (.head _))))) (all_cons (.tail _ (.head _)) (all_cons (.tail _ (.tail _ (.head _))) (all_cons (.tail _ (.tail _ (.tail _ (.head _)))) all_nil)))) (all_cons (some_ne h1477) (all_cons (some_ne h1478) (all_cons (some_ne h1479) (all_cons (some_ne h1480) all_nil))))
      have hw := cW_ok hw
      exact hK0 _ hw _ S1476.b0
    · intro e hm hw H1485 e1486
      have S1487 := S1467.same e1486
      obtain rfl := mem_one hm
      refine ⟨true, T.xm_BadData_BadData, fun _ a1488 na1489 => ?_, fun q => nomatch q⟩
      have h1490 := (e1486 _ _ h1470)
      have h1491 := (e1486 _ _ h1471)
      have h1492 := (e1486 _ _ h1472)
      refine ⟨_, rfl, _, rfl, _, _, _, rfl, h1490, rfl, rfl, rfl, G1455, _, _, _, _, v1357.enc, rfl, S1487.sG, (hide_nil h1490), (hide_nil h1491), (hide_nil h1492), cW_callN hw (fun v1493 hw p1496 H1494 n1497 e1495 h1498 => ?_) trivial⟩
      have h1499 : H1494 p1496 = some (.lst ((v1493 : (List Int)).map V.int)) := h1498
      have fr1500 := S1487.free n1497
      have S1501 := S1487.new n1497 e1495 h1499 fr1500
      obtain ⟨K1504, hK1505, hw⟩ := cW_push hw
      refine ⟨_, rfl, (by decide), (by decide), fun D1506 n1507 => lc_range (lo := 0) (n := Int.toNat (256)) (fun i1 H' => ∃ (G' : Hp) (acc1509 : (List Int)), Same G1455 G' ∧ Sep [] H G G' H' [D1506, x1310, l1322, l1323, x1335, p1459, p1496] ∧ H' x1310 = some (.ins AD.c_Encoder dx1311 [("_probabilities", V.ref l1322), ("_front", V.ref l1323), ("_low", V.int (v1357.enc.low)), ("_span", V.int (v1357.enc.span))]) ∧ H' l1322 = some (.lst ((v1357.enc.probs : (List Int)).map V.int)) ∧ H' l1323 = some (.lst ((v1357.enc.front : (List Int)).map V.int)) ∧ H' x1335 = some (.ins AD.c_SymbolWriter dx1336 [("_encoder", V.ref x1310)]) ∧ H' p1459 = some (.lst ([V.ref p1372, V.ref D1382])) ∧ H' p1496 = some (.lst ((v1493 : (List Int)).map V.int)) ∧ H' D1506 = some (.lst ((acc1509 : (List Int)).map V.int)) ∧ Same H1494 H' ∧ cW (mapA (List.drop i1 (rng (0) (Int.toNat (256)))) acc1509 (fun x => noEr (F__law_refused_c2 (v1357.enc) x))) K1504 EE) ?_ ?_ ?_⟩
      · generalize g1511 : upd H1494 D1506 _ = H1512
        obtain ⟨e1513, h1514⟩ := gen_new n1507 g1511
        have fr1515 := S1501.free n1507
        have S1516 := S1501.new n1507 e1513 h1514 fr1515
        have h1517 := (e1513 _ _ (e1495 _ _ h1490))
        have h1518 := (e1513 _ _ (e1495 _ _ h1491))
        have h1519 := (e1513 _ _ (e1495 _ _ h1492))
        have h1520 := (e1513 _ _ (e1495 _ _ (e1486 _ _ h1469)))
        have h1521 := (e1513 _ _ (e1495 _ _ (e1486 _ _ h1465)))
        have h1522 := (e1513 _ _ h1499)
        exact ⟨_, [], Same.refl _, (S1516.sub (all_cons (.head _) (all_cons (.tail _ (.tail _ (.tail _ (.head _)))) (all_cons (.tail _ (.tail _ (.tail _ (.tail _ (.head _))))) (all_cons (.tail _ (.tail _ (.tail _ (.tail _ (.tail _ (.head _)))))) (all_cons (.tail _ (.tail _ (.tail _ (.tail _ (.tail _ (.tail _ (.head _))))))) (all_cons (.tail _ (.tail _ (.head _))) (all_cons (.tail _ (.head _)) all_nil)))))))), h1517, h1518, h1519, h1520, h1521, h1522, h1514, e1513, hw⟩
      · intro i1 H1523 hi hw
        obtain ⟨G1526, acc1528, eG1527, S1524, h1535, h1536, h1537, h1538, h1539, h1540, h1525, eo1534, hw⟩ := hw
        obtain ⟨z1541, hw⟩ := cW_mapA (rng_get hi) hw
        generalize (0 + (i1 : Int)) = x1542 at hw ⊢
        have hw := cW_noEr hw
        have hw : cW (F__law_refused_c2 (v1357.enc) (x1542)) _ (fun _ => False) := hw
        unfold F__law_refused_c2 at hw
        refine ⟨rfl, ?_⟩
        refine tyes_go ?_
        refine ⟨_, rfl, _, _, _, rfl, h1535, rfl, _, rfl, rfl, rfl, G1526, _, _, _, _, v1357.enc, _, rfl, S1524.sG, (hide_nil h1535), (hide_nil h1536), (hide_nil h1537), cW_call hw (fun v1544 hw H1545 e1546 => ?_) (fun e he => he.elim)⟩
        have S1547 := S1524.same e1546
        have h1548 := (e1546 _ _ h1525)
        refine ⟨_, h1548, (app_lenM z1541), ?_⟩
        generalize g1549 : upd H1545 D1506 _ = H1550
        obtain ⟨x1551, h1552⟩ := gen_mut g1549
        have S1553 := S1547.mut1 x1551 (.head _) h1552
        have hw := cW_ok hw
        have h1554 := (x1551 _ _ (e1546 _ _ h1535) (ne_of_none (e1495 _ _ h1490) n1507))
        have h1555 := (x1551 _ _ (e1546 _ _ h1536) (ne_of_none (e1495 _ _ h1491) n1507))
        have h1556 := (x1551 _ _ (e1546 _ _ h1537) (ne_of_none (e1495 _ _ h1492) n1507))
        have h1557 := (x1551 _ _ (e1546 _ _ h1538) (ne_of_none (e1495 _ _ (e1486 _ _ h1469)) n1507))
        have h1558 := (x1551 _ _ (e1546 _ _ h1539) (ne_of_none (e1495 _ _ (e1486 _ _ h1465)) n1507))
        have h1559 := (x1551 _ _ (e1546 _ _ h1540) (ne_of_none h1499 n1507))
        exact ⟨_, (acc1528 ++ [v1544]), eG1527, S1553, h1554, h1555, h1556, h1557, h1558, h1559, (snoc_map h1552), (same_mut (Same.trans eo1534 e1546) x1551 n1507), hw⟩
      intro H1560 hw
      obtain ⟨G1563, acc1565, eG1564, S1561, h1572, h1573, h1574, h1575, h1576, h1577, h1562, eo1571, hw⟩ := hw
      have hw := hK1505 _ (cW_mapA0 (rng_len _ _).symm hw)
      have fr1578 := S1501.free n1507
      obtain ⟨G1579, eG1580, hg1581, S1582⟩ := Sep.freeze (O' := [D1506, x1310, l1322, l1323, x1335, p1459]) S1561 (.tail _ (.tail _ (.tail _ (.tail _ (.tail _ (.tail _ (.head _))))))) h1577 fr1500 ((all_cons ⟨(.head _), (ne_of_none h1499 n1507).symm⟩ (all_cons ⟨(.tail _ (.head _)), (ne_of_none h1490 n1497)⟩ (all_cons ⟨(.tail _ (.tail _ (.head _))), (ne_of_none h1491 n1497)⟩ (all_cons ⟨(.tail _ (.tail _ (.tail _ (.head _)))), (ne_of_none h1492 n1497)⟩ (all_cons ⟨(.tail _ (.tail _ (.tail _ (.tail _ (.head _))))), (ne_of_none (e1486 _ _ h1469) n1497)⟩ (all_cons ⟨(.tail _ (.tail _ (.tail _ (.tail _ (.tail _ (.head _)))))), (ne_of_none (e1486 _ _ h1465) n1497)⟩ all_nil)))))))
      obtain ⟨G1583, eG1584, hg1585, S1586⟩ := Sep.freeze (O' := [x1310, l1322, l1323, x1335, p1459]) S1582 (.head _) h1562 fr1578 ((all_cons ⟨(.tail _ (.head _)), (ne_of_none (e1495 _ _ h1490) n1507)⟩ (all_cons ⟨(.tail _ (.tail _ (.head _))), (ne_of_none (e1495 _ _ h1491) n1507)⟩ (all_cons ⟨(.tail _ (.tail _ (.tail _ (.head _)))), (ne_of_none (e1495 _ _ h1492) n1507)⟩ (all_cons ⟨(.tail _ (.tail _ (.tail _ (.tail _ (.head _))))), (ne_of_none (e1495 _ _ (e1486 _ _ h1469)) n1507)⟩ (all_cons ⟨(.tail _ (.tail _ (.tail _ (.tail _ (.tail _ (.head _)))))), (ne_of_none (e1495 _ _ (e1486 _ _ h1465)) n1507)⟩ all_nil))))))
      refine ⟨(by show 2 ≤ sizeLine; decide), fun p1587 n1588 => ?_⟩
      generalize g1589 : upd H1560 p1587 _ = H1590
      obtain ⟨e1591, h1592⟩ := gen_new n1588 g1589
      have h1593 : H1590 p1587 = some (.lst ([V.ref p1496, V.ref D1506])) := h1592
      have fr1594 := S1586.free n1588
      have S1595 := S1586.new n1588 e1591 h1593 fr1594
      have d1596 : RpAll G1583 ([V.ref p1496, V.ref D1506]) (([v1493, acc1565] : (List (List Int))).map (encL PyData.int)) := (RpAll.cons (rp_mk_ints (eG1584 _ _ hg1581)) (RpAll.cons (rp_mk_ints hg1585) RpAll.nil))
      have h1597 := (e1591 _ _ h1576)
      refine ⟨_, _, (rp_mk_list h1597 (RpAll.mono S1595.sG (RpAll.mono eG1584 (RpAll.mono eG1580 (RpAll.mono eG1564 d1468))))), (rp_mk_list h1593 (RpAll.mono S1595.sG d1596)), ?_⟩
      have hw := cW_bnd hw
      refine ⟨_, rfl, _, rfl, ?_⟩
      refine iteB (fun c1599 => ?_) (fun c1599 => ?_)
      · have hw := cW_pos c1599 hw
        refine ⟨_, rfl, _, _, _, rfl, rfl, T.xc_BadData, rfl, T.xo_BadData_CodecError, _, rfl, ?_⟩
        refine iteT ?_
        refine ⟨_, rfl, _, _, _, rfl, rfl, T.xc_BadData, rfl, T.xn_BadData_OutOfRange, _, rfl, ?_⟩
        have hw := cW_ok hw
        exact hK0 _ hw _ S1595.b0
      · have hw := cW_negB c1599 hw
        have hw := cW_ok hw
        exact hK0 _ hw _ S1595.b0

abbrev N_check_size : List Str := ["size"]
theorem sc_check_size : FnScope N_check_size ["size"] (defScope s_check_size) := ⟨rfl, rfl, rfl, by decide +kernel, rfl, by decide +kernel, by decide +kernel⟩
theorem ok_check_size (D : DefX K mg "check_size" s_check_size ["size"] pats_check_size) (T : Txt w K mg AD)  : CalX P w K mg base 1 "check_size" (sp_check_size K AD) pats_check_size := by
  refine D.ok sc_check_size (fun vs H Q E h => ?_) (fun f cdv A_ outer s H vs Q E hr h => ?_)
  · obtain ⟨G, size', rfl, _⟩ := h
    rfl
  · obtain ⟨G, size', rfl, sG, hw⟩ := h
    refine ⟨_, (pss_one (ps_if (pt_cmpR (op_notInI (K := K)) (pv 0) (C8.pe_gc (v := V.ref AD.t_SIZES) rfl T.g_SIZES) (by with_unfolding_all rfl)) (pss_one (L2N.ps_raise rfl (L2N.takes_of rfl rfl rfl rfl) (L2N.pmk_own PySem.F.excBase_ValueError T.xx_OutOfRange T.xg_OutOfRange T.xk_OutOfRange (raises_own T.xb_OutOfRange T.xt_OutOfRange) rfl))) pss_nil)), ?_⟩
    obtain ⟨KK, EE, hK0, hE, hw⟩ := cW_gen hw
    have S0 := Sep.startG sG
    unfold F_check_size at hw
    refine ⟨_, rfl, _, _, ([4, 8] : List Int), rfl, rfl, (.inr (T.ts_SIZES _)), _, rfl, ?_⟩
    refine iteN (fun c1600 => ?_) (fun c1600 => ?_)
    · have hw := cW_neg c1600 hw
      exact hE 1 (cW_er hw)
    · have hw := cW_pos c1600 hw
      have hw := cW_ok hw
      exact hK0 _ hw

abbrev N__get_places : List Str := ["reader", "count", "places", "stride", "place"]
theorem sc__get_places : FnScope N__get_places ["reader", "count"] (defScope s__get_places) := ⟨rfl, rfl, rfl, by decide +kernel, rfl, by decide +kernel, by decide +kernel⟩
theorem ok__get_places (D : DefX K mg "_get_places" s__get_places ["reader", "count"] pats__get_places) (T : Txt w K mg AD) (c_SymbolReader_flag : MetX P w K mg base 4 AD.c_SymbolReader "flag" (sp_SymbolReader_flag K AD) pats_SymbolReader_flag) : CalX P w K mg base 5 "_get_places" (sp__get_places K AD) pats__get_places := by
  refine D.ok sc__get_places (fun vs H Q E h => ?_) (fun f cdv A_ outer s H vs Q E hr h => ?_)
  · obtain ⟨G, p_reader, p_reader_dec, l_reader_dec_probs, l_reader_dec_octs, dx_reader, dx_reader_dec, reader', count', rfl, _⟩ := h
    rfl
  · obtain ⟨G, p_reader, p_reader_dec, l_reader_dec_probs, l_reader_dec_octs, dx_reader, dx_reader_dec, reader', count', rfl, sG, gM, h_p_reader, h_p_reader_dec, h_l_reader_dec_probs, h_l_reader_dec_octs, ne_reader_0, ne_reader_1, hw⟩ := h
    refine ⟨_, (pss_cons (ps_set (i := 2) sc__get_places.nd rfl (Or.inl rfl) (pe_lst pa_nil))
      (pss_cons (ps_set (i := 3) sc__get_places.nd rfl (Or.inl rfl) (pe_op op_fdivW (C8.pe_gc rfl T.g_CLASSES) (pv 1)))
      (pss_cons (ps_for (passes_of rfl) rfl (pi_range1 rfl T.b_range (pa_cons (pe_op op_sub (pv 1) pe_int) pa_nil)) (pg_name (i := 4) sc__get_places.nd rfl (Or.inl rfl)) (pss_one (ps_if (pt_val (vx_methX c_SymbolReader_flag pat_SymbolReader_flag_0 (.head _) hr (by decide) (L2N.takes_of rfl rfl rfl rfl) (pv 0) (pa_cons (pe_op op_add (C8.pe_gc rfl T.g_SIGNIFICANT) (pe_op op_mul (pv 3) (pv 4))) pa_nil) pk_nil)) (pss_cons (ps_expr (pe_bm PySem.F.plainAttrs_list PySem.F.slot_list_append PySem.F.type_list_append mt_append (pv 2) (pa_cons (pv 4) pa_nil)))
      (pss_one (ps_if (pt_val (vx_methX c_SymbolReader_flag pat_SymbolReader_flag_0 (.head _) hr (by decide) (L2N.takes_of rfl rfl rfl rfl) (pv 0) (pa_cons (pe_op op_add (C8.pe_gc rfl T.g_LAST) (pe_op op_mul (pv 3) (pv 4))) pa_nil) pk_nil)) (pss_one (ps_ret (pv 2))) pss_nil))) pss_nil)))
      (pss_one (ps_ret (pe_op op_cat (pv 2) (pe_lst (pa_cons (pe_op op_sub (pv 1) pe_int) pa_nil)))))))), ?_⟩
    obtain ⟨KK, EE, hK0, hE, hw⟩ := cW_gen hw
    have S0 := Sep.startM (M := [p_reader, p_reader_dec, l_reader_dec_probs, l_reader_dec_octs]) sG (all_cons (some_ne h_p_reader) (all_cons (some_ne h_p_reader_dec) (all_cons (some_ne h_l_reader_dec_probs) (all_cons (some_ne h_l_reader_dec_octs) all_nil)))) gM
    unfold F__get_places at hw
    refine ⟨(by show 0 ≤ sizeLine; decide), fun p1601 n1602 => ?_⟩
    generalize g1603 : upd H p1601 _ = H1604
    obtain ⟨e1605, h1606⟩ := gen_new n1602 g1603
    have h1607 : H1604 p1601 = some (.lst ((([] : (List Int)) : (List Int)).map V.int)) := h1606
    have fr1608 := S0.free n1602
    have S1609 := S0.new n1602 e1605 h1607 fr1608
    obtain ⟨g1610, hw⟩ := cW_grd hw
    refine ⟨_, rfl, _, _, rfl, rfl, (divW_small g1610.1 g1610.2), ?_⟩
    have hw := cW_bnd hw
    obtain ⟨g1612, hw⟩ := cW_grd hw
    obtain ⟨K1615, hK1616, hw⟩ := cW_push hw
    refine ⟨_, rfl, _, _, rfl, rfl, _, rfl, g1612.1, g1612.2, for_range (lo := 0) (n := Int.toNat ((count' - 1))) (fun i σ H' => ∃ (reader_1617 : St_SymbolReader) (places_1618 : (List Int)) (u1619 : Option V) (G' : Hp), σ = [some (V.ref p_reader), some (V.int (count')), some (V.ref p1601), some (V.int ((64 / count'))), u1619] ∧ Same G G' ∧ Sep [p_reader, p_reader_dec, l_reader_dec_probs, l_reader_dec_octs] H G G' H' [p_reader, p_reader_dec, l_reader_dec_probs, l_reader_dec_octs, p1601] ∧ H' p_reader = some (.ins AD.c_SymbolReader dx_reader [("_decoder", V.ref p_reader_dec)]) ∧ H' p_reader_dec = some (.ins AD.c_Decoder dx_reader_dec [("_probabilities", V.ref l_reader_dec_probs), ("_octets", V.ref l_reader_dec_octs), ("_place", V.int (reader_1617.dec.place)), ("_span", V.int (reader_1617.dec.span)), ("_value", V.int (reader_1617.dec.value))]) ∧ H' l_reader_dec_probs = some (.lst ((reader_1617.dec.probs : (List Int)).map V.int)) ∧ H' l_reader_dec_octs = some (.lst ((reader_1617.dec.octs : (List Int)).map V.int)) ∧ H' p1601 = some (.lst ((places_1618 : (List Int)).map V.int)) ∧ cW (forR (List.drop i (rng (0) (Int.toNat ((count' - 1))))) (reader_1617, places_1618) (fun s x => F__get_places_b1 ((64 / count')) (s.1) (s.2) x)) K1615 EE) ?_ ?_ ?_⟩
    · have h1620 := (e1605 _ _ h_p_reader)
      have h1621 := (e1605 _ _ h_p_reader_dec)
      have h1622 := (e1605 _ _ h_l_reader_dec_probs)
      have h1623 := (e1605 _ _ h_l_reader_dec_octs)
      exact ⟨(reader'), (([] : (List Int))), _, _, rfl, (Same.refl _), (S1609.sub (all_cons (.tail _ (.head _)) (all_cons (.tail _ (.tail _ (.head _))) (all_cons (.tail _ (.tail _ (.tail _ (.head _)))) (all_cons (.tail _ (.tail _ (.tail _ (.tail _ (.head _))))) (all_cons (.head _) all_nil)))))), h1620, h1621, h1622, h1623, h1607, hw⟩
    · intro i σ H1624 hi hw
      obtain ⟨reader_1617, places_1618, u1619, G1631, rfl, eG1632, S1625, h1626, h1627, h1628, h1629, h1630, hw⟩ := hw
      have hw := cW_forR (rng_get hi) hw
      generalize (0 + (i : Int)) = x1633 at hw ⊢
      have hw : cW (F__get_places_b1 ((64 / count')) (reader_1617) (places_1618) (x1633)) _ EE := hw
      unfold F__get_places_b1 at hw
      obtain ⟨K1636, hK1637, hw⟩ := cW_name hw
      obtain ⟨g1639, hw⟩ := cW_grd hw
      refine ⟨_, rfl, _, _, _, rfl, h1626, rfl, _, rfl, _, rfl, _, _, rfl, rfl, g1639, _, _, rfl, rfl, rfl, rfl, G1631, _, _, _, _, _, _, reader_1617, _, rfl, S1625.sG, (S1625.gno (all_cons (.head _) (all_cons (.tail _ (.head _)) (all_cons (.tail _ (.tail _ (.head _))) (all_cons (.tail _ (.tail _ (.tail _ (.head _)))) all_nil))))), h1626, h1627, h1628, h1629, ne_reader_0, ne_reader_1, cW_callN hw (fun v1640 hw H1641 x1642 h1644 h1645 h1646 h1647  => ?_) trivial⟩
      have S1643 := S1625.mut x1642 (all_cons (.head _) (all_cons (.tail _ (.head _)) (all_cons (.tail _ (.tail _ (.head _))) (all_cons (.tail _ (.tail _ (.tail _ (.head _)))) all_nil)))) (all_cons (some_ne h1644) (all_cons (some_ne h1645) (all_cons (some_ne h1646) (all_cons (some_ne h1647) all_nil))))
      refine ⟨_, rfl, ?_⟩
      refine iteB (fun c1652 => ?_) (fun c1652 => ?_)
      · have hw := cW_pos c1652 hw
        have h1653 := (x1642 _ _ h1630 (ni4 (ne_of_none h_p_reader n1602).symm (ne_of_none h_p_reader_dec n1602).symm (ne_of_none h_l_reader_dec_probs n1602).symm (ne_of_none h_l_reader_dec_octs n1602).symm))
        obtain ⟨g1654, hw⟩ := cW_grd hw
        refine ⟨_, rfl, (.inl ⟨rfl, _, SqL.of h1653⟩), _, rfl, _, _, _, rfl, rfl, h1653, (app_lenM g1654), ?_⟩
        generalize g1655 : upd H1641 p1601 _ = H1656
        obtain ⟨x1657, h1658⟩ := gen_mut g1655
        have h1659 : H1656 p1601 = some (.lst (((places_1618) ++ [x1633] : (List Int)).map V.int)) := snoc_map h1658
        have S1660 := S1643.mut1 x1657 (.tail _ (.tail _ (.tail _ (.tail _ (.head _))))) h1659
        have hw := cW_bnd hw
        have h1662 := (x1657 _ _ h1644 (ne_of_none h_p_reader n1602))
        obtain ⟨g1663, hw⟩ := cW_grd hw
        have h1664 := (x1657 _ _ h1645 (ne_of_none h_p_reader_dec n1602))
        have h1665 := (x1657 _ _ h1646 (ne_of_none h_l_reader_dec_probs n1602))
        have h1666 := (x1657 _ _ h1647 (ne_of_none h_l_reader_dec_octs n1602))
        refine ⟨_, rfl, _, _, _, rfl, h1662, rfl, _, rfl, _, rfl, _, _, rfl, rfl, g1663, _, _, rfl, rfl, rfl, rfl, G1631, _, _, _, _, _, _, v1640.2, _, rfl, S1660.sG, (S1660.gno (all_cons (.head _) (all_cons (.tail _ (.head _)) (all_cons (.tail _ (.tail _ (.head _))) (all_cons (.tail _ (.tail _ (.tail _ (.head _)))) all_nil))))), h1662, h1664, h1665, h1666, ne_reader_0, ne_reader_1, cW_callN hw (fun v1667 hw H1668 x1669 h1671 h1672 h1673 h1674  => ?_) trivial⟩
        have S1670 := S1660.mut x1669 (all_cons (.head _) (all_cons (.tail _ (.head _)) (all_cons (.tail _ (.tail _ (.head _))) (all_cons (.tail _ (.tail _ (.tail _ (.head _)))) all_nil)))) (all_cons (some_ne h1671) (all_cons (some_ne h1672) (all_cons (some_ne h1673) (all_cons (some_ne h1674) all_nil))))
        refine ⟨_, rfl, ?_⟩
        refine iteB (fun c1679 => ?_) (fun c1679 => ?_)
        · have hw := cW_pos c1679 hw
          refine ⟨_, rfl, ?_⟩
          have h1680 := (x1669 _ _ h1659 (ni4 (ne_of_none h_p_reader n1602).symm (ne_of_none h_p_reader_dec n1602).symm (ne_of_none h_l_reader_dec_probs n1602).symm (ne_of_none h_l_reader_dec_octs n1602).symm))
          have hw := cW_ok hw
          have hw := hK1637 (.rt _) hw
          have hw := hK1616 (.rt _) hw
          have hw := cW_ok hw
          exact hK0 _ hw _ S1670.base h1671 h1672 h1673 h1674 _ fr1608 h1680
        · have hw := cW_negB c1679 hw
          have hw := cW_ok hw
          have hw := hK1637 _ hw
          have h1681 := (x1669 _ _ h1659 (ni4 (ne_of_none h_p_reader n1602).symm (ne_of_none h_p_reader_dec n1602).symm (ne_of_none h_l_reader_dec_probs n1602).symm (ne_of_none h_l_reader_dec_octs n1602).symm))
          exact ⟨(v1667.2), ((places_1618) ++ [x1633]), _, _, rfl, eG1632, S1670, h1671, h1672, h1673, h1674, h1681, hw⟩
      · have hw := cW_negB c1652 hw
        have hw := cW_ok hw
        have hw := hK1637 _ hw
        have h1682 := (x1642 _ _ h1630 (ni4 (ne_of_none h_p_reader n1602).symm (ne_of_none h_p_reader_dec n1602).symm (ne_of_none h_l_reader_dec_probs n1602).symm (ne_of_none h_l_reader_dec_octs n1602).symm))
        exact ⟨(v1640.2), (places_1618), _, _, rfl, eG1632, S1643, h1644, h1645, h1646, h1647, h1682, hw⟩
    · intro σ H1683 hw
      obtain ⟨reader_1617, places_1618, u1619, G1690, rfl, eG1691, S1684, h1685, h1686, h1687, h1688, h1689, hw⟩ := hw
      have hw := cW_aftgo (hK1616 _ (cW_forR0 (rng_len _ _).symm hw))
      have hw : cW (F__get_places_r1 (count') (reader_1617) (places_1618)) _ EE := hw
      unfold F__get_places_r1 at hw
      refine ⟨_, rfl, _, rfl, _, _, rfl, rfl, (by show 1 ≤ sizeLine; decide), fun p1694 n1695 => ?_⟩
      generalize g1696 : upd H1683 p1694 _ = H1697
      obtain ⟨e1698, h1699⟩ := gen_new n1695 g1696
      have h1700 : H1697 p1694 = some (.lst (([(count' - 1)] : (List Int)).map V.int)) := h1699
      have fr1701 := S1684.free n1695
      have S1702 := S1684.new n1695 e1698 h1700 fr1701
      obtain ⟨g1703, hw⟩ := cW_grd hw
      have h1704 := (e1698 _ _ h1689)
      refine ⟨_, _, _, _, rfl, rfl, h1704, h1700, (cat_lenM g1703), fun p1705 n1706 => ?_⟩
      generalize g1707 : upd H1697 p1705 _ = H1708
      obtain ⟨e1709, h1710⟩ := gen_new n1706 g1707
      have h1711 : H1708 p1705 = some (.lst (((places_1618) ++ ([(count' - 1)]) : (List Int)).map V.int)) := cat_map h1710
      have fr1712 := S1702.free n1706
      have S1713 := S1702.new n1706 e1709 h1711 fr1712
      have h1714 := (e1709 _ _ (e1698 _ _ h1685))
      have h1715 := (e1709 _ _ (e1698 _ _ h1686))
      have h1716 := (e1709 _ _ (e1698 _ _ h1687))
      have h1717 := (e1709 _ _ (e1698 _ _ h1688))
      have hw := cW_ok hw
      exact hK0 _ hw _ S1713.base h1714 h1715 h1716 h1717 _ fr1712 h1711

abbrev N_clip : List Str := ["value", "low", "high"]
theorem sc_clip : FnScope N_clip ["value", "low", "high"] (defScope s_clip) := ⟨rfl, rfl, rfl, by decide +kernel, rfl, by decide +kernel, by decide +kernel⟩
theorem ok_clip (D : DefX K mg "clip" s_clip ["value", "low", "high"] pats_clip) (T : Txt w K mg AD)  : CalX P w K mg base 1 "clip" (sp_clip K AD) pats_clip := by
  refine D.ok sc_clip (fun vs H Q E h => ?_) (fun f cdv A_ outer s H vs Q E hr h => ?_)
  · obtain ⟨G, value', low', high', rfl, _⟩ := h
    rfl
  · obtain ⟨G, value', low', high', rfl, sG, hw⟩ := h
    refine ⟨_, (pss_one (ps_ret (pe_callB (call_min2 rfl) (by rfl) T.b_min (by decide +kernel) (pa_cons (pe_callB (call_max2 rfl) (by rfl) T.b_max (by decide +kernel) (pa_cons (pv 0) (pa_cons (pv 1) pa_nil))) (pa_cons (pv 2) pa_nil))))), ?_⟩
    obtain ⟨KK, EE, hK0, hE, hw⟩ := cW_gen hw
    have S0 := Sep.startG sG
    unfold F_clip at hw
    refine ⟨_, rfl, _, rfl, _, _, rfl, _, rfl, _, _, rfl, ?_⟩
    have hw := cW_ok hw
    exact hK0 _ hw

abbrev N_get_levels : List Str := ["reader", "size", "levels", "places", "base", "place", "worth", "level"]
theorem sc_get_levels : FnScope N_get_levels ["reader", "size"] (defScope s_get_levels) := ⟨rfl, rfl, rfl, by decide +kernel, rfl, by decide +kernel, by decide +kernel⟩
theorem ok_get_levels (D : DefX K mg "get_levels" s_get_levels ["reader", "size"] pats_get_levels) (T : Txt w K mg AD) (c_check_size : CalX P w K mg base 1 "check_size" (sp_check_size K AD) pats_check_size) (c__get_places : CalX P w K mg base 5 "_get_places" (sp__get_places K AD) pats__get_places) (c_SymbolReader_number : MetX P w K mg base 5 AD.c_SymbolReader "number" (sp_SymbolReader_number K AD) pats_SymbolReader_number) (c_SymbolReader_even : MetX P w K mg base 4 AD.c_SymbolReader "even" (sp_SymbolReader_even K AD) pats_SymbolReader_even) (c_clip : CalX P w K mg base 1 "clip" (sp_clip K AD) pats_clip) (c__base_after : CalX P w K mg base 1 "_base_after" (sp__base_after K AD) pats__base_after) : CalX P w K mg base 6 "get_levels" (sp_get_levels K AD) pats_get_levels := by
  refine D.ok sc_get_levels (fun vs H Q E h => ?_) (fun f cdv A_ outer s H vs Q E hr h => ?_)
  · obtain ⟨G, p_reader, p_reader_dec, l_reader_dec_probs, l_reader_dec_octs, dx_reader, dx_reader_dec, reader', size', rfl, _⟩ := h
    rfl
  · obtain ⟨G, p_reader, p_reader_dec, l_reader_dec_probs, l_reader_dec_octs, dx_reader, dx_reader_dec, reader', size', rfl, sG, gM, h_p_reader, h_p_reader_dec, h_l_reader_dec_probs, h_l_reader_dec_octs, ne_reader_0, ne_reader_1, hw⟩ := h
    refine ⟨_, (pss_cons (ps_expr (vx_callX c_check_size pat_check_size_0 (.head _) hr (by decide) (L2N.takes_of rfl rfl rfl rfl) rfl (pa_cons (pv 1) pa_nil) pk_nil))
      (pss_cons (ps_set (i := 2) sc_get_levels.nd rfl (Or.inl rfl) (pe_op op_rep (pe_lst (pa_cons pe_int pa_nil)) (pe_op op_mul (pv 1) (pv 1))))
      (pss_cons (ps_set (i := 3) sc_get_levels.nd rfl (Or.inl rfl) (vx_callX c__get_places pat__get_places_0 (.head _) hr (by decide) (L2N.takes_of rfl rfl rfl rfl) rfl (pa_cons (pv 0) (pa_cons (pe_op op_mul (pv 1) (pv 1)) pa_nil)) pk_nil))
      (pss_cons (ps_set (i := 4) sc_get_levels.nd rfl (Or.inl rfl) (C8.pe_gc rfl T.g_LEVEL))
      (pss_cons (ps_for (passes_of rfl) rfl (pi_revK (K := K) rfl T.b_reversed (pa_cons (pv 3) pa_nil)) (pg_name (i := 5) sc_get_levels.nd rfl (Or.inl rfl)) (pss_cons (ps_set (i := 6) sc_get_levels.nd rfl (Or.inl rfl) (pe_op op_add (vx_methX c_SymbolReader_number pat_SymbolReader_number_0 (.head _) hr (by decide) (L2N.takes_of rfl rfl rfl rfl) (pv 0) (pa_cons (pv 4) pa_nil) pk_nil) pe_int))
      (pss_cons (ps_set (i := 7) sc_get_levels.nd rfl (Or.inl rfl) (pe_ifExp (pt_cmp (pc_eqI (vx_methX0 c_SymbolReader_even pat_SymbolReader_even_0 (.head _) hr (by decide) (L2N.takes_of rfl rfl rfl rfl) (pv 0)) pe_int)) (pe_un un_neg (pv 6)) (pv 6)))
      (pss_cons (ps_asg (vx_callX c_clip pat_clip_0 (.head _) hr (by decide) (L2N.takes_of rfl rfl rfl rfl) rfl (pa_cons (pv 7) (pa_cons (C8.pe_gc rfl T.g_LEAST_LEVEL) (pa_cons (C8.pe_gc rfl T.g_GREATEST_LEVEL) pa_nil))) pk_nil) (pg_sub (pv 2) (pv 5) set_list))
      (pss_one (ps_set (i := 4) sc_get_levels.nd rfl (Or.inl rfl) (vx_callX c__base_after pat__base_after_0 (.head _) hr (by decide) (L2N.takes_of rfl rfl rfl rfl) rfl (pa_cons (pv 4) (pa_cons (pv 6) pa_nil)) pk_nil)))))))
      (pss_one (ps_ret (pv 2)))))))), ?_⟩
    obtain ⟨KK, EE, hK0, hE, hw⟩ := cW_gen hw
    have S0 := Sep.startM (M := [p_reader, p_reader_dec, l_reader_dec_probs, l_reader_dec_octs]) sG (all_cons (some_ne h_p_reader) (all_cons (some_ne h_p_reader_dec) (all_cons (some_ne h_l_reader_dec_probs) (all_cons (some_ne h_l_reader_dec_octs) all_nil)))) gM
    unfold F_get_levels at hw
    refine ⟨_, rfl, rfl, rfl, G, _, rfl, S0.sG, cW_call hw (fun v1718 hw => ?_) (fun e he => hE e he _ (Same.refl _))⟩
    refine ⟨(by show 1 ≤ sizeLine; decide), fun p1719 n1720 => ?_⟩
    generalize g1721 : upd H p1719 _ = H1722
    obtain ⟨e1723, h1724⟩ := gen_new n1720 g1721
    have h1725 : H1722 p1719 = some (.lst (([0] : (List Int)).map V.int)) := h1724
    have fr1726 := S0.free n1720
    have S1727 := S0.new n1720 e1723 h1725 fr1726
    obtain ⟨g1728, hw⟩ := cW_grd hw
    obtain ⟨g1729, hw⟩ := cW_grd hw
    refine ⟨_, rfl, _, rfl, _, _, rfl, rfl, g1728, _, _, _, rfl, rfl, h1725, g1729.1, g1729.2.1, (rep_lenM g1729.2.2), fun p1730 n1731 => ?_⟩
    generalize g1732 : upd H1722 p1730 _ = H1733
    obtain ⟨e1734, h1735⟩ := gen_new n1731 g1732
    have h1736 : H1733 p1730 = some (.lst ((repL ([0]) ((size' * size')) : (List Int)).map V.int)) := rep_map h1735
    have fr1737 := S1727.free n1731
    have S1738 := S1727.new n1731 e1734 h1736 fr1737
    obtain ⟨g1739, hw⟩ := cW_grd hw
    have h1740 := (e1734 _ _ (e1723 _ _ h_p_reader))
    have h1741 := (e1734 _ _ (e1723 _ _ h_p_reader_dec))
    have h1742 := (e1734 _ _ (e1723 _ _ h_l_reader_dec_probs))
    have h1743 := (e1734 _ _ (e1723 _ _ h_l_reader_dec_octs))
    refine ⟨_, rfl, _, rfl, _, rfl, _, _, rfl, rfl, g1739, rfl, rfl, G, _, _, _, _, _, _, reader', _, rfl, S1738.sG, (S1738.gno (all_cons (.tail _ (.tail _ (.head _))) (all_cons (.tail _ (.tail _ (.tail _ (.head _)))) (all_cons (.tail _ (.tail _ (.tail _ (.tail _ (.head _))))) (all_cons (.tail _ (.tail _ (.tail _ (.tail _ (.tail _ (.head _)))))) all_nil))))), h1740, h1741, h1742, h1743, ne_reader_0, ne_reader_1, cW_call hw (fun v1744 hw H1745 x1746 h1748 h1749 h1750 h1751 p1752 n1753 h1754 => ?_) (fun e he H2 e2 => hE e he H2 (Same.trans (Same.trans e1723 e1734) e2))⟩
    have fr1755 := S1738.free n1753
    have S1747 := S1738.mutnew x1746 (all_cons (.tail _ (.tail _ (.head _))) (all_cons (.tail _ (.tail _ (.tail _ (.head _)))) (all_cons (.tail _ (.tail _ (.tail _ (.tail _ (.head _))))) (all_cons (.tail _ (.tail _ (.tail _ (.tail _ (.tail _ (.head _)))))) all_nil)))) (all_cons (some_ne h1748) (all_cons (some_ne h1749) (all_cons (some_ne h1750) (all_cons (some_ne h1751) all_nil)))) n1753 (some_ne h1754) fr1755
    obtain ⟨K1756, hK1757, hw⟩ := cW_push hw
    refine ⟨_, rfl, _, _, rfl, (SqL.of h1754), for_revI (K := K) (a := p1752) (xs := v1744.1) (fun i σ H' => ∃ (reader_1758 : St_SymbolReader) (levels_1759 : (List Int)) (base_1760 : Int) (u1761 : Option V) (u1762 : Option V) (u1763 : Option V) (G' : Hp), σ = [some (V.ref p_reader), some (V.int (size')), some (V.ref p1730), some (V.ref p1752), some (V.int base_1760), u1761, u1762, u1763] ∧ Same G G' ∧ Sep [p_reader, p_reader_dec, l_reader_dec_probs, l_reader_dec_octs] H G G' H' [p_reader, p_reader_dec, l_reader_dec_probs, l_reader_dec_octs, p1730, p1752] ∧ H' p_reader = some (.ins AD.c_SymbolReader dx_reader [("_decoder", V.ref p_reader_dec)]) ∧ H' p_reader_dec = some (.ins AD.c_Decoder dx_reader_dec [("_probabilities", V.ref l_reader_dec_probs), ("_octets", V.ref l_reader_dec_octs), ("_place", V.int (reader_1758.dec.place)), ("_span", V.int (reader_1758.dec.span)), ("_value", V.int (reader_1758.dec.value))]) ∧ H' l_reader_dec_probs = some (.lst ((reader_1758.dec.probs : (List Int)).map V.int)) ∧ H' l_reader_dec_octs = some (.lst ((reader_1758.dec.octs : (List Int)).map V.int)) ∧ H' p1730 = some (.lst ((levels_1759 : (List Int)).map V.int)) ∧ H' p1752 = some (.lst ((v1744.1).map V.int)) ∧ cW (forS (List.drop i ((List.reverse (v1744.1 : List Int)))) (reader_1758, levels_1759, base_1760) (fun s x => F_get_levels_b1  (s.1) (s.2.1) (s.2.2) x)) K1756 EE) ?_ ?_ ?_ ?_⟩
    · have h1764 := (x1746 _ _ h1736 (ni4 (ne_of_none (e1723 _ _ h_p_reader) n1731).symm (ne_of_none (e1723 _ _ h_p_reader_dec) n1731).symm (ne_of_none (e1723 _ _ h_l_reader_dec_probs) n1731).symm (ne_of_none (e1723 _ _ h_l_reader_dec_octs) n1731).symm))
      exact ⟨(v1744.2), (repL ([0]) ((size' * size'))), (192), _, _, _, _, rfl, (Same.refl _), (S1747.sub (all_cons (.tail _ (.tail _ (.tail _ (.head _)))) (all_cons (.tail _ (.tail _ (.tail _ (.tail _ (.head _))))) (all_cons (.tail _ (.tail _ (.tail _ (.tail _ (.tail _ (.head _)))))) (all_cons (.tail _ (.tail _ (.tail _ (.tail _ (.tail _ (.tail _ (.head _))))))) (all_cons (.tail _ (.head _)) (all_cons (.head _) all_nil))))))), h1748, h1749, h1750, h1751, h1764, h1754, hw⟩
    · intro i σ H1765 _ hw
      obtain ⟨reader_1758, levels_1759, base_1760, u1761, u1762, u1763, G1773, rfl, eG1774, S1766, h1767, h1768, h1769, h1770, h1771, h1772, hw⟩ := hw
      exact (SqL.of h1772)
    · intro i x σ H1775 hj hw
      obtain ⟨reader_1758, levels_1759, base_1760, u1761, u1762, u1763, G1783, rfl, eG1784, S1776, h1777, h1778, h1779, h1780, h1781, h1782, hw⟩ := hw
      obtain ⟨x1785, hx, rfl⟩ := map_get hj
      have hw := cW_forS hx hw
      have hw : cW (F_get_levels_b1  (reader_1758) (levels_1759) (base_1760) (x1785)) _ EE := hw
      unfold F_get_levels_b1 at hw
      obtain ⟨K1789, hK1790, hw⟩ := cW_name hw
      refine ⟨_, rfl, _, _, _, rfl, h1777, rfl, _, rfl, rfl, rfl, G1783, _, _, _, _, _, _, reader_1758, _, rfl, S1776.sG, (S1776.gno (all_cons (.head _) (all_cons (.tail _ (.head _)) (all_cons (.tail _ (.tail _ (.head _))) (all_cons (.tail _ (.tail _ (.tail _ (.head _)))) all_nil))))), h1777, h1778, h1779, h1780, ne_reader_0, ne_reader_1, cW_callN hw (fun v1792 hw H1793 x1794 h1796 h1797 h1798 h1799  => ?_) trivial⟩
      have S1795 := S1776.mut x1794 (all_cons (.head _) (all_cons (.tail _ (.head _)) (all_cons (.tail _ (.tail _ (.head _))) (all_cons (.tail _ (.tail _ (.tail _ (.head _)))) all_nil)))) (all_cons (some_ne h1796) (all_cons (some_ne h1797) (all_cons (some_ne h1798) (all_cons (some_ne h1799) all_nil))))
      refine ⟨_, _, rfl, rfl, ?_⟩
      have hw := cW_bnd hw
      refine ⟨_, rfl, _, _, _, rfl, h1796, rfl, rfl, rfl, G1783, _, _, _, _, _, _, v1792.2, rfl, S1795.sG, (S1795.gno (all_cons (.head _) (all_cons (.tail _ (.head _)) (all_cons (.tail _ (.tail _ (.head _))) (all_cons (.tail _ (.tail _ (.tail _ (.head _)))) all_nil))))), h1796, h1797, h1798, h1799, ne_reader_0, ne_reader_1, cW_callN hw (fun v1805 hw H1806 x1807 h1809 h1810 h1811 h1812  => ?_) trivial⟩
      have S1808 := S1795.mut x1807 (all_cons (.head _) (all_cons (.tail _ (.head _)) (all_cons (.tail _ (.tail _ (.head _))) (all_cons (.tail _ (.tail _ (.tail _ (.head _)))) all_nil)))) (all_cons (some_ne h1809) (all_cons (some_ne h1810) (all_cons (some_ne h1811) (all_cons (some_ne h1812) all_nil))))
      refine ⟨_, _, rfl, rfl, _, rfl, ?_⟩
      refine iteD (fun c1817 => ?_) (fun c1817 => ?_)
      · have hw := cW_pos c1817 hw
        refine ⟨_, rfl, _, rfl, ?_⟩
        have hw := cW_bnd hw
        refine ⟨_, rfl, rfl, rfl, G1783, _, _, _, rfl, S1808.sG, cW_callN hw (fun v1819 hw => ?_) trivial⟩
        obtain ⟨g1820, hw⟩ := cW_grd hw
        have h1821 := (x1807 _ _ (x1794 _ _ h1781 (ni4 (ne_of_none (e1723 _ _ h_p_reader) n1731).symm (ne_of_none (e1723 _ _ h_p_reader_dec) n1731).symm (ne_of_none (e1723 _ _ h_l_reader_dec_probs) n1731).symm (ne_of_none (e1723 _ _ h_l_reader_dec_octs) n1731).symm)) (ni4 (ne_of_none (e1723 _ _ h_p_reader) n1731).symm (ne_of_none (e1723 _ _ h_p_reader_dec) n1731).symm (ne_of_none (e1723 _ _ h_l_reader_dec_probs) n1731).symm (ne_of_none (e1723 _ _ h_l_reader_dec_octs) n1731).symm))
        refine ⟨_, rfl, _, rfl, _, _, _, _, rfl, rfl, h1821, (ixN_map g1820), ?_⟩
        generalize g1822 : upd H1806 p1730 _ = H1823
        obtain ⟨x1824, h1825⟩ := gen_mut g1822
        have h1826 : H1823 p1730 = some (.lst ((setL (levels_1759) (x1785) (v1819) : (List Int)).map V.int)) := set_map h1825
        have S1827 := S1808.mut1 x1824 (.tail _ (.tail _ (.tail _ (.tail _ (.head _))))) h1826
        have hw := cW_bnd hw
        have h1830 := (x1824 _ _ h1809 (ne_of_none (e1723 _ _ h_p_reader) n1731))
        refine ⟨_, rfl, _, rfl, rfl, rfl, G1783, _, _, rfl, S1827.sG, cW_callN hw (fun v1829 hw => ?_) trivial⟩
        have hw := cW_ok hw
        have hw := hK1790 _ hw
        have h1831 := (x1824 _ _ h1810 (ne_of_none (e1723 _ _ h_p_reader_dec) n1731))
        have h1832 := (x1824 _ _ h1811 (ne_of_none (e1723 _ _ h_l_reader_dec_probs) n1731))
        have h1833 := (x1824 _ _ h1812 (ne_of_none (e1723 _ _ h_l_reader_dec_octs) n1731))
        have h1834 := (x1824 _ _ (x1807 _ _ (x1794 _ _ h1782 (ni4 (ne_of_none h1740 n1753).symm (ne_of_none h1741 n1753).symm (ne_of_none h1742 n1753).symm (ne_of_none h1743 n1753).symm)) (ni4 (ne_of_none h1740 n1753).symm (ne_of_none h1741 n1753).symm (ne_of_none h1742 n1753).symm (ne_of_none h1743 n1753).symm)) (ne_of_none h1736 n1753).symm)
        exact ⟨(v1805.2), (setL (levels_1759) (x1785) (v1819)), (v1829), _, _, _, _, rfl, eG1784, S1827, h1830, h1831, h1832, h1833, h1826, h1834, hw⟩
      · have hw := cW_neg c1817 hw
        refine ⟨_, rfl, _, rfl, rfl, rfl, G1783, _, _, _, rfl, S1808.sG, cW_callN hw (fun v1835 hw => ?_) trivial⟩
        obtain ⟨g1836, hw⟩ := cW_grd hw
        have h1837 := (x1807 _ _ (x1794 _ _ h1781 (ni4 (ne_of_none (e1723 _ _ h_p_reader) n1731).symm (ne_of_none (e1723 _ _ h_p_reader_dec) n1731).symm (ne_of_none (e1723 _ _ h_l_reader_dec_probs) n1731).symm (ne_of_none (e1723 _ _ h_l_reader_dec_octs) n1731).symm)) (ni4 (ne_of_none (e1723 _ _ h_p_reader) n1731).symm (ne_of_none (e1723 _ _ h_p_reader_dec) n1731).symm (ne_of_none (e1723 _ _ h_l_reader_dec_probs) n1731).symm (ne_of_none (e1723 _ _ h_l_reader_dec_octs) n1731).symm))
        refine ⟨_, rfl, _, rfl, _, _, _, _, rfl, rfl, h1837, (ixN_map g1836), ?_⟩
        generalize g1838 : upd H1806 p1730 _ = H1839
        obtain ⟨x1840, h1841⟩ := gen_mut g1838
        have h1842 : H1839 p1730 = some (.lst ((setL (levels_1759) (x1785) (v1835) : (List Int)).map V.int)) := set_map h1841
        have S1843 := S1808.mut1 x1840 (.tail _ (.tail _ (.tail _ (.tail _ (.head _))))) h1842
        have hw := cW_bnd hw
        have h1846 := (x1840 _ _ h1809 (ne_of_none (e1723 _ _ h_p_reader) n1731))
        refine ⟨_, rfl, _, rfl, rfl, rfl, G1783, _, _, rfl, S1843.sG, cW_callN hw (fun v1845 hw => ?_) trivial⟩
        have hw := cW_ok hw
        have hw := hK1790 _ hw
        have h1847 := (x1840 _ _ h1810 (ne_of_none (e1723 _ _ h_p_reader_dec) n1731))
        have h1848 := (x1840 _ _ h1811 (ne_of_none (e1723 _ _ h_l_reader_dec_probs) n1731))
        have h1849 := (x1840 _ _ h1812 (ne_of_none (e1723 _ _ h_l_reader_dec_octs) n1731))
        have h1850 := (x1840 _ _ (x1807 _ _ (x1794 _ _ h1782 (ni4 (ne_of_none h1740 n1753).symm (ne_of_none h1741 n1753).symm (ne_of_none h1742 n1753).symm (ne_of_none h1743 n1753).symm)) (ni4 (ne_of_none h1740 n1753).symm (ne_of_none h1741 n1753).symm (ne_of_none h1742 n1753).symm (ne_of_none h1743 n1753).symm)) (ne_of_none h1736 n1753).symm)
        exact ⟨(v1805.2), (setL (levels_1759) (x1785) (v1835)), (v1845), _, _, _, _, rfl, eG1784, S1843, h1846, h1847, h1848, h1849, h1842, h1850, hw⟩
    · intro σ H1851 hw
      obtain ⟨reader_1758, levels_1759, base_1760, u1761, u1762, u1763, G1859, rfl, eG1860, S1852, h1853, h1854, h1855, h1856, h1857, h1858, hw⟩ := hw
      have hw := hK1757 _ (cW_forS0 (by rw [List.length_map]) hw)
      have hw : cW (F_get_levels_r1  (reader_1758) (levels_1759) (base_1760)) _ EE := hw
      unfold F_get_levels_r1 at hw
      refine ⟨_, rfl, ?_⟩
      have hw := cW_ok hw
      exact hK0 _ hw _ S1852.base h1853 h1854 h1855 h1856 _ fr1737 h1857

abbrev N_Decoder___init__ : List Str := ["self", "octets", "_"]
theorem sc_Decoder___init__ : FnScope N_Decoder___init__ ["self", "octets"] (defScope s_Decoder___init__) := ⟨rfl, rfl, rfl, by decide +kernel, rfl, by decide +kernel, by decide +kernel⟩
theorem ok_Decoder___init__ (D : InitX K mg AD.c_Decoder "Decoder" "Decoder.__init__" s_Decoder___init__ ["self", "octets"] pats_Decoder___init__) (T : Txt w K mg AD) (c_Decoder__shift : MetX P w K mg base 1 AD.c_Decoder "_shift" (sp_Decoder__shift K AD) pats_Decoder__shift) : MakX P w K mg base 2 "Decoder" AD.c_Decoder (sp_Decoder___init__ K AD) pats_Decoder___init__ := by
  refine D.ok sc_Decoder___init__ (fun vs H Q E h => ?_) (fun f cdv A_ outer s H vs Q E hr h => ?_)
  · obtain ⟨G, p_self, dx_self, a_octets, octets', rfl, _⟩ := h
    rfl
  · obtain ⟨G, p_self, dx_self, a_octets, octets', rfl, sG, gM, h_self, q_octets, hw⟩ := h
    refine ⟨_, (pss_cons (ps_fld (pv 0) (pe_op op_rep (pe_lst (pa_cons (C8.pe_gc rfl T.g_EVEN) pa_nil)) (C8.pe_gc rfl T.g_CONTEXTS_coder)) rfl)
      (pss_cons (ps_fld (pv 0) (pe_callTy (call_listLK (K := K)) (by rfl) T.b_list (by decide +kernel) (pa_cons (pv 1) pa_nil)) rfl)
      (pss_cons (ps_fld (pv 0) pe_int rfl)
      (pss_cons (ps_fld (pv 0) (pe_op op_sub (C8.pe_gc rfl T.g_WORD) pe_int) rfl)
      (pss_cons (ps_fld (pv 0) pe_int rfl)
      (pss_cons (ps_for (passes_of rfl) rfl (pi_range1 rfl T.b_range (pa_cons pe_int pa_nil)) (pg_name (i := 2) sc_Decoder___init__.nd rfl (Or.inl rfl)) (pss_one (ps_expr (vx_methX0 c_Decoder__shift pat_Decoder__shift_0 (.head _) hr (by decide) (L2N.takes_of rfl rfl rfl rfl) (pv 0)))))
      (pss_one (ps_fld (pv 0) (pe_callB (call_min2 rfl) (by rfl) T.b_min (by decide +kernel) (pa_cons (fldK (K := K) (pv 0)) (pa_cons (pe_op op_sub (C8.pe_gc rfl T.g_WORD) pe_int) pa_nil))) rfl)))))))), ?_⟩
    obtain ⟨KK, EE, hK0, hE, hw⟩ := cW_gen hw
    have S0 := Sep.startM (M := [p_self]) sG (all_cons (some_ne h_self) all_nil) gM
    unfold F_Decoder___init__ at hw
    refine ⟨(by show 1 ≤ sizeLine; decide), fun p1864 n1865 => ?_⟩
    generalize g1866 : upd H p1864 _ = H1867
    obtain ⟨e1868, h1869⟩ := gen_new n1865 g1866
    have h1870 : H1867 p1864 = some (.lst (([2048] : (List Int)).map V.int)) := h1869
    have fr1871 := S0.free n1865
    have S1872 := S0.new n1865 e1868 h1870 fr1871
    obtain ⟨g1873, hw⟩ := cW_grd hw
    refine ⟨_, _, _, rfl, rfl, h1870, g1873.1, g1873.2.1, (rep_lenM g1873.2.2), fun p1874 n1875 => ?_⟩
    generalize g1876 : upd H1867 p1874 _ = H1877
    obtain ⟨e1878, h1879⟩ := gen_new n1875 g1876
    have h1880 : H1877 p1874 = some (.lst ((repL ([2048]) (256) : (List Int)).map V.int)) := rep_map h1879
    have fr1881 := S1872.free n1875
    have S1882 := S1872.new n1875 e1878 h1880 fr1881
    have h1883 := (e1878 _ _ (e1868 _ _ h_self))
    refine ⟨_, rfl, _, _, _, _, rfl, h1883, T.cl_Decoder, T.n_Decoder__probabilities, (by show 0 < 1000; decide), ?_⟩
    generalize g1884 : upd H1877 p_self _ = H1885
    obtain ⟨x1886, h1887⟩ := gen_mut g1884
    have h1888 : H1885 p_self = some (.ins AD.c_Decoder dx_self [("_probabilities", V.ref p1874)]) := h1887
    have S1889 := S1882.mut1 x1886 (.tail _ (.tail _ (.head _))) h1888
    refine ⟨_, rfl, _, _, rfl, (SqL.of (S1889.bM _ _ q_octets)), fun p1890 n1891 => ?_⟩
    generalize g1892 : upd H1885 p1890 _ = H1893
    obtain ⟨e1894, h1895⟩ := gen_new n1891 g1892
    have h1896 : H1893 p1890 = some (.lst ((octets' : (List Int)).map V.int)) := h1895
    have fr1897 := S1889.free n1891
    have S1898 := S1889.new n1891 e1894 h1896 fr1897
    have h1899 := (e1894 _ _ h1888)
    refine ⟨_, rfl, _, _, _, _, rfl, h1899, T.cl_Decoder, T.n_Decoder__octets, (by show 1 < 1000; decide), ?_⟩
    generalize g1900 : upd H1893 p_self _ = H1901
    obtain ⟨x1902, h1903⟩ := gen_mut g1900
    have h1904 : H1901 p_self = some (.ins AD.c_Decoder dx_self [("_probabilities", V.ref p1874), ("_octets", V.ref p1890)]) := h1903
    have S1905 := S1898.mut1 x1902 (.tail _ (.tail _ (.tail _ (.head _)))) h1904
    refine ⟨_, rfl, _, _, _, _, rfl, h1904, T.cl_Decoder, T.n_Decoder__place, (by show 2 < 1000; decide), ?_⟩
    generalize g1906 : upd H1901 p_self _ = H1907
    obtain ⟨x1908, h1909⟩ := gen_mut g1906
    have h1910 : H1907 p_self = some (.ins AD.c_Decoder dx_self [("_probabilities", V.ref p1874), ("_octets", V.ref p1890), ("_place", V.int (0))]) := h1909
    have S1911 := S1905.mut1 x1908 (.tail _ (.tail _ (.tail _ (.head _)))) h1910
    have hw := cW_bnd hw
    refine ⟨_, _, rfl, rfl, _, rfl, _, _, _, _, rfl, h1910, T.cl_Decoder, T.n_Decoder__span, (by show 3 < 1000; decide), ?_⟩
    generalize g1913 : upd H1907 p_self _ = H1914
    obtain ⟨x1915, h1916⟩ := gen_mut g1913
    have h1917 : H1914 p_self = some (.ins AD.c_Decoder dx_self [("_probabilities", V.ref p1874), ("_octets", V.ref p1890), ("_place", V.int (0)), ("_span", V.int ((4294967296 - 1)))]) := h1916
    have S1918 := S1911.mut1 x1915 (.tail _ (.tail _ (.tail _ (.head _)))) h1917
    refine ⟨_, rfl, _, _, _, _, rfl, h1917, T.cl_Decoder, T.n_Decoder__value, (by show 4 < 1000; decide), ?_⟩
    generalize g1919 : upd H1914 p_self _ = H1920
    obtain ⟨x1921, h1922⟩ := gen_mut g1919
    have h1923 : H1920 p_self = some (.ins AD.c_Decoder dx_self [("_probabilities", V.ref p1874), ("_octets", V.ref p1890), ("_place", V.int (0)), ("_span", V.int ((4294967296 - 1))), ("_value", V.int (0))]) := h1922
    have S1924 := S1918.mut1 x1921 (.tail _ (.tail _ (.tail _ (.head _)))) h1923
    obtain ⟨K1925, hK1926, hw⟩ := cW_push hw
    refine ⟨_, rfl, (by decide), (by decide), for_range (lo := 0) (n := Int.toNat (4)) (fun i σ H' => ∃ (self_1927 : St_Decoder) (u1928 : Option V) (G' : Hp), σ = [some (V.ref p_self), some (V.ref a_octets), u1928] ∧ Same G G' ∧ Sep [p_self] H G G' H' [p_self, p1874, p1890] ∧ H' p_self = some (.ins AD.c_Decoder dx_self [("_probabilities", V.ref p1874), ("_octets", V.ref p1890), ("_place", V.int (self_1927.place)), ("_span", V.int (self_1927.span)), ("_value", V.int (self_1927.value))]) ∧ H' p1874 = some (.lst ((self_1927.probs : (List Int)).map V.int)) ∧ H' p1890 = some (.lst ((self_1927.octs : (List Int)).map V.int)) ∧ cW (forS (List.drop i (rng (0) (Int.toNat (4)))) self_1927 (fun s x => F_Decoder___init___b1  s x)) K1925 EE) ?_ ?_ ?_⟩
    · have h1929 := (x1921 _ _ (x1915 _ _ (x1908 _ _ (x1902 _ _ (e1894 _ _ (x1886 _ _ h1880 (ne_of_none (e1868 _ _ h_self) n1875).symm)) (ne_of_none (e1868 _ _ h_self) n1875).symm) (ne_of_none (e1868 _ _ h_self) n1875).symm) (ne_of_none (e1868 _ _ h_self) n1875).symm) (ne_of_none (e1868 _ _ h_self) n1875).symm)
      have h1930 := (x1921 _ _ (x1915 _ _ (x1908 _ _ (x1902 _ _ h1896 (ne_of_none h1888 n1891).symm) (ne_of_none h1888 n1891).symm) (ne_of_none h1888 n1891).symm) (ne_of_none h1888 n1891).symm)
      exact ⟨((⟨repL ([2048]) (256), octets', 0, (4294967296 - 1), 0⟩ : St_Decoder)), _, _, rfl, (Same.refl _), (S1924.sub (all_cons (.tail _ (.tail _ (.tail _ (.head _)))) (all_cons (.tail _ (.head _)) (all_cons (.head _) all_nil)))), h1923, h1929, h1930, hw⟩
    · intro i σ H1931 hi hw
      obtain ⟨self_1927, u1928, G1936, rfl, eG1937, S1932, h1933, h1934, h1935, hw⟩ := hw
      have hw := cW_forS (rng_get hi) hw
      generalize (0 + (i : Int)) = x1938 at hw ⊢
      have hw : cW (F_Decoder___init___b1  (self_1927) (x1938)) _ EE := hw
      unfold F_Decoder___init___b1 at hw
      obtain ⟨K1940, hK1941, hw⟩ := cW_name hw
      refine ⟨_, rfl, _, _, _, rfl, h1933, rfl, rfl, rfl, G1936, _, _, _, _, self_1927, rfl, S1932.sG, (S1932.gno (all_cons (.head _) (all_cons (.tail _ (.head _)) (all_cons (.tail _ (.tail _ (.head _))) all_nil)))), h1933, h1934, h1935, (ne_of_none (x1886 _ _ h1880 (ne_of_none (e1868 _ _ h_self) n1875).symm) n1891), cW_call hw (fun v1943 hw H1944 x1945 h1947 h1948 h1949  => ?_) (fun e he H2 e2 => hE e he H2 (fun b o h n => e2 _ _ ((sameX_of S1932.base) b o h n)))⟩
      have S1946 := S1932.mut x1945 (all_cons (.head _) (all_cons (.tail _ (.head _)) (all_cons (.tail _ (.tail _ (.head _))) all_nil))) (all_cons (some_ne h1947) (all_cons (some_ne h1948) (all_cons (some_ne h1949) all_nil)))
      have hw := cW_ok hw
      have hw := hK1941 _ hw
      exact ⟨(v1943), _, _, rfl, eG1937, S1946, h1947, h1948, h1949, hw⟩
    · intro σ H1954 hw
      obtain ⟨self_1927, u1928, G1959, rfl, eG1960, S1955, h1956, h1957, h1958, hw⟩ := hw
      have hw := hK1926 _ (cW_forS0 (rng_len _ _).symm hw)
      have hw : cW (F_Decoder___init___r1  (self_1927)) _ EE := hw
      unfold F_Decoder___init___r1 at hw
      have hw := cW_bnd hw
      refine ⟨_, rfl, _, _, _, _, _, rfl, h1956, T.cl_Decoder, T.n_Decoder__value, rfl, _, _, rfl, rfl, _, _, rfl, _, rfl, _, _, _, _, rfl, h1956, T.cl_Decoder, T.n_Decoder__value, (by show 5 < 1000; decide), ?_⟩
      generalize g1963 : upd H1954 p_self _ = H1964
      obtain ⟨x1965, h1966⟩ := gen_mut g1963
      have h1967 : H1964 p_self = some (.ins AD.c_Decoder dx_self [("_probabilities", V.ref p1874), ("_octets", V.ref p1890), ("_place", V.int (self_1927.place)), ("_span", V.int (self_1927.span)), ("_value", V.int ((if (4294967296 - 2) < self_1927.value then (4294967296 - 2) else self_1927.value)))]) := h1966
      have S1968 := S1955.mut1 x1965 (.head _) h1967
      have h1969 := (x1965 _ _ h1957 (ne_of_none (e1868 _ _ h_self) n1875).symm)
      have h1970 := (x1965 _ _ h1958 (ne_of_none h1888 n1891).symm)
      have hw := cW_ok hw
      exact hK0 _ hw _ _ _ (sameX_of S1968.base) fr1881 fr1897 (ne_of_none (x1886 _ _ h1880 (ne_of_none (e1868 _ _ h_self) n1875).symm) n1891) h1967 h1969 h1970

abbrev N__law_far : List Str := ["count", "magnitude", "sign", "encoder", "writer", "size"]
theorem sc__law_far : FnScope N__law_far ["count", "magnitude", "sign"] (defScope s__law_far) := ⟨rfl, rfl, rfl, by decide +kernel, rfl, by decide +kernel, by decide +kernel⟩
theorem ok__law_far (D : DefX K mg "_law_far" s__law_far ["count", "magnitude", "sign"] pats__law_far) (T : Txt w K mg AD) (c_Encoder___init__ : MakX P w K mg base 1 "Encoder" AD.c_Encoder (sp_Encoder___init__ K AD) pats_Encoder___init__) (c_SymbolWriter___init__ : MakX P w K mg base 1 "SymbolWriter" AD.c_SymbolWriter (sp_SymbolWriter___init__ K AD) pats_SymbolWriter___init__) (c_SymbolWriter_flag : MetX P w K mg base 4 AD.c_SymbolWriter "flag" (sp_SymbolWriter_flag K AD) pats_SymbolWriter_flag) (c_SymbolWriter_number : MetX P w K mg base 5 AD.c_SymbolWriter "number" (sp_SymbolWriter_number K AD) pats_SymbolWriter_number) (c_SymbolWriter_even : MetX P w K mg base 4 AD.c_SymbolWriter "even" (sp_SymbolWriter_even K AD) pats_SymbolWriter_even) (c_get_levels : CalX P w K mg base 6 "get_levels" (sp_get_levels K AD) pats_get_levels) (c_SymbolReader___init__ : MakX P w K mg base 1 "SymbolReader" AD.c_SymbolReader (sp_SymbolReader___init__ K AD) pats_SymbolReader___init__) (c_Decoder___init__ : MakX P w K mg base 2 "Decoder" AD.c_Decoder (sp_Decoder___init__ K AD) pats_Decoder___init__) (c_Encoder_octets : MetH P w K mg base 1 AD.c_Encoder "octets" (sp_Encoder_octets K AD) pats_Encoder_octets) : CalX P w K mg base 7 "_law_far" (sp__law_far K AD) pats__law_far := by
  refine D.ok sc__law_far (fun vs H Q E h => ?_) (fun f cdv A_ outer s H vs Q E hr h => ?_)
  · obtain ⟨G, count', magnitude', sign', rfl, _⟩ := h
    rfl
  · obtain ⟨G, count', magnitude', sign', rfl, sG, hw⟩ := h
    refine ⟨_, (pss_cons (ps_set (i := 3) sc__law_far.nd rfl (Or.inl rfl) (vx_makeX0 c_Encoder___init__ pat_Encoder___init___0 (.head _) hr (by decide) (L2N.takes_of rfl rfl rfl rfl) rfl))
      (pss_cons (ps_set (i := 4) sc__law_far.nd rfl (Or.inl rfl) (vx_makeX c_SymbolWriter___init__ pat_SymbolWriter___init___0 (.head _) hr (by decide) (L2N.takes_of rfl rfl rfl rfl) rfl (pa_cons (pv 3) pa_nil) pk_nil))
      (pss_cons (ps_expr (vx_methX c_SymbolWriter_flag pat_SymbolWriter_flag_0 (.head _) hr (by decide) (L2N.takes_of rfl rfl rfl rfl) (pv 4) (pa_cons (C8.pe_gc rfl T.g_SIGNIFICANT) (pa_cons pe_bl pa_nil)) pk_nil))
      (pss_cons (ps_expr (vx_methX c_SymbolWriter_flag pat_SymbolWriter_flag_0 (.head _) hr (by decide) (L2N.takes_of rfl rfl rfl rfl) (pv 4) (pa_cons (C8.pe_gc rfl T.g_LAST) (pa_cons pe_bl pa_nil)) pk_nil))
      (pss_cons (ps_expr (vx_methX c_SymbolWriter_number pat_SymbolWriter_number_0 (.head _) hr (by decide) (L2N.takes_of rfl rfl rfl rfl) (pv 4) (pa_cons (C8.pe_gc rfl T.g_LEVEL) (pa_cons (pe_op op_sub (pv 1) pe_int) pa_nil)) pk_nil))
      (pss_cons (ps_expr (vx_methX c_SymbolWriter_even pat_SymbolWriter_even_0 (.head _) hr (by decide) (L2N.takes_of rfl rfl rfl rfl) (pv 4) (pa_cons (pv 2) pa_nil) pk_nil))
      (pss_cons (ps_set (i := 5) sc__law_far.nd rfl (Or.inl rfl) pe_int)
      (C8.pss_cut (ps_if (pt_cmp (pc_eqI (pv 0) pe_int)) (pss_one (ps_set (i := 5) sc__law_far.nd rfl (Or.inl rfl) pe_int)) pss_nil)
      (pss_one (ps_ret (vx_callX c_get_levels pat_get_levels_0 (.head _) hr (by decide) (L2N.takes_of rfl rfl rfl rfl) rfl (pa_cons (vx_makeX c_SymbolReader___init__ pat_SymbolReader___init___0 (.head _) hr (by decide) (L2N.takes_of rfl rfl rfl rfl) rfl (pa_cons (vx_makeX c_Decoder___init__ pat_Decoder___init___0 (.head _) hr (by decide) (L2N.takes_of rfl rfl rfl rfl) rfl (pa_cons (vx_methX0 c_Encoder_octets.y pat_Encoder_octets_0 (.head _) hr (by decide) (L2N.takes_of rfl rfl rfl rfl) (pv 3)) pa_nil) pk_nil) pa_nil) pk_nil) (pa_cons (pv 5) pa_nil)) pk_nil))))))))))), ?_⟩
    obtain ⟨KK, EE, hK0, hE, hw⟩ := cW_gen hw
    have S0 := Sep.startG sG
    unfold F__law_far at hw
    refine ⟨rfl, rfl, fun x1971 dx1972 n1973 n1974 n1975 => ?_⟩
    generalize g1976 : upd (upd H dx1972 _) x1971 _ = H1977
    obtain ⟨e1978, h1979⟩ := gen_obj n1973 n1974 n1975 g1976
    have fr1980 := S0.free n1973
    have S1981 := S0.new n1973 e1978 h1979 fr1980
    refine ⟨G, _, _, rfl, S1981.sG, (S1981.gno (all_cons (.head _) all_nil)), h1979, cW_call hw (fun v1982 hw H1985 l1983 l1984 x1986 n1991 n1992 ne1993 h1987 h1989 h1990 => ⟨rfl, ?_⟩) (fun e he H2 e2 => hE e he H2 (Same.trans S0.b0 (same_mut e1978 e2 n1973)))⟩
    have fr1994 := S1981.free n1991
    have fr1995 := S1981.free n1992
    have S1988 : Sep _ _ _ _ H1985 [l1983, l1984, x1971] := Sep.init S1981 x1986 (.head _) h1987 [l1983, l1984] (all_cons ⟨n1991, some_ne h1989, fr1994⟩ (all_cons ⟨n1992, some_ne h1990, fr1995⟩ all_nil))
    refine ⟨_, rfl, rfl, rfl, fun x1996 dx1997 n1998 n1999 n2000 => ?_⟩
    generalize g2001 : upd (upd H1985 dx1997 _) x1996 _ = H2002
    obtain ⟨e2003, h2004⟩ := gen_obj n1998 n1999 n2000 g2001
    have fr2005 := S1988.free n1998
    have S2006 := S1988.new n1998 e2003 h2004 fr2005
    have h2007 := (e2003 _ _ h1987)
    have h2008 := (e2003 _ _ h1989)
    have h2009 := (e2003 _ _ h1990)
    refine ⟨G, _, _, _, _, _, _, v1982, rfl, S2006.sG, (S2006.gno (all_cons (.head _) all_nil)), h2004, ((hideL_out (ni1 (ne_of_none h1987 n1998))).trans h2007), ((hideL_out (ni1 (ne_of_none h1989 n1998))).trans h2008), ((hideL_out (ni1 (ne_of_none h1990 n1998))).trans h2009), cW_call hw (fun v2010 hw H2011 x2012 h2013 => ⟨rfl, ?_⟩) (fun e he H2 e2 => hE e he H2 (Same.trans S1988.b0 (same_mut e2003 e2 n1998)))⟩
    have S2014 : Sep _ _ _ _ H2011 [x1996, l1983, l1984, x1971] := Sep.init S2006 x2012 (.head _) h2013 [] all_nil
    have h2015 := ((SameXs.of x2012) _ _ h2007 (ni1 (ne_of_none h1987 n1998)))
    have h2016 := ((SameXs.of x2012) _ _ h2008 (ni1 (ne_of_none h1989 n1998)))
    have h2017 := ((SameXs.of x2012) _ _ h2009 (ni1 (ne_of_none h1990 n1998)))
    refine ⟨_, rfl, _, _, _, rfl, h2013, rfl, rfl, rfl, G, _, _, _, _, _, _, (⟨v1982⟩ : St_SymbolWriter), _, _, rfl, S2014.sG, (S2014.gno (all_cons (.head _) (all_cons (.tail _ (.tail _ (.tail _ (.head _)))) (all_cons (.tail _ (.head _)) (all_cons (.tail _ (.tail _ (.head _))) all_nil))))), h2013, h2015, h2016, h2017, ne1993, (ne_of_none h1987 n1998).symm, cW_call hw (fun v2018 hw H2019 x2020 h2022 h2023 h2024 h2025  => ?_) (fun e he H2 e2 => hE e he H2 (Same.trans S2014.b0 e2))⟩
    have S2021 := S2014.mut x2020 (all_cons (.head _) (all_cons (.tail _ (.tail _ (.tail _ (.head _)))) (all_cons (.tail _ (.head _)) (all_cons (.tail _ (.tail _ (.head _))) all_nil)))) (all_cons (some_ne h2022) (all_cons (some_ne h2023) (all_cons (some_ne h2024) (all_cons (some_ne h2025) all_nil))))
    refine ⟨_, rfl, _, _, _, rfl, h2022, rfl, rfl, rfl, G, _, _, _, _, _, _, v2018, _, _, rfl, S2021.sG, (S2021.gno (all_cons (.head _) (all_cons (.tail _ (.tail _ (.tail _ (.head _)))) (all_cons (.tail _ (.head _)) (all_cons (.tail _ (.tail _ (.head _))) all_nil))))), h2022, h2023, h2024, h2025, ne1993, (ne_of_none h1987 n1998).symm, cW_call hw (fun v2030 hw H2031 x2032 h2034 h2035 h2036 h2037  => ?_) (fun e he H2 e2 => hE e he H2 (Same.trans S2021.b0 e2))⟩
    have S2033 := S2021.mut x2032 (all_cons (.head _) (all_cons (.tail _ (.tail _ (.tail _ (.head _)))) (all_cons (.tail _ (.head _)) (all_cons (.tail _ (.tail _ (.head _))) all_nil)))) (all_cons (some_ne h2034) (all_cons (some_ne h2035) (all_cons (some_ne h2036) (all_cons (some_ne h2037) all_nil))))
    refine ⟨_, rfl, _, _, _, rfl, h2034, rfl, _, rfl, _, _, rfl, rfl, rfl, rfl, G, _, _, _, _, _, _, v2030, _, _, rfl, S2033.sG, (S2033.gno (all_cons (.head _) (all_cons (.tail _ (.tail _ (.tail _ (.head _)))) (all_cons (.tail _ (.head _)) (all_cons (.tail _ (.tail _ (.head _))) all_nil))))), h2034, h2035, h2036, h2037, ne1993, (ne_of_none h1987 n1998).symm, cW_call hw (fun v2042 hw H2043 x2044 h2046 h2047 h2048 h2049  => ?_) (fun e he H2 e2 => hE e he H2 (Same.trans S2033.b0 e2))⟩
    have S2045 := S2033.mut x2044 (all_cons (.head _) (all_cons (.tail _ (.tail _ (.tail _ (.head _)))) (all_cons (.tail _ (.head _)) (all_cons (.tail _ (.tail _ (.head _))) all_nil)))) (all_cons (some_ne h2046) (all_cons (some_ne h2047) (all_cons (some_ne h2048) (all_cons (some_ne h2049) all_nil))))
    refine ⟨_, rfl, _, _, _, rfl, h2046, rfl, _, rfl, rfl, rfl, G, _, _, _, _, _, _, v2042, _, rfl, S2045.sG, (S2045.gno (all_cons (.head _) (all_cons (.tail _ (.tail _ (.tail _ (.head _)))) (all_cons (.tail _ (.head _)) (all_cons (.tail _ (.tail _ (.head _))) all_nil))))), h2046, h2047, h2048, h2049, ne1993, (ne_of_none h1987 n1998).symm, cW_call hw (fun v2054 hw H2055 x2056 h2058 h2059 h2060 h2061  => ?_) (fun e he H2 e2 => hE e he H2 (Same.trans S2045.b0 e2))⟩
    have S2057 := S2045.mut x2056 (all_cons (.head _) (all_cons (.tail _ (.tail _ (.tail _ (.head _)))) (all_cons (.tail _ (.head _)) (all_cons (.tail _ (.tail _ (.head _))) all_nil)))) (all_cons (some_ne h2058) (all_cons (some_ne h2059) (all_cons (some_ne h2060) (all_cons (some_ne h2061) all_nil))))
    refine ⟨fun σ H' => ∃ (size_2068 : Int) (G' : Hp), σ = [some (V.int (count')), some (V.int (magnitude')), some (V.int (sign')), some (V.ref x1971), some (V.ref x1996), some (V.int size_2068)] ∧ Same G G' ∧ Sep [] H G G' H' [x1971, l1983, l1984, x1996] ∧ H' x1971 = some (.ins AD.c_Encoder dx1972 [("_probabilities", V.ref l1983), ("_front", V.ref l1984), ("_low", V.int (v2054.enc.low)), ("_span", V.int (v2054.enc.span))]) ∧ H' l1983 = some (.lst ((v2054.enc.probs : (List Int)).map V.int)) ∧ H' l1984 = some (.lst ((v2054.enc.front : (List Int)).map V.int)) ∧ H' x1996 = some (.ins AD.c_SymbolWriter dx1997 [("_encoder", V.ref x1971)]) ∧ cW (F__law_far_k1 (v2054.enc) size_2068) KK EE, ?_, ?_⟩
    · obtain ⟨K2069, hK2070, hw⟩ := cW_push hw
      refine ⟨_, rfl, _, _, rfl, rfl, _, rfl, ?_⟩
      refine iteD (fun c2071 => ?_) (fun c2071 => ?_)
      · have hw := cW_pos c2071 hw
        have hw := cW_ok hw
        have hw := hK2070 _ hw
        exact ⟨(8), _, rfl, (Same.refl _), (S2057.sub (all_cons (.tail _ (.tail _ (.tail _ (.head _)))) (all_cons (.tail _ (.head _)) (all_cons (.tail _ (.tail _ (.head _))) (all_cons (.head _) all_nil))))), h2059, h2060, h2061, h2058, hw⟩
      · have hw := cW_neg c2071 hw
        have hw := cW_ok hw
        have hw := hK2070 _ hw
        exact ⟨(4), _, rfl, (Same.refl _), (S2057.sub (all_cons (.tail _ (.tail _ (.tail _ (.head _)))) (all_cons (.tail _ (.head _)) (all_cons (.tail _ (.tail _ (.head _))) (all_cons (.head _) all_nil))))), h2059, h2060, h2061, h2058, hw⟩
    · intro σ H2072 hw
      obtain ⟨size_2068, G2078, rfl, eG2079, S2073, h2074, h2075, h2076, h2077, hw⟩ := hw
      unfold F__law_far_k1 at hw
      refine ⟨_, rfl, _, _, _, rfl, h2074, rfl, rfl, rfl, G2078, _, _, _, _, v2054.enc, rfl, S2073.sG, (hide_nil h2074), (hide_nil h2075), (hide_nil h2076), cW_call hw (fun v2080 hw p2083 H2081 n2084 e2082 h2085 => ?_) (fun e he H2 e2 => hE e he H2 (Same.trans S2073.b0 e2))⟩
      have h2086 : H2081 p2083 = some (.lst ((v2080 : (List Int)).map V.int)) := h2085
      have fr2087 := S2073.free n2084
      have S2088 := S2073.new n2084 e2082 h2086 fr2087
      refine ⟨rfl, rfl, fun x2089 dx2090 n2091 n2092 n2093 => ?_⟩
      generalize g2094 : upd (upd H2081 dx2090 _) x2089 _ = H2095
      obtain ⟨e2096, h2097⟩ := gen_obj n2091 n2092 n2093 g2094
      have fr2098 := S2088.free n2091
      have S2099 := S2088.new n2091 e2096 h2097 fr2098
      have h2100 := (e2096 _ _ h2086)
      refine ⟨G2078, _, _, _, _, rfl, S2099.sG, (S2099.gno (all_cons (.head _) all_nil)), h2097, ((hideL_out (ni1 (ne_of_none h2086 n2091))).trans h2100), cW_call hw (fun v2101 hw H2104 l2102 l2103 x2105 n2110 n2111 ne2112 h2106 h2108 h2109 => ⟨rfl, ?_⟩) (fun e he H2 e2 => hE e he H2 (Same.trans S2088.b0 (same_mut e2096 e2 n2091)))⟩
      have fr2113 := S2099.free n2110
      have fr2114 := S2099.free n2111
      have S2107 : Sep _ _ _ _ H2104 [l2102, l2103, x2089, p2083, x1971, l1983, l1984, x1996] := Sep.init S2099 x2105 (.head _) h2106 [l2102, l2103] (all_cons ⟨n2110, some_ne h2108, fr2113⟩ (all_cons ⟨n2111, some_ne h2109, fr2114⟩ all_nil))
      refine ⟨rfl, rfl, fun x2115 dx2116 n2117 n2118 n2119 => ?_⟩
      generalize g2120 : upd (upd H2104 dx2116 _) x2115 _ = H2121
      obtain ⟨e2122, h2123⟩ := gen_obj n2117 n2118 n2119 g2120
      have fr2124 := S2107.free n2117
      have S2125 := S2107.new n2117 e2122 h2123 fr2124
      have h2126 := (e2122 _ _ h2106)
      have h2127 := (e2122 _ _ h2108)
      have h2128 := (e2122 _ _ h2109)
      refine ⟨G2078, _, _, _, _, _, _, v2101, rfl, S2125.sG, (S2125.gno (all_cons (.head _) all_nil)), h2123, ((hideL_out (ni1 (ne_of_none h2106 n2117))).trans h2126), ((hideL_out (ni1 (ne_of_none h2108 n2117))).trans h2127), ((hideL_out (ni1 (ne_of_none h2109 n2117))).trans h2128), cW_call hw (fun v2129 hw H2130 x2131 h2132 => ⟨rfl, ?_⟩) (fun e he H2 e2 => hE e he H2 (Same.trans S2107.b0 (same_mut e2122 e2 n2117)))⟩
      have S2133 : Sep _ _ _ _ H2130 [x2115, l2102, l2103, x2089, p2083, x1971, l1983, l1984, x1996] := Sep.init S2125 x2131 (.head _) h2132 [] all_nil
      have h2134 := ((SameXs.of x2131) _ _ h2126 (ni1 (ne_of_none h2106 n2117)))
      have h2135 := ((SameXs.of x2131) _ _ h2127 (ni1 (ne_of_none h2108 n2117)))
      have h2136 := ((SameXs.of x2131) _ _ h2128 (ni1 (ne_of_none h2109 n2117)))
      refine ⟨_, rfl, rfl, rfl, G2078, _, _, _, _, _, _, (⟨v2101⟩ : St_SymbolReader), _, rfl, S2133.sG, (S2133.gno (all_cons (.head _) (all_cons (.tail _ (.tail _ (.tail _ (.head _)))) (all_cons (.tail _ (.head _)) (all_cons (.tail _ (.tail _ (.head _))) all_nil))))), h2132, h2134, h2135, h2136, ne2112, (ne_of_none h2106 n2117).symm, cW_call hw (fun v2137 hw H2138 x2139 h2141 h2142 h2143 h2144 p2145 n2146 h2147 => ?_) (fun e he H2 e2 => hE e he H2 (Same.trans S2133.b0 e2))⟩
      have fr2148 := S2133.free n2146
      have S2140 := S2133.mutnew x2139 (all_cons (.head _) (all_cons (.tail _ (.tail _ (.tail _ (.head _)))) (all_cons (.tail _ (.head _)) (all_cons (.tail _ (.tail _ (.head _))) all_nil)))) (all_cons (some_ne h2141) (all_cons (some_ne h2142) (all_cons (some_ne h2143) (all_cons (some_ne h2144) all_nil)))) n2146 (some_ne h2147) fr2148
      have hw := cW_ok hw
      exact hK0 _ hw _ _ fr2148 S2140.b0 h2147

abbrev N__law_refuses : List Str := ["cell", "count", "levels", "length", "magnitude", "due"]
theorem sc__law_refuses : FnScope N__law_refuses ["cell"] (defScope s__law_refuses) := ⟨rfl, rfl, rfl, by decide +kernel, rfl, by decide +kernel, by decide +kernel⟩
theorem ok__law_refuses (D : DefX K mg "_law_refuses" s__law_refuses ["cell"] pats__law_refuses) (T : Txt w K mg AD) (c__law_refused : CalX P w K mg base 7 "_law_refused" (sp__law_refused K AD) pats__law_refused) (c__law_far : CalX P w K mg base 7 "_law_far" (sp__law_far K AD) pats__law_far) (c_get_levels : CalX P w K mg base 6 "get_levels" (sp_get_levels K AD) pats_get_levels) (c_SymbolReader___init__ : MakX P w K mg base 1 "SymbolReader" AD.c_SymbolReader (sp_SymbolReader___init__ K AD) pats_SymbolReader___init__) (c_Decoder___init__ : MakX P w K mg base 2 "Decoder" AD.c_Decoder (sp_Decoder___init__ K AD) pats_Decoder___init__) : CalX P w K mg base 8 "_law_refuses" (sp__law_refuses K AD) pats__law_refuses := by
  refine D.ok sc__law_refuses (fun vs H Q E h => ?_) (fun f cdv A_ outer s H vs Q E hr h => ?_)
  · obtain ⟨G, cell', rfl, _⟩ := h
    rfl
  · obtain ⟨G, cell', rfl, sG, hw⟩ := h
    refine ⟨_, (pss_cons (ps_set (i := 1) sc__law_refuses.nd rfl (Or.inl rfl) (pe_op op_add pe_int (pe_op op_mul pe_int (pe_op op_mod (pv 0) pe_int))))
      (pss_cons (ps_set (i := 2) sc__law_refuses.nd rfl (Or.inl rfl) (pe_op op_rep (pe_lst (pa_cons pe_int pa_nil)) (pv 1)))
      (pss_cons (ps_if (pt_not (pt_val (vx_callX c__law_refused pat__law_refused_0 (.head _) hr (by decide) (L2N.takes_of rfl rfl rfl rfl) rfl (pa_cons (pv 2) pa_nil) pk_nil))) (pss_one (ps_ret pe_bl)) pss_nil)
      (pss_cons (ps_asg (pe_op op_add pe_int (pe_op op_mod (pe_op op_fdivW (pv 0) pe_int) pe_int)) (pg_sub (pv 2) (pe_op op_mod (pe_op op_fdivW (pv 0) pe_int) (pv 1)) set_list))
      (pss_cons (ps_if (pt_not (pt_val (vx_callX c__law_refused pat__law_refused_0 (.head _) hr (by decide) (L2N.takes_of rfl rfl rfl rfl) rfl (pa_cons (pv 2) pa_nil) pk_nil))) (pss_one (ps_ret pe_bl)) pss_nil)
      (pss_cons (ps_asg (pe_op op_sub (pe_un un_neg pe_int) (pe_op op_mod (pe_op op_fdivW (pv 0) pe_int) pe_int)) (pg_sub (pv 2) (pe_op op_mod (pe_op op_fdivW (pv 0) pe_int) (pv 1)) set_list))
      (pss_cons (ps_if (pt_not (pt_val (vx_callX c__law_refused pat__law_refused_0 (.head _) hr (by decide) (L2N.takes_of rfl rfl rfl rfl) rfl (pa_cons (pv 2) pa_nil) pk_nil))) (pss_one (ps_ret pe_bl)) pss_nil)
      (pss_cons (ps_set (i := 3) sc__law_refuses.nd rfl (Or.inl rfl) (pe_op op_mod (pe_op op_fdivW (pv 0) pe_int) pe_int))
      (C8.pss_cut (ps_if (PW.pt (pw_or (pt_cmp (pc_eqI (pv 3) pe_int)) (pw_or1 (pt_cmp (pc_eqI (pv 3) pe_int))))) (pss_one (ps_set (i := 3) sc__law_refuses.nd rfl (Or.inl rfl) pe_int)) pss_nil)
      (pss_cons (ps_if (pt_not (pt_val (vx_callX c__law_refused pat__law_refused_0 (.head _) hr (by decide) (L2N.takes_of rfl rfl rfl rfl) rfl (pa_cons (pe_op op_rep (pe_lst (pa_cons pe_int pa_nil)) (pv 3)) pa_nil) pk_nil))) (pss_one (ps_ret pe_bl)) pss_nil)
      (pss_cons (ps_set (i := 4) sc__law_refuses.nd rfl (Or.inl rfl) (pe_op op_add pe_int (pe_op op_mod (pe_op op_fdivW (pv 0) pe_int) pe_int)))
      (C8.pss_cut (ps_if (pt_cmp (pc_eqI (pe_op op_mod (pe_op op_fdivW (pv 0) pe_int) pe_int) pe_int)) (pss_one (ps_set (i := 4) sc__law_refuses.nd rfl (Or.inl rfl) (pe_op op_add pe_int (pe_op op_mod (pe_op op_fdivW (pv 0) pe_int) pe_int)))) pss_nil)
      (pss_cons (ps_set (i := 5) sc__law_refuses.nd rfl (Or.inl rfl) (pe_callB (call_max2 rfl) (by rfl) T.b_max (by decide +kernel) (pa_cons (pe_un un_neg pe_int) (pa_cons (pe_op op_sub pe_int (pv 4)) pa_nil))))
      (C8.pss_cut (ps_if (pt_cmp (pc_lt (pe_op op_mod (pv 0) pe_int) pe_int)) (pss_one (ps_set (i := 5) sc__law_refuses.nd rfl (Or.inl rfl) (pe_callB (call_min2 rfl) (by rfl) T.b_min (by decide +kernel) (pa_cons pe_int (pa_cons (pv 4) pa_nil))))) pss_nil)
      (pss_cons (ps_if (pt_cmpR (op_neT (encOk_L encOk_int) hr.units) (vx_callX c__law_far pat__law_far_0 (.head _) hr (by decide) (L2N.takes_of rfl rfl rfl rfl) rfl (pa_cons (pv 1) (pa_cons (pv 4) (pa_cons (pe_ifExp (pt_cmp (pc_lt (pe_op op_mod (pv 0) pe_int) pe_int)) pe_int pe_int) pa_nil))) pk_nil) (pe_op op_cat (pe_lst (pa_cons (pv 5) pa_nil)) (pe_op op_rep (pe_lst (pa_cons pe_int pa_nil)) (pe_op op_sub (pv 1) pe_int))) (nomark _)) (pss_one (ps_ret pe_bl)) pss_nil)
      (pss_cons (ps_try_onlyN rfl rfl ⟨rfl, by decide, .inl T.xg_OutOfRange⟩ (L2N.takes_of rfl rfl rfl rfl) (fun W pn xe tk pse => (pss_one (ps_expr (vx_callX c_get_levels pat_get_levels_0 (.head _) hr (by decide) tk rfl (pa_cons (vx_makeX c_SymbolReader___init__ pat_SymbolReader___init___0 (.head _) hr (by decide) tk rfl (pa_cons (vx_makeX c_Decoder___init__ pat_Decoder___init___0 (.head _) hr (by decide) tk rfl (pa_cons (pe_lst pa_nil) pa_nil) pk_nil) pa_nil) pk_nil) (pa_cons (pe_ix (ix_listK (K := K)) (pe_lst (pa_cons pe_int (pa_cons pe_int (pa_cons pe_int (pa_cons pe_int (pa_cons pe_int (pa_cons pe_int (pa_cons pe_int (pa_cons pe_int (pa_cons pe_int (pa_cons pe_int (pa_cons (pe_un un_neg pe_int) pa_nil)))))))))))) (pe_op op_mod (pv 0) pe_int) (fun _ _ => rfl)) pa_nil)) pk_nil)))) (fun a oe cls d pn _ _ => (pss_one (ps_ret pe_bl))))
      (pss_one (ps_ret pe_bl)))))))))))))))))), ?_⟩
    obtain ⟨KK, EE, hK0, hE, hw⟩ := cW_gen hw
    have S0 := Sep.startG sG
    unfold F__law_refuses at hw
    refine ⟨_, rfl, _, _, rfl, rfl, (show (0 : Int) < 2 by decide), _, _, rfl, rfl, (.inl ⟨by decide, by decide⟩), _, _, rfl, rfl, ?_⟩
    have hw := cW_bnd hw
    refine ⟨(by show 1 ≤ sizeLine; decide), fun p2150 n2151 => ?_⟩
    generalize g2152 : upd H p2150 _ = H2153
    obtain ⟨e2154, h2155⟩ := gen_new n2151 g2152
    have h2156 : H2153 p2150 = some (.lst (([0] : (List Int)).map V.int)) := h2155
    have fr2157 := S0.free n2151
    have S2158 := S0.new n2151 e2154 h2156 fr2157
    obtain ⟨g2159, hw⟩ := cW_grd hw
    refine ⟨_, rfl, _, _, _, rfl, rfl, h2156, g2159.1, g2159.2.1, (rep_lenM g2159.2.2), fun p2160 n2161 => ?_⟩
    generalize g2162 : upd H2153 p2160 _ = H2163
    obtain ⟨e2164, h2165⟩ := gen_new n2161 g2162
    have h2166 : H2163 p2160 = some (.lst ((repL ([0]) ((16 + (48 * (cell' % 2)))) : (List Int)).map V.int)) := rep_map h2165
    have fr2167 := S2158.free n2161
    have S2168 := S2158.new n2161 e2164 h2166 fr2167
    refine ⟨_, rfl, rfl, rfl, G, _, _, rfl, S2168.sG, (hide_nil h2166), cW_call hw (fun v2169 hw H2170 e2171 => ?_) (fun e he H2 e2 => hE e he H2 (Same.trans S2168.b0 e2))⟩
    have S2172 := S2168.same e2171
    refine ⟨_, rfl, ?_⟩
    refine iteBN (fun c2173 => ?_) (fun c2173 => ?_)
    · have hw := cW_negB c2173 hw
      have hw := cW_ok hw
      exact hK0 _ hw _ S2172.b0
    · have hw := cW_pos c2173 hw
      obtain ⟨g2174, hw⟩ := cW_grd hw
      obtain ⟨g2175, hw⟩ := cW_grd hw
      have h2176 := (e2171 _ _ h2166)
      refine ⟨_, rfl, _, _, rfl, rfl, (divW_lit (by decide) (by decide)), _, _, rfl, rfl, (show (0 : Int) < 9 by decide), _, _, rfl, rfl, _, rfl, _, rfl, _, _, rfl, rfl, (divW_lit (by decide) (by decide)), _, rfl, _, _, rfl, rfl, g2174, _, _, _, _, rfl, rfl, h2176, (ixN_map g2175), ?_⟩
      generalize g2177 : upd H2170 p2160 _ = H2178
      obtain ⟨x2179, h2180⟩ := gen_mut g2177
      have h2181 : H2178 p2160 = some (.lst ((setL (repL ([0]) ((16 + (48 * (cell' % 2))))) (((cell' / 2) % (16 + (48 * (cell' % 2))))) ((524288 + ((cell' / 3) % 9))) : (List Int)).map V.int)) := set_map h2180
      have S2182 := S2172.mut1 x2179 (.head _) h2181
      have hw := cW_bnd hw
      refine ⟨_, rfl, rfl, rfl, G, _, _, rfl, S2182.sG, (hide_nil h2181), cW_call hw (fun v2184 hw H2185 e2186 => ?_) (fun e he H2 e2 => hE e he H2 (Same.trans S2182.b0 e2))⟩
      have S2187 := S2182.same e2186
      refine ⟨_, rfl, ?_⟩
      refine iteBN (fun c2188 => ?_) (fun c2188 => ?_)
      · have hw := cW_negB c2188 hw
        have hw := cW_ok hw
        exact hK0 _ hw _ S2187.b0
      · have hw := cW_pos c2188 hw
        obtain ⟨g2189, hw⟩ := cW_grd hw
        obtain ⟨g2190, hw⟩ := cW_grd hw
        have h2191 := (e2186 _ _ h2181)
        refine ⟨_, rfl, _, rfl, _, _, rfl, rfl, (divW_lit (by decide) (by decide)), _, _, rfl, rfl, (show (0 : Int) < 9 by decide), _, _, rfl, rfl, _, rfl, _, rfl, _, _, rfl, rfl, (divW_lit (by decide) (by decide)), _, rfl, _, _, rfl, rfl, g2189, _, _, _, _, rfl, rfl, h2191, (ixN_map g2190), ?_⟩
        generalize g2192 : upd H2185 p2160 _ = H2193
        obtain ⟨x2194, h2195⟩ := gen_mut g2192
        have h2196 : H2193 p2160 = some (.lst ((setL (setL (repL ([0]) ((16 + (48 * (cell' % 2))))) (((cell' / 2) % (16 + (48 * (cell' % 2))))) ((524288 + ((cell' / 3) % 9)))) (((cell' / 2) % (16 + (48 * (cell' % 2))))) (((-524289) - ((cell' / 3) % 9))) : (List Int)).map V.int)) := set_map h2195
        have S2197 := S2187.mut1 x2194 (.head _) h2196
        have hw := cW_bnd hw
        refine ⟨_, rfl, rfl, rfl, G, _, _, rfl, S2197.sG, (hide_nil h2196), cW_call hw (fun v2199 hw H2200 e2201 => ?_) (fun e he H2 e2 => hE e he H2 (Same.trans S2197.b0 e2))⟩
        have S2202 := S2197.same e2201
        refine ⟨_, rfl, ?_⟩
        refine iteBN (fun c2203 => ?_) (fun c2203 => ?_)
        · have hw := cW_negB c2203 hw
          have hw := cW_ok hw
          exact hK0 _ hw _ S2202.b0
        · have hw := cW_pos c2203 hw
          refine ⟨_, rfl, _, _, rfl, rfl, (divW_lit (by decide) (by decide)), _, _, rfl, rfl, (show (0 : Int) < 70 by decide), ?_⟩
          have hw := cW_bnd hw
          refine ⟨fun σ H' => ∃ (length_2208 : Int) (G' : Hp), σ = [some (V.int (cell')), some (V.int ((16 + (48 * (cell' % 2))))), some (V.ref p2160), some (V.int length_2208), none, none] ∧ Same G G' ∧ Sep [] H G G' H' [p2160] ∧ H' p2160 = some (.lst ((setL (setL (repL ([0]) ((16 + (48 * (cell' % 2))))) (((cell' / 2) % (16 + (48 * (cell' % 2))))) ((524288 + ((cell' / 3) % 9)))) (((cell' / 2) % (16 + (48 * (cell' % 2))))) (((-524289) - ((cell' / 3) % 9))) : (List Int)).map V.int)) ∧ cW (F__law_refuses_k1 (cell') ((16 + (48 * (cell' % 2)))) length_2208) KK EE, ?_, ?_⟩
          · obtain ⟨K2209, hK2210, hw⟩ := cW_push hw
            refine ⟨_, rfl, _, _, rfl, rfl, _, rfl, ?_⟩
            refine iteD (fun c2211 => ?_) (fun c2211 => ?_)
            · have hw := cW_pos c2211 hw
              refine iteT ?_
              have hw := cW_ok hw
              have hw := hK2210 _ hw
              have h2212 := (e2201 _ _ h2196)
              exact ⟨(17), _, rfl, (Same.refl _), (S2202.sub (all_cons (.head _) all_nil)), h2212, hw⟩
            · have hw := cW_neg c2211 hw
              refine ⟨_, rfl, _, _, rfl, rfl, _, rfl, ?_⟩
              refine iteD (fun c2213 => ?_) (fun c2213 => ?_)
              · have hw := cW_pos c2213 hw
                have hw := cW_ok hw
                have hw := hK2210 _ hw
                have h2214 := (e2201 _ _ h2196)
                exact ⟨(17), _, rfl, (Same.refl _), (S2202.sub (all_cons (.head _) all_nil)), h2214, hw⟩
              · have hw := cW_neg c2213 hw
                have hw := cW_ok hw
                have hw := hK2210 _ hw
                have h2215 := (e2201 _ _ h2196)
                exact ⟨(((cell' / 5) % 70)), _, rfl, (Same.refl _), (S2202.sub (all_cons (.head _) all_nil)), h2215, hw⟩
          · intro σ H2216 hw
            obtain ⟨length_2208, G2219, rfl, eG2220, S2217, h2218, hw⟩ := hw
            unfold F__law_refuses_k1 at hw
            refine ⟨(by show 1 ≤ sizeLine; decide), fun p2221 n2222 => ?_⟩
            generalize g2223 : upd H2216 p2221 _ = H2224
            obtain ⟨e2225, h2226⟩ := gen_new n2222 g2223
            have h2227 : H2224 p2221 = some (.lst (([1] : (List Int)).map V.int)) := h2226
            have fr2228 := S2217.free n2222
            have S2229 := S2217.new n2222 e2225 h2227 fr2228
            obtain ⟨g2230, hw⟩ := cW_grd hw
            refine ⟨_, rfl, _, _, _, rfl, rfl, h2227, g2230.1, g2230.2.1, (rep_lenM g2230.2.2), fun p2231 n2232 => ?_⟩
            generalize g2233 : upd H2224 p2231 _ = H2234
            obtain ⟨e2235, h2236⟩ := gen_new n2232 g2233
            have h2237 : H2234 p2231 = some (.lst ((repL ([1]) (length_2208) : (List Int)).map V.int)) := rep_map h2236
            have fr2238 := S2229.free n2232
            have S2239 := S2229.new n2232 e2235 h2237 fr2238
            refine ⟨rfl, rfl, G2219, _, _, rfl, S2239.sG, (hide_nil h2237), cW_call hw (fun v2240 hw H2241 e2242 => ?_) (fun e he H2 e2 => hE e he H2 (Same.trans S2239.b0 e2))⟩
            have S2243 := S2239.same e2242
            refine ⟨_, rfl, ?_⟩
            refine iteBN (fun c2244 => ?_) (fun c2244 => ?_)
            · have hw := cW_negB c2244 hw
              have hw := cW_ok hw
              exact hK0 _ hw _ S2243.b0
            · have hw := cW_pos c2244 hw
              refine ⟨_, rfl, _, _, rfl, rfl, (divW_lit (by decide) (by decide)), _, _, rfl, rfl, (show (0 : Int) < 20 by decide), _, _, rfl, rfl, ?_⟩
              have hw := cW_bnd hw
              refine ⟨fun σ H' => ∃ (magnitude_2249 : Int) (G' : Hp), σ = [some (V.int (cell')), some (V.int ((16 + (48 * (cell' % 2))))), some (V.ref p2160), some (V.int (length_2208)), some (V.int magnitude_2249), none] ∧ Same G2219 G' ∧ Sep [] H G G' H' [p2160] ∧ H' p2160 = some (.lst ((setL (setL (repL ([0]) ((16 + (48 * (cell' % 2))))) (((cell' / 2) % (16 + (48 * (cell' % 2))))) ((524288 + ((cell' / 3) % 9)))) (((cell' / 2) % (16 + (48 * (cell' % 2))))) (((-524289) - ((cell' / 3) % 9))) : (List Int)).map V.int)) ∧ cW (F__law_refuses_k2 (cell') ((16 + (48 * (cell' % 2)))) magnitude_2249) KK EE, ?_, ?_⟩
              · obtain ⟨K2250, hK2251, hw⟩ := cW_push hw
                refine ⟨_, rfl, _, _, rfl, rfl, (divW_lit (by decide) (by decide)), _, _, rfl, rfl, (show (0 : Int) < 3 by decide), _, _, rfl, rfl, _, rfl, ?_⟩
                refine iteD (fun c2252 => ?_) (fun c2252 => ?_)
                · have hw := cW_pos c2252 hw
                  refine ⟨_, rfl, _, _, rfl, rfl, (divW_lit (by decide) (by decide)), _, _, rfl, rfl, (show (0 : Int) < 1048577 by decide), _, _, rfl, rfl, ?_⟩
                  have hw := cW_bnd hw
                  have hw := cW_ok hw
                  have hw := hK2251 _ hw
                  have h2254 := (e2242 _ _ (e2235 _ _ (e2225 _ _ h2218)))
                  exact ⟨((1 + ((cell' / 21) % 1048577))), _, rfl, (Same.refl _), (S2243.sub (all_cons (.tail _ (.tail _ (.head _))) all_nil)), h2254, hw⟩
                · have hw := cW_neg c2252 hw
                  have hw := cW_ok hw
                  have hw := hK2251 _ hw
                  have h2255 := (e2242 _ _ (e2235 _ _ (e2225 _ _ h2218)))
                  exact ⟨((524280 + ((cell' / 7) % 20))), _, rfl, (Same.refl _), (S2243.sub (all_cons (.tail _ (.tail _ (.head _))) all_nil)), h2255, hw⟩
              · intro σ H2256 hw
                obtain ⟨magnitude_2249, G2259, rfl, eG2260, S2257, h2258, hw⟩ := hw
                unfold F__law_refuses_k2 at hw
                refine ⟨_, rfl, _, rfl, _, _, rfl, rfl, _, _, rfl, ?_⟩
                have hw := cW_bnd hw
                refine ⟨fun σ H' => ∃ (due_2266 : Int) (G' : Hp), σ = [some (V.int (cell')), some (V.int ((16 + (48 * (cell' % 2))))), some (V.ref p2160), some (V.int (length_2208)), some (V.int (magnitude_2249)), some (V.int due_2266)] ∧ Same G2259 G' ∧ Sep [] H G G' H' [p2160] ∧ H' p2160 = some (.lst ((setL (setL (repL ([0]) ((16 + (48 * (cell' % 2))))) (((cell' / 2) % (16 + (48 * (cell' % 2))))) ((524288 + ((cell' / 3) % 9)))) (((cell' / 2) % (16 + (48 * (cell' % 2))))) (((-524289) - ((cell' / 3) % 9))) : (List Int)).map V.int)) ∧ cW (F__law_refuses_k3 (cell') ((16 + (48 * (cell' % 2)))) (magnitude_2249) due_2266) KK EE, ?_, ?_⟩
                · obtain ⟨K2267, hK2268, hw⟩ := cW_push hw
                  refine ⟨_, rfl, _, _, rfl, rfl, (show (0 : Int) < 4 by decide), _, _, rfl, rfl, _, rfl, ?_⟩
                  refine iteD (fun c2269 => ?_) (fun c2269 => ?_)
                  · have hw := cW_pos c2269 hw
                    refine ⟨_, rfl, _, _, rfl, ?_⟩
                    have hw := cW_bnd hw
                    have hw := cW_ok hw
                    have hw := hK2268 _ hw
                    exact ⟨((if magnitude_2249 < 524287 then magnitude_2249 else 524287)), _, rfl, (Same.refl _), S2257, h2258, hw⟩
                  · have hw := cW_neg c2269 hw
                    have hw := cW_ok hw
                    have hw := hK2268 _ hw
                    exact ⟨((if (0 - magnitude_2249) > (-524288) then (0 - magnitude_2249) else (-524288))), _, rfl, (Same.refl _), S2257, h2258, hw⟩
                · intro σ H2271 hw
                  obtain ⟨due_2266, G2274, rfl, eG2275, S2272, h2273, hw⟩ := hw
                  unfold F__law_refuses_k3 at hw
                  refine ⟨_, rfl, _, rfl, ?_⟩
                  refine vv_if (p := (cell' % 4) < 2) (ta := (tC (V.int 0))) (tb := (tC (V.int 1))) (t := tB (tLt (tOp (rI (fun _ j => 0 < j) fun i j => V.int (i % j)) (tVar 0) (tC (V.int 4))) (tC (V.int 2)))) (a := 0) (b := 1) ?hx2276 ?hy2277 ?hz2278 _ ?_
                  case hx2276 => exact vt_cmp (vv_cmp (val_op (val_var rfl) val_c (fun Q q => ⟨_, _, rfl, rfl, (show (0 : Int) < 4 by decide), q⟩)) val_c (fun Q q => ⟨_, _, rfl, rfl, q⟩))
                  case hy2277 => exact val_c
                  case hz2278 => exact val_c
                  refine ⟨rfl, rfl, G2274, _, _, _, rfl, S2272.sG, cW_call hw (fun v2279 hw p2282 H2280 n2283 e2281 h2284 => ?_) (fun e he H2 e2 => hE e he H2 (Same.trans S2272.b0 e2))⟩
                  have h2285 : H2280 p2282 = some (.lst ((v2279 : (List Int)).map V.int)) := h2284
                  have fr2286 := S2272.free n2283
                  have S2287 := S2272.new n2283 e2281 h2285 fr2286
                  refine ⟨_, rfl, (by show 1 ≤ sizeLine; decide), fun p2288 n2289 => ?_⟩
                  generalize g2290 : upd H2280 p2288 _ = H2291
                  obtain ⟨e2292, h2293⟩ := gen_new n2289 g2290
                  have h2294 : H2291 p2288 = some (.lst (([due_2266] : (List Int)).map V.int)) := h2293
                  have fr2295 := S2287.free n2289
                  have S2296 := S2287.new n2289 e2292 h2294 fr2295
                  refine ⟨(by show 1 ≤ sizeLine; decide), fun p2297 n2298 => ?_⟩
                  generalize g2299 : upd H2291 p2297 _ = H2300
                  obtain ⟨e2301, h2302⟩ := gen_new n2298 g2299
                  have h2303 : H2300 p2297 = some (.lst (([0] : (List Int)).map V.int)) := h2302
                  have fr2304 := S2296.free n2298
                  have S2305 := S2296.new n2298 e2301 h2303 fr2304
                  obtain ⟨g2306, hw⟩ := cW_grd hw
                  refine ⟨_, rfl, _, _, rfl, rfl, _, _, _, rfl, rfl, h2303, g2306.1, g2306.2.1, (rep_lenM g2306.2.2), fun p2307 n2308 => ?_⟩
                  generalize g2309 : upd H2300 p2307 _ = H2310
                  obtain ⟨e2311, h2312⟩ := gen_new n2308 g2309
                  have h2313 : H2310 p2307 = some (.lst ((repL ([0]) (((16 + (48 * (cell' % 2))) - 1)) : (List Int)).map V.int)) := rep_map h2312
                  have fr2314 := S2305.free n2308
                  have S2315 := S2305.new n2308 e2311 h2313 fr2314
                  obtain ⟨g2316, hw⟩ := cW_grd hw
                  have h2317 := (e2311 _ _ (e2301 _ _ h2294))
                  refine ⟨_, _, _, _, rfl, rfl, h2317, h2313, (cat_lenM g2316), fun p2318 n2319 => ?_⟩
                  generalize g2320 : upd H2310 p2318 _ = H2321
                  obtain ⟨e2322, h2323⟩ := gen_new n2319 g2320
                  have h2324 : H2321 p2318 = some (.lst ((([due_2266]) ++ (repL ([0]) (((16 + (48 * (cell' % 2))) - 1))) : (List Int)).map V.int)) := cat_map h2323
                  have fr2325 := S2315.free n2319
                  have S2326 := S2315.new n2319 e2322 h2324 fr2325
                  have h2327 := (e2322 _ _ (e2311 _ _ (e2301 _ _ (e2292 _ _ h2285))))
                  refine ⟨_, _, (rp_mk_ints h2327), (rp_mk_ints h2324), _, rfl, ?_⟩
                  refine iteN (fun c2328 => ?_) (fun c2328 => ?_)
                  · have hw := cW_neg c2328 hw
                    have hw := cW_ok hw
                    exact hK0 _ hw _ S2326.b0
                  · have hw := cW_pos c2328 hw
                    refine ⟨(by show 0 ≤ sizeLine; decide), fun p2329 n2330 => ?_⟩
                    generalize g2331 : upd H2321 p2329 _ = H2332
                    obtain ⟨e2333, h2334⟩ := gen_new n2330 g2331
                    have h2335 : H2332 p2329 = some (.lst ((([] : (List Int)) : (List Int)).map V.int)) := h2334
                    have fr2336 := S2326.free n2330
                    have S2337 := S2326.new n2330 e2333 h2335 fr2336
                    refine ⟨rfl, rfl, fun x2338 dx2339 n2340 n2341 n2342 => ?_⟩
                    generalize g2343 : upd (upd H2332 dx2339 _) x2338 _ = H2344
                    obtain ⟨e2345, h2346⟩ := gen_obj n2340 n2341 n2342 g2343
                    have fr2347 := S2337.free n2340
                    have S2348 := S2337.new n2340 e2345 h2346 fr2347
                    have h2349 := (e2345 _ _ h2335)
                    refine ⟨G2274, _, _, _, _, rfl, S2348.sG, (S2348.gno (all_cons (.head _) all_nil)), h2346, ((hideL_out (ni1 (ne_of_none h2335 n2340))).trans h2349), cW_callN hw (fun v2350 hw H2353 l2351 l2352 x2354 n2359 n2360 ne2361 h2355 h2357 h2358 => ⟨rfl, ?_⟩) trivial⟩
                    have fr2362 := S2348.free n2359
                    have fr2363 := S2348.free n2360
                    have S2356 : Sep _ _ _ _ H2353 [l2351, l2352, x2338, p2329, p2318, p2307, p2297, p2288, p2282, p2160] := Sep.init S2348 x2354 (.head _) h2355 [l2351, l2352] (all_cons ⟨n2359, some_ne h2357, fr2362⟩ (all_cons ⟨n2360, some_ne h2358, fr2363⟩ all_nil))
                    refine ⟨rfl, rfl, fun x2364 dx2365 n2366 n2367 n2368 => ?_⟩
                    generalize g2369 : upd (upd H2353 dx2365 _) x2364 _ = H2370
                    obtain ⟨e2371, h2372⟩ := gen_obj n2366 n2367 n2368 g2369
                    have fr2373 := S2356.free n2366
                    have S2374 := S2356.new n2366 e2371 h2372 fr2373
                    have h2375 := (e2371 _ _ h2355)
                    have h2376 := (e2371 _ _ h2357)
                    have h2377 := (e2371 _ _ h2358)
                    refine ⟨G2274, _, _, _, _, _, _, v2350, rfl, S2374.sG, (S2374.gno (all_cons (.head _) all_nil)), h2372, ((hideL_out (ni1 (ne_of_none h2355 n2366))).trans h2375), ((hideL_out (ni1 (ne_of_none h2357 n2366))).trans h2376), ((hideL_out (ni1 (ne_of_none h2358 n2366))).trans h2377), cW_callN hw (fun v2378 hw H2379 x2380 h2381 => ⟨rfl, ?_⟩) trivial⟩
                    have S2382 : Sep _ _ _ _ H2379 [x2364, l2351, l2352, x2338, p2329, p2318, p2307, p2297, p2288, p2282, p2160] := Sep.init S2374 x2380 (.head _) h2381 [] all_nil
                    refine ⟨_, rfl, (by show 11 ≤ sizeLine; decide), fun p2383 n2384 => ?_⟩
                    generalize g2385 : upd H2379 p2383 _ = H2386
                    obtain ⟨e2387, h2388⟩ := gen_new n2384 g2385
                    have h2389 : H2386 p2383 = some (.lst (([0, 1, 2, 3, 5, 6, 7, 9, 16, 64, (-4)] : (List Int)).map V.int)) := h2388
                    have fr2390 := S2382.free n2384
                    have S2391 := S2382.new n2384 e2387 h2389 fr2390
                    obtain ⟨g2392, hw⟩ := cW_grd hw
                    have h2393 := (e2387 _ _ h2381)
                    have h2394 := (e2387 _ _ ((SameXs.of x2380) _ _ h2375 (ni1 (ne_of_none h2355 n2366))))
                    have h2395 := (e2387 _ _ ((SameXs.of x2380) _ _ h2376 (ni1 (ne_of_none h2357 n2366))))
                    have h2396 := (e2387 _ _ ((SameXs.of x2380) _ _ h2377 (ni1 (ne_of_none h2358 n2366))))
                    refine ⟨_, rfl, _, _, rfl, rfl, (show (0 : Int) < 11 by decide), _, _, _, _, rfl, rfl, (SqL.of h2389), (atI_map g2392), rfl, rfl, G2274, _, _, _, _, _, _, (⟨v2350⟩ : St_SymbolReader), _, rfl, S2391.sG, (S2391.gno (all_cons (.tail _ (.head _)) (all_cons (.tail _ (.tail _ (.tail _ (.tail _ (.head _))))) (all_cons (.tail _ (.tail _ (.head _))) (all_cons (.tail _ (.tail _ (.tail _ (.head _)))) all_nil))))), h2393, h2394, h2395, h2396, ne2361, (ne_of_none h2355 n2366).symm, cW_try hw (fun v2397 hw H2398 x2399 h2401 h2402 h2403 h2404 p2405 n2406 h2407 => ?_) ?_⟩
                    · have fr2408 := S2391.free n2406
                      have S2400 := S2391.mutnew x2399 (all_cons (.tail _ (.head _)) (all_cons (.tail _ (.tail _ (.tail _ (.tail _ (.head _))))) (all_cons (.tail _ (.tail _ (.head _))) (all_cons (.tail _ (.tail _ (.tail _ (.head _)))) all_nil)))) (all_cons (some_ne h2401) (all_cons (some_ne h2402) (all_cons (some_ne h2403) (all_cons (some_ne h2404) all_nil)))) n2406 (some_ne h2407) fr2408
                      have hw := cW_ok hw
                      exact hK0 _ hw _ S2400.b0
                    · intro e hm hw H2409 e2410
                      have S2411 := S2391.same e2410
                      obtain rfl := mem_one hm
                      refine ⟨true, T.xm_OutOfRange_OutOfRange, fun _ _ _ => ?_, fun q => nomatch q⟩
                      have hw := cW_ok hw
                      exact hK0 _ hw _ S2411.b0

abbrev N__law_is_integers : List Str := ["actual", "count", "item"]
theorem sc__law_is_integers : FnScope N__law_is_integers ["actual", "count"] (defScope s__law_is_integers) := ⟨rfl, rfl, rfl, by decide +kernel, rfl, by decide +kernel, by decide +kernel⟩
theorem ok__law_is_integers (D : DefX K mg "_law_is_integers" s__law_is_integers ["actual", "count"] pats__law_is_integers) (T : Txt w K mg AD)  : CalX P w K mg base 1 "_law_is_integers" (sp__law_is_integers K AD) pats__law_is_integers := by
  refine D.ok sc__law_is_integers (fun vs H Q E h => ?_) (fun f cdv A_ outer s H vs Q E hr h => ?_)
  · obtain ⟨G, a_actual, actual', count', rfl, _⟩ := h
    rfl
  · obtain ⟨G, a_actual, actual', count', rfl, sG, q_actual, hw⟩ := h
    refine ⟨_, (pss_cons (ps_if (PW.pt (pw_or (pt_not (pt_val (pe_callB call_isi (by rfl) T.b_isinstance (by decide +kernel) (pa_cons (pv 0) (pa_cons (pe_bltn (v := V.ty "list") (u := Value.type "list") (by rfl) T.b_list (by decide +kernel) rfl) pa_nil))))) (pw_or1 (pt_cmp (pc_neI (pe_callB (call_lenLiK (K := K)) (by rfl) T.b_len (by decide +kernel) (pa_cons (pv 0) pa_nil)) (pv 1)))))) (pss_one (ps_ret pe_bl)) pss_nil)
      (pss_cons (ps_for (passes_of rfl) rfl (pi_listK (K := K) (pv 0)) (pg_name (i := 2) sc__law_is_integers.nd rfl (Or.inl rfl)) (pss_one (ps_if (PW.pt (pw_or (pt_not (pt_val (pe_callB call_isi (by rfl) T.b_isinstance (by decide +kernel) (pa_cons (pv 2) (pa_cons (pe_bltn (v := V.ty "int") (u := Value.type "int") (by rfl) T.b_int (by decide +kernel) rfl) pa_nil))))) (pw_or1 (pt_val (pe_callB call_isi (by rfl) T.b_isinstance (by decide +kernel) (pa_cons (pv 2) (pa_cons (pe_bltn (v := V.ty "bool") (u := Value.type "bool") (by rfl) T.b_bool (by decide +kernel) rfl) pa_nil))))))) (pss_one (ps_ret pe_bl)) pss_nil)))
      (pss_one (ps_ret pe_bl)))), ?_⟩
    obtain ⟨KK, EE, hK0, hE, hw⟩ := cW_gen hw
    have S0 := Sep.startG sG
    unfold F__law_is_integers at hw
    refine ⟨_, rfl, _, _, _, _, _, rfl, (.ty _), (.base (.lst (S0.bM _ _ q_actual))), rfl, _, rfl, ?_⟩
    refine iteF ?_
    refine ⟨_, rfl, _, _, rfl, (SqL.of (S0.bM _ _ q_actual)), _, rfl, _, _, rfl, rfl, _, rfl, ?_⟩
    refine iteN (fun c2412 => ?_) (fun c2412 => ?_)
    · have hw := cW_neg c2412 hw
      have hw := cW_ok hw
      exact hK0 _ hw _ S0.b0
    · have hw := cW_pos c2412 hw
      obtain ⟨K2413, hK2414, hw⟩ := cW_push hw
      refine ⟨_, rfl, _, rfl, ⟨_, (SqL.of (S0.bM _ _ q_actual))⟩, for_list (K := K) (a := a_actual) (xs := (actual' : List Int).map V.int) (fun i σ H' => ∃ (u2415 : Option V) (G' : Hp), σ = [some (V.ref a_actual), some (V.int (count')), u2415] ∧ Same G G' ∧ Sep [] H G G' H' [] ∧ cW (forR (List.drop i (actual')) () (fun s x => F__law_is_integers_b1   x)) K2413 EE) ?_ ?_ ?_ ?_⟩
      · exact ⟨_, _, rfl, (Same.refl _), S0, hw⟩
      · intro i σ H2416 _ hw
        obtain ⟨u2415, G2418, rfl, eG2419, S2417, hw⟩ := hw
        exact (SqL.of (S2417.bM _ _ q_actual))
      · intro i x σ H2420 hj hw
        obtain ⟨u2415, G2422, rfl, eG2423, S2421, hw⟩ := hw
        obtain ⟨x2424, hx, rfl⟩ := map_get hj
        have hw := cW_forR hx hw
        have hw : cW (F__law_is_integers_b1   (x2424)) _ EE := hw
        unfold F__law_is_integers_b1 at hw
        obtain ⟨K2425, hK2426, hw⟩ := cW_name hw
        refine ⟨_, rfl, _, _, _, _, _, rfl, (.ty _), (.base (.int _)), rfl, _, rfl, ?_⟩
        refine iteF ?_
        refine ⟨_, rfl, _, _, _, _, _, rfl, (.ty _), (.base (.int _)), rfl, _, rfl, ?_⟩
        refine iteF ?_
        have hw := cW_ok hw
        have hw := hK2426 _ hw
        exact ⟨_, _, rfl, eG2423, S2421, hw⟩
      · intro σ H2428 hw
        obtain ⟨u2415, G2430, rfl, eG2431, S2429, hw⟩ := hw
        have hw := cW_aftgo (hK2414 _ (cW_forR0 (by rw [List.length_map]) hw))
        have hw : cW (F__law_is_integers_r1  ) _ EE := hw
        unfold F__law_is_integers_r1 at hw
        have hw := cW_ok hw
        exact hK0 _ hw _ S2429.b0

abbrev N_law : List Str := ["script", "first", "octets", "kept", "reader", "encoder", "writer", "blocks", "k", "size", "levels", "again"]
theorem sc_law : FnScope N_law ["script"] (defScope s_law) := ⟨rfl, rfl, rfl, by decide +kernel, rfl, by decide +kernel, by decide +kernel⟩
theorem ok_law {f : Addr} {fd : FuncData} (F : FunD K "law" "law" (defArgs s_law) (defBody s_law) (defScope s_law) [] [] f fd) (T : Txt w K mg AD) (c__law_cell : CalX P w K mg base 1 "_law_cell" (sp__law_cell K AD) pats__law_cell) (c__law_octets : CalX P w K mg base 2 "_law_octets" (sp__law_octets K AD) pats__law_octets) (c_SymbolReader___init__ : MakX P w K mg base 1 "SymbolReader" AD.c_SymbolReader (sp_SymbolReader___init__ K AD) pats_SymbolReader___init__) (c_Decoder___init__ : MakX P w K mg base 2 "Decoder" AD.c_Decoder (sp_Decoder___init__ K AD) pats_Decoder___init__) (c_Encoder___init__ : MakX P w K mg base 1 "Encoder" AD.c_Encoder (sp_Encoder___init__ K AD) pats_Encoder___init__) (c_SymbolWriter___init__ : MakX P w K mg base 1 "SymbolWriter" AD.c_SymbolWriter (sp_SymbolWriter___init__ K AD) pats_SymbolWriter___init__) (c_get_levels : CalX P w K mg base 6 "get_levels" (sp_get_levels K AD) pats_get_levels) (c__law_is_integers : CalX P w K mg base 1 "_law_is_integers" (sp__law_is_integers K AD) pats__law_is_integers) (c_put_levels : CalX P w K mg base 6 "put_levels" (sp_put_levels K AD) pats_put_levels) (c_Encoder_octets : MetH P w K mg base 1 AD.c_Encoder "octets" (sp_Encoder_octets K AD) pats_Encoder_octets) (c__law_refuses : CalX P w K mg base 8 "_law_refuses" (sp__law_refuses K AD) pats__law_refuses) : FnG P w K mg base CX0 9 f fd ["script"] (sp_law K AD) := by
  refine FnG.bodyN F sc_law (fun vs H Q E h => ?_) (fun cdv A_ outer s H vs Q E hr h => ?_)
  · obtain ⟨a_script, script, rfl, _⟩ := h
    rfl
  · obtain ⟨a_script, script', rfl, q_script, hw, k⟩ := h
    refine ⟨_, (pss_cons (ps_set (i := 1) sc_law.nd rfl (Or.inl rfl) (vx_callX c__law_cell pat__law_cell_0 (.head _) hr (by decide) takes0n rfl (pa_cons (pv 0) (pa_cons pe_int pa_nil)) pk_nil))
      (pss_cons (ps_set (i := 2) sc_law.nd rfl (Or.inl rfl) (vx_callX c__law_octets pat__law_octets_0 (.head _) hr (by decide) takes0n rfl (pa_cons (pv 1) pa_nil) pk_nil))
      (pss_cons (ps_set (i := 3) sc_law.nd rfl (Or.inl rfl) (pe_callTy (call_listLK (K := K)) (by rfl) T.b_list (by decide +kernel) (pa_cons (pv 2) pa_nil)))
      (pss_cons (ps_set (i := 4) sc_law.nd rfl (Or.inl rfl) (vx_makeX c_SymbolReader___init__ pat_SymbolReader___init___0 (.head _) hr (by decide) takes0n rfl (pa_cons (vx_makeX c_Decoder___init__ pat_Decoder___init___0 (.head _) hr (by decide) takes0n rfl (pa_cons (pv 2) pa_nil) pk_nil) pa_nil) pk_nil))
      (pss_cons (ps_set (i := 5) sc_law.nd rfl (Or.inl rfl) (vx_makeX0 c_Encoder___init__ pat_Encoder___init___0 (.head _) hr (by decide) takes0n rfl))
      (pss_cons (ps_set (i := 6) sc_law.nd rfl (Or.inl rfl) (vx_makeX c_SymbolWriter___init__ pat_SymbolWriter___init___0 (.head _) hr (by decide) takes0n rfl (pa_cons (pv 5) pa_nil) pk_nil))
      (pss_cons (ps_set (i := 7) sc_law.nd rfl (Or.inl rfl) (pe_lst pa_nil))
      (pss_cons (ps_for PassesOwn.never rfl (pi_range1 rfl T.b_range (pa_cons (pe_op op_add pe_int (pe_op op_mod (pe_op op_fdivW (pv 1) pe_int) pe_int)) pa_nil)) (pg_name (i := 8) sc_law.nd rfl (Or.inl rfl)) (pss_cons (ps_set (i := 9) sc_law.nd rfl (Or.inl rfl) pe_int)
      (C8.pss_cut (ps_if (pt_cmp (pc_eqI (pe_op op_mod (pe_op op_add (pe_op op_fdivW (pv 1) pe_int) (pv 8)) pe_int) pe_int)) (pss_one (ps_set (i := 9) sc_law.nd rfl (Or.inl rfl) pe_int)) pss_nil)
      (pss_cons (ps_set (i := 10) sc_law.nd rfl (Or.inl rfl) (vx_callX c_get_levels pat_get_levels_0 (.head _) hr (by decide) takes0n rfl (pa_cons (pv 4) (pa_cons (pv 9) pa_nil)) pk_nil))
      (pss_cons (ps_if (PW.pt (pw_or (pt_not (pt_val (vx_callX c__law_is_integers pat__law_is_integers_0 (.head _) hr (by decide) takes0n rfl (pa_cons (pv 10) (pa_cons (pe_op op_mul (pv 9) (pv 9)) pa_nil)) pk_nil))) (pw_or1 (pt_cmpR (op_eqT (encOk_L encOk_int) hr.units) (pv 10) (pe_op op_rep (pe_lst (pa_cons pe_int pa_nil)) (pe_callB (call_lenLiK (K := K)) (by rfl) T.b_len (by decide +kernel) (pa_cons (pv 10) pa_nil))) (nomark _))))) (pss_one (ps_ret pe_bl)) pss_nil)
      (pss_cons (ps_if (PW.pt (pw_or (pt_cmp (pc_lt (pe_callB (cr_minL (K := K) rfl) (by rfl) T.b_min (by decide +kernel) (pa_cons (pv 10) pa_nil)) (pe_un un_neg pe_int))) (pw_or1 (pt_cmp (pc_gt (pe_callB (cr_maxL (K := K) rfl) (by rfl) T.b_max (by decide +kernel) (pa_cons (pv 10) pa_nil)) pe_int))))) (pss_one (ps_ret pe_bl)) pss_nil)
      (pss_cons (ps_expr (pe_bm PySem.F.plainAttrs_list PySem.F.slot_list_append PySem.F.type_list_append mt_append (pv 7) (pa_cons (pv 10) pa_nil)))
      (pss_one (ps_expr (vx_callX c_put_levels pat_put_levels_0 (.head _) hr (by decide) takes0n rfl (pa_cons (pv 6) (pa_cons (pe_callTy (call_listLK (K := K)) (by rfl) T.b_list (by decide +kernel) (pa_cons (pv 10) pa_nil)) pa_nil)) pk_nil))))))))))
      (pss_cons (ps_if (pt_cmpR (op_neT (encOk_L encOk_int) hr.units) (pv 2) (pv 3) (nomark _)) (pss_one (ps_ret pe_bl)) pss_nil)
      (pss_cons (ps_set (i := 11) sc_law.nd rfl (Or.inl rfl) (vx_makeX c_SymbolReader___init__ pat_SymbolReader___init___0 (.head _) hr (by decide) takes0n rfl (pa_cons (vx_makeX c_Decoder___init__ pat_Decoder___init___0 (.head _) hr (by decide) takes0n rfl (pa_cons (vx_methX0 c_Encoder_octets.y pat_Encoder_octets_0 (.head _) hr (by decide) takes0n (pv 5)) pa_nil) pk_nil) pa_nil) pk_nil))
      (pss_cons (ps_for PassesOwn.never rfl (pi_range1 rfl T.b_range (pa_cons (pe_callB (call_lenLK (K := K)) (by rfl) T.b_len (by decide +kernel) (pa_cons (pv 7) pa_nil)) pa_nil)) (pg_name (i := 8) sc_law.nd rfl (Or.inl rfl)) (pss_cons (ps_set (i := 9) sc_law.nd rfl (Or.inl rfl) pe_int)
      (C8.pss_cut (ps_if (pt_cmp (pc_eqI (pe_callB (call_lenLiK (K := K)) (by rfl) T.b_len (by decide +kernel) (pa_cons (pe_ix (ix_listK (K := K)) (pv 7) (pv 8) (fun _ _ => rfl)) pa_nil)) pe_int)) (pss_one (ps_set (i := 9) sc_law.nd rfl (Or.inl rfl) pe_int)) pss_nil)
      (pss_one (ps_if (pt_cmpR (op_neT (encOk_L encOk_int) hr.units) (vx_callX c_get_levels pat_get_levels_0 (.head _) hr (by decide) takes0n rfl (pa_cons (pv 11) (pa_cons (pv 9) pa_nil)) pk_nil) (pe_ix (ix_listK (K := K)) (pv 7) (pv 8) (fun _ _ => rfl)) (nomark _)) (pss_one (ps_ret pe_bl)) pss_nil)))))
      (pss_one (ps_ret (vx_callX c__law_refuses pat__law_refuses_0 (.head _) hr (by decide) takes0n rfl (pa_cons (vx_callX c__law_cell pat__law_cell_0 (.head _) hr (by decide) takes0n rfl (pa_cons (pv 0) (pa_cons pe_int pa_nil)) pk_nil) pa_nil) pk_nil)))))))))))))), ?_⟩
    obtain ⟨KK, EE, hK0, hE, hw⟩ := cW_gen hw
    have S0 := Sep.start0 H
    unfold F_law at hw
    refine ⟨_, rfl, rfl, rfl, H, _, _, _, rfl, S0.sG, (S0.b0.seq q_script), cW_call hw (fun v2432 hw => ?_) (fun e he => (hE e he).elim)⟩
    refine ⟨_, rfl, rfl, rfl, H, _, rfl, S0.sG, cW_call hw (fun v2433 hw p2436 H2434 n2437 e2435 h2438 => ?_) (fun e he => (hE e he).elim)⟩
    have h2439 : H2434 p2436 = some (.lst ((v2433 : (List Int)).map V.int)) := h2438
    have fr2440 := S0.free n2437
    have S2441 := S0.new n2437 e2435 h2439 fr2440
    refine ⟨_, rfl, _, _, rfl, (SqL.of h2439), fun p2442 n2443 => ?_⟩
    generalize g2444 : upd H2434 p2442 _ = H2445
    obtain ⟨e2446, h2447⟩ := gen_new n2443 g2444
    have h2448 : H2445 p2442 = some (.lst ((v2433 : (List Int)).map V.int)) := h2447
    have fr2449 := S2441.free n2443
    have S2450 := S2441.new n2443 e2446 h2448 fr2449
    refine ⟨_, rfl, rfl, rfl, fun x2451 dx2452 n2453 n2454 n2455 => ?_⟩
    generalize g2456 : upd (upd H2445 dx2452 _) x2451 _ = H2457
    obtain ⟨e2458, h2459⟩ := gen_obj n2453 n2454 n2455 g2456
    have fr2460 := S2450.free n2453
    have S2461 := S2450.new n2453 e2458 h2459 fr2460
    have h2462 := (e2458 _ _ (e2446 _ _ h2439))
    refine ⟨H, _, _, _, _, rfl, S2461.sG, (S2461.gno (all_cons (.head _) all_nil)), h2459, ((hideL_out (ni1 (ne_of_none (e2446 _ _ h2439) n2453))).trans h2462), cW_call hw (fun v2463 hw H2466 l2464 l2465 x2467 n2472 n2473 ne2474 h2468 h2470 h2471 => ⟨rfl, ?_⟩) (fun e he => (hE e he).elim)⟩
    have fr2475 := S2461.free n2472
    have fr2476 := S2461.free n2473
    have S2469 : Sep _ _ _ _ H2466 [l2464, l2465, x2451, p2442, p2436] := Sep.init S2461 x2467 (.head _) h2468 [l2464, l2465] (all_cons ⟨n2472, some_ne h2470, fr2475⟩ (all_cons ⟨n2473, some_ne h2471, fr2476⟩ all_nil))
    refine ⟨rfl, rfl, fun x2477 dx2478 n2479 n2480 n2481 => ?_⟩
    generalize g2482 : upd (upd H2466 dx2478 _) x2477 _ = H2483
    obtain ⟨e2484, h2485⟩ := gen_obj n2479 n2480 n2481 g2482
    have fr2486 := S2469.free n2479
    have S2487 := S2469.new n2479 e2484 h2485 fr2486
    have h2488 := (e2484 _ _ h2468)
    have h2489 := (e2484 _ _ h2470)
    have h2490 := (e2484 _ _ h2471)
    refine ⟨H, _, _, _, _, _, _, v2463, rfl, S2487.sG, (S2487.gno (all_cons (.head _) all_nil)), h2485, ((hideL_out (ni1 (ne_of_none h2468 n2479))).trans h2488), ((hideL_out (ni1 (ne_of_none h2470 n2479))).trans h2489), ((hideL_out (ni1 (ne_of_none h2471 n2479))).trans h2490), cW_call hw (fun v2491 hw H2492 x2493 h2494 => ⟨rfl, ?_⟩) (fun e he => (hE e he).elim)⟩
    have S2495 : Sep _ _ _ _ H2492 [x2477, l2464, l2465, x2451, p2442, p2436] := Sep.init S2487 x2493 (.head _) h2494 [] all_nil
    refine ⟨rfl, rfl, fun x2496 dx2497 n2498 n2499 n2500 => ?_⟩
    generalize g2501 : upd (upd H2492 dx2497 _) x2496 _ = H2502
    obtain ⟨e2503, h2504⟩ := gen_obj n2498 n2499 n2500 g2501
    have fr2505 := S2495.free n2498
    have S2506 := S2495.new n2498 e2503 h2504 fr2505
    refine ⟨H, _, _, rfl, S2506.sG, (S2506.gno (all_cons (.head _) all_nil)), h2504, cW_call hw (fun v2507 hw H2510 l2508 l2509 x2511 n2516 n2517 ne2518 h2512 h2514 h2515 => ⟨rfl, ?_⟩) (fun e he => (hE e he).elim)⟩
    have fr2519 := S2506.free n2516
    have fr2520 := S2506.free n2517
    have S2513 : Sep _ _ _ _ H2510 [l2508, l2509, x2496, x2477, l2464, l2465, x2451, p2442, p2436] := Sep.init S2506 x2511 (.head _) h2512 [l2508, l2509] (all_cons ⟨n2516, some_ne h2514, fr2519⟩ (all_cons ⟨n2517, some_ne h2515, fr2520⟩ all_nil))
    refine ⟨_, rfl, rfl, rfl, fun x2521 dx2522 n2523 n2524 n2525 => ?_⟩
    generalize g2526 : upd (upd H2510 dx2522 _) x2521 _ = H2527
    obtain ⟨e2528, h2529⟩ := gen_obj n2523 n2524 n2525 g2526
    have fr2530 := S2513.free n2523
    have S2531 := S2513.new n2523 e2528 h2529 fr2530
    have h2532 := (e2528 _ _ h2512)
    have h2533 := (e2528 _ _ h2514)
    have h2534 := (e2528 _ _ h2515)
    refine ⟨H, _, _, _, _, _, _, v2507, rfl, S2531.sG, (S2531.gno (all_cons (.head _) all_nil)), h2529, ((hideL_out (ni1 (ne_of_none h2512 n2523))).trans h2532), ((hideL_out (ni1 (ne_of_none h2514 n2523))).trans h2533), ((hideL_out (ni1 (ne_of_none h2515 n2523))).trans h2534), cW_call hw (fun v2535 hw H2536 x2537 h2538 => ⟨rfl, ?_⟩) (fun e he => (hE e he).elim)⟩
    have S2539 : Sep _ _ _ _ H2536 [x2521, l2508, l2509, x2496, x2477, l2464, l2465, x2451, p2442, p2436] := Sep.init S2531 x2537 (.head _) h2538 [] all_nil
    refine ⟨(by show 0 ≤ sizeLine; decide), fun p2540 n2541 => ?_⟩
    generalize g2542 : upd H2536 p2540 _ = H2543
    obtain ⟨e2544, h2545⟩ := gen_new n2541 g2542
    have h2546 : H2543 p2540 = some (.lst ([])) := h2545
    have fr2547 := S2539.free n2541
    have S2548 := S2539.new n2541 e2544 h2546 fr2547
    have d2549 : RpAll H ([]) ((([] : (List (List Int))) : (List (List Int))).map (encL PyData.int)) := RpAll.nil
    obtain ⟨g2550, hw⟩ := cW_grd hw
    obtain ⟨K2555, hK2556, hw⟩ := cW_push hw
    refine ⟨_, rfl, _, _, rfl, rfl, (divW_lit (by decide) (by decide)), _, _, rfl, rfl, (show (0 : Int) < 5 by decide), _, _, rfl, rfl, _, rfl, g2550.1, g2550.2, for_range (lo := 0) (n := Int.toNat ((1 + ((v2432 / 7) % 5)))) (fun i σ H' => ∃ (reader_2557 : St_SymbolReader) (writer_2558 : St_SymbolWriter) (blocks_2559 : (List (List Int))) (vs2560 : List V) (u2561 : Option V) (u2562 : Option V) (u2563 : Option V) (G' : Hp), σ = [some (V.ref a_script), some (V.int (v2432)), some (V.ref p2436), some (V.ref p2442), some (V.ref x2477), some (V.ref x2496), some (V.ref x2521), some (V.ref p2540), u2561, u2562, u2563, none] ∧ Same H G' ∧ Sep [] H H G' H' [p2436, p2442, x2477, x2451, l2464, l2465, x2496, l2508, l2509, x2521, p2540] ∧ H' p2436 = some (.lst ((v2433 : (List Int)).map V.int)) ∧ H' p2442 = some (.lst ((v2433 : (List Int)).map V.int)) ∧ H' x2477 = some (.ins AD.c_SymbolReader dx2478 [("_decoder", V.ref x2451)]) ∧ H' x2451 = some (.ins AD.c_Decoder dx2452 [("_probabilities", V.ref l2464), ("_octets", V.ref l2465), ("_place", V.int (reader_2557.dec.place)), ("_span", V.int (reader_2557.dec.span)), ("_value", V.int (reader_2557.dec.value))]) ∧ H' l2464 = some (.lst ((reader_2557.dec.probs : (List Int)).map V.int)) ∧ H' l2465 = some (.lst ((reader_2557.dec.octs : (List Int)).map V.int)) ∧ H' x2496 = some (.ins AD.c_Encoder dx2497 [("_probabilities", V.ref l2508), ("_front", V.ref l2509), ("_low", V.int (writer_2558.enc.low)), ("_span", V.int (writer_2558.enc.span))]) ∧ H' l2508 = some (.lst ((writer_2558.enc.probs : (List Int)).map V.int)) ∧ H' l2509 = some (.lst ((writer_2558.enc.front : (List Int)).map V.int)) ∧ H' x2521 = some (.ins AD.c_SymbolWriter dx2522 [("_encoder", V.ref x2496)]) ∧ H' p2540 = some (.lst (vs2560)) ∧ RpAll G' (vs2560) ((blocks_2559 : (List (List Int))).map (encL PyData.int)) ∧ cW (forR (List.drop i (rng (0) (Int.toNat ((1 + ((v2432 / 7) % 5)))))) (reader_2557, writer_2558, blocks_2559) (fun s x => F_law_b1 (v2432) (s.1) (s.2.1) (s.2.2) x)) K2555 EE) ?_ ?_ ?_⟩
    · have h2564 := (e2544 _ _ ((SameXs.of x2537) _ _ (e2528 _ _ ((SameXs.of x2511) _ _ (e2503 _ _ ((SameXs.of x2493) _ _ (e2484 _ _ ((SameXs.of x2467) _ _ h2462 (ni1 (ne_of_none (e2446 _ _ h2439) n2453)))) (ni1 (ne_of_none ((SameXs.of x2467) _ _ h2462 (ni1 (ne_of_none (e2446 _ _ h2439) n2453))) n2479)))) (ni1 (ne_of_none ((SameXs.of x2493) _ _ (e2484 _ _ ((SameXs.of x2467) _ _ h2462 (ni1 (ne_of_none (e2446 _ _ h2439) n2453)))) (ni1 (ne_of_none ((SameXs.of x2467) _ _ h2462 (ni1 (ne_of_none (e2446 _ _ h2439) n2453))) n2479))) n2498)))) (ni1 (ne_of_none ((SameXs.of x2511) _ _ (e2503 _ _ ((SameXs.of x2493) _ _ (e2484 _ _ ((SameXs.of x2467) _ _ h2462 (ni1 (ne_of_none (e2446 _ _ h2439) n2453)))) (ni1 (ne_of_none ((SameXs.of x2467) _ _ h2462 (ni1 (ne_of_none (e2446 _ _ h2439) n2453))) n2479)))) (ni1 (ne_of_none ((SameXs.of x2493) _ _ (e2484 _ _ ((SameXs.of x2467) _ _ h2462 (ni1 (ne_of_none (e2446 _ _ h2439) n2453)))) (ni1 (ne_of_none ((SameXs.of x2467) _ _ h2462 (ni1 (ne_of_none (e2446 _ _ h2439) n2453))) n2479))) n2498))) n2523))))
      have h2565 := (e2544 _ _ ((SameXs.of x2537) _ _ (e2528 _ _ ((SameXs.of x2511) _ _ (e2503 _ _ ((SameXs.of x2493) _ _ (e2484 _ _ ((SameXs.of x2467) _ _ (e2458 _ _ h2448) (ni1 (ne_of_none h2448 n2453)))) (ni1 (ne_of_none ((SameXs.of x2467) _ _ (e2458 _ _ h2448) (ni1 (ne_of_none h2448 n2453))) n2479)))) (ni1 (ne_of_none ((SameXs.of x2493) _ _ (e2484 _ _ ((SameXs.of x2467) _ _ (e2458 _ _ h2448) (ni1 (ne_of_none h2448 n2453)))) (ni1 (ne_of_none ((SameXs.of x2467) _ _ (e2458 _ _ h2448) (ni1 (ne_of_none h2448 n2453))) n2479))) n2498)))) (ni1 (ne_of_none ((SameXs.of x2511) _ _ (e2503 _ _ ((SameXs.of x2493) _ _ (e2484 _ _ ((SameXs.of x2467) _ _ (e2458 _ _ h2448) (ni1 (ne_of_none h2448 n2453)))) (ni1 (ne_of_none ((SameXs.of x2467) _ _ (e2458 _ _ h2448) (ni1 (ne_of_none h2448 n2453))) n2479)))) (ni1 (ne_of_none ((SameXs.of x2493) _ _ (e2484 _ _ ((SameXs.of x2467) _ _ (e2458 _ _ h2448) (ni1 (ne_of_none h2448 n2453)))) (ni1 (ne_of_none ((SameXs.of x2467) _ _ (e2458 _ _ h2448) (ni1 (ne_of_none h2448 n2453))) n2479))) n2498))) n2523))))
      have h2566 := (e2544 _ _ ((SameXs.of x2537) _ _ (e2528 _ _ ((SameXs.of x2511) _ _ (e2503 _ _ h2494) (ni1 (ne_of_none h2494 n2498)))) (ni1 (ne_of_none ((SameXs.of x2511) _ _ (e2503 _ _ h2494) (ni1 (ne_of_none h2494 n2498))) n2523))))
      have h2567 := (e2544 _ _ ((SameXs.of x2537) _ _ (e2528 _ _ ((SameXs.of x2511) _ _ (e2503 _ _ ((SameXs.of x2493) _ _ h2488 (ni1 (ne_of_none h2468 n2479)))) (ni1 (ne_of_none ((SameXs.of x2493) _ _ h2488 (ni1 (ne_of_none h2468 n2479))) n2498)))) (ni1 (ne_of_none ((SameXs.of x2511) _ _ (e2503 _ _ ((SameXs.of x2493) _ _ h2488 (ni1 (ne_of_none h2468 n2479)))) (ni1 (ne_of_none ((SameXs.of x2493) _ _ h2488 (ni1 (ne_of_none h2468 n2479))) n2498))) n2523))))
      have h2568 := (e2544 _ _ ((SameXs.of x2537) _ _ (e2528 _ _ ((SameXs.of x2511) _ _ (e2503 _ _ ((SameXs.of x2493) _ _ h2489 (ni1 (ne_of_none h2470 n2479)))) (ni1 (ne_of_none ((SameXs.of x2493) _ _ h2489 (ni1 (ne_of_none h2470 n2479))) n2498)))) (ni1 (ne_of_none ((SameXs.of x2511) _ _ (e2503 _ _ ((SameXs.of x2493) _ _ h2489 (ni1 (ne_of_none h2470 n2479)))) (ni1 (ne_of_none ((SameXs.of x2493) _ _ h2489 (ni1 (ne_of_none h2470 n2479))) n2498))) n2523))))
      have h2569 := (e2544 _ _ ((SameXs.of x2537) _ _ (e2528 _ _ ((SameXs.of x2511) _ _ (e2503 _ _ ((SameXs.of x2493) _ _ h2490 (ni1 (ne_of_none h2471 n2479)))) (ni1 (ne_of_none ((SameXs.of x2493) _ _ h2490 (ni1 (ne_of_none h2471 n2479))) n2498)))) (ni1 (ne_of_none ((SameXs.of x2511) _ _ (e2503 _ _ ((SameXs.of x2493) _ _ h2490 (ni1 (ne_of_none h2471 n2479)))) (ni1 (ne_of_none ((SameXs.of x2493) _ _ h2490 (ni1 (ne_of_none h2471 n2479))) n2498))) n2523))))
      have h2570 := (e2544 _ _ ((SameXs.of x2537) _ _ h2532 (ni1 (ne_of_none h2512 n2523))))
      have h2571 := (e2544 _ _ ((SameXs.of x2537) _ _ h2533 (ni1 (ne_of_none h2514 n2523))))
      have h2572 := (e2544 _ _ ((SameXs.of x2537) _ _ h2534 (ni1 (ne_of_none h2515 n2523))))
      have h2573 := (e2544 _ _ h2538)
      exact ⟨((⟨v2463⟩ : St_SymbolReader)), ((⟨v2507⟩ : St_SymbolWriter)), (([] : (List (List Int)))), _, _, _, _, _, rfl, (Same.refl _), (S2548.sub (all_cons (.tail _ (.tail _ (.tail _ (.tail _ (.tail _ (.tail _ (.tail _ (.tail _ (.tail _ (.tail _ (.head _))))))))))) (all_cons (.tail _ (.tail _ (.tail _ (.tail _ (.tail _ (.tail _ (.tail _ (.tail _ (.tail _ (.head _)))))))))) (all_cons (.tail _ (.tail _ (.tail _ (.tail _ (.tail _ (.head _)))))) (all_cons (.tail _ (.tail _ (.tail _ (.tail _ (.tail _ (.tail _ (.tail _ (.tail _ (.head _))))))))) (all_cons (.tail _ (.tail _ (.tail _ (.tail _ (.tail _ (.tail _ (.head _))))))) (all_cons (.tail _ (.tail _ (.tail _ (.tail _ (.tail _ (.tail _ (.tail _ (.head _)))))))) (all_cons (.tail _ (.tail _ (.tail _ (.tail _ (.head _))))) (all_cons (.tail _ (.tail _ (.head _))) (all_cons (.tail _ (.tail _ (.tail _ (.head _)))) (all_cons (.tail _ (.head _)) (all_cons (.head _) all_nil)))))))))))), h2564, h2565, h2566, h2567, h2568, h2569, h2570, h2571, h2572, h2573, h2546, d2549, hw⟩
    · intro i σ H2574 hi hw
      obtain ⟨reader_2557, writer_2558, blocks_2559, vs2560, u2561, u2562, u2563, G2588, rfl, eG2589, S2575, h2576, h2577, h2578, h2579, h2580, h2581, h2582, h2583, h2584, h2585, h2586, d2587, hw⟩ := hw
      have hw := cW_forR (rng_get hi) hw
      generalize (0 + (i : Int)) = x2590 at hw ⊢
      have hw : cW (F_law_b1 (v2432) (reader_2557) (writer_2558) (blocks_2559) (x2590)) _ EE := hw
      unfold F_law_b1 at hw
      obtain ⟨K2594, hK2595, hw⟩ := cW_name hw
      refine ⟨fun σ H' => ∃ (size_2601 : Int) (G' : Hp), σ = [some (V.ref a_script), some (V.int (v2432)), some (V.ref p2436), some (V.ref p2442), some (V.ref x2477), some (V.ref x2496), some (V.ref x2521), some (V.ref p2540), some (V.int (x2590)), some (V.int size_2601), u2563, none] ∧ Same G2588 G' ∧ Sep [] H H G' H' [p2436, p2442, x2477, x2451, l2464, l2465, x2496, l2508, l2509, x2521, p2540] ∧ H' p2436 = some (.lst ((v2433 : (List Int)).map V.int)) ∧ H' p2442 = some (.lst ((v2433 : (List Int)).map V.int)) ∧ H' x2477 = some (.ins AD.c_SymbolReader dx2478 [("_decoder", V.ref x2451)]) ∧ H' x2451 = some (.ins AD.c_Decoder dx2452 [("_probabilities", V.ref l2464), ("_octets", V.ref l2465), ("_place", V.int (reader_2557.dec.place)), ("_span", V.int (reader_2557.dec.span)), ("_value", V.int (reader_2557.dec.value))]) ∧ H' l2464 = some (.lst ((reader_2557.dec.probs : (List Int)).map V.int)) ∧ H' l2465 = some (.lst ((reader_2557.dec.octs : (List Int)).map V.int)) ∧ H' x2496 = some (.ins AD.c_Encoder dx2497 [("_probabilities", V.ref l2508), ("_front", V.ref l2509), ("_low", V.int (writer_2558.enc.low)), ("_span", V.int (writer_2558.enc.span))]) ∧ H' l2508 = some (.lst ((writer_2558.enc.probs : (List Int)).map V.int)) ∧ H' l2509 = some (.lst ((writer_2558.enc.front : (List Int)).map V.int)) ∧ H' x2521 = some (.ins AD.c_SymbolWriter dx2522 [("_encoder", V.ref x2496)]) ∧ H' p2540 = some (.lst (vs2560)) ∧ cW (F_law_k2 (reader_2557) (writer_2558) (blocks_2559) size_2601) K2594 EE, ?_, ?_⟩
      · obtain ⟨K2602, hK2603, hw⟩ := cW_push hw
        refine ⟨_, rfl, _, _, rfl, rfl, (divW_lit (by decide) (by decide)), _, rfl, _, _, rfl, rfl, _, _, rfl, rfl, (show (0 : Int) < 2 by decide), _, _, rfl, rfl, _, rfl, ?_⟩
        refine iteD (fun c2604 => ?_) (fun c2604 => ?_)
        · have hw := cW_pos c2604 hw
          have hw := cW_ok hw
          have hw := hK2603 _ hw
          exact ⟨(8), _, rfl, (Same.refl _), S2575, h2576, h2577, h2578, h2579, h2580, h2581, h2582, h2583, h2584, h2585, h2586, hw⟩
        · have hw := cW_neg c2604 hw
          have hw := cW_ok hw
          have hw := hK2603 _ hw
          exact ⟨(4), _, rfl, (Same.refl _), S2575, h2576, h2577, h2578, h2579, h2580, h2581, h2582, h2583, h2584, h2585, h2586, hw⟩
      · intro σ H2605 hw
        obtain ⟨size_2601, G2618, rfl, eG2619, S2606, h2607, h2608, h2609, h2610, h2611, h2612, h2613, h2614, h2615, h2616, h2617, hw⟩ := hw
        unfold F_law_k2 at hw
        refine ⟨_, rfl, _, rfl, rfl, rfl, G2618, _, _, _, _, _, _, reader_2557, _, rfl, S2606.sG, (S2606.gno (all_cons (.tail _ (.tail _ (.head _))) (all_cons (.tail _ (.tail _ (.tail _ (.head _)))) (all_cons (.tail _ (.tail _ (.tail _ (.tail _ (.head _))))) (all_cons (.tail _ (.tail _ (.tail _ (.tail _ (.tail _ (.head _)))))) all_nil))))), h2609, h2610, h2611, h2612, ne2474, (ne_of_none h2468 n2479).symm, cW_call hw (fun v2620 hw H2621 x2622 h2624 h2625 h2626 h2627 p2628 n2629 h2630 => ?_) (fun e he => (hE e he).elim)⟩
        have fr2631 := S2606.free n2629
        have S2623 := S2606.mutnew x2622 (all_cons (.tail _ (.tail _ (.head _))) (all_cons (.tail _ (.tail _ (.tail _ (.head _)))) (all_cons (.tail _ (.tail _ (.tail _ (.tail _ (.head _))))) (all_cons (.tail _ (.tail _ (.tail _ (.tail _ (.tail _ (.head _)))))) all_nil)))) (all_cons (some_ne h2624) (all_cons (some_ne h2625) (all_cons (some_ne h2626) (all_cons (some_ne h2627) all_nil)))) n2629 (some_ne h2630) fr2631
        obtain ⟨g2632, hw⟩ := cW_grd hw
        refine ⟨_, rfl, _, rfl, _, rfl, _, _, rfl, rfl, g2632, rfl, rfl, G2618, _, _, _, rfl, S2623.sG, (hide_nil h2630), cW_call hw (fun v2633 hw H2634 e2635 => ?_) (fun e he => (hE e he).elim)⟩
        have S2636 := S2623.same e2635
        refine ⟨_, rfl, ?_⟩
        refine iteBN (fun c2637 => ?_) (fun c2637 => ?_)
        · have hw := cW_negB c2637 hw
          refine iteT ?_
          have hw := cW_ok hw
          have hw := hK2595 (.rt _) hw
          have hw := hK2556 (.rt _) hw
          have hw := cW_ok hw
          exact eq_bl (k _) (hK0 _ hw).symm
        · have hw := cW_pos c2637 hw
          refine ⟨_, rfl, (by show 1 ≤ sizeLine; decide), fun p2638 n2639 => ?_⟩
          generalize g2640 : upd H2634 p2638 _ = H2641
          obtain ⟨e2642, h2643⟩ := gen_new n2639 g2640
          have h2644 : H2641 p2638 = some (.lst (([0] : (List Int)).map V.int)) := h2643
          have fr2645 := S2636.free n2639
          have S2646 := S2636.new n2639 e2642 h2644 fr2645
          have h2647 := (e2642 _ _ (e2635 _ _ h2630))
          obtain ⟨g2648, hw⟩ := cW_grd hw
          refine ⟨_, rfl, _, _, rfl, (SqL.of h2647), _, _, _, rfl, rfl, h2644, g2648.1, g2648.2.1, (rep_lenM g2648.2.2), fun p2649 n2650 => ?_⟩
          generalize g2651 : upd H2641 p2649 _ = H2652
          obtain ⟨e2653, h2654⟩ := gen_new n2650 g2651
          have h2655 : H2652 p2649 = some (.lst ((repL ([0]) ((((v2620.1) : (List Int)).length : Int)) : (List Int)).map V.int)) := rep_map h2654
          have fr2656 := S2646.free n2650
          have S2657 := S2646.new n2650 e2653 h2655 fr2656
          have h2658 := (e2653 _ _ h2647)
          refine ⟨_, _, (rp_mk_ints h2658), (rp_mk_ints h2655), _, rfl, ?_⟩
          refine iteD (fun c2659 => ?_) (fun c2659 => ?_)
          · have hw := cW_pos c2659 hw
            have hw := cW_ok hw
            have hw := hK2595 (.rt _) hw
            have hw := hK2556 (.rt _) hw
            have hw := cW_ok hw
            exact eq_bl (k _) (hK0 _ hw).symm
          · have hw := cW_neg c2659 hw
            obtain ⟨g2660, hw⟩ := cW_grd hw
            refine ⟨_, rfl, _, _, rfl, (SqL.of h2658), g2660, _, rfl, _, _, rfl, rfl, _, rfl, ?_⟩
            refine iteD (fun c2661 => ?_) (fun c2661 => ?_)
            · have hw := cW_pos c2661 hw
              refine iteT ?_
              have hw := cW_ok hw
              have hw := hK2595 (.rt _) hw
              have hw := hK2556 (.rt _) hw
              have hw := cW_ok hw
              exact eq_bl (k _) (hK0 _ hw).symm
            · have hw := cW_neg c2661 hw
              obtain ⟨g2662, hw⟩ := cW_grd hw
              refine ⟨_, rfl, _, _, rfl, (SqL.of h2658), g2662, _, _, rfl, rfl, _, rfl, ?_⟩
              refine iteD (fun c2663 => ?_) (fun c2663 => ?_)
              · have hw := cW_pos c2663 hw
                have hw := cW_ok hw
                have hw := hK2595 (.rt _) hw
                have hw := hK2556 (.rt _) hw
                have hw := cW_ok hw
                exact eq_bl (k _) (hK0 _ hw).symm
              · have hw := cW_neg c2663 hw
                have h2664 := (e2653 _ _ (e2642 _ _ (e2635 _ _ (x2622 _ _ h2617 (ni4 (ne_of_none ((SameXs.of x2537) _ _ (e2528 _ _ ((SameXs.of x2511) _ _ (e2503 _ _ h2494) (ni1 (ne_of_none h2494 n2498)))) (ni1 (ne_of_none ((SameXs.of x2511) _ _ (e2503 _ _ h2494) (ni1 (ne_of_none h2494 n2498))) n2523))) n2541).symm (ne_of_none ((SameXs.of x2537) _ _ (e2528 _ _ ((SameXs.of x2511) _ _ (e2503 _ _ ((SameXs.of x2493) _ _ h2488 (ni1 (ne_of_none h2468 n2479)))) (ni1 (ne_of_none ((SameXs.of x2493) _ _ h2488 (ni1 (ne_of_none h2468 n2479))) n2498)))) (ni1 (ne_of_none ((SameXs.of x2511) _ _ (e2503 _ _ ((SameXs.of x2493) _ _ h2488 (ni1 (ne_of_none h2468 n2479)))) (ni1 (ne_of_none ((SameXs.of x2493) _ _ h2488 (ni1 (ne_of_none h2468 n2479))) n2498))) n2523))) n2541).symm (ne_of_none ((SameXs.of x2537) _ _ (e2528 _ _ ((SameXs.of x2511) _ _ (e2503 _ _ ((SameXs.of x2493) _ _ h2489 (ni1 (ne_of_none h2470 n2479)))) (ni1 (ne_of_none ((SameXs.of x2493) _ _ h2489 (ni1 (ne_of_none h2470 n2479))) n2498)))) (ni1 (ne_of_none ((SameXs.of x2511) _ _ (e2503 _ _ ((SameXs.of x2493) _ _ h2489 (ni1 (ne_of_none h2470 n2479)))) (ni1 (ne_of_none ((SameXs.of x2493) _ _ h2489 (ni1 (ne_of_none h2470 n2479))) n2498))) n2523))) n2541).symm (ne_of_none ((SameXs.of x2537) _ _ (e2528 _ _ ((SameXs.of x2511) _ _ (e2503 _ _ ((SameXs.of x2493) _ _ h2490 (ni1 (ne_of_none h2471 n2479)))) (ni1 (ne_of_none ((SameXs.of x2493) _ _ h2490 (ni1 (ne_of_none h2471 n2479))) n2498)))) (ni1 (ne_of_none ((SameXs.of x2511) _ _ (e2503 _ _ ((SameXs.of x2493) _ _ h2490 (ni1 (ne_of_none h2471 n2479)))) (ni1 (ne_of_none ((SameXs.of x2493) _ _ h2490 (ni1 (ne_of_none h2471 n2479))) n2498))) n2523))) n2541).symm)))))
                obtain ⟨g2665, hw⟩ := cW_grd hw
                refine ⟨_, rfl, (.inl ⟨rfl, _, SqL.of h2664⟩), _, rfl, ?_⟩
                obtain ⟨G2666, eG2667, hg2668, S2669⟩ := Sep.freeze (O' := [p2649, p2638, p2436, p2442, x2477, x2451, l2464, l2465, x2496, l2508, l2509, x2521, p2540]) S2657 (.tail _ (.tail _ (.head _))) h2658 fr2631 ((all_cons ⟨(.head _), (ne_of_none h2647 n2650).symm⟩ (all_cons ⟨(.tail _ (.head _)), (ne_of_none (e2635 _ _ h2630) n2639).symm⟩ (all_cons ⟨(.tail _ (.tail _ (.tail _ (.head _)))), (ne_of_none h2607 n2629)⟩ (all_cons ⟨(.tail _ (.tail _ (.tail _ (.tail _ (.head _))))), (ne_of_none h2608 n2629)⟩ (all_cons ⟨(.tail _ (.tail _ (.tail _ (.tail _ (.tail _ (.head _)))))), (ne_of_none h2609 n2629)⟩ (all_cons ⟨(.tail _ (.tail _ (.tail _ (.tail _ (.tail _ (.tail _ (.head _))))))), (ne_of_none h2610 n2629)⟩ (all_cons ⟨(.tail _ (.tail _ (.tail _ (.tail _ (.tail _ (.tail _ (.tail _ (.head _)))))))), (ne_of_none h2611 n2629)⟩ (all_cons ⟨(.tail _ (.tail _ (.tail _ (.tail _ (.tail _ (.tail _ (.tail _ (.tail _ (.head _))))))))), (ne_of_none h2612 n2629)⟩ (all_cons ⟨(.tail _ (.tail _ (.tail _ (.tail _ (.tail _ (.tail _ (.tail _ (.tail _ (.tail _ (.head _)))))))))), (ne_of_none h2613 n2629)⟩ (all_cons ⟨(.tail _ (.tail _ (.tail _ (.tail _ (.tail _ (.tail _ (.tail _ (.tail _ (.tail _ (.tail _ (.head _))))))))))), (ne_of_none h2614 n2629)⟩ (all_cons ⟨(.tail _ (.tail _ (.tail _ (.tail _ (.tail _ (.tail _ (.tail _ (.tail _ (.tail _ (.tail _ (.tail _ (.head _)))))))))))), (ne_of_none h2615 n2629)⟩ (all_cons ⟨(.tail _ (.tail _ (.tail _ (.tail _ (.tail _ (.tail _ (.tail _ (.tail _ (.tail _ (.tail _ (.tail _ (.tail _ (.head _))))))))))))), (ne_of_none h2616 n2629)⟩ (all_cons ⟨(.tail _ (.tail _ (.tail _ (.tail _ (.tail _ (.tail _ (.tail _ (.tail _ (.tail _ (.tail _ (.tail _ (.tail _ (.tail _ (.head _)))))))))))))), (ne_of_none h2617 n2629)⟩ all_nil))))))))))))))
                refine ⟨_, _, _, rfl, rfl, h2664, (app_len (RpAll.mono eG2667 (RpAll.mono eG2619 d2587)) g2665), ?_⟩
                generalize g2670 : upd H2652 p2540 _ = H2671
                obtain ⟨x2672, h2673⟩ := gen_mut g2670
                have h2674 : H2671 p2540 = some (.lst (vs2560 ++ [V.ref p2628])) := h2673
                have S2675 := S2669.mut1 x2672 (.tail _ (.tail _ (.tail _ (.tail _ (.tail _ (.tail _ (.tail _ (.tail _ (.tail _ (.tail _ (.tail _ (.tail _ (.head _))))))))))))) h2674
                have d2676 : RpAll G2666 (vs2560 ++ [V.ref p2628]) (((blocks_2559) ++ [v2620.1] : (List (List Int))).map (encL PyData.int)) := app_map (RpAll.mono eG2667 (RpAll.mono eG2619 d2587)) (RpAll.one (rp_mk_ints hg2668))
                have hw := cW_bnd hw
                refine ⟨_, rfl, _, rfl, _, _, rfl, (SqL.of (S2675.sG _ _ hg2668)), fun p2678 n2679 => ?_⟩
                generalize g2680 : upd H2671 p2678 _ = H2681
                obtain ⟨e2682, h2683⟩ := gen_new n2679 g2680
                have h2684 : H2681 p2678 = some (.lst ((v2620.1 : (List Int)).map V.int)) := h2683
                have fr2685 := S2675.free n2679
                have S2686 := S2675.new n2679 e2682 h2684 fr2685
                have h2687 := (e2682 _ _ (x2672 _ _ (e2653 _ _ (e2642 _ _ (e2635 _ _ (x2622 _ _ h2616 (ni4 (ne_of_none ((SameXs.of x2511) _ _ (e2503 _ _ h2494) (ni1 (ne_of_none h2494 n2498))) n2523).symm (ne_of_none ((SameXs.of x2511) _ _ (e2503 _ _ ((SameXs.of x2493) _ _ h2488 (ni1 (ne_of_none h2468 n2479)))) (ni1 (ne_of_none ((SameXs.of x2493) _ _ h2488 (ni1 (ne_of_none h2468 n2479))) n2498))) n2523).symm (ne_of_none ((SameXs.of x2511) _ _ (e2503 _ _ ((SameXs.of x2493) _ _ h2489 (ni1 (ne_of_none h2470 n2479)))) (ni1 (ne_of_none ((SameXs.of x2493) _ _ h2489 (ni1 (ne_of_none h2470 n2479))) n2498))) n2523).symm (ne_of_none ((SameXs.of x2511) _ _ (e2503 _ _ ((SameXs.of x2493) _ _ h2490 (ni1 (ne_of_none h2471 n2479)))) (ni1 (ne_of_none ((SameXs.of x2493) _ _ h2490 (ni1 (ne_of_none h2471 n2479))) n2498))) n2523).symm))))) (ne_of_none h2538 n2541)))
                have h2688 := (e2682 _ _ (x2672 _ _ (e2653 _ _ (e2642 _ _ (e2635 _ _ (x2622 _ _ h2613 (ni4 (ne_of_none h2494 n2498).symm (ne_of_none ((SameXs.of x2493) _ _ h2488 (ni1 (ne_of_none h2468 n2479))) n2498).symm (ne_of_none ((SameXs.of x2493) _ _ h2489 (ni1 (ne_of_none h2470 n2479))) n2498).symm (ne_of_none ((SameXs.of x2493) _ _ h2490 (ni1 (ne_of_none h2471 n2479))) n2498).symm))))) (ne_of_none ((SameXs.of x2537) _ _ h2532 (ni1 (ne_of_none h2512 n2523))) n2541)))
                have h2689 := (e2682 _ _ (x2672 _ _ (e2653 _ _ (e2642 _ _ (e2635 _ _ (x2622 _ _ h2614 (ni4 (ne_of_none (e2503 _ _ h2494) n2516).symm (ne_of_none (e2503 _ _ ((SameXs.of x2493) _ _ h2488 (ni1 (ne_of_none h2468 n2479)))) n2516).symm (ne_of_none (e2503 _ _ ((SameXs.of x2493) _ _ h2489 (ni1 (ne_of_none h2470 n2479)))) n2516).symm (ne_of_none (e2503 _ _ ((SameXs.of x2493) _ _ h2490 (ni1 (ne_of_none h2471 n2479)))) n2516).symm))))) (ne_of_none ((SameXs.of x2537) _ _ h2533 (ni1 (ne_of_none h2514 n2523))) n2541)))
                have h2690 := (e2682 _ _ (x2672 _ _ (e2653 _ _ (e2642 _ _ (e2635 _ _ (x2622 _ _ h2615 (ni4 (ne_of_none (e2503 _ _ h2494) n2517).symm (ne_of_none (e2503 _ _ ((SameXs.of x2493) _ _ h2488 (ni1 (ne_of_none h2468 n2479)))) n2517).symm (ne_of_none (e2503 _ _ ((SameXs.of x2493) _ _ h2489 (ni1 (ne_of_none h2470 n2479)))) n2517).symm (ne_of_none (e2503 _ _ ((SameXs.of x2493) _ _ h2490 (ni1 (ne_of_none h2471 n2479)))) n2517).symm))))) (ne_of_none ((SameXs.of x2537) _ _ h2534 (ni1 (ne_of_none h2515 n2523))) n2541)))
                refine ⟨rfl, rfl, G2666, _, _, _, _, _, _, writer_2558, _, _, rfl, S2686.sG, (S2686.gno (all_cons (.tail _ (.tail _ (.tail _ (.tail _ (.tail _ (.tail _ (.tail _ (.tail _ (.tail _ (.tail _ (.tail _ (.tail _ (.head _))))))))))))) (all_cons (.tail _ (.tail _ (.tail _ (.tail _ (.tail _ (.tail _ (.tail _ (.tail _ (.tail _ (.head _)))))))))) (all_cons (.tail _ (.tail _ (.tail _ (.tail _ (.tail _ (.tail _ (.tail _ (.tail _ (.tail _ (.tail _ (.head _))))))))))) (all_cons (.tail _ (.tail _ (.tail _ (.tail _ (.tail _ (.tail _ (.tail _ (.tail _ (.tail _ (.tail _ (.tail _ (.head _)))))))))))) all_nil))))), h2687, h2688, h2689, h2690, ne2518, (ne_of_none h2512 n2523).symm, ((hideL_out (ni4 (ne_of_none (x2672 _ _ (e2653 _ _ (e2642 _ _ (e2635 _ _ (x2622 _ _ h2616 (ni4 (ne_of_none ((SameXs.of x2511) _ _ (e2503 _ _ h2494) (ni1 (ne_of_none h2494 n2498))) n2523).symm (ne_of_none ((SameXs.of x2511) _ _ (e2503 _ _ ((SameXs.of x2493) _ _ h2488 (ni1 (ne_of_none h2468 n2479)))) (ni1 (ne_of_none ((SameXs.of x2493) _ _ h2488 (ni1 (ne_of_none h2468 n2479))) n2498))) n2523).symm (ne_of_none ((SameXs.of x2511) _ _ (e2503 _ _ ((SameXs.of x2493) _ _ h2489 (ni1 (ne_of_none h2470 n2479)))) (ni1 (ne_of_none ((SameXs.of x2493) _ _ h2489 (ni1 (ne_of_none h2470 n2479))) n2498))) n2523).symm (ne_of_none ((SameXs.of x2511) _ _ (e2503 _ _ ((SameXs.of x2493) _ _ h2490 (ni1 (ne_of_none h2471 n2479)))) (ni1 (ne_of_none ((SameXs.of x2493) _ _ h2490 (ni1 (ne_of_none h2471 n2479))) n2498))) n2523).symm))))) (ne_of_none h2538 n2541)) n2679).symm (ne_of_none (x2672 _ _ (e2653 _ _ (e2642 _ _ (e2635 _ _ (x2622 _ _ h2613 (ni4 (ne_of_none h2494 n2498).symm (ne_of_none ((SameXs.of x2493) _ _ h2488 (ni1 (ne_of_none h2468 n2479))) n2498).symm (ne_of_none ((SameXs.of x2493) _ _ h2489 (ni1 (ne_of_none h2470 n2479))) n2498).symm (ne_of_none ((SameXs.of x2493) _ _ h2490 (ni1 (ne_of_none h2471 n2479))) n2498).symm))))) (ne_of_none ((SameXs.of x2537) _ _ h2532 (ni1 (ne_of_none h2512 n2523))) n2541)) n2679).symm (ne_of_none (x2672 _ _ (e2653 _ _ (e2642 _ _ (e2635 _ _ (x2622 _ _ h2614 (ni4 (ne_of_none (e2503 _ _ h2494) n2516).symm (ne_of_none (e2503 _ _ ((SameXs.of x2493) _ _ h2488 (ni1 (ne_of_none h2468 n2479)))) n2516).symm (ne_of_none (e2503 _ _ ((SameXs.of x2493) _ _ h2489 (ni1 (ne_of_none h2470 n2479)))) n2516).symm (ne_of_none (e2503 _ _ ((SameXs.of x2493) _ _ h2490 (ni1 (ne_of_none h2471 n2479)))) n2516).symm))))) (ne_of_none ((SameXs.of x2537) _ _ h2533 (ni1 (ne_of_none h2514 n2523))) n2541)) n2679).symm (ne_of_none (x2672 _ _ (e2653 _ _ (e2642 _ _ (e2635 _ _ (x2622 _ _ h2615 (ni4 (ne_of_none (e2503 _ _ h2494) n2517).symm (ne_of_none (e2503 _ _ ((SameXs.of x2493) _ _ h2488 (ni1 (ne_of_none h2468 n2479)))) n2517).symm (ne_of_none (e2503 _ _ ((SameXs.of x2493) _ _ h2489 (ni1 (ne_of_none h2470 n2479)))) n2517).symm (ne_of_none (e2503 _ _ ((SameXs.of x2493) _ _ h2490 (ni1 (ne_of_none h2471 n2479)))) n2517).symm))))) (ne_of_none ((SameXs.of x2537) _ _ h2534 (ni1 (ne_of_none h2515 n2523))) n2541)) n2679).symm)).trans h2684), cW_call hw (fun v2691 hw H2692 x2693 h2695 h2696 h2697 h2698  => ?_) (fun e he => (hE e he).elim)⟩
                have S2694 := S2686.mut x2693 (all_cons (.tail _ (.tail _ (.tail _ (.tail _ (.tail _ (.tail _ (.tail _ (.tail _ (.tail _ (.tail _ (.tail _ (.tail _ (.head _))))))))))))) (all_cons (.tail _ (.tail _ (.tail _ (.tail _ (.tail _ (.tail _ (.tail _ (.tail _ (.tail _ (.head _)))))))))) (all_cons (.tail _ (.tail _ (.tail _ (.tail _ (.tail _ (.tail _ (.tail _ (.tail _ (.tail _ (.tail _ (.head _))))))))))) (all_cons (.tail _ (.tail _ (.tail _ (.tail _ (.tail _ (.tail _ (.tail _ (.tail _ (.tail _ (.tail _ (.tail _ (.head _)))))))))))) all_nil)))) (all_cons (some_ne h2695) (all_cons (some_ne h2696) (all_cons (some_ne h2697) (all_cons (some_ne h2698) all_nil))))
                have hw := cW_ok hw
                have hw := hK2595 _ hw
                have h2703 := (x2693 _ _ (e2682 _ _ (x2672 _ _ (e2653 _ _ (e2642 _ _ (e2635 _ _ (x2622 _ _ h2607 (ni4 (ne_of_none ((SameXs.of x2467) _ _ h2462 (ni1 (ne_of_none (e2446 _ _ h2439) n2453))) n2479) (ne_of_none (e2446 _ _ h2439) n2453) (ne_of_none h2462 n2472) (ne_of_none h2462 n2473)))))) (ne_of_none ((SameXs.of x2537) _ _ (e2528 _ _ ((SameXs.of x2511) _ _ (e2503 _ _ ((SameXs.of x2493) _ _ (e2484 _ _ ((SameXs.of x2467) _ _ h2462 (ni1 (ne_of_none (e2446 _ _ h2439) n2453)))) (ni1 (ne_of_none ((SameXs.of x2467) _ _ h2462 (ni1 (ne_of_none (e2446 _ _ h2439) n2453))) n2479)))) (ni1 (ne_of_none ((SameXs.of x2493) _ _ (e2484 _ _ ((SameXs.of x2467) _ _ h2462 (ni1 (ne_of_none (e2446 _ _ h2439) n2453)))) (ni1 (ne_of_none ((SameXs.of x2467) _ _ h2462 (ni1 (ne_of_none (e2446 _ _ h2439) n2453))) n2479))) n2498)))) (ni1 (ne_of_none ((SameXs.of x2511) _ _ (e2503 _ _ ((SameXs.of x2493) _ _ (e2484 _ _ ((SameXs.of x2467) _ _ h2462 (ni1 (ne_of_none (e2446 _ _ h2439) n2453)))) (ni1 (ne_of_none ((SameXs.of x2467) _ _ h2462 (ni1 (ne_of_none (e2446 _ _ h2439) n2453))) n2479)))) (ni1 (ne_of_none ((SameXs.of x2493) _ _ (e2484 _ _ ((SameXs.of x2467) _ _ h2462 (ni1 (ne_of_none (e2446 _ _ h2439) n2453)))) (ni1 (ne_of_none ((SameXs.of x2467) _ _ h2462 (ni1 (ne_of_none (e2446 _ _ h2439) n2453))) n2479))) n2498))) n2523))) n2541))) (ni4 (ne_of_none ((SameXs.of x2511) _ _ (e2503 _ _ ((SameXs.of x2493) _ _ (e2484 _ _ ((SameXs.of x2467) _ _ h2462 (ni1 (ne_of_none (e2446 _ _ h2439) n2453)))) (ni1 (ne_of_none ((SameXs.of x2467) _ _ h2462 (ni1 (ne_of_none (e2446 _ _ h2439) n2453))) n2479)))) (ni1 (ne_of_none ((SameXs.of x2493) _ _ (e2484 _ _ ((SameXs.of x2467) _ _ h2462 (ni1 (ne_of_none (e2446 _ _ h2439) n2453)))) (ni1 (ne_of_none ((SameXs.of x2467) _ _ h2462 (ni1 (ne_of_none (e2446 _ _ h2439) n2453))) n2479))) n2498))) n2523) (ne_of_none ((SameXs.of x2493) _ _ (e2484 _ _ ((SameXs.of x2467) _ _ h2462 (ni1 (ne_of_none (e2446 _ _ h2439) n2453)))) (ni1 (ne_of_none ((SameXs.of x2467) _ _ h2462 (ni1 (ne_of_none (e2446 _ _ h2439) n2453))) n2479))) n2498) (ne_of_none (e2503 _ _ ((SameXs.of x2493) _ _ (e2484 _ _ ((SameXs.of x2467) _ _ h2462 (ni1 (ne_of_none (e2446 _ _ h2439) n2453)))) (ni1 (ne_of_none ((SameXs.of x2467) _ _ h2462 (ni1 (ne_of_none (e2446 _ _ h2439) n2453))) n2479)))) n2516) (ne_of_none (e2503 _ _ ((SameXs.of x2493) _ _ (e2484 _ _ ((SameXs.of x2467) _ _ h2462 (ni1 (ne_of_none (e2446 _ _ h2439) n2453)))) (ni1 (ne_of_none ((SameXs.of x2467) _ _ h2462 (ni1 (ne_of_none (e2446 _ _ h2439) n2453))) n2479)))) n2517)))
                have h2704 := (x2693 _ _ (e2682 _ _ (x2672 _ _ (e2653 _ _ (e2642 _ _ (e2635 _ _ (x2622 _ _ h2608 (ni4 (ne_of_none ((SameXs.of x2467) _ _ (e2458 _ _ h2448) (ni1 (ne_of_none h2448 n2453))) n2479) (ne_of_none h2448 n2453) (ne_of_none (e2458 _ _ h2448) n2472) (ne_of_none (e2458 _ _ h2448) n2473)))))) (ne_of_none ((SameXs.of x2537) _ _ (e2528 _ _ ((SameXs.of x2511) _ _ (e2503 _ _ ((SameXs.of x2493) _ _ (e2484 _ _ ((SameXs.of x2467) _ _ (e2458 _ _ h2448) (ni1 (ne_of_none h2448 n2453)))) (ni1 (ne_of_none ((SameXs.of x2467) _ _ (e2458 _ _ h2448) (ni1 (ne_of_none h2448 n2453))) n2479)))) (ni1 (ne_of_none ((SameXs.of x2493) _ _ (e2484 _ _ ((SameXs.of x2467) _ _ (e2458 _ _ h2448) (ni1 (ne_of_none h2448 n2453)))) (ni1 (ne_of_none ((SameXs.of x2467) _ _ (e2458 _ _ h2448) (ni1 (ne_of_none h2448 n2453))) n2479))) n2498)))) (ni1 (ne_of_none ((SameXs.of x2511) _ _ (e2503 _ _ ((SameXs.of x2493) _ _ (e2484 _ _ ((SameXs.of x2467) _ _ (e2458 _ _ h2448) (ni1 (ne_of_none h2448 n2453)))) (ni1 (ne_of_none ((SameXs.of x2467) _ _ (e2458 _ _ h2448) (ni1 (ne_of_none h2448 n2453))) n2479)))) (ni1 (ne_of_none ((SameXs.of x2493) _ _ (e2484 _ _ ((SameXs.of x2467) _ _ (e2458 _ _ h2448) (ni1 (ne_of_none h2448 n2453)))) (ni1 (ne_of_none ((SameXs.of x2467) _ _ (e2458 _ _ h2448) (ni1 (ne_of_none h2448 n2453))) n2479))) n2498))) n2523))) n2541))) (ni4 (ne_of_none ((SameXs.of x2511) _ _ (e2503 _ _ ((SameXs.of x2493) _ _ (e2484 _ _ ((SameXs.of x2467) _ _ (e2458 _ _ h2448) (ni1 (ne_of_none h2448 n2453)))) (ni1 (ne_of_none ((SameXs.of x2467) _ _ (e2458 _ _ h2448) (ni1 (ne_of_none h2448 n2453))) n2479)))) (ni1 (ne_of_none ((SameXs.of x2493) _ _ (e2484 _ _ ((SameXs.of x2467) _ _ (e2458 _ _ h2448) (ni1 (ne_of_none h2448 n2453)))) (ni1 (ne_of_none ((SameXs.of x2467) _ _ (e2458 _ _ h2448) (ni1 (ne_of_none h2448 n2453))) n2479))) n2498))) n2523) (ne_of_none ((SameXs.of x2493) _ _ (e2484 _ _ ((SameXs.of x2467) _ _ (e2458 _ _ h2448) (ni1 (ne_of_none h2448 n2453)))) (ni1 (ne_of_none ((SameXs.of x2467) _ _ (e2458 _ _ h2448) (ni1 (ne_of_none h2448 n2453))) n2479))) n2498) (ne_of_none (e2503 _ _ ((SameXs.of x2493) _ _ (e2484 _ _ ((SameXs.of x2467) _ _ (e2458 _ _ h2448) (ni1 (ne_of_none h2448 n2453)))) (ni1 (ne_of_none ((SameXs.of x2467) _ _ (e2458 _ _ h2448) (ni1 (ne_of_none h2448 n2453))) n2479)))) n2516) (ne_of_none (e2503 _ _ ((SameXs.of x2493) _ _ (e2484 _ _ ((SameXs.of x2467) _ _ (e2458 _ _ h2448) (ni1 (ne_of_none h2448 n2453)))) (ni1 (ne_of_none ((SameXs.of x2467) _ _ (e2458 _ _ h2448) (ni1 (ne_of_none h2448 n2453))) n2479)))) n2517)))
                have h2705 := (x2693 _ _ (e2682 _ _ (x2672 _ _ (e2653 _ _ (e2642 _ _ (e2635 _ _ h2624))) (ne_of_none ((SameXs.of x2537) _ _ (e2528 _ _ ((SameXs.of x2511) _ _ (e2503 _ _ h2494) (ni1 (ne_of_none h2494 n2498)))) (ni1 (ne_of_none ((SameXs.of x2511) _ _ (e2503 _ _ h2494) (ni1 (ne_of_none h2494 n2498))) n2523))) n2541))) (ni4 (ne_of_none ((SameXs.of x2511) _ _ (e2503 _ _ h2494) (ni1 (ne_of_none h2494 n2498))) n2523) (ne_of_none h2494 n2498) (ne_of_none (e2503 _ _ h2494) n2516) (ne_of_none (e2503 _ _ h2494) n2517)))
                have h2706 := (x2693 _ _ (e2682 _ _ (x2672 _ _ (e2653 _ _ (e2642 _ _ (e2635 _ _ h2625))) (ne_of_none ((SameXs.of x2537) _ _ (e2528 _ _ ((SameXs.of x2511) _ _ (e2503 _ _ ((SameXs.of x2493) _ _ h2488 (ni1 (ne_of_none h2468 n2479)))) (ni1 (ne_of_none ((SameXs.of x2493) _ _ h2488 (ni1 (ne_of_none h2468 n2479))) n2498)))) (ni1 (ne_of_none ((SameXs.of x2511) _ _ (e2503 _ _ ((SameXs.of x2493) _ _ h2488 (ni1 (ne_of_none h2468 n2479)))) (ni1 (ne_of_none ((SameXs.of x2493) _ _ h2488 (ni1 (ne_of_none h2468 n2479))) n2498))) n2523))) n2541))) (ni4 (ne_of_none ((SameXs.of x2511) _ _ (e2503 _ _ ((SameXs.of x2493) _ _ h2488 (ni1 (ne_of_none h2468 n2479)))) (ni1 (ne_of_none ((SameXs.of x2493) _ _ h2488 (ni1 (ne_of_none h2468 n2479))) n2498))) n2523) (ne_of_none ((SameXs.of x2493) _ _ h2488 (ni1 (ne_of_none h2468 n2479))) n2498) (ne_of_none (e2503 _ _ ((SameXs.of x2493) _ _ h2488 (ni1 (ne_of_none h2468 n2479)))) n2516) (ne_of_none (e2503 _ _ ((SameXs.of x2493) _ _ h2488 (ni1 (ne_of_none h2468 n2479)))) n2517)))
                have h2707 := (x2693 _ _ (e2682 _ _ (x2672 _ _ (e2653 _ _ (e2642 _ _ (e2635 _ _ h2626))) (ne_of_none ((SameXs.of x2537) _ _ (e2528 _ _ ((SameXs.of x2511) _ _ (e2503 _ _ ((SameXs.of x2493) _ _ h2489 (ni1 (ne_of_none h2470 n2479)))) (ni1 (ne_of_none ((SameXs.of x2493) _ _ h2489 (ni1 (ne_of_none h2470 n2479))) n2498)))) (ni1 (ne_of_none ((SameXs.of x2511) _ _ (e2503 _ _ ((SameXs.of x2493) _ _ h2489 (ni1 (ne_of_none h2470 n2479)))) (ni1 (ne_of_none ((SameXs.of x2493) _ _ h2489 (ni1 (ne_of_none h2470 n2479))) n2498))) n2523))) n2541))) (ni4 (ne_of_none ((SameXs.of x2511) _ _ (e2503 _ _ ((SameXs.of x2493) _ _ h2489 (ni1 (ne_of_none h2470 n2479)))) (ni1 (ne_of_none ((SameXs.of x2493) _ _ h2489 (ni1 (ne_of_none h2470 n2479))) n2498))) n2523) (ne_of_none ((SameXs.of x2493) _ _ h2489 (ni1 (ne_of_none h2470 n2479))) n2498) (ne_of_none (e2503 _ _ ((SameXs.of x2493) _ _ h2489 (ni1 (ne_of_none h2470 n2479)))) n2516) (ne_of_none (e2503 _ _ ((SameXs.of x2493) _ _ h2489 (ni1 (ne_of_none h2470 n2479)))) n2517)))
                have h2708 := (x2693 _ _ (e2682 _ _ (x2672 _ _ (e2653 _ _ (e2642 _ _ (e2635 _ _ h2627))) (ne_of_none ((SameXs.of x2537) _ _ (e2528 _ _ ((SameXs.of x2511) _ _ (e2503 _ _ ((SameXs.of x2493) _ _ h2490 (ni1 (ne_of_none h2471 n2479)))) (ni1 (ne_of_none ((SameXs.of x2493) _ _ h2490 (ni1 (ne_of_none h2471 n2479))) n2498)))) (ni1 (ne_of_none ((SameXs.of x2511) _ _ (e2503 _ _ ((SameXs.of x2493) _ _ h2490 (ni1 (ne_of_none h2471 n2479)))) (ni1 (ne_of_none ((SameXs.of x2493) _ _ h2490 (ni1 (ne_of_none h2471 n2479))) n2498))) n2523))) n2541))) (ni4 (ne_of_none ((SameXs.of x2511) _ _ (e2503 _ _ ((SameXs.of x2493) _ _ h2490 (ni1 (ne_of_none h2471 n2479)))) (ni1 (ne_of_none ((SameXs.of x2493) _ _ h2490 (ni1 (ne_of_none h2471 n2479))) n2498))) n2523) (ne_of_none ((SameXs.of x2493) _ _ h2490 (ni1 (ne_of_none h2471 n2479))) n2498) (ne_of_none (e2503 _ _ ((SameXs.of x2493) _ _ h2490 (ni1 (ne_of_none h2471 n2479)))) n2516) (ne_of_none (e2503 _ _ ((SameXs.of x2493) _ _ h2490 (ni1 (ne_of_none h2471 n2479)))) n2517)))
                have h2709 := (x2693 _ _ (e2682 _ _ h2674) (ni4 (ne_of_none h2538 n2541).symm (ne_of_none ((SameXs.of x2537) _ _ h2532 (ni1 (ne_of_none h2512 n2523))) n2541).symm (ne_of_none ((SameXs.of x2537) _ _ h2533 (ni1 (ne_of_none h2514 n2523))) n2541).symm (ne_of_none ((SameXs.of x2537) _ _ h2534 (ni1 (ne_of_none h2515 n2523))) n2541).symm))
                exact ⟨(v2620.2), (v2691), ((blocks_2559) ++ [v2620.1]), _, _, _, _, _, rfl, (Same.trans (Same.trans eG2589 eG2619) eG2667), (S2694.sub (all_cons (.tail _ (.tail _ (.tail _ (.head _)))) (all_cons (.tail _ (.tail _ (.tail _ (.tail _ (.head _))))) (all_cons (.tail _ (.tail _ (.tail _ (.tail _ (.tail _ (.head _)))))) (all_cons (.tail _ (.tail _ (.tail _ (.tail _ (.tail _ (.tail _ (.head _))))))) (all_cons (.tail _ (.tail _ (.tail _ (.tail _ (.tail _ (.tail _ (.tail _ (.head _)))))))) (all_cons (.tail _ (.tail _ (.tail _ (.tail _ (.tail _ (.tail _ (.tail _ (.tail _ (.head _))))))))) (all_cons (.tail _ (.tail _ (.tail _ (.tail _ (.tail _ (.tail _ (.tail _ (.tail _ (.tail _ (.head _)))))))))) (all_cons (.tail _ (.tail _ (.tail _ (.tail _ (.tail _ (.tail _ (.tail _ (.tail _ (.tail _ (.tail _ (.head _))))))))))) (all_cons (.tail _ (.tail _ (.tail _ (.tail _ (.tail _ (.tail _ (.tail _ (.tail _ (.tail _ (.tail _ (.tail _ (.head _)))))))))))) (all_cons (.tail _ (.tail _ (.tail _ (.tail _ (.tail _ (.tail _ (.tail _ (.tail _ (.tail _ (.tail _ (.tail _ (.tail _ (.head _))))))))))))) (all_cons (.tail _ (.tail _ (.tail _ (.tail _ (.tail _ (.tail _ (.tail _ (.tail _ (.tail _ (.tail _ (.tail _ (.tail _ (.tail _ (.head _)))))))))))))) all_nil)))))))))))), h2703, h2704, h2705, h2706, h2707, h2708, h2696, h2697, h2698, h2695, h2709, d2676, hw⟩
    · intro σ H2710 hw
      obtain ⟨reader_2557, writer_2558, blocks_2559, vs2560, u2561, u2562, u2563, G2724, rfl, eG2725, S2711, h2712, h2713, h2714, h2715, h2716, h2717, h2718, h2719, h2720, h2721, h2722, d2723, hw⟩ := hw
      have hw := cW_aftgo (hK2556 _ (cW_forR0 (rng_len _ _).symm hw))
      have hw : cW (F_law_r1 (script') (v2433) (v2433) (reader_2557) (writer_2558) (blocks_2559)) _ EE := hw
      unfold F_law_r1 at hw
      refine ⟨_, rfl, _, rfl, _, _, (rp_mk_ints h2712), (rp_mk_ints h2713), _, rfl, ?_⟩
      refine iteN (fun c2729 => ?_) (fun c2729 => ?_)
      · have hw := cW_neg c2729 hw
        have hw := cW_ok hw
        exact eq_bl (k _) (hK0 _ hw).symm
      · have hw := cW_pos c2729 hw
        refine ⟨_, rfl, _, _, _, rfl, h2718, rfl, rfl, rfl, G2724, _, _, _, _, writer_2558.enc, rfl, S2711.sG, (hide_nil h2718), (hide_nil h2719), (hide_nil h2720), cW_call hw (fun v2730 hw p2733 H2731 n2734 e2732 h2735 => ?_) (fun e he => (hE e he).elim)⟩
        have h2736 : H2731 p2733 = some (.lst ((v2730 : (List Int)).map V.int)) := h2735
        have fr2737 := S2711.free n2734
        have S2738 := S2711.new n2734 e2732 h2736 fr2737
        refine ⟨rfl, rfl, fun x2739 dx2740 n2741 n2742 n2743 => ?_⟩
        generalize g2744 : upd (upd H2731 dx2740 _) x2739 _ = H2745
        obtain ⟨e2746, h2747⟩ := gen_obj n2741 n2742 n2743 g2744
        have fr2748 := S2738.free n2741
        have S2749 := S2738.new n2741 e2746 h2747 fr2748
        have h2750 := (e2746 _ _ h2736)
        refine ⟨G2724, _, _, _, _, rfl, S2749.sG, (S2749.gno (all_cons (.head _) all_nil)), h2747, ((hideL_out (ni1 (ne_of_none h2736 n2741))).trans h2750), cW_call hw (fun v2751 hw H2754 l2752 l2753 x2755 n2760 n2761 ne2762 h2756 h2758 h2759 => ⟨rfl, ?_⟩) (fun e he => (hE e he).elim)⟩
        have fr2763 := S2749.free n2760
        have fr2764 := S2749.free n2761
        have S2757 : Sep _ _ _ _ H2754 [l2752, l2753, x2739, p2733, p2436, p2442, x2477, x2451, l2464, l2465, x2496, l2508, l2509, x2521, p2540] := Sep.init S2749 x2755 (.head _) h2756 [l2752, l2753] (all_cons ⟨n2760, some_ne h2758, fr2763⟩ (all_cons ⟨n2761, some_ne h2759, fr2764⟩ all_nil))
        refine ⟨rfl, rfl, fun x2765 dx2766 n2767 n2768 n2769 => ?_⟩
        generalize g2770 : upd (upd H2754 dx2766 _) x2765 _ = H2771
        obtain ⟨e2772, h2773⟩ := gen_obj n2767 n2768 n2769 g2770
        have fr2774 := S2757.free n2767
        have S2775 := S2757.new n2767 e2772 h2773 fr2774
        have h2776 := (e2772 _ _ h2756)
        have h2777 := (e2772 _ _ h2758)
        have h2778 := (e2772 _ _ h2759)
        refine ⟨G2724, _, _, _, _, _, _, v2751, rfl, S2775.sG, (S2775.gno (all_cons (.head _) all_nil)), h2773, ((hideL_out (ni1 (ne_of_none h2756 n2767))).trans h2776), ((hideL_out (ni1 (ne_of_none h2758 n2767))).trans h2777), ((hideL_out (ni1 (ne_of_none h2759 n2767))).trans h2778), cW_call hw (fun v2779 hw H2780 x2781 h2782 => ⟨rfl, ?_⟩) (fun e he => (hE e he).elim)⟩
        have S2783 : Sep _ _ _ _ H2780 [x2765, l2752, l2753, x2739, p2733, p2436, p2442, x2477, x2451, l2464, l2465, x2496, l2508, l2509, x2521, p2540] := Sep.init S2775 x2781 (.head _) h2782 [] all_nil
        have h2784 := ((SameXs.of x2781) _ _ (e2772 _ _ ((SameXs.of x2755) _ _ (e2746 _ _ (e2732 _ _ h2722)) (ni1 (ne_of_none (e2732 _ _ h2722) n2741)))) (ni1 (ne_of_none ((SameXs.of x2755) _ _ (e2746 _ _ (e2732 _ _ h2722)) (ni1 (ne_of_none (e2732 _ _ h2722) n2741))) n2767)))
        obtain ⟨g2785, hw⟩ := cW_grd hw
        obtain ⟨K2788, hK2789, hw⟩ := cW_push hw
        refine ⟨_, rfl, _, _, _, rfl, (SqL.of h2784), (by rw [d2723.len, List.length_map]), _, rfl, g2785.1, g2785.2, for_range (lo := 0) (n := Int.toNat ((((blocks_2559) : (List (List Int))).length : Int))) (fun i σ H' => ∃ (u2790 : Option V) (u2791 : Option V) (again_2792 : St_SymbolReader) (G' : Hp), σ = [some (V.ref a_script), some (V.int (v2432)), some (V.ref p2436), some (V.ref p2442), some (V.ref x2477), some (V.ref x2496), some (V.ref x2521), some (V.ref p2540), u2790, u2791, u2563, some (V.ref x2765)] ∧ Same G2724 G' ∧ Sep [] H H G' H' [p2436, p2442, x2477, x2451, l2464, l2465, x2496, l2508, l2509, x2521, p2540, x2765, x2739, l2752, l2753] ∧ H' p2436 = some (.lst ((v2433 : (List Int)).map V.int)) ∧ H' p2442 = some (.lst ((v2433 : (List Int)).map V.int)) ∧ H' x2477 = some (.ins AD.c_SymbolReader dx2478 [("_decoder", V.ref x2451)]) ∧ H' x2451 = some (.ins AD.c_Decoder dx2452 [("_probabilities", V.ref l2464), ("_octets", V.ref l2465), ("_place", V.int (reader_2557.dec.place)), ("_span", V.int (reader_2557.dec.span)), ("_value", V.int (reader_2557.dec.value))]) ∧ H' l2464 = some (.lst ((reader_2557.dec.probs : (List Int)).map V.int)) ∧ H' l2465 = some (.lst ((reader_2557.dec.octs : (List Int)).map V.int)) ∧ H' x2496 = some (.ins AD.c_Encoder dx2497 [("_probabilities", V.ref l2508), ("_front", V.ref l2509), ("_low", V.int (writer_2558.enc.low)), ("_span", V.int (writer_2558.enc.span))]) ∧ H' l2508 = some (.lst ((writer_2558.enc.probs : (List Int)).map V.int)) ∧ H' l2509 = some (.lst ((writer_2558.enc.front : (List Int)).map V.int)) ∧ H' x2521 = some (.ins AD.c_SymbolWriter dx2522 [("_encoder", V.ref x2496)]) ∧ H' p2540 = some (.lst (vs2560)) ∧ H' x2765 = some (.ins AD.c_SymbolReader dx2766 [("_decoder", V.ref x2739)]) ∧ H' x2739 = some (.ins AD.c_Decoder dx2740 [("_probabilities", V.ref l2752), ("_octets", V.ref l2753), ("_place", V.int (again_2792.dec.place)), ("_span", V.int (again_2792.dec.span)), ("_value", V.int (again_2792.dec.value))]) ∧ H' l2752 = some (.lst ((again_2792.dec.probs : (List Int)).map V.int)) ∧ H' l2753 = some (.lst ((again_2792.dec.octs : (List Int)).map V.int)) ∧ cW (forR (List.drop i (rng (0) (Int.toNat ((((blocks_2559) : (List (List Int))).length : Int))))) again_2792 (fun s x => F_law_b3 (blocks_2559) s x)) K2788 EE) ?_ ?_ ?_⟩
        · have h2793 := ((SameXs.of x2781) _ _ (e2772 _ _ ((SameXs.of x2755) _ _ (e2746 _ _ (e2732 _ _ h2712)) (ni1 (ne_of_none (e2732 _ _ h2712) n2741)))) (ni1 (ne_of_none ((SameXs.of x2755) _ _ (e2746 _ _ (e2732 _ _ h2712)) (ni1 (ne_of_none (e2732 _ _ h2712) n2741))) n2767)))
          have h2794 := ((SameXs.of x2781) _ _ (e2772 _ _ ((SameXs.of x2755) _ _ (e2746 _ _ (e2732 _ _ h2713)) (ni1 (ne_of_none (e2732 _ _ h2713) n2741)))) (ni1 (ne_of_none ((SameXs.of x2755) _ _ (e2746 _ _ (e2732 _ _ h2713)) (ni1 (ne_of_none (e2732 _ _ h2713) n2741))) n2767)))
          have h2795 := ((SameXs.of x2781) _ _ (e2772 _ _ ((SameXs.of x2755) _ _ (e2746 _ _ (e2732 _ _ h2714)) (ni1 (ne_of_none (e2732 _ _ h2714) n2741)))) (ni1 (ne_of_none ((SameXs.of x2755) _ _ (e2746 _ _ (e2732 _ _ h2714)) (ni1 (ne_of_none (e2732 _ _ h2714) n2741))) n2767)))
          have h2796 := ((SameXs.of x2781) _ _ (e2772 _ _ ((SameXs.of x2755) _ _ (e2746 _ _ (e2732 _ _ h2715)) (ni1 (ne_of_none (e2732 _ _ h2715) n2741)))) (ni1 (ne_of_none ((SameXs.of x2755) _ _ (e2746 _ _ (e2732 _ _ h2715)) (ni1 (ne_of_none (e2732 _ _ h2715) n2741))) n2767)))
          have h2797 := ((SameXs.of x2781) _ _ (e2772 _ _ ((SameXs.of x2755) _ _ (e2746 _ _ (e2732 _ _ h2716)) (ni1 (ne_of_none (e2732 _ _ h2716) n2741)))) (ni1 (ne_of_none ((SameXs.of x2755) _ _ (e2746 _ _ (e2732 _ _ h2716)) (ni1 (ne_of_none (e2732 _ _ h2716) n2741))) n2767)))
          have h2798 := ((SameXs.of x2781) _ _ (e2772 _ _ ((SameXs.of x2755) _ _ (e2746 _ _ (e2732 _ _ h2717)) (ni1 (ne_of_none (e2732 _ _ h2717) n2741)))) (ni1 (ne_of_none ((SameXs.of x2755) _ _ (e2746 _ _ (e2732 _ _ h2717)) (ni1 (ne_of_none (e2732 _ _ h2717) n2741))) n2767)))
          have h2799 := ((SameXs.of x2781) _ _ (e2772 _ _ ((SameXs.of x2755) _ _ (e2746 _ _ (e2732 _ _ h2718)) (ni1 (ne_of_none (e2732 _ _ h2718) n2741)))) (ni1 (ne_of_none ((SameXs.of x2755) _ _ (e2746 _ _ (e2732 _ _ h2718)) (ni1 (ne_of_none (e2732 _ _ h2718) n2741))) n2767)))
          have h2800 := ((SameXs.of x2781) _ _ (e2772 _ _ ((SameXs.of x2755) _ _ (e2746 _ _ (e2732 _ _ h2719)) (ni1 (ne_of_none (e2732 _ _ h2719) n2741)))) (ni1 (ne_of_none ((SameXs.of x2755) _ _ (e2746 _ _ (e2732 _ _ h2719)) (ni1 (ne_of_none (e2732 _ _ h2719) n2741))) n2767)))
          have h2801 := ((SameXs.of x2781) _ _ (e2772 _ _ ((SameXs.of x2755) _ _ (e2746 _ _ (e2732 _ _ h2720)) (ni1 (ne_of_none (e2732 _ _ h2720) n2741)))) (ni1 (ne_of_none ((SameXs.of x2755) _ _ (e2746 _ _ (e2732 _ _ h2720)) (ni1 (ne_of_none (e2732 _ _ h2720) n2741))) n2767)))
          have h2802 := ((SameXs.of x2781) _ _ (e2772 _ _ ((SameXs.of x2755) _ _ (e2746 _ _ (e2732 _ _ h2721)) (ni1 (ne_of_none (e2732 _ _ h2721) n2741)))) (ni1 (ne_of_none ((SameXs.of x2755) _ _ (e2746 _ _ (e2732 _ _ h2721)) (ni1 (ne_of_none (e2732 _ _ h2721) n2741))) n2767)))
          have h2803 := ((SameXs.of x2781) _ _ h2776 (ni1 (ne_of_none h2756 n2767)))
          have h2804 := ((SameXs.of x2781) _ _ h2777 (ni1 (ne_of_none h2758 n2767)))
          have h2805 := ((SameXs.of x2781) _ _ h2778 (ni1 (ne_of_none h2759 n2767)))
          exact ⟨_, _, ((⟨v2751⟩ : St_SymbolReader)), _, rfl, (Same.refl _), (S2783.sub (all_cons (.tail _ (.tail _ (.tail _ (.tail _ (.tail _ (.head _)))))) (all_cons (.tail _ (.tail _ (.tail _ (.tail _ (.tail _ (.tail _ (.head _))))))) (all_cons (.tail _ (.tail _ (.tail _ (.tail _ (.tail _ (.tail _ (.tail _ (.head _)))))))) (all_cons (.tail _ (.tail _ (.tail _ (.tail _ (.tail _ (.tail _ (.tail _ (.tail _ (.head _))))))))) (all_cons (.tail _ (.tail _ (.tail _ (.tail _ (.tail _ (.tail _ (.tail _ (.tail _ (.tail _ (.head _)))))))))) (all_cons (.tail _ (.tail _ (.tail _ (.tail _ (.tail _ (.tail _ (.tail _ (.tail _ (.tail _ (.tail _ (.head _))))))))))) (all_cons (.tail _ (.tail _ (.tail _ (.tail _ (.tail _ (.tail _ (.tail _ (.tail _ (.tail _ (.tail _ (.tail _ (.head _)))))))))))) (all_cons (.tail _ (.tail _ (.tail _ (.tail _ (.tail _ (.tail _ (.tail _ (.tail _ (.tail _ (.tail _ (.tail _ (.tail _ (.head _))))))))))))) (all_cons (.tail _ (.tail _ (.tail _ (.tail _ (.tail _ (.tail _ (.tail _ (.tail _ (.tail _ (.tail _ (.tail _ (.tail _ (.tail _ (.head _)))))))))))))) (all_cons (.tail _ (.tail _ (.tail _ (.tail _ (.tail _ (.tail _ (.tail _ (.tail _ (.tail _ (.tail _ (.tail _ (.tail _ (.tail _ (.tail _ (.head _))))))))))))))) (all_cons (.tail _ (.tail _ (.tail _ (.tail _ (.tail _ (.tail _ (.tail _ (.tail _ (.tail _ (.tail _ (.tail _ (.tail _ (.tail _ (.tail _ (.tail _ (.head _)))))))))))))))) (all_cons (.head _) (all_cons (.tail _ (.tail _ (.tail _ (.head _)))) (all_cons (.tail _ (.head _)) (all_cons (.tail _ (.tail _ (.head _))) all_nil)))))))))))))))), h2793, h2794, h2795, h2796, h2797, h2798, h2799, h2800, h2801, h2802, h2784, h2782, h2803, h2804, h2805, hw⟩
        · intro i σ H2806 hi hw
          obtain ⟨u2790, u2791, again_2792, G2823, rfl, eG2824, S2807, h2808, h2809, h2810, h2811, h2812, h2813, h2814, h2815, h2816, h2817, h2818, h2819, h2820, h2821, h2822, hw⟩ := hw
          have hw := cW_forR (rng_get hi) hw
          generalize (0 + (i : Int)) = x2825 at hw ⊢
          have hw : cW (F_law_b3 (blocks_2559) (again_2792) (x2825)) _ EE := hw
          unfold F_law_b3 at hw
          obtain ⟨K2827, hK2828, hw⟩ := cW_name hw
          refine ⟨fun σ H' => ∃ (size_2834 : Int) (G' : Hp), σ = [some (V.ref a_script), some (V.int (v2432)), some (V.ref p2436), some (V.ref p2442), some (V.ref x2477), some (V.ref x2496), some (V.ref x2521), some (V.ref p2540), some (V.int (x2825)), some (V.int size_2834), u2563, some (V.ref x2765)] ∧ Same G2823 G' ∧ Sep [] H H G' H' [p2436, p2442, x2477, x2451, l2464, l2465, x2496, l2508, l2509, x2521, p2540, x2765, x2739, l2752, l2753] ∧ H' p2436 = some (.lst ((v2433 : (List Int)).map V.int)) ∧ H' p2442 = some (.lst ((v2433 : (List Int)).map V.int)) ∧ H' x2477 = some (.ins AD.c_SymbolReader dx2478 [("_decoder", V.ref x2451)]) ∧ H' x2451 = some (.ins AD.c_Decoder dx2452 [("_probabilities", V.ref l2464), ("_octets", V.ref l2465), ("_place", V.int (reader_2557.dec.place)), ("_span", V.int (reader_2557.dec.span)), ("_value", V.int (reader_2557.dec.value))]) ∧ H' l2464 = some (.lst ((reader_2557.dec.probs : (List Int)).map V.int)) ∧ H' l2465 = some (.lst ((reader_2557.dec.octs : (List Int)).map V.int)) ∧ H' x2496 = some (.ins AD.c_Encoder dx2497 [("_probabilities", V.ref l2508), ("_front", V.ref l2509), ("_low", V.int (writer_2558.enc.low)), ("_span", V.int (writer_2558.enc.span))]) ∧ H' l2508 = some (.lst ((writer_2558.enc.probs : (List Int)).map V.int)) ∧ H' l2509 = some (.lst ((writer_2558.enc.front : (List Int)).map V.int)) ∧ H' x2521 = some (.ins AD.c_SymbolWriter dx2522 [("_encoder", V.ref x2496)]) ∧ H' p2540 = some (.lst (vs2560)) ∧ H' x2765 = some (.ins AD.c_SymbolReader dx2766 [("_decoder", V.ref x2739)]) ∧ H' x2739 = some (.ins AD.c_Decoder dx2740 [("_probabilities", V.ref l2752), ("_octets", V.ref l2753), ("_place", V.int (again_2792.dec.place)), ("_span", V.int (again_2792.dec.span)), ("_value", V.int (again_2792.dec.value))]) ∧ H' l2752 = some (.lst ((again_2792.dec.probs : (List Int)).map V.int)) ∧ H' l2753 = some (.lst ((again_2792.dec.octs : (List Int)).map V.int)) ∧ cW (F_law_k4 (blocks_2559) (x2825) (again_2792) size_2834) K2827 EE, ?_, ?_⟩
          · obtain ⟨K2835, hK2836, hw⟩ := cW_push hw
            obtain ⟨g2837, hw⟩ := cW_grd hw
            obtain ⟨v2838, a2839, r2840⟩ := RpAll.ixD (k := x2825) (RpAll.mono eG2824 d2723) g2837
            obtain ⟨a2841, rfl, h2842⟩ := rp_ints r2840
            refine ⟨_, rfl, _, rfl, _, _, _, _, rfl, rfl, (SqL.of h2818), a2839, _, _, rfl, (SqL.of (S2807.sG _ _ h2842)), _, _, rfl, rfl, _, rfl, ?_⟩
            refine iteD (fun c2843 => ?_) (fun c2843 => ?_)
            · have hw := cW_pos c2843 hw
              have hw := cW_ok hw
              have hw := hK2836 _ hw
              exact ⟨(8), _, rfl, (Same.refl _), S2807, h2808, h2809, h2810, h2811, h2812, h2813, h2814, h2815, h2816, h2817, h2818, h2819, h2820, h2821, h2822, hw⟩
            · have hw := cW_neg c2843 hw
              have hw := cW_ok hw
              have hw := hK2836 _ hw
              exact ⟨(4), _, rfl, (Same.refl _), S2807, h2808, h2809, h2810, h2811, h2812, h2813, h2814, h2815, h2816, h2817, h2818, h2819, h2820, h2821, h2822, hw⟩
          · intro σ H2844 hw
            obtain ⟨size_2834, G2861, rfl, eG2862, S2845, h2846, h2847, h2848, h2849, h2850, h2851, h2852, h2853, h2854, h2855, h2856, h2857, h2858, h2859, h2860, hw⟩ := hw
            unfold F_law_k4 at hw
            refine ⟨_, rfl, _, rfl, rfl, rfl, G2861, _, _, _, _, _, _, again_2792, _, rfl, S2845.sG, (S2845.gno (all_cons (.tail _ (.tail _ (.tail _ (.tail _ (.tail _ (.tail _ (.tail _ (.tail _ (.tail _ (.tail _ (.tail _ (.head _)))))))))))) (all_cons (.tail _ (.tail _ (.tail _ (.tail _ (.tail _ (.tail _ (.tail _ (.tail _ (.tail _ (.tail _ (.tail _ (.tail _ (.head _))))))))))))) (all_cons (.tail _ (.tail _ (.tail _ (.tail _ (.tail _ (.tail _ (.tail _ (.tail _ (.tail _ (.tail _ (.tail _ (.tail _ (.tail _ (.head _)))))))))))))) (all_cons (.tail _ (.tail _ (.tail _ (.tail _ (.tail _ (.tail _ (.tail _ (.tail _ (.tail _ (.tail _ (.tail _ (.tail _ (.tail _ (.tail _ (.head _))))))))))))))) all_nil))))), h2857, h2858, h2859, h2860, ne2762, (ne_of_none h2756 n2767).symm, cW_call hw (fun v2863 hw H2864 x2865 h2867 h2868 h2869 h2870 p2871 n2872 h2873 => ?_) (fun e he => (hE e he).elim)⟩
            have fr2874 := S2845.free n2872
            have S2866 := S2845.mutnew x2865 (all_cons (.tail _ (.tail _ (.tail _ (.tail _ (.tail _ (.tail _ (.tail _ (.tail _ (.tail _ (.tail _ (.tail _ (.head _)))))))))))) (all_cons (.tail _ (.tail _ (.tail _ (.tail _ (.tail _ (.tail _ (.tail _ (.tail _ (.tail _ (.tail _ (.tail _ (.tail _ (.head _))))))))))))) (all_cons (.tail _ (.tail _ (.tail _ (.tail _ (.tail _ (.tail _ (.tail _ (.tail _ (.tail _ (.tail _ (.tail _ (.tail _ (.tail _ (.head _)))))))))))))) (all_cons (.tail _ (.tail _ (.tail _ (.tail _ (.tail _ (.tail _ (.tail _ (.tail _ (.tail _ (.tail _ (.tail _ (.tail _ (.tail _ (.tail _ (.head _))))))))))))))) all_nil)))) (all_cons (some_ne h2867) (all_cons (some_ne h2868) (all_cons (some_ne h2869) (all_cons (some_ne h2870) all_nil)))) n2872 (some_ne h2873) fr2874
            obtain ⟨g2875, hw⟩ := cW_grd hw
            obtain ⟨v2876, a2877, r2878⟩ := RpAll.ixD (k := x2825) (RpAll.mono eG2862 (RpAll.mono eG2824 d2723)) g2875
            have h2879 := (x2865 _ _ h2856 (ni4 (ne_of_none ((SameXs.of x2755) _ _ (e2746 _ _ (e2732 _ _ h2722)) (ni1 (ne_of_none (e2732 _ _ h2722) n2741))) n2767) (ne_of_none (e2732 _ _ h2722) n2741) (ne_of_none (e2746 _ _ (e2732 _ _ h2722)) n2760) (ne_of_none (e2746 _ _ (e2732 _ _ h2722)) n2761)))
            obtain ⟨a2880, rfl, h2881⟩ := rp_ints r2878
            refine ⟨_, rfl, _, rfl, _, _, _, _, rfl, rfl, (SqL.of h2879), a2877, _, _, (rp_mk_ints h2873), (rp_mk_ints (S2866.sG _ _ h2881)), _, rfl, ?_⟩
            refine iteN (fun c2882 => ?_) (fun c2882 => ?_)
            · have hw := cW_neg c2882 hw
              have hw := cW_ok hw
              have hw := hK2828 (.rt _) hw
              have hw := hK2789 (.rt _) hw
              have hw := cW_ok hw
              exact eq_bl (k _) (hK0 _ hw).symm
            · have hw := cW_pos c2882 hw
              have hw := cW_ok hw
              have hw := hK2828 _ hw
              have h2883 := (x2865 _ _ h2846 (ni4 (ne_of_none ((SameXs.of x2755) _ _ (e2746 _ _ (e2732 _ _ h2712)) (ni1 (ne_of_none (e2732 _ _ h2712) n2741))) n2767) (ne_of_none (e2732 _ _ h2712) n2741) (ne_of_none (e2746 _ _ (e2732 _ _ h2712)) n2760) (ne_of_none (e2746 _ _ (e2732 _ _ h2712)) n2761)))
              have h2884 := (x2865 _ _ h2847 (ni4 (ne_of_none ((SameXs.of x2755) _ _ (e2746 _ _ (e2732 _ _ h2713)) (ni1 (ne_of_none (e2732 _ _ h2713) n2741))) n2767) (ne_of_none (e2732 _ _ h2713) n2741) (ne_of_none (e2746 _ _ (e2732 _ _ h2713)) n2760) (ne_of_none (e2746 _ _ (e2732 _ _ h2713)) n2761)))
              have h2885 := (x2865 _ _ h2848 (ni4 (ne_of_none ((SameXs.of x2755) _ _ (e2746 _ _ (e2732 _ _ h2714)) (ni1 (ne_of_none (e2732 _ _ h2714) n2741))) n2767) (ne_of_none (e2732 _ _ h2714) n2741) (ne_of_none (e2746 _ _ (e2732 _ _ h2714)) n2760) (ne_of_none (e2746 _ _ (e2732 _ _ h2714)) n2761)))
              have h2886 := (x2865 _ _ h2849 (ni4 (ne_of_none ((SameXs.of x2755) _ _ (e2746 _ _ (e2732 _ _ h2715)) (ni1 (ne_of_none (e2732 _ _ h2715) n2741))) n2767) (ne_of_none (e2732 _ _ h2715) n2741) (ne_of_none (e2746 _ _ (e2732 _ _ h2715)) n2760) (ne_of_none (e2746 _ _ (e2732 _ _ h2715)) n2761)))
              have h2887 := (x2865 _ _ h2850 (ni4 (ne_of_none ((SameXs.of x2755) _ _ (e2746 _ _ (e2732 _ _ h2716)) (ni1 (ne_of_none (e2732 _ _ h2716) n2741))) n2767) (ne_of_none (e2732 _ _ h2716) n2741) (ne_of_none (e2746 _ _ (e2732 _ _ h2716)) n2760) (ne_of_none (e2746 _ _ (e2732 _ _ h2716)) n2761)))
              have h2888 := (x2865 _ _ h2851 (ni4 (ne_of_none ((SameXs.of x2755) _ _ (e2746 _ _ (e2732 _ _ h2717)) (ni1 (ne_of_none (e2732 _ _ h2717) n2741))) n2767) (ne_of_none (e2732 _ _ h2717) n2741) (ne_of_none (e2746 _ _ (e2732 _ _ h2717)) n2760) (ne_of_none (e2746 _ _ (e2732 _ _ h2717)) n2761)))
              have h2889 := (x2865 _ _ h2852 (ni4 (ne_of_none ((SameXs.of x2755) _ _ (e2746 _ _ (e2732 _ _ h2718)) (ni1 (ne_of_none (e2732 _ _ h2718) n2741))) n2767) (ne_of_none (e2732 _ _ h2718) n2741) (ne_of_none (e2746 _ _ (e2732 _ _ h2718)) n2760) (ne_of_none (e2746 _ _ (e2732 _ _ h2718)) n2761)))
              have h2890 := (x2865 _ _ h2853 (ni4 (ne_of_none ((SameXs.of x2755) _ _ (e2746 _ _ (e2732 _ _ h2719)) (ni1 (ne_of_none (e2732 _ _ h2719) n2741))) n2767) (ne_of_none (e2732 _ _ h2719) n2741) (ne_of_none (e2746 _ _ (e2732 _ _ h2719)) n2760) (ne_of_none (e2746 _ _ (e2732 _ _ h2719)) n2761)))
              have h2891 := (x2865 _ _ h2854 (ni4 (ne_of_none ((SameXs.of x2755) _ _ (e2746 _ _ (e2732 _ _ h2720)) (ni1 (ne_of_none (e2732 _ _ h2720) n2741))) n2767) (ne_of_none (e2732 _ _ h2720) n2741) (ne_of_none (e2746 _ _ (e2732 _ _ h2720)) n2760) (ne_of_none (e2746 _ _ (e2732 _ _ h2720)) n2761)))
              have h2892 := (x2865 _ _ h2855 (ni4 (ne_of_none ((SameXs.of x2755) _ _ (e2746 _ _ (e2732 _ _ h2721)) (ni1 (ne_of_none (e2732 _ _ h2721) n2741))) n2767) (ne_of_none (e2732 _ _ h2721) n2741) (ne_of_none (e2746 _ _ (e2732 _ _ h2721)) n2760) (ne_of_none (e2746 _ _ (e2732 _ _ h2721)) n2761)))
              exact ⟨_, _, (v2863.2), _, rfl, (Same.trans eG2824 eG2862), (S2866.sub (all_cons (.tail _ (.head _)) (all_cons (.tail _ (.tail _ (.head _))) (all_cons (.tail _ (.tail _ (.tail _ (.head _)))) (all_cons (.tail _ (.tail _ (.tail _ (.tail _ (.head _))))) (all_cons (.tail _ (.tail _ (.tail _ (.tail _ (.tail _ (.head _)))))) (all_cons (.tail _ (.tail _ (.tail _ (.tail _ (.tail _ (.tail _ (.head _))))))) (all_cons (.tail _ (.tail _ (.tail _ (.tail _ (.tail _ (.tail _ (.tail _ (.head _)))))))) (all_cons (.tail _ (.tail _ (.tail _ (.tail _ (.tail _ (.tail _ (.tail _ (.tail _ (.head _))))))))) (all_cons (.tail _ (.tail _ (.tail _ (.tail _ (.tail _ (.tail _ (.tail _ (.tail _ (.tail _ (.head _)))))))))) (all_cons (.tail _ (.tail _ (.tail _ (.tail _ (.tail _ (.tail _ (.tail _ (.tail _ (.tail _ (.tail _ (.head _))))))))))) (all_cons (.tail _ (.tail _ (.tail _ (.tail _ (.tail _ (.tail _ (.tail _ (.tail _ (.tail _ (.tail _ (.tail _ (.head _)))))))))))) (all_cons (.tail _ (.tail _ (.tail _ (.tail _ (.tail _ (.tail _ (.tail _ (.tail _ (.tail _ (.tail _ (.tail _ (.tail _ (.head _))))))))))))) (all_cons (.tail _ (.tail _ (.tail _ (.tail _ (.tail _ (.tail _ (.tail _ (.tail _ (.tail _ (.tail _ (.tail _ (.tail _ (.tail _ (.head _)))))))))))))) (all_cons (.tail _ (.tail _ (.tail _ (.tail _ (.tail _ (.tail _ (.tail _ (.tail _ (.tail _ (.tail _ (.tail _ (.tail _ (.tail _ (.tail _ (.head _))))))))))))))) (all_cons (.tail _ (.tail _ (.tail _ (.tail _ (.tail _ (.tail _ (.tail _ (.tail _ (.tail _ (.tail _ (.tail _ (.tail _ (.tail _ (.tail _ (.tail _ (.head _)))))))))))))))) all_nil)))))))))))))))), h2883, h2884, h2885, h2886, h2887, h2888, h2889, h2890, h2891, h2892, h2879, h2867, h2868, h2869, h2870, hw⟩
        · intro σ H2893 hw
          obtain ⟨u2790, u2791, again_2792, G2910, rfl, eG2911, S2894, h2895, h2896, h2897, h2898, h2899, h2900, h2901, h2902, h2903, h2904, h2905, h2906, h2907, h2908, h2909, hw⟩ := hw
          have hw := cW_aftgo (hK2789 _ (cW_forR0 (rng_len _ _).symm hw))
          have hw : cW (F_law_r3 (script') (again_2792)) _ EE := hw
          unfold F_law_r3 at hw
          refine ⟨_, rfl, rfl, rfl, G2910, _, _, _, rfl, S2894.sG, (S2894.b0.seq q_script), cW_call hw (fun v2913 hw => ?_) (fun e he => (hE e he).elim)⟩
          refine ⟨rfl, rfl, G2910, _, rfl, S2894.sG, cW_call hw (fun v2914 hw H2915 e2916 => ?_) (fun e he => (hE e he).elim)⟩
          have S2917 := S2894.same e2916
          have hw := cW_ok hw
          exact eq_bl (k _) (hK0 _ hw).symm
end
def spL (K : PySem.W.Frag) : Sp := fun vs H Q _ => ∃ (a_script : Addr) (script : List Int), vs = [.ref a_script] ∧ SqL K H a_script (script.map V.int) ∧ script.length ≤ 63 ∧ ∀ H', Q (.bl true) H'
def adK (K : PySem.W.Frag) : Ads := ⟨He.ga K "Encoder", He.ga K "SymbolWriter", He.ga K "Decoder", He.ga K "SymbolReader", He.ga K "CodecError", He.ga K "OutOfRange", He.ga K "BadData", He.ga K "SIZES_BY_COUNT", He.ga K "SIZES", 0⟩
abbrev dk0 : He5.DefA := ⟨fun K => He.ga K "_law_cell", "_law_cell", "_law_cell", defArgs s__law_cell, defBody s__law_cell, defScope s__law_cell, [], []⟩
abbrev dk1 : He5.DefA := ⟨fun K => He.ga K "_law_digits", "_law_digits", "_law_digits", defArgs s__law_digits, defBody s__law_digits, defScope s__law_digits, [], []⟩
abbrev dk2 : He5.DefA := ⟨fun K => He.ga K "_law_octets", "_law_octets", "_law_octets", defArgs s__law_octets, defBody s__law_octets, defScope s__law_octets, [], []⟩
abbrev dk3 : He5.DefA := ⟨fun K => He.ma K (He.ga K "SymbolReader") "__init__", "__init__", "SymbolReader.__init__", defArgs s_SymbolReader___init__, defBody s_SymbolReader___init__, defScope s_SymbolReader___init__, [], []⟩
abbrev dk4 : He5.DefA := ⟨fun K => He.ma K (He.ga K "Encoder") "__init__", "__init__", "Encoder.__init__", defArgs s_Encoder___init__, defBody s_Encoder___init__, defScope s_Encoder___init__, [], []⟩
abbrev dk5 : He5.DefA := ⟨fun K => He.ma K (He.ga K "SymbolWriter") "__init__", "__init__", "SymbolWriter.__init__", defArgs s_SymbolWriter___init__, defBody s_SymbolWriter___init__, defScope s_SymbolWriter___init__, [], []⟩
abbrev dk6 : He5.DefA := ⟨fun K => He.ga K "_check_contexts", "_check_contexts", "_check_contexts", defArgs s__check_contexts, defBody s__check_contexts, defScope s__check_contexts, [], []⟩
abbrev dk7 : He5.DefA := ⟨fun K => He.ga K "_check_unary", "_check_unary", "_check_unary", defArgs s__check_unary, defBody s__check_unary, defScope s__check_unary, [], []⟩
abbrev dk8 : He5.DefA := ⟨fun K => He.ga K "_check_context", "_check_context", "_check_context", defArgs s__check_context, defBody s__check_context, defScope s__check_context, [], []⟩
abbrev dk9 : He5.DefA := ⟨fun K => He.ga K "_check_decision", "_check_decision", "_check_decision", defArgs s__check_decision, defBody s__check_decision, defScope s__check_decision, [], []⟩
abbrev dk10 : He5.DefA := ⟨fun K => He.ga K "_adapted", "_adapted", "_adapted", defArgs s__adapted, defBody s__adapted, defScope s__adapted, [], []⟩
abbrev dk11 : He5.DefA := ⟨fun K => He.ma K (He.ga K "Encoder") "_carry", "_carry", "Encoder._carry", defArgs s_Encoder__carry, defBody s_Encoder__carry, defScope s_Encoder__carry, [], []⟩
abbrev dk12 : He5.DefA := ⟨fun K => He.ma K (He.ga K "Encoder") "_narrow", "_narrow", "Encoder._narrow", defArgs s_Encoder__narrow, defBody s_Encoder__narrow, defScope s_Encoder__narrow, [], []⟩
abbrev dk13 : He5.DefA := ⟨fun K => He.ma K (He.ga K "Encoder") "code", "code", "Encoder.code", defArgs s_Encoder_code, defBody s_Encoder_code, defScope s_Encoder_code, [], []⟩
abbrev dk14 : He5.DefA := ⟨fun K => He.ma K (He.ga K "SymbolWriter") "unary", "unary", "SymbolWriter.unary", defArgs s_SymbolWriter_unary, defBody s_SymbolWriter_unary, defScope s_SymbolWriter_unary, [], []⟩
abbrev dk15 : He5.DefA := ⟨fun K => He.ma K (He.ga K "Decoder") "_shift", "_shift", "Decoder._shift", defArgs s_Decoder__shift, defBody s_Decoder__shift, defScope s_Decoder__shift, [], []⟩
abbrev dk16 : He5.DefA := ⟨fun K => He.ma K (He.ga K "Decoder") "_decide", "_decide", "Decoder._decide", defArgs s_Decoder__decide, defBody s_Decoder__decide, defScope s_Decoder__decide, [], []⟩
abbrev dk17 : He5.DefA := ⟨fun K => He.ma K (He.ga K "Decoder") "read", "read", "Decoder.read", defArgs s_Decoder_read, defBody s_Decoder_read, defScope s_Decoder_read, [], []⟩
abbrev dk18 : He5.DefA := ⟨fun K => He.ma K (He.ga K "SymbolReader") "unary", "unary", "SymbolReader.unary", defArgs s_SymbolReader_unary, defBody s_SymbolReader_unary, defScope s_SymbolReader_unary, [], []⟩
abbrev dk19 : He5.DefA := ⟨fun K => He.ga K "_digit_context", "_digit_context", "_digit_context", defArgs s__digit_context, defBody s__digit_context, defScope s__digit_context, [], []⟩
abbrev dk20 : He5.DefA := ⟨fun K => He.ma K (He.ga K "Encoder") "code_even", "code_even", "Encoder.code_even", defArgs s_Encoder_code_even, defBody s_Encoder_code_even, defScope s_Encoder_code_even, [], []⟩
abbrev dk21 : He5.DefA := ⟨fun K => He.ma K (He.ga K "SymbolWriter") "number", "number", "SymbolWriter.number", defArgs s_SymbolWriter_number, defBody s_SymbolWriter_number, defScope s_SymbolWriter_number, [], []⟩
abbrev dk22 : He5.DefA := ⟨fun K => He.ma K (He.ga K "Decoder") "read_even", "read_even", "Decoder.read_even", defArgs s_Decoder_read_even, defBody s_Decoder_read_even, defScope s_Decoder_read_even, [], []⟩
abbrev dk23 : He5.DefA := ⟨fun K => He.ma K (He.ga K "SymbolReader") "number", "number", "SymbolReader.number", defArgs s_SymbolReader_number, defBody s_SymbolReader_number, defScope s_SymbolReader_number, [], []⟩
abbrev dk24 : He5.DefA := ⟨fun K => He.ga K "_check_levels", "_check_levels", "_check_levels", defArgs s__check_levels, defBody s__check_levels, defScope s__check_levels, [], []⟩
abbrev dk25 : He5.DefA := ⟨fun K => He.ma K (He.ga K "SymbolWriter") "flag", "flag", "SymbolWriter.flag", defArgs s_SymbolWriter_flag, defBody s_SymbolWriter_flag, defScope s_SymbolWriter_flag, [], []⟩
abbrev dk26 : He5.DefA := ⟨fun K => He.ma K (He.ga K "SymbolReader") "flag", "flag", "SymbolReader.flag", defArgs s_SymbolReader_flag, defBody s_SymbolReader_flag, defScope s_SymbolReader_flag, [], []⟩
abbrev dk27 : He5.DefA := ⟨fun K => He.ga K "_put_places", "_put_places", "_put_places", defArgs s__put_places, defBody s__put_places, defScope s__put_places, [], []⟩
abbrev dk28 : He5.DefA := ⟨fun K => He.ga K "_base_after", "_base_after", "_base_after", defArgs s__base_after, defBody s__base_after, defScope s__base_after, [], []⟩
abbrev dk29 : He5.DefA := ⟨fun K => He.ma K (He.ga K "SymbolWriter") "even", "even", "SymbolWriter.even", defArgs s_SymbolWriter_even, defBody s_SymbolWriter_even, defScope s_SymbolWriter_even, [], []⟩
abbrev dk30 : He5.DefA := ⟨fun K => He.ma K (He.ga K "SymbolReader") "even", "even", "SymbolReader.even", defArgs s_SymbolReader_even, defBody s_SymbolReader_even, defScope s_SymbolReader_even, [], []⟩
abbrev dk31 : He5.DefA := ⟨fun K => He.ga K "put_levels", "put_levels", "put_levels", defArgs s_put_levels, defBody s_put_levels, defScope s_put_levels, [], []⟩
abbrev dk32 : He5.DefA := ⟨fun K => He.ma K (He.ga K "Encoder") "octets", "octets", "Encoder.octets", defArgs s_Encoder_octets, defBody s_Encoder_octets, defScope s_Encoder_octets, [], []⟩
abbrev dk33 : He5.DefA := ⟨fun K => He.ma K (He.ga K "Encoder") "probability", "probability", "Encoder.probability", defArgs s_Encoder_probability, defBody s_Encoder_probability, defScope s_Encoder_probability, [], []⟩
abbrev dk34 : He5.DefA := ⟨fun K => He.ma K (He.ga K "Decoder") "probability", "probability", "Decoder.probability", defArgs s_Decoder_probability, defBody s_Decoder_probability, defScope s_Decoder_probability, [], []⟩
abbrev dk35 : He5.DefA := ⟨fun K => He.ga K "_law_refused", "_law_refused", "_law_refused", defArgs s__law_refused, defBody s__law_refused, defScope s__law_refused, [], []⟩
abbrev dk36 : He5.DefA := ⟨fun K => He.ga K "check_size", "check_size", "check_size", defArgs s_check_size, defBody s_check_size, defScope s_check_size, [], []⟩
abbrev dk37 : He5.DefA := ⟨fun K => He.ga K "_get_places", "_get_places", "_get_places", defArgs s__get_places, defBody s__get_places, defScope s__get_places, [], []⟩
abbrev dk38 : He5.DefA := ⟨fun K => He.ga K "clip", "clip", "clip", defArgs s_clip, defBody s_clip, defScope s_clip, [], []⟩
abbrev dk39 : He5.DefA := ⟨fun K => He.ga K "get_levels", "get_levels", "get_levels", defArgs s_get_levels, defBody s_get_levels, defScope s_get_levels, [], []⟩
abbrev dk40 : He5.DefA := ⟨fun K => He.ma K (He.ga K "Decoder") "__init__", "__init__", "Decoder.__init__", defArgs s_Decoder___init__, defBody s_Decoder___init__, defScope s_Decoder___init__, [], []⟩
abbrev dk41 : He5.DefA := ⟨fun K => He.ga K "_law_far", "_law_far", "_law_far", defArgs s__law_far, defBody s__law_far, defScope s__law_far, [], []⟩
abbrev dk42 : He5.DefA := ⟨fun K => He.ga K "_law_refuses", "_law_refuses", "_law_refuses", defArgs s__law_refuses, defBody s__law_refuses, defScope s__law_refuses, [], []⟩
abbrev dk43 : He5.DefA := ⟨fun K => He.ga K "_law_is_integers", "_law_is_integers", "_law_is_integers", defArgs s__law_is_integers, defBody s__law_is_integers, defScope s__law_is_integers, [], []⟩
abbrev dk44 : He5.DefA := ⟨fun K => He.ga K "law", "law", "law", defArgs s_law, defBody s_law, defScope s_law, [], []⟩
def fa0 : List FaK := [(fun K => (He.Fa.free "len").ok K), (fun K => (He.Fa.free "abs").ok K), (fun K => (He.Fa.free "int").ok K), (fun K => (He.Fa.free "range").ok K), (fun K => (He.Fa.int "EVEN" 2048).ok K), (fun K => (He.Fa.int "CONTEXTS_coder" 256).ok K), (fun K => (He.Fa.int "WORD" 4294967296).ok K), (fun K => (He.Fa.int "CONTEXTS_symbols" 256).ok K), (fun K => (He.Fa.int "GREATEST_UNARY" 64).ok K), (fun K => (He.Fa.free "min").ok K), (fun K => (He.Fa.int "SHARED" 8).ok K), (fun K => (He.Fa.int "SCALE" 4096).ok K), (fun K => (He.Fa.int "RATE" 5).ok K), (fun K => (He.Fa.int "SCALE_BITS" 12).ok K), (fun K => (He.Fa.int "LEAST_SPAN" 16777216).ok K), (fun K => (He.Fa.int "GREATEST_NUMBER" 1048576).ok K), (fun K => (He.Fa.int "MOST_DIGITS" 20).ok K), (fun K => (He.Fa.glo "SIZES_BY_COUNT").ok K), (kdiB (fun K => He.ga K "SIZES_BY_COUNT") [(16, 4), (64, 8)]), (fun K => (He.Fa.free "max").ok K), (fun K => (He.Fa.int "GREATEST_LEVEL" 524287).ok K), (fun K => (He.Fa.int "LEAST_LEVEL" (-524288)).ok K), (fun K => (He.Fa.free "any").ok K), (fun K => (He.Fa.int "CLASSES" 64).ok K), (fun K => (He.Fa.int "SIGNIFICANT" 64).ok K), (fun K => (He.Fa.int "LAST" 128).ok K), (fun K => (He.Fa.int "LEVEL" 192).ok K), (fun K => (He.Fa.int "VALUE_CONTEXTS" 16).ok K), (fun K => (He.Fa.free "enumerate").ok K), (fun K => (He.Fa.free "reversed").ok K)]
def fa1 : List FaK := [(fun K => (He.Fa.free "isinstance").ok K), (fun K => (He.Fa.glo "SIZES").ok K), (tupK (fun K => He.ga K "SIZES") [.int 4, .int 8]), (fun K => (He.Fa.free "list").ok K), (fun K => (He.Fa.free "bool").ok K), (fun K => (He.Fa.cls "SymbolReader").ok K), (fun K => (He.Fa.noat "SymbolReader" "_decoder").ok K), (fun K => (He.Fa.cls "Encoder").ok K), (fun K => (He.Fa.noat "Encoder" "_probabilities").ok K), (fun K => (He.Fa.noat "Encoder" "_front").ok K), (fun K => (He.Fa.noat "Encoder" "_low").ok K), (fun K => (He.Fa.noat "Encoder" "_span").ok K), (fun K => (He.Fa.cls "SymbolWriter").ok K), (fun K => (He.Fa.noat "SymbolWriter" "_encoder").ok K), (fun K => (He.Fa.cls "Decoder").ok K), (fun K => (He.Fa.noat "Decoder" "_probabilities").ok K), (fun K => (He.Fa.noat "Decoder" "_octets").ok K), (fun K => (He.Fa.noat "Decoder" "_place").ok K), (fun K => (He.Fa.noat "Decoder" "_span").ok K), (fun K => (He.Fa.noat "Decoder" "_value").ok K), (fun K => (He.Fa.exc "OutOfRange").ok K), (fun K => (He.Fa.glo "OutOfRange").ok K), (fun K => (He.Fa.exc "BadData").ok K), (fun K => (He.Fa.glo "BadData").ok K), (fun K => (He.Fa.exc "CodecError").ok K), (fun K => (He.Fa.glo "CodecError").ok K), (fun K => (He.Fa.exm "BadData" "BadData" true).ok K), (fun K => (He.Fa.exm "OutOfRange" "OutOfRange" true).ok K), (kitFB "BadData" (fun K => .ref (He.ga K "CodecError")) true), (kitFB "BadData" (fun K => .ref (He.ga K "OutOfRange")) false)]
def fa2 : List FaK := [(excCB "BadData"), (fun K => (He.Fa.glo "_law_cell").ok K), (fun K => (He.Fa.glo "_law_digits").ok K), (fun K => (He.Fa.glo "_law_octets").ok K), (fun K => (He.Fa.mkr "SymbolReader").ok K), (fun K => (He.Fa.glo "SymbolReader").ok K), (fun K => (He.Fa.mkr "Encoder").ok K), (fun K => (He.Fa.glo "Encoder").ok K), (fun K => (He.Fa.mkr "SymbolWriter").ok K), (fun K => (He.Fa.glo "SymbolWriter").ok K), (fun K => (He.Fa.glo "_check_contexts").ok K), (fun K => (He.Fa.glo "_check_unary").ok K), (fun K => (He.Fa.glo "_check_context").ok K), (fun K => (He.Fa.glo "_check_decision").ok K), (fun K => (He.Fa.glo "_adapted").ok K), (fun K => (He.Fa.meth "Encoder" "_carry").ok K), (fun K => (He.Fa.meth "Encoder" "_narrow").ok K), (fun K => (He.Fa.meth "Encoder" "code").ok K), (fun K => (He.Fa.meth "SymbolWriter" "unary").ok K), (fun K => (He.Fa.meth "Decoder" "_shift").ok K), (fun K => (He.Fa.meth "Decoder" "_decide").ok K), (fun K => (He.Fa.meth "Decoder" "read").ok K), (fun K => (He.Fa.meth "SymbolReader" "unary").ok K), (fun K => (He.Fa.glo "_digit_context").ok K), (fun K => (He.Fa.meth "Encoder" "code_even").ok K), (fun K => (He.Fa.meth "SymbolWriter" "number").ok K), (fun K => (He.Fa.meth "Decoder" "read_even").ok K), (fun K => (He.Fa.meth "SymbolReader" "number").ok K), (fun K => (He.Fa.glo "_check_levels").ok K), (fun K => (He.Fa.meth "SymbolWriter" "flag").ok K)]
def fa3 : List FaK := [(fun K => (He.Fa.meth "SymbolReader" "flag").ok K), (fun K => (He.Fa.glo "_put_places").ok K), (fun K => (He.Fa.glo "_base_after").ok K), (fun K => (He.Fa.meth "SymbolWriter" "even").ok K), (fun K => (He.Fa.meth "SymbolReader" "even").ok K), (fun K => (He.Fa.glo "put_levels").ok K), (fun K => (He.Fa.meth "Encoder" "octets").ok K), (fun K => (He.Fa.meth "Encoder" "probability").ok K), (fun K => (He.Fa.meth "Decoder" "probability").ok K), (fun K => (He.Fa.glo "_law_refused").ok K), (fun K => (He.Fa.glo "check_size").ok K), (fun K => (He.Fa.glo "_get_places").ok K), (fun K => (He.Fa.glo "clip").ok K), (fun K => (He.Fa.glo "get_levels").ok K), (fun K => (He.Fa.mkr "Decoder").ok K), (fun K => (He.Fa.glo "Decoder").ok K), (fun K => (He.Fa.glo "_law_far").ok K), (fun K => (He.Fa.glo "_law_refuses").ok K), (fun K => (He.Fa.glo "_law_is_integers").ok K), (fun K => (He.Fa.glo "law").ok K)]
def fas : List (List FaK) := [fa0, fa1, fa2, fa3]
def fn0 : List He5.DefA := [dk0, dk1, dk2, dk3, dk4, dk5, dk6, dk7, dk8, dk9, dk10, dk11, dk12, dk13, dk14, dk15, dk16, dk17, dk18, dk19, dk20, dk21, dk22, dk23, dk24, dk25, dk26, dk27, dk28, dk29]
def fn1 : List He5.DefA := [dk30, dk31, dk32, dk33, dk34, dk35, dk36, dk37, dk38, dk39, dk40, dk41, dk42, dk43, dk44]
def fns : List He5.DefA := fn0 ++ fn1
def tbs : List He.Tab := []
def nms0 : List Str := ["_wall", "__name__", "clip", "SIGNIFICANT", "LAST", "LEVEL", "CodecError", "OutOfRange", "BadData", "LEAST_LEVEL", "GREATEST_LEVEL", "SIZES", "check_size", "SIZES_BY_COUNT", "CLASSES", "VALUE_CONTEXTS", "put_levels", "get_levels", "_check_levels", "_put_places", "_get_places", "_base_after", "CONTEXTS_coder", "SCALE_BITS", "SCALE", "EVEN", "RATE", "WORD", "LEAST_SPAN", "Encoder"]
def nms1 : List Str := ["Decoder", "_check_context", "_check_decision", "_adapted", "CONTEXTS_symbols", "GREATEST_UNARY", "GREATEST_NUMBER", "MOST_DIGITS", "SHARED", "SymbolWriter", "SymbolReader", "_check_contexts", "_check_unary", "_digit_context", "_law_cell", "_law_digits", "_law_is_integers", "_law_octets", "_law_refused", "_law_far", "_law_refuses"]
def nms : List Str := nms0 ++ nms1
abbrev RowK : PySem.W.OpenRow := PySem.W.OpenLaw.row PySem.Challenge.rw_thaumatrope_k49_any_octets_read_as_level
abbrev hkK : PySem.W.Hook := hookK 6 fas fns tbs
def obK (s : PySem.W.SharedT) : AlK := obsKG 6 fas fns tbs (HandSHeadRun.getT s)
theorem obK_eq (s : PySem.W.SharedT) : obK s = hkK.obs s.abs := obsKG_eq (HandSHeadRun.getT_eq s)
theorem runK0 (w : World) : HandSHeadRun.RunEq RowK (PySem.W.view RowK.prog [57]) hkK obK 20000 nms (w.withFollow "special-get-raises" false) := by
  intro os
  kernel_rfl
theorem runK1 (w : World) : HandSHeadRun.RunEq RowK (PySem.W.view RowK.prog [57]) hkK obK 20000 nms (w.withFollow "special-get-raises" true) := by
  intro os
  kernel_rfl
theorem runK (w : World) : HandSHeadRun.RunEq RowK (PySem.W.view RowK.prog [57]) hkK obK 20000 nms w := PySem.W.byRow2 "special-get-raises" runK0 runK1 w
section
variable {P : Program} {w : World} {K : PySem.W.Frag} {h : Heap} {mg : Str → Option Value} (X : K.In h) (G : h.Ns mainGlobals mg) (c : SaysK fas fns tbs w K)
include X G c
theorem T_ : Txt w K mg (adK K) := ⟨He.free_ok X G (c.fact 0 0 (l := fa0) (f := (fun K => (He.Fa.free "len").ok K)) rfl rfl), He.free_ok X G (c.fact 0 1 (l := fa0) (f := (fun K => (He.Fa.free "abs").ok K)) rfl rfl), He.free_ok X G (c.fact 0 2 (l := fa0) (f := (fun K => (He.Fa.free "int").ok K)) rfl rfl), He.free_ok X G (c.fact 0 3 (l := fa0) (f := (fun K => (He.Fa.free "range").ok K)) rfl rfl), (Exists.elim (He.int_ok X G (c.fact 0 4 (l := fa0) (f := (fun K => (He.Fa.int "EVEN" 2048).ok K)) rfl rfl)) fun t e => ⟨_, e, ⟨t, rfl⟩⟩), (Exists.elim (He.int_ok X G (c.fact 0 5 (l := fa0) (f := (fun K => (He.Fa.int "CONTEXTS_coder" 256).ok K)) rfl rfl)) fun t e => ⟨_, e, ⟨t, rfl⟩⟩), (Exists.elim (He.int_ok X G (c.fact 0 6 (l := fa0) (f := (fun K => (He.Fa.int "WORD" 4294967296).ok K)) rfl rfl)) fun t e => ⟨_, e, ⟨t, rfl⟩⟩), (Exists.elim (He.int_ok X G (c.fact 0 7 (l := fa0) (f := (fun K => (He.Fa.int "CONTEXTS_symbols" 256).ok K)) rfl rfl)) fun t e => ⟨_, e, ⟨t, rfl⟩⟩), (Exists.elim (He.int_ok X G (c.fact 0 8 (l := fa0) (f := (fun K => (He.Fa.int "GREATEST_UNARY" 64).ok K)) rfl rfl)) fun t e => ⟨_, e, ⟨t, rfl⟩⟩), He.free_ok X G (c.fact 0 9 (l := fa0) (f := (fun K => (He.Fa.free "min").ok K)) rfl rfl), (Exists.elim (He.int_ok X G (c.fact 0 10 (l := fa0) (f := (fun K => (He.Fa.int "SHARED" 8).ok K)) rfl rfl)) fun t e => ⟨_, e, ⟨t, rfl⟩⟩), (Exists.elim (He.int_ok X G (c.fact 0 11 (l := fa0) (f := (fun K => (He.Fa.int "SCALE" 4096).ok K)) rfl rfl)) fun t e => ⟨_, e, ⟨t, rfl⟩⟩), (Exists.elim (He.int_ok X G (c.fact 0 12 (l := fa0) (f := (fun K => (He.Fa.int "RATE" 5).ok K)) rfl rfl)) fun t e => ⟨_, e, ⟨t, rfl⟩⟩), (Exists.elim (He.int_ok X G (c.fact 0 13 (l := fa0) (f := (fun K => (He.Fa.int "SCALE_BITS" 12).ok K)) rfl rfl)) fun t e => ⟨_, e, ⟨t, rfl⟩⟩), (Exists.elim (He.int_ok X G (c.fact 0 14 (l := fa0) (f := (fun K => (He.Fa.int "LEAST_SPAN" 16777216).ok K)) rfl rfl)) fun t e => ⟨_, e, ⟨t, rfl⟩⟩), (Exists.elim (He.int_ok X G (c.fact 0 15 (l := fa0) (f := (fun K => (He.Fa.int "GREATEST_NUMBER" 1048576).ok K)) rfl rfl)) fun t e => ⟨_, e, ⟨t, rfl⟩⟩), (Exists.elim (He.int_ok X G (c.fact 0 16 (l := fa0) (f := (fun K => (He.Fa.int "MOST_DIGITS" 20).ok K)) rfl rfl)) fun t e => ⟨_, e, ⟨t, rfl⟩⟩), ⟨_, (He.glo_ok X G (c.fact 0 17 (l := fa0) (f := (fun K => (He.Fa.glo "SIZES_BY_COUNT").ok K)) rfl rfl)), rfl⟩, kdiB_ok (c.fact 0 18 (l := fa0) (f := (kdiB (fun K => He.ga K "SIZES_BY_COUNT") [(16, 4), (64, 8)])) rfl rfl), He.free_ok X G (c.fact 0 19 (l := fa0) (f := (fun K => (He.Fa.free "max").ok K)) rfl rfl), (Exists.elim (He.int_ok X G (c.fact 0 20 (l := fa0) (f := (fun K => (He.Fa.int "GREATEST_LEVEL" 524287).ok K)) rfl rfl)) fun t e => ⟨_, e, ⟨t, rfl⟩⟩), (Exists.elim (He.int_ok X G (c.fact 0 21 (l := fa0) (f := (fun K => (He.Fa.int "LEAST_LEVEL" (-524288)).ok K)) rfl rfl)) fun t e => ⟨_, e, ⟨t, rfl⟩⟩), He.free_ok X G (c.fact 0 22 (l := fa0) (f := (fun K => (He.Fa.free "any").ok K)) rfl rfl), (Exists.elim (He.int_ok X G (c.fact 0 23 (l := fa0) (f := (fun K => (He.Fa.int "CLASSES" 64).ok K)) rfl rfl)) fun t e => ⟨_, e, ⟨t, rfl⟩⟩), (Exists.elim (He.int_ok X G (c.fact 0 24 (l := fa0) (f := (fun K => (He.Fa.int "SIGNIFICANT" 64).ok K)) rfl rfl)) fun t e => ⟨_, e, ⟨t, rfl⟩⟩), (Exists.elim (He.int_ok X G (c.fact 0 25 (l := fa0) (f := (fun K => (He.Fa.int "LAST" 128).ok K)) rfl rfl)) fun t e => ⟨_, e, ⟨t, rfl⟩⟩), (Exists.elim (He.int_ok X G (c.fact 0 26 (l := fa0) (f := (fun K => (He.Fa.int "LEVEL" 192).ok K)) rfl rfl)) fun t e => ⟨_, e, ⟨t, rfl⟩⟩), (Exists.elim (He.int_ok X G (c.fact 0 27 (l := fa0) (f := (fun K => (He.Fa.int "VALUE_CONTEXTS" 16).ok K)) rfl rfl)) fun t e => ⟨_, e, ⟨t, rfl⟩⟩), He.free_ok X G (c.fact 0 28 (l := fa0) (f := (fun K => (He.Fa.free "enumerate").ok K)) rfl rfl), He.free_ok X G (c.fact 0 29 (l := fa0) (f := (fun K => (He.Fa.free "reversed").ok K)) rfl rfl), He.free_ok X G (c.fact 1 0 (l := fa1) (f := (fun K => (He.Fa.free "isinstance").ok K)) rfl rfl), ⟨_, (He.glo_ok X G (c.fact 1 1 (l := fa1) (f := (fun K => (He.Fa.glo "SIZES").ok K)) rfl rfl)), rfl⟩, fun H => tupK_ok (c.fact 1 2 (l := fa1) (f := (tupK (fun K => He.ga K "SIZES") [.int 4, .int 8])) rfl rfl) H, He.free_ok X G (c.fact 1 3 (l := fa1) (f := (fun K => (He.Fa.free "list").ok K)) rfl rfl), He.free_ok X G (c.fact 1 4 (l := fa1) (f := (fun K => (He.Fa.free "bool").ok K)) rfl rfl), He.cls_ok (c.fact 1 5 (l := fa1) (f := (fun K => (He.Fa.cls "SymbolReader").ok K)) rfl rfl), He.noat_ok (c.fact 1 6 (l := fa1) (f := (fun K => (He.Fa.noat "SymbolReader" "_decoder").ok K)) rfl rfl), He.cls_ok (c.fact 1 7 (l := fa1) (f := (fun K => (He.Fa.cls "Encoder").ok K)) rfl rfl), He.noat_ok (c.fact 1 8 (l := fa1) (f := (fun K => (He.Fa.noat "Encoder" "_probabilities").ok K)) rfl rfl), He.noat_ok (c.fact 1 9 (l := fa1) (f := (fun K => (He.Fa.noat "Encoder" "_front").ok K)) rfl rfl), He.noat_ok (c.fact 1 10 (l := fa1) (f := (fun K => (He.Fa.noat "Encoder" "_low").ok K)) rfl rfl), He.noat_ok (c.fact 1 11 (l := fa1) (f := (fun K => (He.Fa.noat "Encoder" "_span").ok K)) rfl rfl), He.cls_ok (c.fact 1 12 (l := fa1) (f := (fun K => (He.Fa.cls "SymbolWriter").ok K)) rfl rfl), He.noat_ok (c.fact 1 13 (l := fa1) (f := (fun K => (He.Fa.noat "SymbolWriter" "_encoder").ok K)) rfl rfl), He.cls_ok (c.fact 1 14 (l := fa1) (f := (fun K => (He.Fa.cls "Decoder").ok K)) rfl rfl), He.noat_ok (c.fact 1 15 (l := fa1) (f := (fun K => (He.Fa.noat "Decoder" "_probabilities").ok K)) rfl rfl), He.noat_ok (c.fact 1 16 (l := fa1) (f := (fun K => (He.Fa.noat "Decoder" "_octets").ok K)) rfl rfl), He.noat_ok (c.fact 1 17 (l := fa1) (f := (fun K => (He.Fa.noat "Decoder" "_place").ok K)) rfl rfl), He.noat_ok (c.fact 1 18 (l := fa1) (f := (fun K => (He.Fa.noat "Decoder" "_span").ok K)) rfl rfl), He.noat_ok (c.fact 1 19 (l := fa1) (f := (fun K => (He.Fa.noat "Decoder" "_value").ok K)) rfl rfl), (He.glo_ok X G (c.fact 1 21 (l := fa1) (f := (fun K => (He.Fa.glo "OutOfRange").ok K)) rfl rfl)), (He.exc_ok (c.fact 1 20 (l := fa1) (f := (fun K => (He.Fa.exc "OutOfRange").ok K)) rfl rfl)).1, (He.exc_ok (c.fact 1 20 (l := fa1) (f := (fun K => (He.Fa.exc "OutOfRange").ok K)) rfl rfl)).2.1, (He.exc_ok (c.fact 1 20 (l := fa1) (f := (fun K => (He.Fa.exc "OutOfRange").ok K)) rfl rfl)).2.2.1, (He.exc_ok (c.fact 1 20 (l := fa1) (f := (fun K => (He.Fa.exc "OutOfRange").ok K)) rfl rfl)).2.2.2, (He.glo_ok X G (c.fact 1 23 (l := fa1) (f := (fun K => (He.Fa.glo "BadData").ok K)) rfl rfl)), (He.exc_ok (c.fact 1 22 (l := fa1) (f := (fun K => (He.Fa.exc "BadData").ok K)) rfl rfl)).1, (He.exc_ok (c.fact 1 22 (l := fa1) (f := (fun K => (He.Fa.exc "BadData").ok K)) rfl rfl)).2.1, (He.exc_ok (c.fact 1 22 (l := fa1) (f := (fun K => (He.Fa.exc "BadData").ok K)) rfl rfl)).2.2.1, (He.exc_ok (c.fact 1 22 (l := fa1) (f := (fun K => (He.Fa.exc "BadData").ok K)) rfl rfl)).2.2.2, (He.glo_ok X G (c.fact 1 25 (l := fa1) (f := (fun K => (He.Fa.glo "CodecError").ok K)) rfl rfl)), (He.exc_ok (c.fact 1 24 (l := fa1) (f := (fun K => (He.Fa.exc "CodecError").ok K)) rfl rfl)).1, (He.exc_ok (c.fact 1 24 (l := fa1) (f := (fun K => (He.Fa.exc "CodecError").ok K)) rfl rfl)).2.1, (He.exc_ok (c.fact 1 24 (l := fa1) (f := (fun K => (He.Fa.exc "CodecError").ok K)) rfl rfl)).2.2.1, (He.exc_ok (c.fact 1 24 (l := fa1) (f := (fun K => (He.Fa.exc "CodecError").ok K)) rfl rfl)).2.2.2, He.exm_ok (c.fact 1 26 (l := fa1) (f := (fun K => (He.Fa.exm "BadData" "BadData" true).ok K)) rfl rfl), He.exm_ok (c.fact 1 27 (l := fa1) (f := (fun K => (He.Fa.exm "OutOfRange" "OutOfRange" true).ok K)) rfl rfl), kitFB_ok (c.fact 1 28 (l := fa1) (f := (kitFB "BadData" (fun K => .ref (He.ga K "CodecError")) true)) rfl rfl), kitFB_ok (c.fact 1 29 (l := fa1) (f := (kitFB "BadData" (fun K => .ref (He.ga K "OutOfRange")) false)) rfl rfl), excCB_ok (c.fact 2 0 (l := fa2) (f := (excCB "BadData")) rfl rfl)⟩
theorem D_0 : DefX K mg "_law_cell" s__law_cell ["script", "k"] pats__law_cell := by
  obtain ⟨fd0, F0⟩ : ∃ fd, FunD K "_law_cell" "_law_cell" (defArgs s__law_cell) (defBody s__law_cell) (defScope s__law_cell) [] [] (He.ga K "_law_cell") fd := c.def_ 0 (d := dk0) rfl
  obtain ⟨kV, dc, pm, an, cd, ct, rfl⟩ := fnD_ex F0
  exact ⟨_, _, _, _, F0, (He.glo_ok X G (c.fact 2 1 (l := fa2) (f := (fun K => (He.Fa.glo "_law_cell").ok K)) rfl rfl)), (all_consQ (Bnd.all fun us ws vs zs l1 l2 r rz => by
      obtain ⟨u0, u1, rfl⟩ := len2 (r.length.symm.trans l1)
      obtain rfl := len0 (rz.length.symm.trans l2)
      cases r with | cons r0 r =>
        cases r with | cons r1 r =>
          cases r
          cases rz
          exact ⟨[u0, u1], rfl, (.cons r0 (.cons r1 .nil))⟩) all_nilQ)⟩
theorem D_1 : DefX K mg "_law_digits" s__law_digits ["cell", "base", "most"] pats__law_digits := by
  obtain ⟨fd0, F1⟩ : ∃ fd, FunD K "_law_digits" "_law_digits" (defArgs s__law_digits) (defBody s__law_digits) (defScope s__law_digits) [] [] (He.ga K "_law_digits") fd := c.def_ 1 (d := dk1) rfl
  obtain ⟨kV, dc, pm, an, cd, ct, rfl⟩ := fnD_ex F1
  exact ⟨_, _, _, _, F1, (He.glo_ok X G (c.fact 2 2 (l := fa2) (f := (fun K => (He.Fa.glo "_law_digits").ok K)) rfl rfl)), (all_consQ (Bnd.all fun us ws vs zs l1 l2 r rz => by
      obtain ⟨u0, u1, u2, rfl⟩ := len3 (r.length.symm.trans l1)
      obtain rfl := len0 (rz.length.symm.trans l2)
      cases r with | cons r0 r =>
        cases r with | cons r1 r =>
          cases r with | cons r2 r =>
            cases r
            cases rz
            exact ⟨[u0, u1, u2], rfl, (.cons r0 (.cons r1 (.cons r2 .nil)))⟩) all_nilQ)⟩
theorem D_2 : DefX K mg "_law_octets" s__law_octets ["cell"] pats__law_octets := by
  obtain ⟨fd0, F2⟩ : ∃ fd, FunD K "_law_octets" "_law_octets" (defArgs s__law_octets) (defBody s__law_octets) (defScope s__law_octets) [] [] (He.ga K "_law_octets") fd := c.def_ 2 (d := dk2) rfl
  obtain ⟨kV, dc, pm, an, cd, ct, rfl⟩ := fnD_ex F2
  exact ⟨_, _, _, _, F2, (He.glo_ok X G (c.fact 2 3 (l := fa2) (f := (fun K => (He.Fa.glo "_law_octets").ok K)) rfl rfl)), (all_consQ (Bnd.all fun us ws vs zs l1 l2 r rz => by
      obtain ⟨u0, rfl⟩ := len1 (r.length.symm.trans l1)
      obtain rfl := len0 (rz.length.symm.trans l2)
      cases r with | cons r0 r =>
        cases r
        cases rz
        exact ⟨[u0], rfl, (.cons r0 .nil)⟩) all_nilQ)⟩
theorem D_3 : InitX K mg (He.ga K "SymbolReader") "SymbolReader" "SymbolReader.__init__" s_SymbolReader___init__ ["self", "decoder"] pats_SymbolReader___init__ := by
  obtain ⟨fd0, F3⟩ : ∃ fd, FunD K "__init__" "SymbolReader.__init__" (defArgs s_SymbolReader___init__) (defBody s_SymbolReader___init__) (defScope s_SymbolReader___init__) [] [] (He.ma K (He.ga K "SymbolReader") "__init__") fd := c.def_ 3 (d := dk3) rfl
  obtain ⟨kV, dc, pm, an, cd, ct, rfl⟩ := fnD_ex F3
  exact ⟨_, _, _, _, F3, He.mkr_ok (c.fact 2 4 (l := fa2) (f := (fun K => (He.Fa.mkr "SymbolReader").ok K)) rfl rfl), (He.glo_ok X G (c.fact 2 5 (l := fa2) (f := (fun K => (He.Fa.glo "SymbolReader").ok K)) rfl rfl)), (all_consQ (Bnd.all fun us ws vs zs l1 l2 r rz => by
      obtain ⟨u0, u1, rfl⟩ := len2 (r.length.symm.trans l1)
      obtain rfl := len0 (rz.length.symm.trans l2)
      cases r with | cons r0 r =>
        cases r with | cons r1 r =>
          cases r
          cases rz
          exact ⟨[u0, u1], rfl, (.cons r0 (.cons r1 .nil))⟩) all_nilQ)⟩
theorem D_4 : InitX K mg (He.ga K "Encoder") "Encoder" "Encoder.__init__" s_Encoder___init__ ["self"] pats_Encoder___init__ := by
  obtain ⟨fd0, F4⟩ : ∃ fd, FunD K "__init__" "Encoder.__init__" (defArgs s_Encoder___init__) (defBody s_Encoder___init__) (defScope s_Encoder___init__) [] [] (He.ma K (He.ga K "Encoder") "__init__") fd := c.def_ 4 (d := dk4) rfl
  obtain ⟨kV, dc, pm, an, cd, ct, rfl⟩ := fnD_ex F4
  exact ⟨_, _, _, _, F4, He.mkr_ok (c.fact 2 6 (l := fa2) (f := (fun K => (He.Fa.mkr "Encoder").ok K)) rfl rfl), (He.glo_ok X G (c.fact 2 7 (l := fa2) (f := (fun K => (He.Fa.glo "Encoder").ok K)) rfl rfl)), (all_consQ (Bnd.all fun us ws vs zs l1 l2 r rz => by
      obtain ⟨u0, rfl⟩ := len1 (r.length.symm.trans l1)
      obtain rfl := len0 (rz.length.symm.trans l2)
      cases r with | cons r0 r =>
        cases r
        cases rz
        exact ⟨[u0], rfl, (.cons r0 .nil)⟩) all_nilQ)⟩
theorem D_5 : InitX K mg (He.ga K "SymbolWriter") "SymbolWriter" "SymbolWriter.__init__" s_SymbolWriter___init__ ["self", "encoder"] pats_SymbolWriter___init__ := by
  obtain ⟨fd0, F5⟩ : ∃ fd, FunD K "__init__" "SymbolWriter.__init__" (defArgs s_SymbolWriter___init__) (defBody s_SymbolWriter___init__) (defScope s_SymbolWriter___init__) [] [] (He.ma K (He.ga K "SymbolWriter") "__init__") fd := c.def_ 5 (d := dk5) rfl
  obtain ⟨kV, dc, pm, an, cd, ct, rfl⟩ := fnD_ex F5
  exact ⟨_, _, _, _, F5, He.mkr_ok (c.fact 2 8 (l := fa2) (f := (fun K => (He.Fa.mkr "SymbolWriter").ok K)) rfl rfl), (He.glo_ok X G (c.fact 2 9 (l := fa2) (f := (fun K => (He.Fa.glo "SymbolWriter").ok K)) rfl rfl)), (all_consQ (Bnd.all fun us ws vs zs l1 l2 r rz => by
      obtain ⟨u0, u1, rfl⟩ := len2 (r.length.symm.trans l1)
      obtain rfl := len0 (rz.length.symm.trans l2)
      cases r with | cons r0 r =>
        cases r with | cons r1 r =>
          cases r
          cases rz
          exact ⟨[u0, u1], rfl, (.cons r0 (.cons r1 .nil))⟩) all_nilQ)⟩
theorem D_6 : DefX K mg "_check_contexts" s__check_contexts ["base", "count"] pats__check_contexts := by
  obtain ⟨fd0, F6⟩ : ∃ fd, FunD K "_check_contexts" "_check_contexts" (defArgs s__check_contexts) (defBody s__check_contexts) (defScope s__check_contexts) [] [] (He.ga K "_check_contexts") fd := c.def_ 6 (d := dk6) rfl
  obtain ⟨kV, dc, pm, an, cd, ct, rfl⟩ := fnD_ex F6
  exact ⟨_, _, _, _, F6, (He.glo_ok X G (c.fact 2 10 (l := fa2) (f := (fun K => (He.Fa.glo "_check_contexts").ok K)) rfl rfl)), (all_consQ (Bnd.all fun us ws vs zs l1 l2 r rz => by
      obtain ⟨u0, u1, rfl⟩ := len2 (r.length.symm.trans l1)
      obtain rfl := len0 (rz.length.symm.trans l2)
      cases r with | cons r0 r =>
        cases r with | cons r1 r =>
          cases r
          cases rz
          exact ⟨[u0, u1], rfl, (.cons r0 (.cons r1 .nil))⟩) all_nilQ)⟩
theorem D_7 : DefX K mg "_check_unary" s__check_unary ["base", "most"] pats__check_unary := by
  obtain ⟨fd0, F7⟩ : ∃ fd, FunD K "_check_unary" "_check_unary" (defArgs s__check_unary) (defBody s__check_unary) (defScope s__check_unary) [] [] (He.ga K "_check_unary") fd := c.def_ 7 (d := dk7) rfl
  obtain ⟨kV, dc, pm, an, cd, ct, rfl⟩ := fnD_ex F7
  exact ⟨_, _, _, _, F7, (He.glo_ok X G (c.fact 2 11 (l := fa2) (f := (fun K => (He.Fa.glo "_check_unary").ok K)) rfl rfl)), (all_consQ (Bnd.all fun us ws vs zs l1 l2 r rz => by
      obtain ⟨u0, u1, rfl⟩ := len2 (r.length.symm.trans l1)
      obtain rfl := len0 (rz.length.symm.trans l2)
      cases r with | cons r0 r =>
        cases r with | cons r1 r =>
          cases r
          cases rz
          exact ⟨[u0, u1], rfl, (.cons r0 (.cons r1 .nil))⟩) all_nilQ)⟩
theorem D_8 : DefX K mg "_check_context" s__check_context ["context"] pats__check_context := by
  obtain ⟨fd0, F8⟩ : ∃ fd, FunD K "_check_context" "_check_context" (defArgs s__check_context) (defBody s__check_context) (defScope s__check_context) [] [] (He.ga K "_check_context") fd := c.def_ 8 (d := dk8) rfl
  obtain ⟨kV, dc, pm, an, cd, ct, rfl⟩ := fnD_ex F8
  exact ⟨_, _, _, _, F8, (He.glo_ok X G (c.fact 2 12 (l := fa2) (f := (fun K => (He.Fa.glo "_check_context").ok K)) rfl rfl)), (all_consQ (Bnd.all fun us ws vs zs l1 l2 r rz => by
      obtain ⟨u0, rfl⟩ := len1 (r.length.symm.trans l1)
      obtain rfl := len0 (rz.length.symm.trans l2)
      cases r with | cons r0 r =>
        cases r
        cases rz
        exact ⟨[u0], rfl, (.cons r0 .nil)⟩) all_nilQ)⟩
theorem D_9 : DefX K mg "_check_decision" s__check_decision ["decision"] pats__check_decision := by
  obtain ⟨fd0, F9⟩ : ∃ fd, FunD K "_check_decision" "_check_decision" (defArgs s__check_decision) (defBody s__check_decision) (defScope s__check_decision) [] [] (He.ga K "_check_decision") fd := c.def_ 9 (d := dk9) rfl
  obtain ⟨kV, dc, pm, an, cd, ct, rfl⟩ := fnD_ex F9
  exact ⟨_, _, _, _, F9, (He.glo_ok X G (c.fact 2 13 (l := fa2) (f := (fun K => (He.Fa.glo "_check_decision").ok K)) rfl rfl)), (all_consQ (Bnd.all fun us ws vs zs l1 l2 r rz => by
      obtain ⟨u0, rfl⟩ := len1 (r.length.symm.trans l1)
      obtain rfl := len0 (rz.length.symm.trans l2)
      cases r with | cons r0 r =>
        cases r
        cases rz
        exact ⟨[u0], rfl, (.cons r0 .nil)⟩) all_nilQ)⟩
theorem D_10 : DefX K mg "_adapted" s__adapted ["chance", "decision"] pats__adapted := by
  obtain ⟨fd0, F10⟩ : ∃ fd, FunD K "_adapted" "_adapted" (defArgs s__adapted) (defBody s__adapted) (defScope s__adapted) [] [] (He.ga K "_adapted") fd := c.def_ 10 (d := dk10) rfl
  obtain ⟨kV, dc, pm, an, cd, ct, rfl⟩ := fnD_ex F10
  exact ⟨_, _, _, _, F10, (He.glo_ok X G (c.fact 2 14 (l := fa2) (f := (fun K => (He.Fa.glo "_adapted").ok K)) rfl rfl)), (all_consQ (Bnd.all fun us ws vs zs l1 l2 r rz => by
      obtain ⟨u0, u1, rfl⟩ := len2 (r.length.symm.trans l1)
      obtain rfl := len0 (rz.length.symm.trans l2)
      cases r with | cons r0 r =>
        cases r with | cons r1 r =>
          cases r
          cases rz
          exact ⟨[u0, u1], rfl, (.cons r0 (.cons r1 .nil))⟩) all_nilQ)⟩
theorem D_11 : MethX K (He.ga K "Encoder") "Encoder._carry" "_carry" s_Encoder__carry ["self"] pats_Encoder__carry := by
  obtain ⟨fd0, F11⟩ : ∃ fd, FunD K "_carry" "Encoder._carry" (defArgs s_Encoder__carry) (defBody s_Encoder__carry) (defScope s_Encoder__carry) [] [] (He.ma K (He.ga K "Encoder") "_carry") fd := c.def_ 11 (d := dk11) rfl
  obtain ⟨kV, dc, pm, an, cd, ct, rfl⟩ := fnD_ex F11
  exact ⟨_, _, _, _, F11, He.meth_ok (c.fact 2 15 (l := fa2) (f := (fun K => (He.Fa.meth "Encoder" "_carry").ok K)) rfl rfl), (all_consQ (Bnd.all fun us ws vs zs l1 l2 r rz => by
      obtain ⟨u0, rfl⟩ := len1 (r.length.symm.trans l1)
      obtain rfl := len0 (rz.length.symm.trans l2)
      cases r with | cons r0 r =>
        cases r
        cases rz
        exact ⟨[u0], rfl, (.cons r0 .nil)⟩) all_nilQ)⟩
theorem D_12 : MethX K (He.ga K "Encoder") "Encoder._narrow" "_narrow" s_Encoder__narrow ["self", "chance", "decision"] pats_Encoder__narrow := by
  obtain ⟨fd0, F12⟩ : ∃ fd, FunD K "_narrow" "Encoder._narrow" (defArgs s_Encoder__narrow) (defBody s_Encoder__narrow) (defScope s_Encoder__narrow) [] [] (He.ma K (He.ga K "Encoder") "_narrow") fd := c.def_ 12 (d := dk12) rfl
  obtain ⟨kV, dc, pm, an, cd, ct, rfl⟩ := fnD_ex F12
  exact ⟨_, _, _, _, F12, He.meth_ok (c.fact 2 16 (l := fa2) (f := (fun K => (He.Fa.meth "Encoder" "_narrow").ok K)) rfl rfl), (all_consQ (Bnd.all fun us ws vs zs l1 l2 r rz => by
      obtain ⟨u0, u1, u2, rfl⟩ := len3 (r.length.symm.trans l1)
      obtain rfl := len0 (rz.length.symm.trans l2)
      cases r with | cons r0 r =>
        cases r with | cons r1 r =>
          cases r with | cons r2 r =>
            cases r
            cases rz
            exact ⟨[u0, u1, u2], rfl, (.cons r0 (.cons r1 (.cons r2 .nil)))⟩) all_nilQ)⟩
theorem D_13 : MethX K (He.ga K "Encoder") "Encoder.code" "code" s_Encoder_code ["self", "context", "decision"] pats_Encoder_code := by
  obtain ⟨fd0, F13⟩ : ∃ fd, FunD K "code" "Encoder.code" (defArgs s_Encoder_code) (defBody s_Encoder_code) (defScope s_Encoder_code) [] [] (He.ma K (He.ga K "Encoder") "code") fd := c.def_ 13 (d := dk13) rfl
  obtain ⟨kV, dc, pm, an, cd, ct, rfl⟩ := fnD_ex F13
  exact ⟨_, _, _, _, F13, He.meth_ok (c.fact 2 17 (l := fa2) (f := (fun K => (He.Fa.meth "Encoder" "code").ok K)) rfl rfl), (all_consQ (Bnd.all fun us ws vs zs l1 l2 r rz => by
      obtain ⟨u0, u1, u2, rfl⟩ := len3 (r.length.symm.trans l1)
      obtain rfl := len0 (rz.length.symm.trans l2)
      cases r with | cons r0 r =>
        cases r with | cons r1 r =>
          cases r with | cons r2 r =>
            cases r
            cases rz
            exact ⟨[u0, u1, u2], rfl, (.cons r0 (.cons r1 (.cons r2 .nil)))⟩) all_nilQ)⟩
theorem D_14 : MethX K (He.ga K "SymbolWriter") "SymbolWriter.unary" "unary" s_SymbolWriter_unary ["self", "base", "value", "most"] pats_SymbolWriter_unary := by
  obtain ⟨fd0, F14⟩ : ∃ fd, FunD K "unary" "SymbolWriter.unary" (defArgs s_SymbolWriter_unary) (defBody s_SymbolWriter_unary) (defScope s_SymbolWriter_unary) [] [] (He.ma K (He.ga K "SymbolWriter") "unary") fd := c.def_ 14 (d := dk14) rfl
  obtain ⟨kV, dc, pm, an, cd, ct, rfl⟩ := fnD_ex F14
  exact ⟨_, _, _, _, F14, He.meth_ok (c.fact 2 18 (l := fa2) (f := (fun K => (He.Fa.meth "SymbolWriter" "unary").ok K)) rfl rfl), (all_consQ (Bnd.all fun us ws vs zs l1 l2 r rz => by
      obtain ⟨u0, u1, u2, rfl⟩ := len3 (r.length.symm.trans l1)
      obtain ⟨w0, rfl⟩ := len1 (rz.length.symm.trans l2)
      cases r with | cons r0 r =>
        cases r with | cons r1 r =>
          cases r with | cons r2 r =>
            cases r
            cases rz with | cons q0 rz =>
              cases rz
              exact ⟨[u0, u1, u2, w0], rfl, (.cons r0 (.cons r1 (.cons r2 (.cons q0 .nil))))⟩) all_nilQ)⟩
theorem D_15 : MethX K (He.ga K "Decoder") "Decoder._shift" "_shift" s_Decoder__shift ["self"] pats_Decoder__shift := by
  obtain ⟨fd0, F15⟩ : ∃ fd, FunD K "_shift" "Decoder._shift" (defArgs s_Decoder__shift) (defBody s_Decoder__shift) (defScope s_Decoder__shift) [] [] (He.ma K (He.ga K "Decoder") "_shift") fd := c.def_ 15 (d := dk15) rfl
  obtain ⟨kV, dc, pm, an, cd, ct, rfl⟩ := fnD_ex F15
  exact ⟨_, _, _, _, F15, He.meth_ok (c.fact 2 19 (l := fa2) (f := (fun K => (He.Fa.meth "Decoder" "_shift").ok K)) rfl rfl), (all_consQ (Bnd.all fun us ws vs zs l1 l2 r rz => by
      obtain ⟨u0, rfl⟩ := len1 (r.length.symm.trans l1)
      obtain rfl := len0 (rz.length.symm.trans l2)
      cases r with | cons r0 r =>
        cases r
        cases rz
        exact ⟨[u0], rfl, (.cons r0 .nil)⟩) all_nilQ)⟩
theorem D_16 : MethX K (He.ga K "Decoder") "Decoder._decide" "_decide" s_Decoder__decide ["self", "chance"] pats_Decoder__decide := by
  obtain ⟨fd0, F16⟩ : ∃ fd, FunD K "_decide" "Decoder._decide" (defArgs s_Decoder__decide) (defBody s_Decoder__decide) (defScope s_Decoder__decide) [] [] (He.ma K (He.ga K "Decoder") "_decide") fd := c.def_ 16 (d := dk16) rfl
  obtain ⟨kV, dc, pm, an, cd, ct, rfl⟩ := fnD_ex F16
  exact ⟨_, _, _, _, F16, He.meth_ok (c.fact 2 20 (l := fa2) (f := (fun K => (He.Fa.meth "Decoder" "_decide").ok K)) rfl rfl), (all_consQ (Bnd.all fun us ws vs zs l1 l2 r rz => by
      obtain ⟨u0, u1, rfl⟩ := len2 (r.length.symm.trans l1)
      obtain rfl := len0 (rz.length.symm.trans l2)
      cases r with | cons r0 r =>
        cases r with | cons r1 r =>
          cases r
          cases rz
          exact ⟨[u0, u1], rfl, (.cons r0 (.cons r1 .nil))⟩) all_nilQ)⟩
theorem D_17 : MethX K (He.ga K "Decoder") "Decoder.read" "read" s_Decoder_read ["self", "context"] pats_Decoder_read := by
  obtain ⟨fd0, F17⟩ : ∃ fd, FunD K "read" "Decoder.read" (defArgs s_Decoder_read) (defBody s_Decoder_read) (defScope s_Decoder_read) [] [] (He.ma K (He.ga K "Decoder") "read") fd := c.def_ 17 (d := dk17) rfl
  obtain ⟨kV, dc, pm, an, cd, ct, rfl⟩ := fnD_ex F17
  exact ⟨_, _, _, _, F17, He.meth_ok (c.fact 2 21 (l := fa2) (f := (fun K => (He.Fa.meth "Decoder" "read").ok K)) rfl rfl), (all_consQ (Bnd.all fun us ws vs zs l1 l2 r rz => by
      obtain ⟨u0, u1, rfl⟩ := len2 (r.length.symm.trans l1)
      obtain rfl := len0 (rz.length.symm.trans l2)
      cases r with | cons r0 r =>
        cases r with | cons r1 r =>
          cases r
          cases rz
          exact ⟨[u0, u1], rfl, (.cons r0 (.cons r1 .nil))⟩) all_nilQ)⟩
theorem D_18 : MethX K (He.ga K "SymbolReader") "SymbolReader.unary" "unary" s_SymbolReader_unary ["self", "base", "most"] pats_SymbolReader_unary := by
  obtain ⟨fd0, F18⟩ : ∃ fd, FunD K "unary" "SymbolReader.unary" (defArgs s_SymbolReader_unary) (defBody s_SymbolReader_unary) (defScope s_SymbolReader_unary) [] [] (He.ma K (He.ga K "SymbolReader") "unary") fd := c.def_ 18 (d := dk18) rfl
  obtain ⟨kV, dc, pm, an, cd, ct, rfl⟩ := fnD_ex F18
  exact ⟨_, _, _, _, F18, He.meth_ok (c.fact 2 22 (l := fa2) (f := (fun K => (He.Fa.meth "SymbolReader" "unary").ok K)) rfl rfl), (all_consQ (Bnd.all fun us ws vs zs l1 l2 r rz => by
      obtain ⟨u0, u1, rfl⟩ := len2 (r.length.symm.trans l1)
      obtain ⟨w0, rfl⟩ := len1 (rz.length.symm.trans l2)
      cases r with | cons r0 r =>
        cases r with | cons r1 r =>
          cases r
          cases rz with | cons q0 rz =>
            cases rz
            exact ⟨[u0, u1, w0], rfl, (.cons r0 (.cons r1 (.cons q0 .nil)))⟩) all_nilQ)⟩
theorem D_19 : DefX K mg "_digit_context" s__digit_context ["base", "digits"] pats__digit_context := by
  obtain ⟨fd0, F19⟩ : ∃ fd, FunD K "_digit_context" "_digit_context" (defArgs s__digit_context) (defBody s__digit_context) (defScope s__digit_context) [] [] (He.ga K "_digit_context") fd := c.def_ 19 (d := dk19) rfl
  obtain ⟨kV, dc, pm, an, cd, ct, rfl⟩ := fnD_ex F19
  exact ⟨_, _, _, _, F19, (He.glo_ok X G (c.fact 2 23 (l := fa2) (f := (fun K => (He.Fa.glo "_digit_context").ok K)) rfl rfl)), (all_consQ (Bnd.all fun us ws vs zs l1 l2 r rz => by
      obtain ⟨u0, u1, rfl⟩ := len2 (r.length.symm.trans l1)
      obtain rfl := len0 (rz.length.symm.trans l2)
      cases r with | cons r0 r =>
        cases r with | cons r1 r =>
          cases r
          cases rz
          exact ⟨[u0, u1], rfl, (.cons r0 (.cons r1 .nil))⟩) all_nilQ)⟩
theorem D_20 : MethX K (He.ga K "Encoder") "Encoder.code_even" "code_even" s_Encoder_code_even ["self", "decision"] pats_Encoder_code_even := by
  obtain ⟨fd0, F20⟩ : ∃ fd, FunD K "code_even" "Encoder.code_even" (defArgs s_Encoder_code_even) (defBody s_Encoder_code_even) (defScope s_Encoder_code_even) [] [] (He.ma K (He.ga K "Encoder") "code_even") fd := c.def_ 20 (d := dk20) rfl
  obtain ⟨kV, dc, pm, an, cd, ct, rfl⟩ := fnD_ex F20
  exact ⟨_, _, _, _, F20, He.meth_ok (c.fact 2 24 (l := fa2) (f := (fun K => (He.Fa.meth "Encoder" "code_even").ok K)) rfl rfl), (all_consQ (Bnd.all fun us ws vs zs l1 l2 r rz => by
      obtain ⟨u0, u1, rfl⟩ := len2 (r.length.symm.trans l1)
      obtain rfl := len0 (rz.length.symm.trans l2)
      cases r with | cons r0 r =>
        cases r with | cons r1 r =>
          cases r
          cases rz
          exact ⟨[u0, u1], rfl, (.cons r0 (.cons r1 .nil))⟩) all_nilQ)⟩
theorem D_21 : MethX K (He.ga K "SymbolWriter") "SymbolWriter.number" "number" s_SymbolWriter_number ["self", "base", "value"] pats_SymbolWriter_number := by
  obtain ⟨fd0, F21⟩ : ∃ fd, FunD K "number" "SymbolWriter.number" (defArgs s_SymbolWriter_number) (defBody s_SymbolWriter_number) (defScope s_SymbolWriter_number) [] [] (He.ma K (He.ga K "SymbolWriter") "number") fd := c.def_ 21 (d := dk21) rfl
  obtain ⟨kV, dc, pm, an, cd, ct, rfl⟩ := fnD_ex F21
  exact ⟨_, _, _, _, F21, He.meth_ok (c.fact 2 25 (l := fa2) (f := (fun K => (He.Fa.meth "SymbolWriter" "number").ok K)) rfl rfl), (all_consQ (Bnd.all fun us ws vs zs l1 l2 r rz => by
      obtain ⟨u0, u1, u2, rfl⟩ := len3 (r.length.symm.trans l1)
      obtain rfl := len0 (rz.length.symm.trans l2)
      cases r with | cons r0 r =>
        cases r with | cons r1 r =>
          cases r with | cons r2 r =>
            cases r
            cases rz
            exact ⟨[u0, u1, u2], rfl, (.cons r0 (.cons r1 (.cons r2 .nil)))⟩) all_nilQ)⟩
theorem D_22 : MethX K (He.ga K "Decoder") "Decoder.read_even" "read_even" s_Decoder_read_even ["self"] pats_Decoder_read_even := by
  obtain ⟨fd0, F22⟩ : ∃ fd, FunD K "read_even" "Decoder.read_even" (defArgs s_Decoder_read_even) (defBody s_Decoder_read_even) (defScope s_Decoder_read_even) [] [] (He.ma K (He.ga K "Decoder") "read_even") fd := c.def_ 22 (d := dk22) rfl
  obtain ⟨kV, dc, pm, an, cd, ct, rfl⟩ := fnD_ex F22
  exact ⟨_, _, _, _, F22, He.meth_ok (c.fact 2 26 (l := fa2) (f := (fun K => (He.Fa.meth "Decoder" "read_even").ok K)) rfl rfl), (all_consQ (Bnd.all fun us ws vs zs l1 l2 r rz => by
      obtain ⟨u0, rfl⟩ := len1 (r.length.symm.trans l1)
      obtain rfl := len0 (rz.length.symm.trans l2)
      cases r with | cons r0 r =>
        cases r
        cases rz
        exact ⟨[u0], rfl, (.cons r0 .nil)⟩) all_nilQ)⟩
theorem D_23 : MethX K (He.ga K "SymbolReader") "SymbolReader.number" "number" s_SymbolReader_number ["self", "base"] pats_SymbolReader_number := by
  obtain ⟨fd0, F23⟩ : ∃ fd, FunD K "number" "SymbolReader.number" (defArgs s_SymbolReader_number) (defBody s_SymbolReader_number) (defScope s_SymbolReader_number) [] [] (He.ma K (He.ga K "SymbolReader") "number") fd := c.def_ 23 (d := dk23) rfl
  obtain ⟨kV, dc, pm, an, cd, ct, rfl⟩ := fnD_ex F23
  exact ⟨_, _, _, _, F23, He.meth_ok (c.fact 2 27 (l := fa2) (f := (fun K => (He.Fa.meth "SymbolReader" "number").ok K)) rfl rfl), (all_consQ (Bnd.all fun us ws vs zs l1 l2 r rz => by
      obtain ⟨u0, u1, rfl⟩ := len2 (r.length.symm.trans l1)
      obtain rfl := len0 (rz.length.symm.trans l2)
      cases r with | cons r0 r =>
        cases r with | cons r1 r =>
          cases r
          cases rz
          exact ⟨[u0, u1], rfl, (.cons r0 (.cons r1 .nil))⟩) all_nilQ)⟩
theorem D_24 : DefX K mg "_check_levels" s__check_levels ["levels"] pats__check_levels := by
  obtain ⟨fd0, F24⟩ : ∃ fd, FunD K "_check_levels" "_check_levels" (defArgs s__check_levels) (defBody s__check_levels) (defScope s__check_levels) [] [] (He.ga K "_check_levels") fd := c.def_ 24 (d := dk24) rfl
  obtain ⟨kV, dc, pm, an, cd, ct, rfl⟩ := fnD_ex F24
  exact ⟨_, _, _, _, F24, (He.glo_ok X G (c.fact 2 28 (l := fa2) (f := (fun K => (He.Fa.glo "_check_levels").ok K)) rfl rfl)), (all_consQ (Bnd.all fun us ws vs zs l1 l2 r rz => by
      obtain ⟨u0, rfl⟩ := len1 (r.length.symm.trans l1)
      obtain rfl := len0 (rz.length.symm.trans l2)
      cases r with | cons r0 r =>
        cases r
        cases rz
        exact ⟨[u0], rfl, (.cons r0 .nil)⟩) all_nilQ)⟩
theorem D_25 : MethX K (He.ga K "SymbolWriter") "SymbolWriter.flag" "flag" s_SymbolWriter_flag ["self", "base", "value"] pats_SymbolWriter_flag := by
  obtain ⟨fd0, F25⟩ : ∃ fd, FunD K "flag" "SymbolWriter.flag" (defArgs s_SymbolWriter_flag) (defBody s_SymbolWriter_flag) (defScope s_SymbolWriter_flag) [] [] (He.ma K (He.ga K "SymbolWriter") "flag") fd := c.def_ 25 (d := dk25) rfl
  obtain ⟨kV, dc, pm, an, cd, ct, rfl⟩ := fnD_ex F25
  exact ⟨_, _, _, _, F25, He.meth_ok (c.fact 2 29 (l := fa2) (f := (fun K => (He.Fa.meth "SymbolWriter" "flag").ok K)) rfl rfl), (all_consQ (Bnd.all fun us ws vs zs l1 l2 r rz => by
      obtain ⟨u0, u1, u2, rfl⟩ := len3 (r.length.symm.trans l1)
      obtain rfl := len0 (rz.length.symm.trans l2)
      cases r with | cons r0 r =>
        cases r with | cons r1 r =>
          cases r with | cons r2 r =>
            cases r
            cases rz
            exact ⟨[u0, u1, u2], rfl, (.cons r0 (.cons r1 (.cons r2 .nil)))⟩) all_nilQ)⟩
theorem D_26 : MethX K (He.ga K "SymbolReader") "SymbolReader.flag" "flag" s_SymbolReader_flag ["self", "base"] pats_SymbolReader_flag := by
  obtain ⟨fd0, F26⟩ : ∃ fd, FunD K "flag" "SymbolReader.flag" (defArgs s_SymbolReader_flag) (defBody s_SymbolReader_flag) (defScope s_SymbolReader_flag) [] [] (He.ma K (He.ga K "SymbolReader") "flag") fd := c.def_ 26 (d := dk26) rfl
  obtain ⟨kV, dc, pm, an, cd, ct, rfl⟩ := fnD_ex F26
  exact ⟨_, _, _, _, F26, He.meth_ok (c.fact 3 0 (l := fa3) (f := (fun K => (He.Fa.meth "SymbolReader" "flag").ok K)) rfl rfl), (all_consQ (Bnd.all fun us ws vs zs l1 l2 r rz => by
      obtain ⟨u0, u1, rfl⟩ := len2 (r.length.symm.trans l1)
      obtain rfl := len0 (rz.length.symm.trans l2)
      cases r with | cons r0 r =>
        cases r with | cons r1 r =>
          cases r
          cases rz
          exact ⟨[u0, u1], rfl, (.cons r0 (.cons r1 .nil))⟩) all_nilQ)⟩
theorem D_27 : DefX K mg "_put_places" s__put_places ["writer", "levels", "last"] pats__put_places := by
  obtain ⟨fd0, F27⟩ : ∃ fd, FunD K "_put_places" "_put_places" (defArgs s__put_places) (defBody s__put_places) (defScope s__put_places) [] [] (He.ga K "_put_places") fd := c.def_ 27 (d := dk27) rfl
  obtain ⟨kV, dc, pm, an, cd, ct, rfl⟩ := fnD_ex F27
  exact ⟨_, _, _, _, F27, (He.glo_ok X G (c.fact 3 1 (l := fa3) (f := (fun K => (He.Fa.glo "_put_places").ok K)) rfl rfl)), (all_consQ (Bnd.all fun us ws vs zs l1 l2 r rz => by
      obtain ⟨u0, u1, u2, rfl⟩ := len3 (r.length.symm.trans l1)
      obtain rfl := len0 (rz.length.symm.trans l2)
      cases r with | cons r0 r =>
        cases r with | cons r1 r =>
          cases r with | cons r2 r =>
            cases r
            cases rz
            exact ⟨[u0, u1, u2], rfl, (.cons r0 (.cons r1 (.cons r2 .nil)))⟩) all_nilQ)⟩
theorem D_28 : DefX K mg "_base_after" s__base_after ["base", "worth"] pats__base_after := by
  obtain ⟨fd0, F28⟩ : ∃ fd, FunD K "_base_after" "_base_after" (defArgs s__base_after) (defBody s__base_after) (defScope s__base_after) [] [] (He.ga K "_base_after") fd := c.def_ 28 (d := dk28) rfl
  obtain ⟨kV, dc, pm, an, cd, ct, rfl⟩ := fnD_ex F28
  exact ⟨_, _, _, _, F28, (He.glo_ok X G (c.fact 3 2 (l := fa3) (f := (fun K => (He.Fa.glo "_base_after").ok K)) rfl rfl)), (all_consQ (Bnd.all fun us ws vs zs l1 l2 r rz => by
      obtain ⟨u0, u1, rfl⟩ := len2 (r.length.symm.trans l1)
      obtain rfl := len0 (rz.length.symm.trans l2)
      cases r with | cons r0 r =>
        cases r with | cons r1 r =>
          cases r
          cases rz
          exact ⟨[u0, u1], rfl, (.cons r0 (.cons r1 .nil))⟩) all_nilQ)⟩
theorem D_29 : MethX K (He.ga K "SymbolWriter") "SymbolWriter.even" "even" s_SymbolWriter_even ["self", "decision"] pats_SymbolWriter_even := by
  obtain ⟨fd0, F29⟩ : ∃ fd, FunD K "even" "SymbolWriter.even" (defArgs s_SymbolWriter_even) (defBody s_SymbolWriter_even) (defScope s_SymbolWriter_even) [] [] (He.ma K (He.ga K "SymbolWriter") "even") fd := c.def_ 29 (d := dk29) rfl
  obtain ⟨kV, dc, pm, an, cd, ct, rfl⟩ := fnD_ex F29
  exact ⟨_, _, _, _, F29, He.meth_ok (c.fact 3 3 (l := fa3) (f := (fun K => (He.Fa.meth "SymbolWriter" "even").ok K)) rfl rfl), (all_consQ (Bnd.all fun us ws vs zs l1 l2 r rz => by
      obtain ⟨u0, u1, rfl⟩ := len2 (r.length.symm.trans l1)
      obtain rfl := len0 (rz.length.symm.trans l2)
      cases r with | cons r0 r =>
        cases r with | cons r1 r =>
          cases r
          cases rz
          exact ⟨[u0, u1], rfl, (.cons r0 (.cons r1 .nil))⟩) all_nilQ)⟩
theorem D_30 : MethX K (He.ga K "SymbolReader") "SymbolReader.even" "even" s_SymbolReader_even ["self"] pats_SymbolReader_even := by
  obtain ⟨fd0, F30⟩ : ∃ fd, FunD K "even" "SymbolReader.even" (defArgs s_SymbolReader_even) (defBody s_SymbolReader_even) (defScope s_SymbolReader_even) [] [] (He.ma K (He.ga K "SymbolReader") "even") fd := c.def_ 30 (d := dk30) rfl
  obtain ⟨kV, dc, pm, an, cd, ct, rfl⟩ := fnD_ex F30
  exact ⟨_, _, _, _, F30, He.meth_ok (c.fact 3 4 (l := fa3) (f := (fun K => (He.Fa.meth "SymbolReader" "even").ok K)) rfl rfl), (all_consQ (Bnd.all fun us ws vs zs l1 l2 r rz => by
      obtain ⟨u0, rfl⟩ := len1 (r.length.symm.trans l1)
      obtain rfl := len0 (rz.length.symm.trans l2)
      cases r with | cons r0 r =>
        cases r
        cases rz
        exact ⟨[u0], rfl, (.cons r0 .nil)⟩) all_nilQ)⟩
theorem D_31 : DefX K mg "put_levels" s_put_levels ["writer", "levels"] pats_put_levels := by
  obtain ⟨fd0, F31⟩ : ∃ fd, FunD K "put_levels" "put_levels" (defArgs s_put_levels) (defBody s_put_levels) (defScope s_put_levels) [] [] (He.ga K "put_levels") fd := c.def_ 31 (d := dk31) rfl
  obtain ⟨kV, dc, pm, an, cd, ct, rfl⟩ := fnD_ex F31
  exact ⟨_, _, _, _, F31, (He.glo_ok X G (c.fact 3 5 (l := fa3) (f := (fun K => (He.Fa.glo "put_levels").ok K)) rfl rfl)), (all_consQ (Bnd.all fun us ws vs zs l1 l2 r rz => by
      obtain ⟨u0, u1, rfl⟩ := len2 (r.length.symm.trans l1)
      obtain rfl := len0 (rz.length.symm.trans l2)
      cases r with | cons r0 r =>
        cases r with | cons r1 r =>
          cases r
          cases rz
          exact ⟨[u0, u1], rfl, (.cons r0 (.cons r1 .nil))⟩) all_nilQ)⟩
theorem D_32 : MethX K (He.ga K "Encoder") "Encoder.octets" "octets" s_Encoder_octets ["self"] pats_Encoder_octets := by
  obtain ⟨fd0, F32⟩ : ∃ fd, FunD K "octets" "Encoder.octets" (defArgs s_Encoder_octets) (defBody s_Encoder_octets) (defScope s_Encoder_octets) [] [] (He.ma K (He.ga K "Encoder") "octets") fd := c.def_ 32 (d := dk32) rfl
  obtain ⟨kV, dc, pm, an, cd, ct, rfl⟩ := fnD_ex F32
  exact ⟨_, _, _, _, F32, He.meth_ok (c.fact 3 6 (l := fa3) (f := (fun K => (He.Fa.meth "Encoder" "octets").ok K)) rfl rfl), (all_consQ (Bnd.all fun us ws vs zs l1 l2 r rz => by
      obtain ⟨u0, rfl⟩ := len1 (r.length.symm.trans l1)
      obtain rfl := len0 (rz.length.symm.trans l2)
      cases r with | cons r0 r =>
        cases r
        cases rz
        exact ⟨[u0], rfl, (.cons r0 .nil)⟩) all_nilQ)⟩
theorem D_33 : MethX K (He.ga K "Encoder") "Encoder.probability" "probability" s_Encoder_probability ["self", "context"] pats_Encoder_probability := by
  obtain ⟨fd0, F33⟩ : ∃ fd, FunD K "probability" "Encoder.probability" (defArgs s_Encoder_probability) (defBody s_Encoder_probability) (defScope s_Encoder_probability) [] [] (He.ma K (He.ga K "Encoder") "probability") fd := c.def_ 33 (d := dk33) rfl
  obtain ⟨kV, dc, pm, an, cd, ct, rfl⟩ := fnD_ex F33
  exact ⟨_, _, _, _, F33, He.meth_ok (c.fact 3 7 (l := fa3) (f := (fun K => (He.Fa.meth "Encoder" "probability").ok K)) rfl rfl), (all_consQ (Bnd.all fun us ws vs zs l1 l2 r rz => by
      obtain ⟨u0, u1, rfl⟩ := len2 (r.length.symm.trans l1)
      obtain rfl := len0 (rz.length.symm.trans l2)
      cases r with | cons r0 r =>
        cases r with | cons r1 r =>
          cases r
          cases rz
          exact ⟨[u0, u1], rfl, (.cons r0 (.cons r1 .nil))⟩) all_nilQ)⟩
theorem D_34 : MethX K (He.ga K "Decoder") "Decoder.probability" "probability" s_Decoder_probability ["self", "context"] pats_Decoder_probability := by
  obtain ⟨fd0, F34⟩ : ∃ fd, FunD K "probability" "Decoder.probability" (defArgs s_Decoder_probability) (defBody s_Decoder_probability) (defScope s_Decoder_probability) [] [] (He.ma K (He.ga K "Decoder") "probability") fd := c.def_ 34 (d := dk34) rfl
  obtain ⟨kV, dc, pm, an, cd, ct, rfl⟩ := fnD_ex F34
  exact ⟨_, _, _, _, F34, He.meth_ok (c.fact 3 8 (l := fa3) (f := (fun K => (He.Fa.meth "Decoder" "probability").ok K)) rfl rfl), all_nilQ⟩
theorem D_35 : DefX K mg "_law_refused" s__law_refused ["levels"] pats__law_refused := by
  obtain ⟨fd0, F35⟩ : ∃ fd, FunD K "_law_refused" "_law_refused" (defArgs s__law_refused) (defBody s__law_refused) (defScope s__law_refused) [] [] (He.ga K "_law_refused") fd := c.def_ 35 (d := dk35) rfl
  obtain ⟨kV, dc, pm, an, cd, ct, rfl⟩ := fnD_ex F35
  exact ⟨_, _, _, _, F35, (He.glo_ok X G (c.fact 3 9 (l := fa3) (f := (fun K => (He.Fa.glo "_law_refused").ok K)) rfl rfl)), (all_consQ (Bnd.all fun us ws vs zs l1 l2 r rz => by
      obtain ⟨u0, rfl⟩ := len1 (r.length.symm.trans l1)
      obtain rfl := len0 (rz.length.symm.trans l2)
      cases r with | cons r0 r =>
        cases r
        cases rz
        exact ⟨[u0], rfl, (.cons r0 .nil)⟩) all_nilQ)⟩
theorem D_36 : DefX K mg "check_size" s_check_size ["size"] pats_check_size := by
  obtain ⟨fd0, F36⟩ : ∃ fd, FunD K "check_size" "check_size" (defArgs s_check_size) (defBody s_check_size) (defScope s_check_size) [] [] (He.ga K "check_size") fd := c.def_ 36 (d := dk36) rfl
  obtain ⟨kV, dc, pm, an, cd, ct, rfl⟩ := fnD_ex F36
  exact ⟨_, _, _, _, F36, (He.glo_ok X G (c.fact 3 10 (l := fa3) (f := (fun K => (He.Fa.glo "check_size").ok K)) rfl rfl)), (all_consQ (Bnd.all fun us ws vs zs l1 l2 r rz => by
      obtain ⟨u0, rfl⟩ := len1 (r.length.symm.trans l1)
      obtain rfl := len0 (rz.length.symm.trans l2)
      cases r with | cons r0 r =>
        cases r
        cases rz
        exact ⟨[u0], rfl, (.cons r0 .nil)⟩) all_nilQ)⟩
theorem D_37 : DefX K mg "_get_places" s__get_places ["reader", "count"] pats__get_places := by
  obtain ⟨fd0, F37⟩ : ∃ fd, FunD K "_get_places" "_get_places" (defArgs s__get_places) (defBody s__get_places) (defScope s__get_places) [] [] (He.ga K "_get_places") fd := c.def_ 37 (d := dk37) rfl
  obtain ⟨kV, dc, pm, an, cd, ct, rfl⟩ := fnD_ex F37
  exact ⟨_, _, _, _, F37, (He.glo_ok X G (c.fact 3 11 (l := fa3) (f := (fun K => (He.Fa.glo "_get_places").ok K)) rfl rfl)), (all_consQ (Bnd.all fun us ws vs zs l1 l2 r rz => by
      obtain ⟨u0, u1, rfl⟩ := len2 (r.length.symm.trans l1)
      obtain rfl := len0 (rz.length.symm.trans l2)
      cases r with | cons r0 r =>
        cases r with | cons r1 r =>
          cases r
          cases rz
          exact ⟨[u0, u1], rfl, (.cons r0 (.cons r1 .nil))⟩) all_nilQ)⟩
theorem D_38 : DefX K mg "clip" s_clip ["value", "low", "high"] pats_clip := by
  obtain ⟨fd0, F38⟩ : ∃ fd, FunD K "clip" "clip" (defArgs s_clip) (defBody s_clip) (defScope s_clip) [] [] (He.ga K "clip") fd := c.def_ 38 (d := dk38) rfl
  obtain ⟨kV, dc, pm, an, cd, ct, rfl⟩ := fnD_ex F38
  exact ⟨_, _, _, _, F38, (He.glo_ok X G (c.fact 3 12 (l := fa3) (f := (fun K => (He.Fa.glo "clip").ok K)) rfl rfl)), (all_consQ (Bnd.all fun us ws vs zs l1 l2 r rz => by
      obtain ⟨u0, u1, u2, rfl⟩ := len3 (r.length.symm.trans l1)
      obtain rfl := len0 (rz.length.symm.trans l2)
      cases r with | cons r0 r =>
        cases r with | cons r1 r =>
          cases r with | cons r2 r =>
            cases r
            cases rz
            exact ⟨[u0, u1, u2], rfl, (.cons r0 (.cons r1 (.cons r2 .nil)))⟩) all_nilQ)⟩
theorem D_39 : DefX K mg "get_levels" s_get_levels ["reader", "size"] pats_get_levels := by
  obtain ⟨fd0, F39⟩ : ∃ fd, FunD K "get_levels" "get_levels" (defArgs s_get_levels) (defBody s_get_levels) (defScope s_get_levels) [] [] (He.ga K "get_levels") fd := c.def_ 39 (d := dk39) rfl
  obtain ⟨kV, dc, pm, an, cd, ct, rfl⟩ := fnD_ex F39
  exact ⟨_, _, _, _, F39, (He.glo_ok X G (c.fact 3 13 (l := fa3) (f := (fun K => (He.Fa.glo "get_levels").ok K)) rfl rfl)), (all_consQ (Bnd.all fun us ws vs zs l1 l2 r rz => by
      obtain ⟨u0, u1, rfl⟩ := len2 (r.length.symm.trans l1)
      obtain rfl := len0 (rz.length.symm.trans l2)
      cases r with | cons r0 r =>
        cases r with | cons r1 r =>
          cases r
          cases rz
          exact ⟨[u0, u1], rfl, (.cons r0 (.cons r1 .nil))⟩) all_nilQ)⟩
theorem D_40 : InitX K mg (He.ga K "Decoder") "Decoder" "Decoder.__init__" s_Decoder___init__ ["self", "octets"] pats_Decoder___init__ := by
  obtain ⟨fd0, F40⟩ : ∃ fd, FunD K "__init__" "Decoder.__init__" (defArgs s_Decoder___init__) (defBody s_Decoder___init__) (defScope s_Decoder___init__) [] [] (He.ma K (He.ga K "Decoder") "__init__") fd := c.def_ 40 (d := dk40) rfl
  obtain ⟨kV, dc, pm, an, cd, ct, rfl⟩ := fnD_ex F40
  exact ⟨_, _, _, _, F40, He.mkr_ok (c.fact 3 14 (l := fa3) (f := (fun K => (He.Fa.mkr "Decoder").ok K)) rfl rfl), (He.glo_ok X G (c.fact 3 15 (l := fa3) (f := (fun K => (He.Fa.glo "Decoder").ok K)) rfl rfl)), (all_consQ (Bnd.all fun us ws vs zs l1 l2 r rz => by
      obtain ⟨u0, u1, rfl⟩ := len2 (r.length.symm.trans l1)
      obtain rfl := len0 (rz.length.symm.trans l2)
      cases r with | cons r0 r =>
        cases r with | cons r1 r =>
          cases r
          cases rz
          exact ⟨[u0, u1], rfl, (.cons r0 (.cons r1 .nil))⟩) all_nilQ)⟩
theorem D_41 : DefX K mg "_law_far" s__law_far ["count", "magnitude", "sign"] pats__law_far := by
  obtain ⟨fd0, F41⟩ : ∃ fd, FunD K "_law_far" "_law_far" (defArgs s__law_far) (defBody s__law_far) (defScope s__law_far) [] [] (He.ga K "_law_far") fd := c.def_ 41 (d := dk41) rfl
  obtain ⟨kV, dc, pm, an, cd, ct, rfl⟩ := fnD_ex F41
  exact ⟨_, _, _, _, F41, (He.glo_ok X G (c.fact 3 16 (l := fa3) (f := (fun K => (He.Fa.glo "_law_far").ok K)) rfl rfl)), (all_consQ (Bnd.all fun us ws vs zs l1 l2 r rz => by
      obtain ⟨u0, u1, u2, rfl⟩ := len3 (r.length.symm.trans l1)
      obtain rfl := len0 (rz.length.symm.trans l2)
      cases r with | cons r0 r =>
        cases r with | cons r1 r =>
          cases r with | cons r2 r =>
            cases r
            cases rz
            exact ⟨[u0, u1, u2], rfl, (.cons r0 (.cons r1 (.cons r2 .nil)))⟩) all_nilQ)⟩
theorem D_42 : DefX K mg "_law_refuses" s__law_refuses ["cell"] pats__law_refuses := by
  obtain ⟨fd0, F42⟩ : ∃ fd, FunD K "_law_refuses" "_law_refuses" (defArgs s__law_refuses) (defBody s__law_refuses) (defScope s__law_refuses) [] [] (He.ga K "_law_refuses") fd := c.def_ 42 (d := dk42) rfl
  obtain ⟨kV, dc, pm, an, cd, ct, rfl⟩ := fnD_ex F42
  exact ⟨_, _, _, _, F42, (He.glo_ok X G (c.fact 3 17 (l := fa3) (f := (fun K => (He.Fa.glo "_law_refuses").ok K)) rfl rfl)), (all_consQ (Bnd.all fun us ws vs zs l1 l2 r rz => by
      obtain ⟨u0, rfl⟩ := len1 (r.length.symm.trans l1)
      obtain rfl := len0 (rz.length.symm.trans l2)
      cases r with | cons r0 r =>
        cases r
        cases rz
        exact ⟨[u0], rfl, (.cons r0 .nil)⟩) all_nilQ)⟩
theorem D_43 : DefX K mg "_law_is_integers" s__law_is_integers ["actual", "count"] pats__law_is_integers := by
  obtain ⟨fd0, F43⟩ : ∃ fd, FunD K "_law_is_integers" "_law_is_integers" (defArgs s__law_is_integers) (defBody s__law_is_integers) (defScope s__law_is_integers) [] [] (He.ga K "_law_is_integers") fd := c.def_ 43 (d := dk43) rfl
  obtain ⟨kV, dc, pm, an, cd, ct, rfl⟩ := fnD_ex F43
  exact ⟨_, _, _, _, F43, (He.glo_ok X G (c.fact 3 18 (l := fa3) (f := (fun K => (He.Fa.glo "_law_is_integers").ok K)) rfl rfl)), (all_consQ (Bnd.all fun us ws vs zs l1 l2 r rz => by
      obtain ⟨u0, u1, rfl⟩ := len2 (r.length.symm.trans l1)
      obtain rfl := len0 (rz.length.symm.trans l2)
      cases r with | cons r0 r =>
        cases r with | cons r1 r =>
          cases r
          cases rz
          exact ⟨[u0, u1], rfl, (.cons r0 (.cons r1 .nil))⟩) all_nilQ)⟩
theorem R__law_cell (base : Heap) : CalX P w K mg base 1 "_law_cell" (sp__law_cell K (adK K)) pats__law_cell := ok__law_cell (AD := adK K) (D_0 X G c) (T_ X G c) 
theorem R__law_digits (base : Heap) : CalX P w K mg base 1 "_law_digits" (sp__law_digits K (adK K)) pats__law_digits := ok__law_digits (AD := adK K) (D_1 X G c) (T_ X G c) 
theorem R__law_octets (base : Heap) : CalX P w K mg base 2 "_law_octets" (sp__law_octets K (adK K)) pats__law_octets := ok__law_octets (AD := adK K) (D_2 X G c) (T_ X G c) (R__law_digits X G c base)
theorem R_SymbolReader___init__ (base : Heap) : MakX P w K mg base 1 "SymbolReader" (adK K).c_SymbolReader (sp_SymbolReader___init__ K (adK K)) pats_SymbolReader___init__ := ok_SymbolReader___init__ (AD := adK K) (D_3 X G c) (T_ X G c) 
theorem R_Encoder___init__ (base : Heap) : MakX P w K mg base 1 "Encoder" (adK K).c_Encoder (sp_Encoder___init__ K (adK K)) pats_Encoder___init__ := ok_Encoder___init__ (AD := adK K) (D_4 X G c) (T_ X G c) 
theorem R_SymbolWriter___init__ (base : Heap) : MakX P w K mg base 1 "SymbolWriter" (adK K).c_SymbolWriter (sp_SymbolWriter___init__ K (adK K)) pats_SymbolWriter___init__ := ok_SymbolWriter___init__ (AD := adK K) (D_5 X G c) (T_ X G c) 
theorem R__check_contexts (base : Heap) : CalX P w K mg base 1 "_check_contexts" (sp__check_contexts K (adK K)) pats__check_contexts := ok__check_contexts (AD := adK K) (D_6 X G c) (T_ X G c) 
theorem R__check_unary (base : Heap) : CalX P w K mg base 2 "_check_unary" (sp__check_unary K (adK K)) pats__check_unary := ok__check_unary (AD := adK K) (D_7 X G c) (T_ X G c) (R__check_contexts X G c base)
theorem R__check_context (base : Heap) : CalQ P w K mg base 1 "_check_context" (sp__check_context K (adK K)) pats__check_context := ok__check_context (AD := adK K) (D_8 X G c) (T_ X G c) 
theorem R__check_decision (base : Heap) : CalX P w K mg base 1 "_check_decision" (sp__check_decision K (adK K)) pats__check_decision := ok__check_decision (AD := adK K) (D_9 X G c) (T_ X G c) 
theorem R__adapted (base : Heap) : CalX P w K mg base 1 "_adapted" (sp__adapted K (adK K)) pats__adapted := ok__adapted (AD := adK K) (D_10 X G c) (T_ X G c) 
theorem R_Encoder__carry (base : Heap) : MetX P w K mg base 1 (adK K).c_Encoder "_carry" (sp_Encoder__carry K (adK K)) pats_Encoder__carry := ok_Encoder__carry (AD := adK K) (D_11 X G c) (T_ X G c) 
theorem R_Encoder__narrow (base : Heap) : MetX P w K mg base 2 (adK K).c_Encoder "_narrow" (sp_Encoder__narrow K (adK K)) pats_Encoder__narrow := ok_Encoder__narrow (AD := adK K) (D_12 X G c) (T_ X G c) (R_Encoder__carry X G c base)
theorem R_Encoder_code (base : Heap) : MetX P w K mg base 3 (adK K).c_Encoder "code" (sp_Encoder_code K (adK K)) pats_Encoder_code := ok_Encoder_code (AD := adK K) (D_13 X G c) (T_ X G c) (R__check_context X G c base) (R__check_decision X G c base) (R_Encoder__narrow X G c base) (R__adapted X G c base)
theorem R_SymbolWriter_unary (base : Heap) : MetX P w K mg base 4 (adK K).c_SymbolWriter "unary" (sp_SymbolWriter_unary K (adK K)) pats_SymbolWriter_unary := ok_SymbolWriter_unary (AD := adK K) (D_14 X G c) (T_ X G c) (R__check_unary X G c base) (R_Encoder_code X G c base)
theorem R_Decoder__shift (base : Heap) : MetX P w K mg base 1 (adK K).c_Decoder "_shift" (sp_Decoder__shift K (adK K)) pats_Decoder__shift := ok_Decoder__shift (AD := adK K) (D_15 X G c) (T_ X G c) 
theorem R_Decoder__decide (base : Heap) : MetX P w K mg base 2 (adK K).c_Decoder "_decide" (sp_Decoder__decide K (adK K)) pats_Decoder__decide := ok_Decoder__decide (AD := adK K) (D_16 X G c) (T_ X G c) (R_Decoder__shift X G c base)
theorem R_Decoder_read (base : Heap) : MetX P w K mg base 3 (adK K).c_Decoder "read" (sp_Decoder_read K (adK K)) pats_Decoder_read := ok_Decoder_read (AD := adK K) (D_17 X G c) (T_ X G c) (R__check_context X G c base) (R_Decoder__decide X G c base) (R__adapted X G c base)
theorem R_SymbolReader_unary (base : Heap) : MetX P w K mg base 4 (adK K).c_SymbolReader "unary" (sp_SymbolReader_unary K (adK K)) pats_SymbolReader_unary := ok_SymbolReader_unary (AD := adK K) (D_18 X G c) (T_ X G c) (R__check_unary X G c base) (R_Decoder_read X G c base)
theorem R__digit_context (base : Heap) : CalX P w K mg base 1 "_digit_context" (sp__digit_context K (adK K)) pats__digit_context := ok__digit_context (AD := adK K) (D_19 X G c) (T_ X G c) 
theorem R_Encoder_code_even (base : Heap) : MetX P w K mg base 3 (adK K).c_Encoder "code_even" (sp_Encoder_code_even K (adK K)) pats_Encoder_code_even := ok_Encoder_code_even (AD := adK K) (D_20 X G c) (T_ X G c) (R__check_decision X G c base) (R_Encoder__narrow X G c base)
theorem R_SymbolWriter_number (base : Heap) : MetX P w K mg base 5 (adK K).c_SymbolWriter "number" (sp_SymbolWriter_number K (adK K)) pats_SymbolWriter_number := ok_SymbolWriter_number (AD := adK K) (D_21 X G c) (T_ X G c) (R__check_contexts X G c base) (R_SymbolWriter_unary X G c base) (R_Encoder_code X G c base) (R__digit_context X G c base) (R_Encoder_code_even X G c base)
theorem R_Decoder_read_even (base : Heap) : MetX P w K mg base 3 (adK K).c_Decoder "read_even" (sp_Decoder_read_even K (adK K)) pats_Decoder_read_even := ok_Decoder_read_even (AD := adK K) (D_22 X G c) (T_ X G c) (R_Decoder__decide X G c base)
theorem R_SymbolReader_number (base : Heap) : MetX P w K mg base 5 (adK K).c_SymbolReader "number" (sp_SymbolReader_number K (adK K)) pats_SymbolReader_number := ok_SymbolReader_number (AD := adK K) (D_23 X G c) (T_ X G c) (R__check_contexts X G c base) (R_SymbolReader_unary X G c base) (R_Decoder_read X G c base) (R__digit_context X G c base) (R_Decoder_read_even X G c base)
theorem R__check_levels (base : Heap) : CalX P w K mg base 1 "_check_levels" (sp__check_levels K (adK K)) pats__check_levels := ok__check_levels (AD := adK K) (D_24 X G c) (T_ X G c) 
theorem R_SymbolWriter_flag (base : Heap) : MetX P w K mg base 4 (adK K).c_SymbolWriter "flag" (sp_SymbolWriter_flag K (adK K)) pats_SymbolWriter_flag := ok_SymbolWriter_flag (AD := adK K) (D_25 X G c) (T_ X G c) (R__check_contexts X G c base) (R_Encoder_code X G c base)
theorem R_SymbolReader_flag (base : Heap) : MetX P w K mg base 4 (adK K).c_SymbolReader "flag" (sp_SymbolReader_flag K (adK K)) pats_SymbolReader_flag := ok_SymbolReader_flag (AD := adK K) (D_26 X G c) (T_ X G c) (R__check_contexts X G c base) (R_Decoder_read X G c base)
theorem R__put_places (base : Heap) : CalX P w K mg base 5 "_put_places" (sp__put_places K (adK K)) pats__put_places := ok__put_places (AD := adK K) (D_27 X G c) (T_ X G c) (R_SymbolWriter_flag X G c base)
theorem R__base_after (base : Heap) : CalX P w K mg base 1 "_base_after" (sp__base_after K (adK K)) pats__base_after := ok__base_after (AD := adK K) (D_28 X G c) (T_ X G c) 
theorem R_SymbolWriter_even (base : Heap) : MetX P w K mg base 4 (adK K).c_SymbolWriter "even" (sp_SymbolWriter_even K (adK K)) pats_SymbolWriter_even := ok_SymbolWriter_even (AD := adK K) (D_29 X G c) (T_ X G c) (R_Encoder_code_even X G c base)
theorem R_SymbolReader_even (base : Heap) : MetX P w K mg base 4 (adK K).c_SymbolReader "even" (sp_SymbolReader_even K (adK K)) pats_SymbolReader_even := ok_SymbolReader_even (AD := adK K) (D_30 X G c) (T_ X G c) (R_Decoder_read_even X G c base)
theorem R_put_levels (base : Heap) : CalX P w K mg base 6 "put_levels" (sp_put_levels K (adK K)) pats_put_levels := ok_put_levels (AD := adK K) (D_31 X G c) (T_ X G c) (R__check_levels X G c base) (R__put_places X G c base) (R_SymbolWriter_number X G c base) (R_SymbolWriter_even X G c base) (R__base_after X G c base)
theorem R_Encoder_octets (base : Heap) : MetH P w K mg base 1 (adK K).c_Encoder "octets" (sp_Encoder_octets K (adK K)) pats_Encoder_octets := ok_Encoder_octets (AD := adK K) (D_32 X G c) (T_ X G c) 
theorem R_Encoder_probability (base : Heap) : MetQ P w K mg base 2 (adK K).c_Encoder "probability" (sp_Encoder_probability K (adK K)) pats_Encoder_probability := ok_Encoder_probability (AD := adK K) (D_33 X G c) (T_ X G c) (R__check_context X G c base)
theorem R_Decoder_probability (base : Heap) : MetX P w K mg base 2 (adK K).c_Decoder "probability" (sp_Decoder_probability K (adK K)) pats_Decoder_probability := ok_Decoder_probability (AD := adK K) (D_34 X G c) (T_ X G c) (R__check_context X G c base)
theorem R__law_refused (base : Heap) : CalX P w K mg base 7 "_law_refused" (sp__law_refused K (adK K)) pats__law_refused := ok__law_refused (AD := adK K) (D_35 X G c) (T_ X G c) (R_Encoder___init__ X G c base) (R_SymbolWriter___init__ X G c base) (R_SymbolWriter_number X G c base) (R_Encoder_probability X G c base) (R_Encoder_octets X G c base) (R_put_levels X G c base)
theorem R_check_size (base : Heap) : CalX P w K mg base 1 "check_size" (sp_check_size K (adK K)) pats_check_size := ok_check_size (AD := adK K) (D_36 X G c) (T_ X G c) 
theorem R__get_places (base : Heap) : CalX P w K mg base 5 "_get_places" (sp__get_places K (adK K)) pats__get_places := ok__get_places (AD := adK K) (D_37 X G c) (T_ X G c) (R_SymbolReader_flag X G c base)
theorem R_clip (base : Heap) : CalX P w K mg base 1 "clip" (sp_clip K (adK K)) pats_clip := ok_clip (AD := adK K) (D_38 X G c) (T_ X G c) 
theorem R_get_levels (base : Heap) : CalX P w K mg base 6 "get_levels" (sp_get_levels K (adK K)) pats_get_levels := ok_get_levels (AD := adK K) (D_39 X G c) (T_ X G c) (R_check_size X G c base) (R__get_places X G c base) (R_SymbolReader_number X G c base) (R_SymbolReader_even X G c base) (R_clip X G c base) (R__base_after X G c base)
theorem R_Decoder___init__ (base : Heap) : MakX P w K mg base 2 "Decoder" (adK K).c_Decoder (sp_Decoder___init__ K (adK K)) pats_Decoder___init__ := ok_Decoder___init__ (AD := adK K) (D_40 X G c) (T_ X G c) (R_Decoder__shift X G c base)
theorem R__law_far (base : Heap) : CalX P w K mg base 7 "_law_far" (sp__law_far K (adK K)) pats__law_far := ok__law_far (AD := adK K) (D_41 X G c) (T_ X G c) (R_Encoder___init__ X G c base) (R_SymbolWriter___init__ X G c base) (R_SymbolWriter_flag X G c base) (R_SymbolWriter_number X G c base) (R_SymbolWriter_even X G c base) (R_get_levels X G c base) (R_SymbolReader___init__ X G c base) (R_Decoder___init__ X G c base) (R_Encoder_octets X G c base)
theorem R__law_refuses (base : Heap) : CalX P w K mg base 8 "_law_refuses" (sp__law_refuses K (adK K)) pats__law_refuses := ok__law_refuses (AD := adK K) (D_42 X G c) (T_ X G c) (R__law_refused X G c base) (R__law_far X G c base) (R_get_levels X G c base) (R_SymbolReader___init__ X G c base) (R_Decoder___init__ X G c base)
theorem R__law_is_integers (base : Heap) : CalX P w K mg base 1 "_law_is_integers" (sp__law_is_integers K (adK K)) pats__law_is_integers := ok__law_is_integers (AD := adK K) (D_43 X G c) (T_ X G c) 
theorem law_fact {fa : Addr} (hfa : mg "law" = some (.ref fa)) :
    ∃ fd : FuncData, (∀ (s : Shared) (v : Value), BindsTo s fd ⟨[v], []⟩ [("script", v)]) ∧ ∀ base : Heap, K.In base → base.Ns mainGlobals mg → FnG P w K mg base CX0 9 fa fd ["script"] (spL K) := by
  have e := hfa.symm.trans (He.glo_ok X G (c.fact 3 19 (l := fa3) (f := (fun K => (He.Fa.glo "law").ok K)) rfl rfl))
  cases e
  obtain ⟨fd0, F44⟩ : ∃ fd, FunD K "law" "law" (defArgs s_law) (defBody s_law) (defScope s_law) [] [] (He.ga K "law") fd := c.def_ 44 (d := dk44) rfl
  have b := FunD.bindsA (ps := ["script"]) F44 fun _ _ _ _ _ _ us hl => match us, hl with | [_], _ => rfl
  refine ⟨fd0, fun s v => b s [v] rfl, fun base _ _ => (ok_law (AD := adK K) F44 (T_ X G c) (R__law_cell X G c base) (R__law_octets X G c base) (R_SymbolReader___init__ X G c base) (R_Decoder___init__ X G c base) (R_Encoder___init__ X G c base) (R_SymbolWriter___init__ X G c base) (R_get_levels X G c base) (R__law_is_integers X G c base) (R_put_levels X G c base) (R_Encoder_octets X G c base) (R__law_refuses X G c base)).imp ?_⟩
  rintro vs H Q E ⟨a, xs, rfl, hs, hl, q⟩
  exact ⟨a, xs, rfl, hs, by rw [law_true xs hl]; exact cW_mk rfl, q⟩
end
end Vx
open PySem PySem.W PySem.Calls PyProof.Rows
set_option maxRecDepth 100000 in
set_option maxHeartbeats 0 in
theorem PySem.Challenge.cw_thaumatrope_k49_any_octets_read_as_level_holds : PySem.Challenge.rw_thaumatrope_k49_any_octets_read_as_level.Holds := by
  w_on; o_law
  refine HandSHeadRun.head_any (r := (PySem.W.OpenLaw.row PySem.Challenge.rw_thaumatrope_k49_any_octets_read_as_level)) (q := view (PySem.W.OpenLaw.row PySem.Challenge.rw_thaumatrope_k49_any_octets_read_as_level).prog [57]) (H := Vx.hkK) (ob := Vx.obK) (M := 20000) (loose := Vx.nms) (d := HandSHeadRun.topDef (PySem.W.OpenLaw.row PySem.Challenge.rw_thaumatrope_k49_any_octets_read_as_level).prog 57) (kwd := []) Vx.obK_eq
    (by kernel_rfl) (fun s => by kernel_rfl) Vx.runK (by kernel_rfl) (by kernel_rfl) (by kernel_rfl) (by rfl) (by first | assumption | decide +kernel) (by decide +kernel) ⟨rfl, rfl, rfl, rfl, rfl, by decide +kernel⟩ ?hw ?hc
  case hw => w_witness2
  case hc =>
    refine Vx.walkK (l := PySem.Challenge.rw_thaumatrope_k49_any_octets_read_as_level) (n := 63) (k := 9) (x := "script") rfl (by decide) (by kernel_rfl) ⟨rfl, by decide, by decide⟩ ?F
    intro w mg fa h Y G hmg0
    obtain ⟨K, KX, c⟩ := Y
    have hmg : mg ("law" : PySem.Str) = some (.ref fa) := by
      have e : (HandSHeadRun.topDef (PySem.W.OpenLaw.row PySem.Challenge.rw_thaumatrope_k49_any_octets_read_as_level).prog 57).name = ("law" : PySem.Str) := by kernel_rfl
      rw [← e]
      exact hmg0
    obtain ⟨fd, hb, hF⟩ := Vx.law_fact (P := (PySem.W.OpenLaw.row PySem.Challenge.rw_thaumatrope_k49_any_octets_read_as_level).prog) KX G c hmg
    exact ⟨K, fd, KX, hb, hF⟩
