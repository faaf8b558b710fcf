import PyProof.Rows.All
import Wide.All
import OpenK.AllK
import Wide.FinOn
import HandS.ForMost
import HandS.Codes
import HandS.Steps
import HandS.IsInst
import HandS.Property
import HandS.Wide
import HandS.WideBits
import HandS.Exc
import HandS.Defaults
import HandS.ExcOwn
import HandS.TryOnly
import HandS.WordsExc
import HandS.ExcIs
import HandS.MakeKwOnly
import HandS.RaiseMore
import HandS.Style
import HandS.Zip
import HandS.Iter
import HandS.Walk
import HandS.More
import HandS.SetFor
import HandS.Strs
import HandS.FStr
import HandS.Text
import HandS.ReplaceLit
import HandS.ReplaceList
import HandS.ClsMeth
import HandS.Head0
import HandS.Head1
import HandS.Head2
import HandS.HeadEnd
import HandS.HeadHook1
import HandS.HeadHook2
import HandS.HeadHook3
import HandS.HeadNt
import KE.KStateDown
import PySem.Challenge.RW_thaumatrope_k02_texts_of_formats
set_option Elab.async false
set_option linter.all false
set_option maxRecDepth 100000
set_option maxHeartbeats 8000000
namespace Vx
open PySem PySem.Spec PyProof.Rows L2

/-! ### heaps -/
def SameX (m : Addr) (H H' : Hp) : Prop := ∀ b o, H b = some o → b ≠ m → H' b = some o
theorem gen_new {H H' : Hp} {p : Addr} {o : HO} (n : H p = none) (h : upd H p o = H') : Same H H' ∧ H' p = some o := by
  subst h
  exact ⟨fun b u e => by rw [upd_ne (ne_of_none e n)]; exact e, upd_same⟩
theorem gen_mut {H H' : Hp} {m : Addr} {o : HO} (h : upd H m o = H') : SameX m H H' ∧ H' m = some o := by
  subst h
  exact ⟨fun b u e n => by rw [upd_ne n]; exact e, upd_same⟩
theorem same_mut {H0 H H' : Hp} {m : Addr} (B : Same H0 H) (x : SameX m H H') (f : H0 m = none) : Same H0 H' :=
  fun b o e => x b o (B b o e) (ne_of_none e f)
theorem map_get {xs : List Int} {i : Nat} {x : V} (h : (xs.map V.int)[i]? = some x) : ∃ o, xs[i]? = some o ∧ x = .int o := by
  rw [List.getElem?_map] at h
  cases e : xs[i]? with
  | none => rw [e] at h; cases h
  | some z => rw [e] at h; exact ⟨z, rfl, (Option.some.inj h).symm⟩
theorem get_len {α : Type} {xs : List α} {i : Nat} {x : α} (h : xs[i]? = some x) : i < xs.length := (List.getElem?_eq_some_iff.mp h).1
theorem eq_int {Q : VK} {H : Hp} {a b : Int} (h : Q (.int a) H) (e : a = b) : Q (.int b) H := e ▸ h
theorem eq_bl {Q : VK} {H : Hp} {a b : Bool} (h : Q (.bl a) H) (e : a = b) : Q (.bl b) H := e ▸ h
theorem small {n : Nat} (h : n ≤ 1000000) : n < sizeLine := Nat.lt_of_le_of_lt h (by decide)
theorem smallE {n : Nat} (h : n ≤ 1000000) : n ≤ sizeLine := Nat.le_of_lt (small h)
theorem snoc_int {xs : List Int} {y : Int} {H : Hp} {p : Addr} (h : H p = some (.lst (xs.map V.int ++ [V.int y]))) : H p = some (.lst ((xs ++ [y]).map V.int)) := by
  rw [List.map_append]; exact h
theorem cat_int {xs ys : List Int} {H : Hp} {p : Addr} (h : H p = some (.lst (xs.map V.int ++ ys.map V.int))) : H p = some (.lst ((xs ++ ys).map V.int)) := by
  rw [List.map_append]; exact h
theorem cast_lst {xs ys : List Int} {H : Hp} {p : Addr} (h : H p = some (.lst (xs.map V.int))) (e : xs = ys) : H p = some (.lst (ys.map V.int)) := e ▸ h

/-! ### tests -/
theorem dT {p : Prop} [Decidable p] (h : decide p = true) : p := of_decide_eq_true h
theorem dF {p : Prop} [Decidable p] (h : ¬ decide p = true) : ¬ p := fun x => h (decide_eq_true x)
theorem iteD {p A B : Prop} [Decidable p] (h1 : p → A) (h2 : ¬ p → B) : if decide p = true then A else B := by
  by_cases h : p
  · rw [if_pos (decide_eq_true h)]; exact h1 h
  · rw [if_neg (fun x => h (of_decide_eq_true x))]; exact h2 h
theorem iteN {p A B : Prop} [Decidable p] (h1 : ¬ p → A) (h2 : p → B) : if (!decide p) = true then A else B := by
  by_cases h : p
  · rw [decide_eq_true h]; exact iteF (h2 h)
  · rw [decide_eq_false h]; exact iteT (h1 h)
theorem iteB {b : Bool} {A B : Prop} (h1 : b = true → A) (h2 : b = false → B) : if b = true then A else B := by
  cases b with
  | true => exact iteT (h1 rfl)
  | false => exact iteF (h2 rfl)
theorem iteBN {b : Bool} {A B : Prop} (h1 : b = false → A) (h2 : b = true → B) : if (!b) = true then A else B := by
  cases b with
  | true => exact iteF (h2 rfl)
  | false => exact iteT (h1 rfl)
theorem iteDT {p A B : Prop} [Decidable p] (h : p) (k : A) : if decide p = true then A else B := by
  rw [if_pos (decide_eq_true h)]; exact k
theorem iteDF {p A B : Prop} [Decidable p] (h : ¬ p) (k : B) : if decide p = true then A else B := by
  rw [if_neg (fun x => h (of_decide_eq_true x))]; exact k
theorem iteNT {p A B : Prop} [Decidable p] (h : ¬ p) (k : A) : if (!decide p) = true then A else B := iteN (fun _ => k) (fun x => (h x).elim)
theorem iteNF {p A B : Prop} [Decidable p] (h : p) (k : B) : if (!decide p) = true then A else B := iteN (fun x => (x h).elim) (fun _ => k)

/-! ### equality of lists of ints -/
theorem eqvAll_ints : ∀ xs ys : List Int, PyData.eqvAll (xs.map PyData.int) (ys.map PyData.int) = decide (xs = ys)
  | [], [] => by simp [PyData.eqvAll]
  | [], y :: ys => by simp [PyData.eqvAll]
  | x :: xs, [] => by simp [PyData.eqvAll]
  | x :: xs, y :: ys => by
    have ih := eqvAll_ints xs ys
    simp only [List.map_cons, PyData.eqvAll, PyData.eqv, ih]
    by_cases h : x = y <;> by_cases h2 : xs = ys <;> simp [h, h2]
end Vx

namespace Vx
open PySem PySem.Spec PyProof.Rows L2
section
variable {X : Cx}
def rEqLi (K : PySem.W.Frag) : R2 := fun x y H Q => ∃ (a b : Addr) (xs ys : List Int), x = .ref a ∧ y = .ref b ∧ SqL K H a (xs.map V.int) ∧ SqL K H b (ys.map V.int) ∧ Q (.bl (decide (xs = ys))) H
def rNeLi (K : PySem.W.Frag) : R2 := fun x y H Q => ∃ (a b : Addr) (xs ys : List Int), x = .ref a ∧ y = .ref b ∧ SqL K H a (xs.map V.int) ∧ SqL K H b (ys.map V.int) ∧ Q (.bl (!decide (xs = ys))) H
theorem dpAll_ints {K : PySem.W.Frag} {H : Hp} : ∀ xs : List Int, DpAll K H (xs.map V.int) (xs.map PyData.int)
  | [] => .nil
  | x :: xs => .cons (.int x) (dpAll_ints xs)
theorem dp_ints {K : PySem.W.Frag} {H : Hp} {a : Addr} {xs : List Int} (h : SqL K H a (xs.map V.int)) : Dp K H (.ref a) (.list (xs.map PyData.int)) := .lst h (dpAll_ints xs)
theorem canLay_ints : ∀ xs : List Int, PyData.canLayAll0 (xs.map PyData.int) = true
  | [] => by simp [PyData.canLayAll0]
  | x :: xs => by simp [PyData.canLayAll0, PyData.canLay0, canLay_ints xs]
theorem depth_ints : ∀ xs : List Int, PyData.depthAll (xs.map PyData.int) = 0
  | [] => by simp [PyData.depthAll]
  | x :: xs => by simp [PyData.depthAll, PyData.depth, depth_ints xs]
theorem shaped_ints (xs : List Int) : SeqAt.shaped (.list (xs.map PyData.int)) = true := by
  unfold SeqAt.shaped
  simp [PyData.canLay0, canLay_ints, PyData.depth, depth_ints]
theorem eqv_ints (xs ys : List Int) : PyData.eqv (.list (xs.map PyData.int)) (.list (ys.map PyData.int)) = decide (xs = ys) := by
  simp only [PyData.eqv]
  exact eqvAll_ints xs ys
theorem op_eqLi (hu : X.A.units + 64 < cLine) : OpR X (compareOp .Eq) (rEqLi X.K) := by
  intro pins s σ H x y v u Q I rx ry h
  obtain ⟨a, b, xs, ys, rfl, rfl, h1, h2, q⟩ := h
  exact op_eqD hu pins s σ H _ _ v u Q I rx ry ⟨_, _, dp_ints h1, dp_ints h2, shaped_ints xs, shaped_ints ys, by rw [eqv_ints]; exact q⟩
theorem op_neLi (hu : X.A.units + 64 < cLine) : OpR X (compareOp .NotEq) (rNeLi X.K) := by
  intro pins s σ H x y v u Q I rx ry h
  obtain ⟨a, b, xs, ys, rfl, rfl, h1, h2, q⟩ := h
  exact op_neD hu pins s σ H _ _ v u Q I rx ry ⟨_, _, dp_ints h1, dp_ints h2, shaped_ints xs, shaped_ints ys, by rw [eqv_ints]; exact q⟩

/-! ### items, slices, repetition, comprehensions of ints -/
def itI (xs : List Int) (i : Int) : Int := (atI xs i).getD 0
theorem atI_int {xs : List Int} {i : Int} (h : -(xs.length : Int) ≤ i ∧ i < xs.length) : atI (xs.map V.int) i = some (.int (itI xs i)) := by
  unfold itI atI
  rw [List.length_map]
  have hk : ∃ j, ixN xs.length i = some j ∧ j < xs.length := by
    unfold ixN
    by_cases h0 : 0 ≤ i
    · refine ⟨i.toNat, ?_, by omega⟩
      rw [if_pos h0, if_pos h.2]
    · refine ⟨(i + xs.length).toNat, ?_, by omega⟩
      rw [if_neg h0, if_pos h.1]
  obtain ⟨j, e, hj⟩ := hk
  rw [e]
  show (xs.map V.int)[j]? = some (V.int ((xs[j]?).getD 0))
  rw [List.getElem?_map, List.getElem?_eq_getElem hj] <;> rfl
def cutI (xs : List Int) (lo hi : Option Int) : List Int := (xs.drop (HT.sIx xs.length 0 lo)).take (HT.sIx xs.length xs.length hi - HT.sIx xs.length 0 lo)
theorem cut_int {xs : List Int} {lo hi : Option Int} {H : Hp} {p : Addr} (h : H p = some (.lst (cutV (xs.map V.int) lo hi))) : H p = some (.lst ((cutI xs lo hi).map V.int)) := by
  rw [h]
  unfold cutV cutI
  rw [List.length_map, List.map_take, List.map_drop]
def rep (xs : List Int) (k : Int) : List Int := (List.replicate k.toNat xs).flatten
theorem rep_int {xs : List Int} {k : Int} {H : Hp} {p : Addr} (h : H p = some (.lst (List.replicate k.toNat (xs.map V.int)).flatten)) : H p = some (.lst ((rep xs k).map V.int)) := by
  rw [h]
  unfold rep
  rw [List.map_flatten, List.map_replicate]
theorem divW_lit {i j : Int} (h : 0 < j) (h2 : j.natAbs.log2 < 9000) : CDivW i j := ⟨h, h2⟩
theorem divW_small {i j : Int} (h : 0 < j) (h2 : j < 2 ^ 128) : CDivW i j := wide_div h (show j.natAbs < 2 ^ 128 by omega) (by decide) (by decide)
theorem comp_list {xs : List Int} {i : Nat} {x y : Int} {f : Int → Int} {H : Hp} {D : Addr} (hi : xs[i]? = some x) (h : H D = some (.lst (((xs.take i).map f).map V.int ++ [V.int y]))) (e : f x = y) : H D = some (.lst (((xs.take (i + 1)).map f).map V.int)) := by
  rw [h, ← e, List.take_succ, hi, List.map_append, List.map_append] <;> rfl
theorem comp_done {xs : List Int} {f : Int → Int} {H : Hp} {D : Addr} (h : H D = some (.lst (((xs.take (xs.map V.int).length).map f).map V.int))) : H D = some (.lst ((xs.map f).map V.int)) := by
  rw [List.length_map, List.take_length] at h
  exact h
theorem comp_range {i : Nat} {y : Int} {f : Nat → Int} {H : Hp} {D : Addr} (h : H D = some (.lst (((List.range i).map f).map V.int ++ [V.int y]))) (e : f i = y) : H D = some (.lst (((List.range (i + 1)).map f).map V.int)) := by
  rw [h, ← e, List.range_succ, List.map_append, List.map_append] <;> rfl
theorem iteBT {b : Bool} {A B : Prop} (h : b = true) (k : A) : if b = true then A else B := by rw [if_pos h]; exact k
theorem iteBF {b : Bool} {A B : Prop} (h : b = false) (k : B) : if b = true then A else B := by rw [if_neg (by rw [h]; decide)]; exact k
theorem take_succ_get {α : Type} {xs : List α} {i : Nat} {x : α} (hi : xs[i]? = some x) : xs.take (i + 1) = xs.take i ++ [x] := by rw [List.take_succ, hi] <;> rfl
end

/-! ### defs of the module, as callers see them -/
section
variable {P : Program} {w : World} {K : PySem.W.Frag} {mg : Str → Option Value} {base : Heap}
structure DefIn (K : PySem.W.Frag) (mg : Str → Option Value) (x : Str) (st : Stmt) (ps : List Str) : Prop where
  ex : ∃ (f : Addr) (fd : FuncData), Fun K x x st f fd ∧ mg x = some (.ref f) ∧ Binds K fd ps []
structure Cal (P : Program) (w : World) (K : PySem.W.Frag) (mg : Str → Option Value) (base : Heap) (k : Nat) (x : Str) (sp : Sp) : Prop where
  ex : ∃ (f : Addr) (fd : FuncData) (ps : List Str), FnOk P w K mg base CX0 k f fd ps sp ∧ mg x = some (.ref f) ∧ PySem.W.keepIn K (.ref f) = true ∧ Binds K fd ps []
theorem DefIn.ok {x : Str} {st : Stmt} {N ps : List Str} {k : Nat} {sp : Sp} (D : DefIn K mg x st ps) (S : FnScope N ps (defScope st)) (len : ∀ vs H Q E, sp vs H Q E → vs.length = ps.length)
    (hbody : ∀ (f : Addr) (cdv : Value) (A : Around) (outer : List Env) (s : Shared) (H : Hp) (vs : List V) (Q : VK) (E : XK), Room k (A.deeper (envOfC x (defScope st) s.heap.objs.size f cdv)) → sp vs H Q E →
      ∃ t, PSs (cxOf CX0 P w K mg base N x (defScope st) f cdv A outer s H E).nox (defBody st) t ∧ t { nx := fun _ H' => Q .non H', rt := Q } (start N vs) H) : Cal P w K mg base (k + 1) x sp := by
  obtain ⟨f, fd, F, hm, b⟩ := D.ex
  exact ⟨f, fd, ps, F.ok S len (fun cdv A outer s H vs Q E hr h => hbody f cdv A outer s H vs Q E hr h), hm, F.kp, b⟩
end
section
variable {X : Cx} {k j : Nat} {x : Str} {sp : Sp} {p pos : Pos} {e : Expr} {es : List Expr} {t : TA}
theorem vx_call (c : Cal X.prog X.w X.K X.mg X.base k x sp) (hr : Room j X.A) (hk : k ≤ j) (hg : Gl X x) (ha : PA X (e :: es) t)
    (hdb : (x == ("__debug__" : Str)) = false := by decide) (he : starEach (e :: es) X.env = (false, eval e X.env) :: starEach es X.env := by rfl) (hpl : (backTo pos (starEach es X.env)).any (·.1) = false := by rfl) :
    PE X (.Call (.Name x p) (e :: es) [] pos) (tCall sp [] E0 t) := by
  obtain ⟨f, fd, ps, F, hm, kp, b⟩ := c.ex
  exact pe_call F (hr.mono hk) hg hm kp b .nil pass0 ha hdb he hpl
end
end Vx

namespace Vx
open PySem PySem.Spec PyProof.Rows L2
section
variable {σ : L2.St} {H : Hp} {ta tb : TE} {x y z : V} {t : TT}
theorem vv_and {a b : Bool} (h1 : Val ta σ H (.bl a)) (h2 : Val tb σ H (.bl b)) : Val (tAndV ta tb) σ H (.bl (a && b)) := fun Q q => h1 _ ⟨a, rfl, by
  cases a with
  | true => exact iteT (h2 Q q)
  | false => exact iteF q⟩
theorem vv_or {a b : Bool} (h1 : Val ta σ H (.bl a)) (h2 : Val tb σ H (.bl b)) : Val (tOrV ta tb) σ H (.bl (a || b)) := fun Q q => h1 _ ⟨a, rfl, by
  cases a with
  | true => exact iteT q
  | false => exact iteF (h2 Q q)⟩
theorem vv_not {a : Bool} (h1 : Val ta σ H (.bl a)) : Val (tNotV ta) σ H (.bl (!a)) := fun Q q => h1 _ ⟨a, rfl, q⟩
theorem vv_un {r : V → Hp → VK → Prop} (ha : Val ta σ H x) (hr : ∀ Q : VK, Q z H → r x H Q) : Val (tUn r ta) σ H z := fun Q q => ha _ (hr Q q)
theorem vv_cmp {p : Int → Int → Bool} (ha : Val ta σ H x) (hb : Val tb σ H y) (hr : ∀ Q : VK, Q z H → ∃ i j, x = .int i ∧ y = .int j ∧ Q (.bl (p i j)) H) : Val (tCmp p ta tb) σ H z := fun Q q => ha _ (hb _ (hr Q q))
theorem vv_call1 {r : List V → Hp → VK → Prop} (ha : Val ta σ H x) (hr : ∀ Q : VK, Q z H → r [x] H Q) : Val (tCB r (tCons ta tNil)) σ H z := fun Q q => ha _ (hr Q q)
theorem vt_cmp {b : Bool} (h : Val ta σ H (.bl b)) : Ans (tB ta) σ H b := fun Q q => h _ ⟨b, rfl, q⟩
theorem vt_val {b : Bool} (h : Val ta σ H (.bl b)) : Ans (tB ta) σ H b := fun Q q => h _ ⟨b, rfl, q⟩
theorem vt_int {i : Int} {K : PySem.W.Frag} (h : Val ta σ H (.int i)) : Ans (fun σ H Q => ta σ H fun x H' => ∃ k, TruV K x H' k ∧ Q k H') σ H (i != 0) := fun Q q => h _ ⟨_, rfl, q⟩
theorem vv_if {p : Prop} [Decidable p] {a b : Int} (ht : Ans t σ H (decide p)) (hx : Val ta σ H (.int a)) (hy : Val tb σ H (.int b)) : Val (tIf t ta tb) σ H (.int (if p then a else b)) := fun Q q => ht _ (by
  by_cases h : p
  · rw [if_pos h] at q; exact iteDT h (hx Q q)
  · rw [if_neg h] at q; exact iteDF h (hy Q q))
theorem vv_ifb {c : Bool} {a b : Int} (ht : Ans t σ H c) (hx : Val ta σ H (.int a)) (hy : Val tb σ H (.int b)) : Val (tIf t ta tb) σ H (.int (if c = true then a else b)) := fun Q q => ht _ (by
  cases c with
  | true => exact iteT (hx Q q)
  | false => exact iteF (hy Q q))
end
end Vx

namespace Vx
open PySem PySem.Spec PyProof.Rows L2
def rLenLi (K : PySem.W.Frag) : List V → Hp → VK → Prop := fun xs H Q => ∃ (p : Addr) (ns : List Int), xs = [.ref p] ∧ SqL K H p (ns.map V.int) ∧ Q (.int (ns.length : Int)) H
theorem call_lenLi {X : Cx} : CallR X (.builtin "len") (rLenLi X.K) := by
  intro pins s σ H xs us Q I r h
  obtain ⟨p, ns, rfl, hs, q⟩ := h
  exact call_len_seq pins s σ H _ us Q I r ⟨p, _, rfl, Or.inl hs, by rw [List.length_map]; exact q⟩
end Vx

namespace Vx
open PySem PySem.Spec PyProof.Rows L2
section
variable {X : Cx} {K : PySem.W.Frag}
theorem ix_listK (hK : X.K = K := by rfl) : IxR X (rIxL K) := hK ▸ ix_list
theorem sl_listK (hK : X.K = K := by rfl) : SlR X (rSlL K) := hK ▸ sl_list
theorem call_lenLiK (hK : X.K = K := by rfl) : CallR X (.builtin "len") (rLenLi K) := hK ▸ call_lenLi
theorem op_eqLiK (hu : X.A.units + 64 < cLine) (hK : X.K = K := by rfl) : OpR X (compareOp .Eq) (rEqLi K) := hK ▸ op_eqLi hu
theorem op_neLiK (hu : X.A.units + 64 < cLine) (hK : X.K = K := by rfl) : OpR X (compareOp .NotEq) (rNeLi K) := hK ▸ op_neLi hu
theorem pi_listK {tg l : Expr} {tl : TE} (hl : PE X l tl) (hK : X.K = K := by rfl) : PI X tg l (iList K tl) := hK ▸ pi_list hl
theorem cr_sumK (hc : X.calm = true) (hK : X.K = K := by rfl) : CallR X (.builtin "sum") (rSum K) := hK ▸ cr_sum hc
theorem cr_maxK (hc : X.calm = true) (hK : X.K = K := by rfl) : CallR X (.builtin "max") (rMax K) := hK ▸ cr_max hc
theorem cr_minK (hc : X.calm = true) (hK : X.K = K := by rfl) : CallR X (.builtin "min") (rMin K) := hK ▸ cr_min hc
end
end Vx

namespace Vx
open PySem PySem.Spec PyProof.Rows L2
theorem tyes_go {σ : L2.St} {H : Hp} {f g : Hp → Prop} (h : f H) : tYes σ H (fun b H3 => if b = true then f H3 else g H3) := by
  show if true = true then f H else g H
  exact iteT h
end Vx

/-! # second part: data of any depth, the stable heap G, the owned addresses O -/
namespace Vx
open PySem PySem.Spec PyProof.Rows L2
mutual
inductive Rp (H : Hp) : V → PyData → Prop
  | non : Rp H .non .none
  | bl (b : Bool) : Rp H (.bl b) (.bool b)
  | int (i : Int) : Rp H (.int i) (.int i)
  | str (x : Str) : Rp H (.str x) (.str x)
  | lst {a : Addr} {xs : List V} {ds : List PyData} : H a = some (.lst xs) → RpAll H xs ds → Rp H (.ref a) (.list ds)
  | tup {a : Addr} {xs : List V} {ds : List PyData} : H a = some (.tup xs) → RpAll H xs ds → Rp H (.ref a) (.tuple ds)
inductive RpAll (H : Hp) : List V → List PyData → Prop
  | nil : RpAll H [] []
  | cons {v : V} {vs : List V} {d : PyData} {ds : List PyData} : Rp H v d → RpAll H vs ds → RpAll H (v :: vs) (d :: ds)
end
mutual
theorem Rp.mono {H H' : Hp} (e : Same H H') : ∀ {v : V} {d : PyData}, Rp H v d → Rp H' v d
  | _, _, .non => .non
  | _, _, .bl b => .bl b
  | _, _, .int i => .int i
  | _, _, .str x => .str x
  | _, _, .lst h r => .lst (e _ _ h) (RpAll.mono e r)
  | _, _, .tup h r => .tup (e _ _ h) (RpAll.mono e r)
theorem RpAll.mono {H H' : Hp} (e : Same H H') : ∀ {vs : List V} {ds : List PyData}, RpAll H vs ds → RpAll H' vs ds
  | _, _, .nil => .nil
  | _, _, .cons a b => .cons (Rp.mono e a) (RpAll.mono e b)
end
mutual
theorem Rp.dp {K : PySem.W.Frag} {H : Hp} : ∀ {v : V} {d : PyData}, Rp H v d → Dp K H v d
  | _, _, .non => .non
  | _, _, .bl b => .bl b
  | _, _, .int i => .int i
  | _, _, .str x => .str x
  | _, _, .lst h r => .lst (SqL.of h) (RpAll.dp r)
  | _, _, .tup h r => .tup (SqT.of h) (RpAll.dp r)
theorem RpAll.dp {K : PySem.W.Frag} {H : Hp} : ∀ {vs : List V} {ds : List PyData}, RpAll H vs ds → DpAll K H vs ds
  | _, _, .nil => .nil
  | _, _, .cons a b => .cons (Rp.dp a) (RpAll.dp b)
end
theorem RpAll.append {H : Hp} : ∀ {xs ys : List V} {ds es : List PyData}, RpAll H xs ds → RpAll H ys es → RpAll H (xs ++ ys) (ds ++ es)
  | _, _, _, _, .nil, s => s
  | _, _, _, _, .cons r t, s => .cons r (RpAll.append t s)
theorem RpAll.ints {H : Hp} : ∀ xs : List Int, RpAll H (xs.map V.int) (xs.map PyData.int)
  | [] => .nil
  | x :: xs => .cons (.int x) (RpAll.ints xs)
theorem RpAll.bls {H : Hp} : ∀ xs : List Bool, RpAll H (xs.map V.bl) (xs.map PyData.bool)
  | [] => .nil
  | x :: xs => .cons (.bl x) (RpAll.bls xs)
theorem RpAll.one {H : Hp} {v : V} {d : PyData} (h : Rp H v d) : RpAll H [v] [d] := .cons h .nil
theorem RpAll.len {H : Hp} : ∀ {vs : List V} {ds : List PyData}, RpAll H vs ds → vs.length = ds.length
  | _, _, .nil => rfl
  | _, _, .cons _ t => by rw [List.length_cons, List.length_cons, RpAll.len t]
theorem RpAll.at {H : Hp} : ∀ {vs : List V} {ds : List PyData} {i : Nat} {v : V}, RpAll H vs ds → vs[i]? = some v → ∃ d, ds[i]? = some d ∧ Rp H v d
  | _, _, _, _, .nil, h => by simp at h
  | _, _, 0, _, .cons r _, h => by
    simp at h
    subst h
    exact ⟨_, rfl, r⟩
  | _, _, i + 1, _, .cons _ t, h => by
    obtain ⟨d, h1, h2⟩ := RpAll.at (i := i) t (by simpa using h)
    exact ⟨d, by simpa using h1, h2⟩
theorem RpAll.at' {H : Hp} : ∀ {vs : List V} {ds : List PyData} {i : Nat} {d : PyData}, RpAll H vs ds → ds[i]? = some d → ∃ v, vs[i]? = some v ∧ Rp H v d
  | _, _, _, _, .nil, h => by simp at h
  | _, _, 0, _, .cons r _, h => by
    simp at h
    subst h
    exact ⟨_, rfl, r⟩
  | _, _, i + 1, _, .cons _ t, h => by
    obtain ⟨v, h1, h2⟩ := RpAll.at' (i := i) t (by simpa using h)
    exact ⟨v, by simpa using h1, h2⟩
theorem RpAll.take {H : Hp} : ∀ (n : Nat) {vs : List V} {ds : List PyData}, RpAll H vs ds → RpAll H (vs.take n) (ds.take n)
  | 0, _, _, _ => by simpa using RpAll.nil
  | n + 1, _, _, .nil => by simpa using RpAll.nil
  | n + 1, _, _, .cons r t => .cons r (RpAll.take n t)
theorem RpAll.drop {H : Hp} : ∀ (n : Nat) {vs : List V} {ds : List PyData}, RpAll H vs ds → RpAll H (vs.drop n) (ds.drop n)
  | 0, _, _, r => r
  | n + 1, _, _, .nil => by simpa using RpAll.nil
  | n + 1, _, _, .cons r t => RpAll.drop n t
theorem RpAll.set {H : Hp} {v : V} {d : PyData} (h : Rp H v d) : ∀ (n : Nat) {vs : List V} {ds : List PyData}, RpAll H vs ds → RpAll H (vs.set n v) (ds.set n d)
  | _, _, _, .nil => .nil
  | 0, _, _, .cons _ t => .cons h t
  | n + 1, _, _, .cons r t => .cons r (RpAll.set h n t)
theorem RpAll.rep {H : Hp} {vs : List V} {ds : List PyData} (h : RpAll H vs ds) : ∀ n : Nat, RpAll H (List.replicate n vs).flatten (List.replicate n ds).flatten
  | 0 => by simpa using RpAll.nil
  | n + 1 => by
    rw [List.replicate_succ, List.flatten_cons, List.replicate_succ, List.flatten_cons]
    exact RpAll.append h (RpAll.rep h n)
theorem RpAll.get {α : Type} {f : α → PyData} {H : Hp} {vs : List V} {xs : List α} {i : Nat} {v : V} (r : RpAll H vs (xs.map f)) (h : vs[i]? = some v) : ∃ x, xs[i]? = some x ∧ Rp H v (f x) := by
  obtain ⟨d, h1, h2⟩ := RpAll.at r h
  rw [List.getElem?_map] at h1
  cases e : xs[i]? with
  | none => rw [e] at h1; cases h1
  | some x =>
    rw [e] at h1
    have : f x = d := Option.some.inj h1
    exact ⟨x, rfl, this ▸ h2⟩
/-- the item at an index, data -/
theorem RpAll.ix {α : Type} {f : α → PyData} {H : Hp} {vs : List V} {xs : List α} {k : Int} (r : RpAll H vs (xs.map f)) (h : -(xs.length : Int) ≤ k ∧ k < xs.length) : ∃ v x, atI vs k = some v ∧ atI xs k = some x ∧ Rp H v (f x) := by
  have hl : vs.length = xs.length := by rw [r.len, List.length_map]
  have hk : ∃ j, ixN xs.length k = some j ∧ j < xs.length := by
    unfold ixN
    by_cases h0 : 0 ≤ k
    · refine ⟨k.toNat, ?_, by omega⟩
      rw [if_pos h0, if_pos h.2]
    · refine ⟨(k + xs.length).toNat, ?_, by omega⟩
      rw [if_neg h0, if_pos h.1]
  obtain ⟨j, e, hj⟩ := hk
  have hx := List.getElem?_eq_getElem hj
  obtain ⟨v, h1, h2⟩ := RpAll.at' (i := j) (d := f xs[j]) r (by rw [List.getElem?_map, hx] <;> rfl)
  refine ⟨v, xs[j], ?_, ?_, h2⟩
  · unfold atI
    rw [hl, e]
    exact h1
  · unfold atI
    rw [e]
    exact hx

/-! ### types -/
def encL {α : Type} (f : α → PyData) (xs : List α) : PyData := .list (xs.map f)
def encT2 {α β : Type} (f : α → PyData) (g : β → PyData) (p : α × β) : PyData := .tuple [f p.1, g p.2]
def encT3 {α β γ : Type} (f : α → PyData) (g : β → PyData) (h : γ → PyData) (p : α × β × γ) : PyData := .tuple [f p.1, g p.2.1, h p.2.2]
def encT4 {α β γ δ : Type} (f : α → PyData) (g : β → PyData) (h : γ → PyData) (i : δ → PyData) (p : α × β × γ × δ) : PyData := .tuple [f p.1, g p.2.1, h p.2.2.1, i p.2.2.2]
structure EncOk {α : Type} [DecidableEq α] (n : Nat) (f : α → PyData) : Prop where
  lay : ∀ x, PyData.canLay0 (f x) = true
  dep : ∀ x, PyData.depth (f x) ≤ n
  eqv : ∀ x y, PyData.eqv (f x) (f y) = decide (x = y)
theorem encOk_int : EncOk 0 PyData.int := ⟨fun _ => by simp [PyData.canLay0], fun _ => by simp [PyData.depth], fun x y => by simp [PyData.eqv]; by_cases h : x = y <;> simp [h]⟩
theorem encOk_bool : EncOk 0 PyData.bool := ⟨fun _ => by simp [PyData.canLay0], fun _ => by simp [PyData.depth], fun x y => by cases x <;> cases y <;> simp [PyData.eqv]⟩
section
variable {α β γ δ : Type} [DecidableEq α] [DecidableEq β] [DecidableEq γ] [DecidableEq δ] {n m l o : Nat} {f : α → PyData} {g : β → PyData} {h : γ → PyData} {i : δ → PyData}
theorem lay_map (ok : EncOk n f) : ∀ xs : List α, PyData.canLayAll0 (xs.map f) = true
  | [] => by simp [PyData.canLayAll0]
  | x :: xs => by simp [PyData.canLayAll0, ok.lay x, lay_map ok xs]
theorem dep_map (ok : EncOk n f) : ∀ xs : List α, PyData.depthAll (xs.map f) ≤ n
  | [] => by simp [PyData.depthAll]
  | x :: xs => by
    have h1 := ok.dep x
    have h2 := dep_map ok xs
    simp only [List.map_cons, PyData.depthAll]
    omega
theorem eqv_map (ok : EncOk n f) : ∀ xs ys : List α, PyData.eqvAll (xs.map f) (ys.map f) = decide (xs = ys)
  | [], [] => by simp [PyData.eqvAll]
  | [], y :: ys => by simp [PyData.eqvAll]
  | x :: xs, [] => by simp [PyData.eqvAll]
  | x :: xs, y :: ys => by
    have ih := eqv_map ok xs ys
    simp only [List.map_cons, PyData.eqvAll, ok.eqv, ih]
    by_cases h : x = y <;> by_cases h2 : xs = ys <;> simp [h, h2]
theorem encOk_L (ok : EncOk n f) : EncOk (n + 1) (encL f) := ⟨fun xs => by simp [encL, PyData.canLay0, lay_map ok], fun xs => by
  have := dep_map ok xs
  simp only [encL, PyData.depth]
  omega, fun xs ys => by simp only [encL, PyData.eqv]; exact eqv_map ok xs ys⟩
theorem encOk_T2 (ok : EncOk n f) (ok2 : EncOk m g) : EncOk (max n m + 1) (encT2 f g) := ⟨fun x => by simp [encT2, PyData.canLay0, PyData.canLayAll0, ok.lay, ok2.lay], fun x => by
  have h1 := ok.dep x.1
  have h2 := ok2.dep x.2
  simp only [encT2, PyData.depth, PyData.depthAll]
  omega, fun x y => by
  obtain ⟨a, b⟩ := x
  obtain ⟨c, d⟩ := y
  simp only [encT2, PyData.eqv, PyData.eqvAll, ok.eqv, ok2.eqv, Prod.mk.injEq]
  by_cases h1 : a = c <;> by_cases h2 : b = d <;> simp [h1, h2]⟩
theorem encOk_T3 (ok : EncOk n f) (ok2 : EncOk m g) (ok3 : EncOk l h) : EncOk (max n (max m l) + 1) (encT3 f g h) := ⟨fun x => by simp [encT3, PyData.canLay0, PyData.canLayAll0, ok.lay, ok2.lay, ok3.lay], fun x => by
  have h1 := ok.dep x.1
  have h2 := ok2.dep x.2.1
  have h3 := ok3.dep x.2.2
  simp only [encT3, PyData.depth, PyData.depthAll]
  omega, fun x y => by
  obtain ⟨a, b, e⟩ := x
  obtain ⟨c, d, e'⟩ := y
  simp only [encT3, PyData.eqv, PyData.eqvAll, ok.eqv, ok2.eqv, ok3.eqv, Prod.mk.injEq]
  by_cases h1 : a = c <;> by_cases h2 : b = d <;> by_cases h3 : e = e' <;> simp [h1, h2, h3]⟩
theorem encOk_T4 (ok : EncOk n f) (ok2 : EncOk m g) (ok3 : EncOk l h) (ok4 : EncOk o i) : EncOk (max n (max m (max l o)) + 1) (encT4 f g h i) := ⟨fun x => by simp [encT4, PyData.canLay0, PyData.canLayAll0, ok.lay, ok2.lay, ok3.lay, ok4.lay], fun x => by
  have h1 := ok.dep x.1
  have h2 := ok2.dep x.2.1
  have h3 := ok3.dep x.2.2.1
  have h4 := ok4.dep x.2.2.2
  simp only [encT4, PyData.depth, PyData.depthAll]
  omega, fun x y => by
  obtain ⟨a, b, e, u⟩ := x
  obtain ⟨c, d, e', u'⟩ := y
  simp only [encT4, PyData.eqv, PyData.eqvAll, ok.eqv, ok2.eqv, ok3.eqv, ok4.eqv, Prod.mk.injEq]
  by_cases h1 : a = c <;> by_cases h2 : b = d <;> by_cases h3 : e = e' <;> by_cases h4 : u = u' <;> simp [h1, h2, h3, h4]⟩
end
section
variable {X : Cx} {α : Type} [DecidableEq α] {n : Nat} {f : α → PyData}
def rEqT (f : α → PyData) : R2 := fun x y H Q => ∃ (a b : α), Rp H x (f a) ∧ Rp H y (f b) ∧ Q (.bl (decide (a = b))) H
def rNeT (f : α → PyData) : R2 := fun x y H Q => ∃ (a b : α), Rp H x (f a) ∧ Rp H y (f b) ∧ Q (.bl (!decide (a = b))) H
theorem shaped_of (ok : EncOk n f) (hn : n ≤ 64) (a : α) : SeqAt.shaped (f a) = true := by
  unfold SeqAt.shaped
  have h := ok.dep a
  rw [ok.lay]
  simp
  omega
theorem op_eqT (ok : EncOk n f) (hu : X.A.units + 64 < cLine) (hn : n ≤ 64 := by decide) : OpR X (compareOp .Eq) (rEqT f) := by
  intro pins s σ H x y v u Q I rx ry h
  obtain ⟨a, b, h1, h2, q⟩ := h
  exact op_eqD hu pins s σ H _ _ v u Q I rx ry ⟨_, _, h1.dp, h2.dp, shaped_of ok hn a, shaped_of ok hn b, by rw [ok.eqv]; exact q⟩
theorem op_neT (ok : EncOk n f) (hu : X.A.units + 64 < cLine) (hn : n ≤ 64 := by decide) : OpR X (compareOp .NotEq) (rNeT f) := by
  intro pins s σ H x y v u Q I rx ry h
  obtain ⟨a, b, h1, h2, q⟩ := h
  exact op_neD hu pins s σ H _ _ v u Q I rx ry ⟨_, _, h1.dp, h2.dp, shaped_of ok hn a, shaped_of ok hn b, by rw [ok.eqv]; exact q⟩
end
section
variable {H : Hp} {v : V} {α β γ δ : Type} {f : α → PyData} {g : β → PyData} {h : γ → PyData} {i : δ → PyData}
theorem rp_int {x : Int} (r : Rp H v (.int x)) : v = .int x := by cases r; rfl
theorem rp_bool {x : Bool} (r : Rp H v (.bool x)) : v = .bl x := by cases r; rfl
theorem rp_str {x : Str} (r : Rp H v (.str x)) : v = .str x := by cases r; rfl
theorem rp_list {xs : List α} (r : Rp H v (encL f xs)) : ∃ a vs, v = .ref a ∧ H a = some (.lst vs) ∧ RpAll H vs (xs.map f) := by
  unfold encL at r
  cases r with
  | lst h1 h2 => exact ⟨_, _, rfl, h1, h2⟩
theorem rpAll_ints : ∀ {vs : List V} {xs : List Int}, RpAll H vs (xs.map PyData.int) → vs = xs.map V.int
  | _, [], .nil => rfl
  | _, x :: xs, .cons r t => by rw [rp_int r, rpAll_ints t] <;> rfl
theorem rp_ints {xs : List Int} (r : Rp H v (encL PyData.int xs)) : ∃ a, v = .ref a ∧ H a = some (.lst (xs.map V.int)) := by
  obtain ⟨a, vs, e, h1, h2⟩ := rp_list r
  rw [rpAll_ints h2] at h1
  exact ⟨a, e, h1⟩
theorem rp_tup2 {x : α × β} (r : Rp H v (encT2 f g x)) : ∃ a v1 v2, v = .ref a ∧ H a = some (.tup [v1, v2]) ∧ Rp H v1 (f x.1) ∧ Rp H v2 (g x.2) := by
  unfold encT2 at r
  cases r with
  | tup h1 h2 =>
    cases h2 with
    | cons a b =>
      cases b with
      | cons b c =>
        cases c
        exact ⟨_, _, _, rfl, h1, a, b⟩
theorem rp_tup3 {x : α × β × γ} (r : Rp H v (encT3 f g h x)) : ∃ a v1 v2 v3, v = .ref a ∧ H a = some (.tup [v1, v2, v3]) ∧ Rp H v1 (f x.1) ∧ Rp H v2 (g x.2.1) ∧ Rp H v3 (h x.2.2) := by
  unfold encT3 at r
  cases r with
  | tup h1 h2 =>
    cases h2 with
    | cons a b =>
      cases b with
      | cons b c =>
        cases c with
        | cons c d =>
          cases d
          exact ⟨_, _, _, _, rfl, h1, a, b, c⟩
theorem rp_mk_list {a : Addr} {vs : List V} {xs : List α} (h1 : H a = some (.lst vs)) (h2 : RpAll H vs (xs.map f)) : Rp H (.ref a) (encL f xs) := .lst h1 h2
theorem rp_mk_ints {a : Addr} {xs : List Int} (h1 : H a = some (.lst (xs.map V.int))) : Rp H (.ref a) (encL PyData.int xs) := .lst h1 (RpAll.ints xs)
theorem rp_mk2 {a : Addr} {v1 v2 : V} {x : α} {y : β} (h1 : H a = some (.tup [v1, v2])) (r1 : Rp H v1 (f x)) (r2 : Rp H v2 (g y)) : Rp H (.ref a) (encT2 f g (x, y)) := .tup h1 (.cons r1 (.cons r2 .nil))
theorem rp_mk3 {a : Addr} {v1 v2 v3 : V} {x : α} {y : β} {z : γ} (h1 : H a = some (.tup [v1, v2, v3])) (r1 : Rp H v1 (f x)) (r2 : Rp H v2 (g y)) (r3 : Rp H v3 (h z)) : Rp H (.ref a) (encT3 f g h (x, y, z)) := .tup h1 (.cons r1 (.cons r2 (.cons r3 .nil)))
end

/-! ### the two heaps -/
def SameXs (L : List Addr) (H H' : Hp) : Prop := ∀ b o, H b = some o → b ∉ L → H' b = some o
theorem SameXs.of {H H' : Hp} {m : Addr} (x : SameX m H H') : SameXs [m] H H' := fun b o e n => x b o e (fun z => n (by rw [z]; exact List.mem_cons_self))
theorem ni1 {b m : Addr} (h : b ≠ m) : b ∉ [m] := by simpa using h
theorem ni2 {b m n : Addr} (h : b ≠ m) (h2 : b ≠ n) : b ∉ [m, n] := by simp [h, h2]
theorem ni3 {b m n o : Addr} (h : b ≠ m) (h2 : b ≠ n) (h3 : b ≠ o) : b ∉ [m, n, o] := by simp [h, h2, h3]
theorem ni4 {b m n o p : Addr} (h : b ≠ m) (h2 : b ≠ n) (h3 : b ≠ o) (h4 : b ≠ p) : b ∉ [m, n, o, p] := by simp [h, h2, h3, h4]
def hideL (L : List Addr) (H : Hp) : Hp := fun b => if b ∈ L then none else H b
theorem hideL_same (L : List Addr) (H : Hp) : Same (hideL L H) H := fun b o e => by
  unfold hideL at e
  split at e
  · cases e
  · exact e
theorem hideL_in {L : List Addr} {H : Hp} {b : Addr} (h : b ∈ L) : hideL L H b = none := if_pos h
theorem hideL_out {L : List Addr} {H : Hp} {b : Addr} (h : b ∉ L) : hideL L H b = H b := if_neg h
/-- M: owned from outside; H0, G0: at the entry; G: what stays as it is; O: what may change -/
structure Sep (M : List Addr) (H0 G0 G H : Hp) (O : List Addr) : Prop where
  base : SameXs M H0 H
  pm : ∀ a ∈ M, H a ≠ none
  sG : Same G H
  g0 : Same G0 G
  gn : ∀ b, H0 b ≠ none → G0 b = none → G b = none
  ow : ∀ a ∈ O, G a = none ∧ H a ≠ none ∧ (a ∈ M ∨ H0 a = none)
theorem all_nil {P : Addr → Prop} : ∀ x ∈ ([] : List Addr), P x := fun x h => by cases h
theorem all_cons {P : Addr → Prop} {a : Addr} {l : List Addr} (h : P a) (t : ∀ x ∈ l, P x) : ∀ x ∈ a :: l, P x := fun x hx => by
  cases hx with
  | head => exact h
  | tail _ hx => exact t x hx
theorem some_ne {H : Hp} {a : Addr} {o : HO} (h : H a = some o) : H a ≠ none := by
  rw [h]
  exact fun z => nomatch z
theorem same_ne {H H' : Hp} {a : Addr} (e : Same H H') (h : H a ≠ none) : H' a ≠ none := by
  cases q : H a with
  | none => exact absurd q h
  | some o => exact some_ne (e a o q)
section
variable {M : List Addr} {H0 G0 G H H' : Hp} {O : List Addr} {p m : Addr} {o : HO}
theorem Sep.start (M : List Addr) (H : Hp) (hM : ∀ a ∈ M, H a ≠ none) : Sep M H (hideL M H) (hideL M H) H M :=
  ⟨fun _ _ e _ => e, hM, hideL_same M H, Same.refl _, fun _ _ e => e, fun a ha => ⟨hideL_in ha, hM a ha, .inl ha⟩⟩
theorem Sep.startG {G H : Hp} (e : Same G H) : Sep [] H G G H [] := ⟨fun _ _ e _ => e, all_nil, e, Same.refl _, fun _ _ e => e, fun a ha => by cases ha⟩
theorem Sep.start0 (H : Hp) : Sep [] H H H H [] := Sep.startG (Same.refl H)
theorem Sep.b0 (S : Sep [] H0 G0 G H O) : Same H0 H := fun b o e => S.base b o e List.not_mem_nil
theorem Sep.free (S : Sep M H0 G0 G H O) {q : Addr} (n : H q = none) : H0 q = none := by
  cases e : H0 q with
  | none => rfl
  | some o =>
    by_cases h : q ∈ M
    · exact absurd n (S.pm q h)
    · rw [S.base q o e h] at n
      cases n
theorem Sep.same (S : Sep M H0 G0 G H O) (e : Same H H') : Sep M H0 G0 G H' O :=
  ⟨fun b o h n => e b o (S.base b o h n), fun a ha => same_ne e (S.pm a ha), S.sG.trans e, S.g0, S.gn, fun a ha => ⟨(S.ow a ha).1, same_ne e (S.ow a ha).2.1, (S.ow a ha).2.2⟩⟩
theorem Sep.gfree (S : Sep M H0 G0 G H O) {q : Addr} (n : H q = none) : G q = none := by
  cases e : G q with
  | none => rfl
  | some o => rw [S.sG q o e] at n; cases n
theorem Sep.new (S : Sep M H0 G0 G H O) (n : H p = none) (e : Same H H') (h : H' p = some o) (hm : H0 p = none) : Sep M H0 G0 G H' (p :: O) := by
  have S1 := S.same e
  refine ⟨S1.base, S1.pm, S1.sG, S1.g0, S1.gn, fun a ha => ?_⟩
  cases ha with
  | head => exact ⟨S.gfree n, some_ne h, .inr hm⟩
  | tail _ ha => exact S1.ow a ha
theorem Sep.grow (S : Sep M H0 G0 G H O) (n : H p = none) (e : Same H H') (h : H' p = some o) (hm : H0 p = none) : ∃ G', Same G G' ∧ G' p = some o ∧ Sep M H0 G0 G' H' O := by
  have S1 := S.same e
  have ng := S.gfree n
  refine ⟨upd G p o, fun b u q => by rw [upd_ne (ne_of_none q ng)]; exact q, upd_same, S1.base, S1.pm, fun b u q => ?_, fun b u q => ?_, fun b hb gb => ?_, fun a ha => ?_⟩
  · by_cases z : b = p
    · subst z
      rw [upd_same] at q
      exact q ▸ h
    · rw [upd_ne z] at q
      exact S1.sG b u q
  · have := S.g0 b u q
    rw [upd_ne (ne_of_none this ng)]
    exact this
  · by_cases z : b = p
    · subst z
      exact absurd hm hb
    · rw [upd_ne z]
      exact S.gn b hb gb
  · have hne : a ≠ p := fun z => (S.ow a ha).2.1 (by rw [z]; exact n)
    rw [upd_ne hne]
    exact S1.ow a ha
theorem Sep.mut (S : Sep M H0 G0 G H O) {L : List Addr} (x : SameXs L H H') (hL : ∀ a ∈ L, a ∈ O) (hs : ∀ a ∈ L, H' a ≠ none) : Sep M H0 G0 G H' O := by
  have keep : ∀ a, H a ≠ none → H' a ≠ none := fun a h => by
    by_cases hb : a ∈ L
    · exact hs a hb
    · cases q : H a with
      | none => exact absurd q h
      | some o => exact some_ne (x a o q hb)
  refine ⟨fun b o e n => ?_, fun a ha => keep a (S.pm a ha), fun b o e => ?_, S.g0, S.gn, fun a ha => ⟨(S.ow a ha).1, keep a (S.ow a ha).2.1, (S.ow a ha).2.2⟩⟩
  · refine x b o (S.base b o e n) fun hb => ?_
    rcases (S.ow b (hL b hb)).2.2 with z | z
    · exact n z
    · rw [e] at z; cases z
  · refine x b o (S.sG b o e) fun hb => ?_
    have := (S.ow b (hL b hb)).1
    rw [e] at this
    cases this
theorem Sep.mut1 (S : Sep M H0 G0 G H O) (x : SameX m H H') (hm : m ∈ O) (h : H' m = some o) : Sep M H0 G0 G H' O :=
  S.mut (SameXs.of x) (all_cons hm all_nil) (all_cons (some_ne h) all_nil)
theorem Sep.sub (S : Sep M H0 G0 G H O) {O' : List Addr} (h : ∀ a ∈ O', a ∈ O) : Sep M H0 G0 G H O' := ⟨S.base, S.pm, S.sG, S.g0, S.gn, fun a ha => S.ow a (h a ha)⟩
/-- what was owned and is to stay as it is from now on -/
theorem Sep.freeze (S : Sep M H0 G0 G H O) {O' : List Addr} (hp : p ∈ O) (h : H p = some o) (hm : H0 p = none) (hO : ∀ a ∈ O', a ∈ O ∧ a ≠ p) : ∃ G', Same G G' ∧ G' p = some o ∧ Sep M H0 G0 G' H O' := by
  have ng := (S.ow p hp).1
  refine ⟨upd G p o, fun b u q => by rw [upd_ne (ne_of_none q ng)]; exact q, upd_same, S.base, S.pm, fun b u q => ?_, fun b u q => ?_, fun b hb gb => ?_, fun a ha => ?_⟩
  · by_cases z : b = p
    · subst z
      rw [upd_same] at q
      exact q ▸ h
    · rw [upd_ne z] at q
      exact S.sG b u q
  · have := S.g0 b u q
    rw [upd_ne (ne_of_none this ng)]
    exact this
  · by_cases z : b = p
    · subst z
      exact absurd hm hb
    · rw [upd_ne z]
      exact S.gn b hb gb
  · rw [upd_ne (hO a ha).2]
    exact S.ow a (hO a ha).1
/-- a callee that hands on data in a stable heap of its own -/
theorem Sep.step (S : Sep M H0 G0 G H O) {G' : Hp} (e : Same H H') (eG : Same G G') (sG : Same G' H') (hn : ∀ b, H b ≠ none → G b = none → G' b = none) : Sep M H0 G0 G' H' O := by
  have S1 := S.same e
  refine ⟨S1.base, S1.pm, sG, S.g0.trans eG, fun b hb gb => ?_, fun a ha => ⟨hn a (S.ow a ha).2.1 (S.ow a ha).1, (S1.ow a ha).2⟩⟩
  refine hn b (fun z => ?_) (S.gn b hb gb)
  exact hb (S.free z)
theorem Sep.hid (S : Sep M H0 G0 G H O) {L : List Addr} (h : ∀ a ∈ L, a ∈ O) : Same G (hideL L H) := fun b o e => by
  rw [hideL_out fun z => by
    have := (S.ow b (h b z)).1
    rw [e] at this
    cases this]
  exact S.sG b o e
end
end Vx

namespace Vx
open PySem PySem.Spec PyProof.Rows L2
/-! ### lists of plain things (f : V.int, V.bl, V.str) -/
section
variable {α : Type} {f : α → V} {H : Hp} {p : Addr}
theorem cat_map {xs ys : List α} (h : H p = some (.lst (xs.map f ++ ys.map f))) : H p = some (.lst ((xs ++ ys).map f)) := by
  rw [List.map_append]; exact h
theorem snoc_map {xs : List α} {y : α} (h : H p = some (.lst (xs.map f ++ [f y]))) : H p = some (.lst ((xs ++ [y]).map f)) := by
  rw [List.map_append]; exact h
def repL (xs : List α) (k : Int) : List α := (List.replicate k.toNat xs).flatten
theorem rep_map {xs : List α} {k : Int} (h : H p = some (.lst (List.replicate k.toNat (xs.map f)).flatten)) : H p = some (.lst ((repL xs k).map f)) := by
  rw [h]
  unfold repL
  rw [List.map_flatten, List.map_replicate]
def cutL (xs : List α) (lo hi : Option Int) : List α := (xs.drop (HT.sIx xs.length 0 lo)).take (HT.sIx xs.length xs.length hi - HT.sIx xs.length 0 lo)
theorem cut_map {xs : List α} {lo hi : Option Int} (h : H p = some (.lst (cutV (xs.map f) lo hi))) : H p = some (.lst ((cutL xs lo hi).map f)) := by
  rw [h]
  unfold cutV cutL
  rw [List.length_map, List.map_take, List.map_drop]
theorem cast_map {xs ys : List α} (h : H p = some (.lst (xs.map f))) (e : xs = ys) : H p = some (.lst (ys.map f)) := e ▸ h
theorem drop_map {xs : List α} (h : H p = some (.lst (xs.map f).dropLast)) : H p = some (.lst (xs.dropLast.map f)) := by
  rw [h, List.map_dropLast]
theorem ixN_some {n : Nat} {k : Int} (h : -(n : Int) ≤ k ∧ k < n) : ∃ j, ixN n k = some j ∧ j < n := by
  unfold ixN
  by_cases h0 : 0 ≤ k
  · exact ⟨k.toNat, by rw [if_pos h0, if_pos h.2], by omega⟩
  · exact ⟨(k + n).toNat, by rw [if_neg h0, if_pos h.1], by omega⟩
def itD [Inhabited α] (xs : List α) (k : Int) : α := (atI xs k).getD default
theorem atI_map [Inhabited α] {xs : List α} {k : Int} (h : -(xs.length : Int) ≤ k ∧ k < xs.length) : atI (xs.map f) k = some (f (itD xs k)) := by
  obtain ⟨j, e, hj⟩ := ixN_some h
  unfold itD atI
  rw [List.length_map, e]
  show (xs.map f)[j]? = some (f ((xs[j]?).getD default))
  rw [List.getElem?_map, List.getElem?_eq_getElem hj] <;> rfl
def setL (xs : List α) (k : Int) (y : α) : List α := xs.set ((ixN xs.length k).getD 0) y
theorem ixN_map {xs : List α} {k : Int} (h : -(xs.length : Int) ≤ k ∧ k < xs.length) : ixN (xs.map f).length k = some ((ixN xs.length k).getD 0) := by
  obtain ⟨j, e, hj⟩ := ixN_some h
  rw [List.length_map, e] <;> rfl
theorem set_map {xs : List α} {k : Int} {y : α} (h : H p = some (.lst ((xs.map f).set ((ixN xs.length k).getD 0) (f y)))) : H p = some (.lst ((setL xs k y).map f)) := by
  rw [h]
  unfold setL
  rw [List.map_set]
def lastD [Inhabited α] (xs : List α) : α := xs.getLastD default
theorem pop_map [Inhabited α] {xs : List α} (h : xs ≠ []) : (xs.map f)[(xs.map f).length - 1]? = some (f (lastD xs)) := by
  rw [← List.getLast?_eq_getElem?, List.getLast?_map]
  unfold lastD
  cases e : xs.getLast? with
  | none => exact absurd (List.getLast?_eq_none_iff.mp e) h
  | some y =>
    rw [List.getLastD_eq_getLast?, e] <;> rfl
end
/-! ### lists of data -/
section
variable {α β : Type} {f : α → PyData} {g : β → PyData} {G : Hp} {vs ws : List V} {xs ys : List α}
theorem app_map (a : RpAll G vs (xs.map f)) (b : RpAll G ws (ys.map f)) : RpAll G (vs ++ ws) ((xs ++ ys).map f) := by
  rw [List.map_append]; exact a.append b
theorem one_map {v : V} {y : α} (a : RpAll G vs (xs.map f)) (b : Rp G v (f y)) : RpAll G (vs ++ [v]) ((xs ++ [y]).map f) := by
  rw [List.map_append]; exact a.append (.one b)
theorem rep_all (k : Int) (a : RpAll G vs (xs.map f)) : RpAll G (List.replicate k.toNat vs).flatten ((repL xs k).map f) := by
  unfold repL
  rw [List.map_flatten, List.map_replicate]
  exact a.rep _
theorem cut_all (lo hi : Option Int) (a : RpAll G vs (xs.map f)) : RpAll G (cutV vs lo hi) ((cutL xs lo hi).map f) := by
  unfold cutV cutL
  rw [a.len, List.length_map, List.map_take, List.map_drop]
  exact (a.drop _).take _
theorem rp_cast {v : V} {d e : PyData} (r : Rp G v d) (h : d = e) : Rp G v e := h ▸ r
theorem comp_listD {i : Nat} {x : α} {y : β} {v : V} {h : α → β} (hi : xs[i]? = some x) (a : RpAll G vs (((xs.take i).map h).map g)) (r : Rp G v (g y)) (e : h x = y) : RpAll G (vs ++ [v]) (((xs.take (i + 1)).map h).map g) := by
  rw [take_succ_get hi, List.map_append, List.map_append]
  exact a.append (.one (e ▸ r))
theorem comp_rangeD {i : Nat} {y : β} {v : V} {h : Nat → β} (a : RpAll G vs (((List.range i).map h).map g)) (r : Rp G v (g y)) (e : h i = y) : RpAll G (vs ++ [v]) (((List.range (i + 1)).map h).map g) := by
  rw [List.range_succ, List.map_append, List.map_append]
  exact a.append (.one (e ▸ r))
theorem comp_doneD {n : Nat} {h : List α → List β} (hl : n = xs.length) (a : RpAll G vs ((h (xs.take n)).map g)) : RpAll G vs ((h xs).map g) := by
  rw [hl, List.take_length] at a
  exact a
theorem comp_listFD {i : Nat} {x : α} {y : β} {v : V} {h : α → β} {q : α → Bool} (hi : xs[i]? = some x) (hq : q x = true) (a : RpAll G vs ((((xs.take i).filter q).map h).map g)) (r : Rp G v (g y)) (e : h x = y) : RpAll G (vs ++ [v]) ((((xs.take (i + 1)).filter q).map h).map g) := by
  rw [take_succ_get hi, List.filter_append, List.filter_cons, if_pos hq, List.map_append, List.map_append]
  exact a.append (.one (e ▸ r))
theorem skip_listD {i : Nat} {x : α} {h : α → β} {q : α → Bool} (hi : xs[i]? = some x) (hq : q x = false) (a : RpAll G vs ((((xs.take i).filter q).map h).map g)) : RpAll G vs ((((xs.take (i + 1)).filter q).map h).map g) := by
  rw [take_succ_get hi, List.filter_append, List.filter_cons, if_neg (by rw [hq]; decide), List.filter_nil, List.append_nil]
  exact a
end
section
variable {α β : Type} {f : β → V} {H : Hp} {D : Addr} {xs : List α}
theorem compM_list {i : Nat} {x : α} {y : β} {h : α → β} (hi : xs[i]? = some x) (a : H D = some (.lst (((xs.take i).map h).map f ++ [f y]))) (e : h x = y) : H D = some (.lst (((xs.take (i + 1)).map h).map f)) := by
  rw [a, ← e, take_succ_get hi, List.map_append, List.map_append] <;> rfl
theorem compM_range {i : Nat} {y : β} {h : Nat → β} (a : H D = some (.lst (((List.range i).map h).map f ++ [f y]))) (e : h i = y) : H D = some (.lst (((List.range (i + 1)).map h).map f)) := by
  rw [a, ← e, List.range_succ, List.map_append, List.map_append] <;> rfl
theorem compM_done {n : Nat} {h : List α → List β} (hl : n = xs.length) (a : H D = some (.lst ((h (xs.take n)).map f))) : H D = some (.lst ((h xs).map f)) := by
  rw [hl, List.take_length] at a
  exact a
theorem compM_listF {i : Nat} {x : α} {y : β} {h : α → β} {q : α → Bool} (hi : xs[i]? = some x) (hq : q x = true) (a : H D = some (.lst ((((xs.take i).filter q).map h).map f ++ [f y]))) (e : h x = y) : H D = some (.lst ((((xs.take (i + 1)).filter q).map h).map f)) := by
  rw [a, ← e, take_succ_get hi, List.filter_append, List.filter_cons, if_pos hq, List.map_append, List.map_append] <;> rfl
theorem skipM_list {i : Nat} {x : α} {h : α → β} {q : α → Bool} (hi : xs[i]? = some x) (hq : q x = false) (a : H D = some (.lst ((((xs.take i).filter q).map h).map f))) : H D = some (.lst ((((xs.take (i + 1)).filter q).map h).map f)) := by
  rw [a, take_succ_get hi, List.filter_append, List.filter_cons, if_neg (by rw [hq]; decide), List.filter_nil, List.append_nil]
theorem compM_rangeF {i : Nat} {y : β} {h : Nat → β} {q : Nat → Bool} (hq : q i = true) (a : H D = some (.lst ((((List.range i).filter q).map h).map f ++ [f y]))) (e : h i = y) : H D = some (.lst ((((List.range (i + 1)).filter q).map h).map f)) := by
  rw [a, ← e, List.range_succ, List.filter_append, List.filter_cons, if_pos hq, List.map_append, List.map_append] <;> rfl
theorem skipM_range {i : Nat} {h : Nat → β} {q : Nat → Bool} (hq : q i = false) (a : H D = some (.lst ((((List.range i).filter q).map h).map f))) : H D = some (.lst ((((List.range (i + 1)).filter q).map h).map f)) := by
  rw [a, List.range_succ, List.filter_append, List.filter_cons, if_neg (by rw [hq]; decide), List.filter_nil, List.append_nil]
end
/-! ### more rules -/
section
variable {X : Cx} {K : PySem.W.Frag}
theorem ix_tupK (hK : X.K = K := by rfl) : IxR X (rIxT K) := hK ▸ ix_tup
def rLenLK (K : PySem.W.Frag) : List V → Hp → VK → Prop := fun xs H Q => ∃ (p : Addr) (vs : List V) (n : Nat), xs = [.ref p] ∧ SqL K H p vs ∧ vs.length = n ∧ Q (.int (n : Int)) H
theorem call_lenLK (hK : X.K = K := by rfl) : CallR X (.builtin "len") (rLenLK K) := by
  subst hK
  intro pins s σ H xs us Q I r h
  obtain ⟨p, vs, n, rfl, hs, hn, q⟩ := h
  exact call_len_seq pins s σ H _ us Q I r ⟨p, _, rfl, Or.inl hs, by rw [hn]; exact q⟩
def rListLK (K : PySem.W.Frag) : List V → Hp → VK → Prop := fun xs H Q => ∃ (p : Addr) (vs : List V), xs = [.ref p] ∧ SqL K H p vs ∧ ∀ l, H l = none → Q (.ref l) (upd H l (.lst vs))
theorem call_listLK (hK : X.K = K := by rfl) : CallR X (.type "list") (rListLK K) := by
  subst hK
  intro pins s σ H xs us Q I r h
  obtain ⟨p, vs, rfl, hs, q⟩ := h
  exact call_list_of pins s σ H _ us Q I r ⟨p, _, rfl, Or.inl hs, q⟩
theorem cr_anyK (hc : X.calm = true) (hK : X.K = K := by rfl) : CallR X (.builtin "any") (rAny K) := hK ▸ cr_any hc
theorem cr_allK (hc : X.calm = true) (hK : X.K = K := by rfl) : CallR X (.builtin "all") (rAll K) := hK ▸ cr_all hc
theorem pi_tupK {tg l : Expr} {tl : TE} (hl : PE X l tl) (hK : X.K = K := by rfl) : PI X tg l (iTup K tl) := hK ▸ pi_tup hl
theorem pip {op : Operator} {r : R2} (h : OpR X (inplaceOp op) r) : PIp X op r := fun pins s σ H x y v u Q I rx ry q => h pins s σ H x y v u Q I rx ry q
/-- an item at a place from 0 on, by itself (ahead of o[i] op= e) -/
def rIxP (K : PySem.W.Frag) : R2 := fun x y H Q => ∃ (p : Addr) (xs : List V) (k : Int) (v : V), x = .ref p ∧ y = .int k ∧ SqL K H p xs ∧ 0 ≤ k ∧ k < 2 ^ 62 ∧ atI xs k = some v ∧ Q v H
theorem pget_list (hK : X.K = K := by rfl) : PGet X (rIxP K) := by
  subst hK
  intro pins s σ H o i ov iv Q I ro ri h
  obtain ⟨p, xs, k, v, rfl, rfl, hq, h0, h62, ha, q⟩ := h
  cases ro
  obtain ⟨t, rfl⟩ := ri
  obtain ⟨its, r, pl, hz⟩ := I.list hq
  obtain ⟨j, h1, h2, h3, h4, h5⟩ := atI_get ha
  obtain ⟨w, ew, rw'⟩ := r.get h2
  have hj : k.toNat = j := by
    rw [seqIndex_of h0 h5] at h1
    exact Option.some.inj h1
  exact getItem_listL pl.isList h0 (by omega) (by rw [hj]; simpa using ew) ⟨v, H, I, rw', q⟩
theorem tru_map {α : Type} [DecidableEq α] {f : α → V} {xs : List α} : (!decide (xs = [])) = !(xs.map f).isEmpty := by
  cases xs <;> simp
end
end Vx

namespace Vx
open PySem PySem.Spec PyProof.Rows L2
/-! ### objects -/
section
variable {M : List Addr} {H0 G0 G H H' : Hp} {O : List Addr} {p m : Addr} {o : HO}
theorem gen_obj {x dx : Addr} {o1 o2 : HO} (nx : H x = none) (nd : H dx = none) (ne : dx ≠ x) (h : upd (upd H dx o1) x o2 = H') : Same H H' ∧ H' x = some o2 := by
  subst h
  exact ⟨fun b u e => by rw [upd_ne (ne_of_none e nx), upd_ne (ne_of_none e nd)]; exact e, upd_same⟩
theorem sameX_of {m : Addr} (x : SameXs [m] H H') : SameX m H H' := fun b o e n => x b o e (by simpa using n)
theorem g_ne {a b : Addr} (h : G a = some o) (S : Sep M H0 G0 G H O) (hb : b ∈ O) : a ≠ b := fun z => by
  have := (S.ow b hb).1
  rw [← z, h] at this
  cases this
/-- an object whose making has laid some lists -/
theorem Sep.mutnew (S : Sep M H0 G0 G H O) {L : List Addr} (x : SameXs L H H') (hL : ∀ a ∈ L, a ∈ O) (hs : ∀ a ∈ L, H' a ≠ none) (hn : H p = none) (hp : H' p ≠ none) (h0 : H0 p = none) : Sep M H0 G0 G H' (p :: O) := by
  have S1 := S.mut x hL hs
  refine ⟨S1.base, S1.pm, S1.sG, S1.g0, S1.gn, all_cons ⟨S.gfree hn, hp, .inr h0⟩ S1.ow⟩
theorem Sep.init (S : Sep M H0 G0 G H O) (x : SameX m H H') (hm : m ∈ O) (h : H' m = some o) (L : List Addr) (hL : ∀ a ∈ L, H a = none ∧ H' a ≠ none ∧ H0 a = none) : Sep M H0 G0 G H' (L ++ O) := by
  have S1 := S.mut1 x hm h
  refine ⟨S1.base, S1.pm, S1.sG, S1.g0, S1.gn, fun a ha => ?_⟩
  rcases List.mem_append.mp ha with z | z
  · obtain ⟨h1, h2, h3⟩ := hL a z
    exact ⟨S.gfree h1, h2, .inr h3⟩
  · exact S1.ow a z
end
section
variable {P : Program} {w : World} {K : PySem.W.Frag} {mg : Str → Option Value} {base : Heap}
structure MethIn (K : PySem.W.Frag) (C : Addr) (q m : Str) (st : Stmt) (ps : List Str) : Prop where
  ex : ∃ (f : Addr) (fd : FuncData), Fun K m q st f fd ∧ Meth K C m f ∧ Binds K fd ps []
structure PropIn (K : PySem.W.Frag) (C : Addr) (q m : Str) (st : Stmt) (ps : List Str) : Prop where
  ex : ∃ (r f : Addr) (fd : FuncData), Fun K m q st f fd ∧ PropOf K C m r f ∧ Binds K fd ps []
structure InitIn (K : PySem.W.Frag) (mg : Str → Option Value) (C : Addr) (cn q : Str) (st : Stmt) (ps : List Str) : Prop where
  ex : ∃ (f : Addr) (fd : FuncData), Fun K "__init__" q st f fd ∧ Mk K C f ∧ mg cn = some (.ref C) ∧ Binds K fd ps []
structure MetC (P : Program) (w : World) (K : PySem.W.Frag) (mg : Str → Option Value) (base : Heap) (k : Nat) (C : Addr) (m : Str) (sp : Sp) : Prop where
  ex : ∃ (f : Addr) (fd : FuncData) (ps : List Str), Cls K C ∧ Meth K C m f ∧ FnOk P w K mg base CX0 k f fd ps sp ∧ Binds K fd ps []
structure PropC (P : Program) (w : World) (K : PySem.W.Frag) (mg : Str → Option Value) (base : Heap) (k : Nat) (C : Addr) (m : Str) (sp : Sp) : Prop where
  ex : ∃ (q f : Addr) (fd : FuncData) (ps : List Str), Cls K C ∧ PropOf K C m q f ∧ FnOk P w K mg base CX0 k f fd ps sp ∧ Binds K fd ps []
structure MakC (P : Program) (w : World) (K : PySem.W.Frag) (mg : Str → Option Value) (base : Heap) (k : Nat) (cn : Str) (C : Addr) (sp : Sp) : Prop where
  ex : ∃ (f : Addr) (fd : FuncData) (ps : List Str), Mk K C f ∧ FnOk P w K mg base CX0 k f fd ps sp ∧ mg cn = some (.ref C) ∧ Binds K fd ps []
abbrev Body (P : Program) (w : World) (K : PySem.W.Frag) (mg : Str → Option Value) (base : Heap) (x : Str) (st : Stmt) (N : List Str) (k : Nat) (sp : Sp) : Prop :=
  ∀ (f : Addr) (cdv : Value) (A : Around) (outer : List Env) (s : Shared) (H : Hp) (vs : List V) (Q : VK) (E : XK), Room k (A.deeper (envOfC x (defScope st) s.heap.objs.size f cdv)) → sp vs H Q E →
    ∃ t, PSs (cxOf CX0 P w K mg base N x (defScope st) f cdv A outer s H E).nox (defBody st) t ∧ t { nx := fun _ H' => Q .non H', rt := Q } (start N vs) H
theorem MethIn.ok {C : Addr} {q m : Str} {st : Stmt} {N ps : List Str} {k : Nat} {sp : Sp} (D : MethIn K C q m st ps) (c : Cls K C) (S : FnScope N ps (defScope st)) (len : ∀ vs H Q E, sp vs H Q E → vs.length = ps.length)
    (hbody : Body P w K mg base q st N k sp) : MetC P w K mg base (k + 1) C m sp := by
  obtain ⟨f, fd, F, me, b⟩ := D.ex
  exact ⟨f, fd, ps, c, me, F.ok S len (fun cdv A outer s H vs Q E hr h => hbody f cdv A outer s H vs Q E hr h), b⟩
theorem PropIn.ok {C : Addr} {q m : Str} {st : Stmt} {N ps : List Str} {k : Nat} {sp : Sp} (D : PropIn K C q m st ps) (c : Cls K C) (S : FnScope N ps (defScope st)) (len : ∀ vs H Q E, sp vs H Q E → vs.length = ps.length)
    (hbody : Body P w K mg base q st N k sp) : PropC P w K mg base (k + 1) C m sp := by
  obtain ⟨r, f, fd, F, me, b⟩ := D.ex
  exact ⟨r, f, fd, ps, c, me, F.ok S len (fun cdv A outer s H vs Q E hr h => hbody f cdv A outer s H vs Q E hr h), b⟩
theorem InitIn.ok {C : Addr} {cn q : Str} {st : Stmt} {N ps : List Str} {k : Nat} {sp : Sp} (D : InitIn K mg C cn q st ps) (S : FnScope N ps (defScope st)) (len : ∀ vs H Q E, sp vs H Q E → vs.length = ps.length)
    (hbody : Body P w K mg base q st N k sp) : MakC P w K mg base (k + 1) cn C sp := by
  obtain ⟨f, fd, F, me, hm, b⟩ := D.ex
  exact ⟨f, fd, ps, me, F.ok S len (fun cdv A outer s H vs Q E hr h => hbody f cdv A outer s H vs Q E hr h), hm, b⟩
end
section
variable {X : Cx} {k j : Nat} {C : Addr} {x m : Str} {sp : Sp} {p pos apos : Pos} {e o : Expr} {es : List Expr} {ta : TE} {t : TA}
theorem vx_call0 (c : Cal X.prog X.w X.K X.mg X.base k x sp) (hr : Room j X.A) (hk : k ≤ j) (hg : Gl X x) (hdb : (x == ("__debug__" : Str)) = false := by decide) : PE X (.Call (.Name x p) [] [] pos) (tCall sp [] E0 tNil) := by
  obtain ⟨f, fd, ps, F, hm, kp, b⟩ := c.ex
  exact pe_call0 F (hr.mono hk) hg hm kp b .nil pass0 hdb
theorem vx_make (c : MakC X.prog X.w X.K X.mg X.base k x C sp) (hr : Room j X.A) (hk : k + 1 ≤ j) (hg : Gl X x) (ha : PA X (e :: es) t)
    (hdb : (x == ("__debug__" : Str)) = false := by decide) (he : starEach (e :: es) X.env = (false, eval e X.env) :: starEach es X.env := by rfl) (hpl : (backTo pos (starEach es X.env)).any (·.1) = false := by rfl) :
    PE X (.Call (.Name x p) (e :: es) [] pos) (tMake C sp [] E0 t) := by
  obtain ⟨f, fd, ps, M, F, hm, b⟩ := c.ex
  exact pe_make M F (hr.mono hk) hg hm b .nil pass0 ha hdb he hpl
theorem vx_make0 (c : MakC X.prog X.w X.K X.mg X.base k x C sp) (hr : Room j X.A) (hk : k + 1 ≤ j) (hg : Gl X x) (hdb : (x == ("__debug__" : Str)) = false := by decide) :
    PE X (.Call (.Name x p) [] [] pos) (tMake C sp [] E0 tNil) := by
  obtain ⟨f, fd, ps, M, F, hm, b⟩ := c.ex
  exact pe_make0 M F (hr.mono hk) hg hm b .nil pass0 hdb
theorem vx_meth {pl : Sem Bool} (c : MetC X.prog X.w X.K X.mg X.base k C m sp) (hr : Room j X.A) (hk : k ≤ j) (he : PE X o ta) (ha : PA X (e :: es) t)
    (hst : starEach (e :: es) X.env = (false, eval e X.env) :: starEach es X.env := by rfl) (hpl : (backTo pos (starEach es X.env)).any (·.1) = false := by rfl)
    (ht : eval (.Call (.Attribute o m apos) (e :: es) [] pos) X.env = (do
      let ov ← eval o X.env
      standAt apos.atName
      let (f, first) ← holding [ov] (getMethod ov m pl)
      callWith pos f first (backTo pos (starEach (e :: es) X.env)) (backToKw pos (keywordEach [] X.env))) := by rfl) :
    PE X (.Call (.Attribute o m apos) (e :: es) [] pos) (tMeth C m sp [] E0 ta t) := by
  obtain ⟨f, fd, ps, hc, hm, F, b⟩ := c.ex
  exact pe_meth he hc hm F (hr.mono hk) b .nil pass0 ha hst hpl ht
theorem vx_meth0 {pl : Sem Bool} (c : MetC X.prog X.w X.K X.mg X.base k C m sp) (hr : Room j X.A) (hk : k ≤ j) (he : PE X o ta)
    (ht : eval (.Call (.Attribute o m apos) [] [] pos) X.env = (do
      let ov ← eval o X.env
      standAt apos.atName
      let (f, first) ← holding [ov] (getMethod ov m pl)
      callWith pos f first (backTo pos (starEach [] X.env)) (backToKw pos (keywordEach [] X.env))) := by rfl) :
    PE X (.Call (.Attribute o m apos) [] [] pos) (tMeth C m sp [] E0 ta tNil) := by
  obtain ⟨f, fd, ps, hc, hm, F, b⟩ := c.ex
  exact pe_meth0 he hc hm F (hr.mono hk) b .nil pass0 ht
theorem vx_prop (c : PropC X.prog X.w X.K X.mg X.base k C m sp) (hr : Room j X.A) (hk : k + 1 ≤ j) (he : PE X o ta) (hab : attributeBase o m X.env (eval o X.env) = eval o X.env) : PE X (.Attribute o m pos) (tProp C sp [] E0 ta) := by
  obtain ⟨q, f, fd, ps, hc, hp, F, b⟩ := c.ex
  exact pe_prop he hc hp F (hr.mono hk) b .nil pass0 hab
end
theorem iteBNT {b : Bool} {A B : Prop} (h : b = false) (k : A) : if (!b) = true then A else B := by rw [h]; exact iteT k
theorem iteNN {b : Bool} {A B : Prop} (h : if b = true then A else B) : if (!!b) = true then A else B := by rw [Bool.not_not]; exact h
theorem iteBNF {b : Bool} {A B : Prop} (h : b = true) (k : B) : if (!b) = true then A else B := by rw [h]; exact iteF k
theorem shl_side {i j : Int} (h0 : 0 ≤ j) (h1 : j ≤ 4096) (h2 : -(2 ^ 4096) < i) (h3 : i < 2 ^ 4096) : CShl i j := by
  obtain ⟨k, rfl⟩ := Int.eq_ofNat_of_zero_le h0
  exact shl_ok (n := 4096) (by omega) (by omega)
end Vx

namespace Vx
open PySem PySem.Spec PyProof.Rows L2
section
variable {X : Cx} {K : PySem.W.Frag}
theorem fldK {e : Expr} {f : Str} {pos : Pos} {ta : TE} (he : PE X e ta) (hb : attributeBase e f X.env (eval e X.env) = eval e X.env := by rfl) (hK : X.K = K := by rfl) : PE X (.Attribute e f pos) (tFld K ta f) := hK ▸ pe_fld he hb
theorem pg_tupK {es : List Expr} {k : Nat} {t : TGs} {n : Nat} {pos : Pos} (h : PGs X es t) (hc : X.calm = true := by rfl)
    (hn : (assignEach es X.env).length = n := by rfl) (hst : (assignEach es X.env).findIdx? (·.1) = none := by rfl) (hK : X.K = K := by rfl) : PG X (.Tuple es k pos) (gTup K n t) := hK ▸ pg_tup hc h hn hst
end
end Vx

namespace Vx
open PySem PySem.Spec PyProof.Rows L2
section
variable {α β : Type} {f : α → PyData} {g : β → PyData} {fv : α → V} {gv : β → V} {G : Hp} {vs ws : List V} {xs : List α} {ys : List β}
theorem big1 {n : Nat} (h : n ≤ 1000000) : n ≤ sizeLine := smallE h
theorem cat_len (a : RpAll G vs (xs.map f)) (b : RpAll G ws (ys.map g)) (h : xs.length + ys.length ≤ 1000000) : vs.length + ws.length ≤ sizeLine := by
  rw [a.len, b.len, List.length_map, List.length_map]; exact smallE h
theorem cat_lenM (h : xs.length + ys.length ≤ 1000000) : (xs.map fv).length + (ys.map gv).length ≤ sizeLine := by
  rw [List.length_map, List.length_map]; exact smallE h
theorem rep_len {k : Nat} (a : RpAll G vs (xs.map f)) (h : xs.length * k ≤ 1000000) : vs.length * k ≤ sizeLine := by
  rw [a.len, List.length_map]; exact smallE h
theorem rep_lenM {k : Nat} (h : xs.length * k ≤ 1000000) : (xs.map fv).length * k ≤ sizeLine := by
  rw [List.length_map]; exact smallE h
theorem app_len (a : RpAll G vs (xs.map f)) (h : xs.length ≤ 1000000) : vs.length < sizeLine := by
  rw [a.len, List.length_map]; exact small h
theorem app_lenM (h : xs.length ≤ 1000000) : (xs.map fv).length < sizeLine := by
  rw [List.length_map]; exact small h
theorem cutL_len {α : Type} (xs : List α) (lo hi : Option Int) : (cutL xs lo hi).length ≤ xs.length := by
  unfold cutL
  rw [List.length_take, List.length_drop]
  omega
theorem repL_len {α : Type} (xs : List α) (k : Int) : (repL xs k).length = k.toNat * xs.length := by
  unfold repL
  simp
end
end Vx
/-! # promises of defs that know that nothing is being shown (so that repr may be called) -/
namespace Vx
open PySem PySem.Spec PyProof.Rows L2
structure RoomG (k : Nat) (A : Around) : Prop extends Room k A where
  gd : A.guards = some []
theorem RoomG.low {j k : Nat} {A : Around} (r : RoomG k A) (h : j ≤ k) : RoomG j A := ⟨r.toRoom.mono h, r.gd⟩
theorem RoomG.one {k : Nat} {A : Around} (r : RoomG (k + 1) A) : RoomG k A.in1 := ⟨r.toRoom.in1, r.gd⟩
theorem make_gd {A : Around} (C : Addr) (us : List Value) (kw : List (Str × Value)) (h : A.guards = some []) : (A.under (.builtin "type.__call__" ⟨.ref C :: us, kw⟩)).guards = some [] := by
  obtain ⟨hd, d, fr, gs, u⟩ := A
  subst h
  simp [Around.under, Code.guards, Code.isGuard, guardIds, pushGuards]
theorem RoomG.made {k : Nat} {A : Around} (r : RoomG (k + 1) A) (C : Addr) (us : List Value) (kw : List (Str × Value)) : RoomG k (A.under (.builtin "type.__call__" ⟨.ref C :: us, kw⟩)) := ⟨r.toRoom.make C us kw, make_gd C us kw r.gd⟩
structure FnG (P : Program) (w : World) (K : PySem.W.Frag) (mg : Str → Option Value) (base : Heap) (cx : CXT) (k : Nat) (f : Addr) (fd : FuncData) (ps : List Str) (sp : Sp) : Prop where
  len : ∀ vs H Q E, sp vs H Q E → vs.length = ps.length
  run : ∀ (A : Around) (outer : List Env) (s : Shared) (H : Hp) (args : Args) (us : List Value) (vs : List V) (Q : VK) (E : XK), RoomG k A → Env0 P w K mg base A outer s H → BindsTo s fd args (ps.zip us) → Vals vs us → sp vs H Q E → codeAny (model P w) A (.call (.ref f) args) (CR cx outer P w H s Q E) s
section
variable {P : Program} {w : World} {K : PySem.W.Frag} {mg : Str → Option Value} {base : Heap} {cx : CXT} {j k : Nat} {f : Addr} {fd : FuncData} {ps : List Str} {sp sp' : Sp}
theorem FnG.imp (F : FnG P w K mg base cx k f fd ps sp) (h : ∀ vs H Q E, sp' vs H Q E → sp vs H Q E) : FnG P w K mg base cx k f fd ps sp' := ⟨fun vs H Q E q => F.len vs H Q E (h vs H Q E q), fun A o s H a us vs Q E r e b v q => F.run A o s H a us vs Q E r e b v (h vs H Q E q)⟩
/-- the body's promise is the def's -/
theorem FnG.body {x qual : Str} {params : Arguments} {body : List Stmt} {scope : Scope} {dvs : List V} {kws : List (Str × V)} {N : List Str} (F : FunD K x qual params body scope dvs kws f fd) (S : FnScope N ps scope) (len : ∀ vs H Q E, sp vs H Q E → vs.length = ps.length)
    (hb : ∀ (cdv : Value) (A : Around) (outer : List Env) (s : Shared) (H : Hp) (vs : List V) (Q : VK) (E : XK), RoomG k (A.deeper (envOfC qual scope s.heap.objs.size f cdv)) → sp vs H Q E →
      ∃ t, PSs (cxOf cx P w K mg base N qual scope f cdv A outer s H E) body t ∧ t { nx := fun _ H' => Q .non H', rt := Q } (start N vs) H) : FnG P w K mg base cx (k + 1) f fd ps sp := by
  obtain ⟨oc, od, dV, kV, doc, pm, an, cdv, ct, osl, rfl, lk, code, _, _⟩ := F.ex
  constructor
  · exact len
  · intro A outer s H args us vs Q E room env binds vals prom
    have nvs := len vs H Q E prom
    have kin : K.In s.heap := env.mod.kin.keeps fun b o q => (env.bs b o q).1
    have nolim : s.heap.NoLimit := env.mod.nolimit.keeps fun b o q => (env.bs b o q).1
    have kinds : ∀ q ∈ ps.zip us, scope.names.lookup q.1 = some .local ∨ (scope.names.lookup q.1 = some .cell ∧ ((cellsFrom (s.heap.objs.size + 1) scope.names []).lookup q.1).isSome = true) := by
      rintro ⟨n, v⟩ hq
      cases S.par n (List.of_mem_zip hq).1 with
      | inl z => exact .inl z
      | inr z => exact .inr ⟨z, PySem.W.cellsFrom_some _ _ _ (.inl z)⟩
    refine codeAny_call_function room.toRoom.depth (kin _ _ lk) rfl S.co S.gen rfl (PySem.W.codeRec_of kin code) (binds _ _ _ _ ?_)
    refine wpAny_newFunctionEnv_cells S.kind kinds ?_
    rintro _ rfl s1 made
    refine ⟨nolim.keeps made.toInCall.keep, codeAny_func ?_⟩
    obtain ⟨t, pss, start_⟩ := hb cdv A outer s H vs Q E ⟨room.toRoom.deeper _, room.gd⟩ prom
    have inv := inv_start (CX := cx) (E := E) S room.hd env nvs vals made
    have close : ∀ {τ : L2.St} {H2 : Hp} {v : V} {u : Value} {s2 : Shared}, Inv (cxOf cx P w K mg base N qual scope f cdv A outer s H E) [] τ H2 s2 → RelV v u → Q v H2 → CE outer P w H s Q u s2 := fun inv2 rel q => ⟨_, _, inv2.os, inv2.bare, inv2.base, inv2.hok, rel, q⟩
    refine wpAny_mono (pss.run [] s1 (start N vs) H _ inv start_) ?_ fun _ _ z => z
    intro flow s2 out
    cases flow with
    | next =>
      obtain ⟨τ, H2, inv2, q⟩ := out
      exact close (v := .non) (u := .none) inv2 rfl q
    | ret u =>
      obtain ⟨v, τ, H2, inv2, rel, q⟩ := out
      exact close inv2 rel q
    | brk =>
      obtain ⟨_, _, _, q⟩ := out
      exact q.elim
    | cont =>
      obtain ⟨_, _, _, q⟩ := out
      exact q.elim
/-- the same of a body that nothing leaves -/
theorem FnG.bodyN {x qual : Str} {params : Arguments} {body : List Stmt} {scope : Scope} {dvs : List V} {kws : List (Str × V)} {N : List Str} (F : FunD K x qual params body scope dvs kws f fd) (S : FnScope N ps scope) (len : ∀ vs H Q E, sp vs H Q E → vs.length = ps.length)
    (hb : ∀ (cdv : Value) (A : Around) (outer : List Env) (s : Shared) (H : Hp) (vs : List V) (Q : VK) (E : XK), RoomG k (A.deeper (envOfC qual scope s.heap.objs.size f cdv)) → sp vs H Q E →
      ∃ t, PSs (cxOf CX0 P w K mg base N qual scope f cdv A outer s H E).nox body t ∧ t { nx := fun _ H' => Q .non H', rt := Q } (start N vs) H) : FnG P w K mg base CX0 (k + 1) f fd ps sp :=
  FnG.body F S len fun cdv A outer s H vs Q E r p => by
    obtain ⟨t, h, q⟩ := hb cdv A outer s H vs Q E r p
    exact ⟨t, h.nox, q⟩
end
/-- where a law's call begins: an abstract heap that tells the script at most -/
theorem law_start {P : Program} {w : World} {K : PySem.W.Frag} {mg mb : Str → Option Value} {a : Addr} {s : Shared} {vs : List Value} {ns : List Int} (kin : K.In s.heap) (top : s.heap.Ns mainGlobals mg) (blt : s.heap.Ns builtinsNs mb) (boot : ∀ y : Str, y ≠ "__name__" → mb y = bootBuiltins y)
    (lim : s.heap.NoLimit) (gens : s.gens = #[]) (script : s.heap.get? a = some { cls := .type "list", data := .seq vs.toArray }) (whole : IntsAre vs ns) (short : ns.length ≤ sizeLine) :
    ∃ (H : Hp) (base : Heap), SqL K H a (ns.map V.int) ∧ K.In base ∧ base.Ns mainGlobals mg ∧ Env0 P w K mg base callerA [] s H ∧
      ∀ (Z : V → Prop) (u : Value) (s2 : Shared), CE [] P w H s (fun v _ => Z v) u s2 → (∃ v, RelV v u ∧ Z v) ∧ OldK s.heap s2.heap ∧ s2.os = s.os ∧ AllBare s2.gens := by
  have rel := vals_ints whole
  have lenV := whole.length
  -- any H that tells no more than the script, and that only where the written part does not hold it, will do
  have fits : ∀ H : Hp, (∀ b, H b = none ∨ ∃ o xs, H b = some (.frz o (.lst xs))) → SqL K H a (ns.map V.int) → HOk P w H s.heap → (∀ b, b ≠ a → H b = none) → (∀ o, K.lookup a = some o → H a = none) →
      ∃ (H : Hp) (base : Heap), SqL K H a (ns.map V.int) ∧ K.In base ∧ base.Ns mainGlobals mg ∧ Env0 P w K mg base callerA [] s H ∧
        ∀ (Z : V → Prop) (u : Value) (s2 : Shared), CE [] P w H s (fun v _ => Z v) u s2 → (∃ v, RelV v u ∧ Z v) ∧ OldK s.heap s2.heap ∧ s2.os = s.os ∧ AllBare s2.gens := by
    intro H only seq ok else_ apart
    have dictFree : ∀ (b : Addr) (o : Obj) (es : Array DictEntry) (n : Nat), s.heap.get? b = some o → o.data = .dict es n → H b = none := by
      intro b o es n e d
      by_cases z : b = a
      · subst z
        rw [script] at e
        injection e with e
        subst e
        cases d
      · exact else_ b z
    have nsOf : ∀ {b : Addr} {m : Str → Option Value}, s.heap.Ns b m → (hidT s.heap H).Ns b m := by
      rintro b m ⟨o, es, n, e, d, r⟩
      exact ⟨o, es, n, hidT_get e (dictFree b o es n e d), d, r⟩
    have kinB : K.In (hidT s.heap H) := by
      intro b o e
      refine hidT_get (kin b o e) ?_
      by_cases z : b = a
      · subst z
        exact apart o e
      · exact else_ b z
    obtain ⟨mc, lim1, lim2⟩ := lim
    refine ⟨H, hidT s.heap H, seq, kinB, nsOf top, ⟨rfl, ⟨kinB, nsOf top, ⟨mb, nsOf blt, boot⟩, mc, nsOf lim1, lim2⟩, fun b o e => of_hidT e, Nat.le_of_eq (hidT_size _ _), trivial, fun b hb => (nomatch (show b ∈ ([] : List Addr) from hb)), ok, .of_eq gens⟩, ?_⟩
    rintro Z u s2 ⟨v, H2, os, bare, un, ok2, r, z⟩
    refine ⟨⟨v, r, z⟩, OldK.of_keep fun b o e => ?_, os, bare⟩
    rcases only b with n | ⟨o1, xs, n⟩
    · exact un.keep b o e n (fun y => nomatch (show b ∈ ([] : List Addr) from y)) (fun y => nomatch y)
    · obtain ⟨e1, _⟩ := ok b _ n
      obtain ⟨e2, _⟩ := ok2 b _ (un.frzs b o1 _ n)
      rw [e] at e1
      injection e1 with e1
      subst e1
      exact e2
  cases kl : K.lookup a with
  | some o =>
    have e := kin a o kl
    rw [script] at e
    injection e with e
    subst e
    exact fits (fun _ => none) (fun _ => .inl rfl) (.inr ⟨_, vs.toArray, _, kl, rfl, rfl, rfl, by rw [List.size_toArray, lenV]; exact short, by simpa using rel⟩) (fun _ _ z => nomatch z) (fun _ _ => rfl) fun _ _ => rfl
  | none =>
    refine fits (fun b => if b = a then some (.frz { cls := .type "list", data := .seq vs.toArray } (.lst (ns.map V.int))) else none) ?_ (.inl (.inr ⟨_, if_pos rfl⟩)) ?_ (fun b n => if_neg n) fun o z => ?_
    · intro b
      by_cases z : b = a
      · exact .inr ⟨_, _, if_pos z⟩
      · exact .inl (if_neg z)
    · intro b u q
      by_cases z : b = a
      · subst z
        have q := (if_pos rfl).symm.trans q
        injection q with q
        subst q
        exact ⟨script, by rw [List.length_map]; exact short, vs, _, rel, script⟩
      · have q := (if_neg z).symm.trans q
        cases q
    · rw [kl] at z
      cases z
/-- the goal that the head leaves, from the law's promise; the script's numbers have at most 2 ^ 20 bits -/
theorem walkG {l : PySem.W.OpenLaw} {n k : Nat} {q : Program} {loose : List Str} {XP : (Str → Option Value) → Heap → Prop} {YP : World → Heap → Prop} {d : DefRec} {K : Params → PySem.W.Frag} {x : Str} (hn : l.most = some n) (hn2 : n ≤ sizeLine) (hdf : d.params.defaults = []) (room : Room k callerA)
    (hY : ∀ (w : World) (h : Heap), YP w h → (K w.params).In h)
    (F : ∀ (w : World) (mg : Str → Option Value) (fa : Addr) (h : Heap), (K w.params).In h → h.Ns mainGlobals mg → mg d.name = some (.ref fa) →
      ∃ fd : FuncData, (∀ (s : Shared) (u : Value), BindsTo s fd ⟨[u], []⟩ [(x, u)]) ∧ ∀ base : Heap, (K w.params).In base → base.Ns mainGlobals mg → FnG l.prog w (K w.params) mg base CX0 k fa fd [x] (fun vs H Q _ => ∃ (a : Addr) (ns : List Int), vs = [.ref a] ∧ SqL (K w.params) H a (ns.map V.int) ∧ ns.length ≤ n ∧ ∀ H', Q (.bl true) H')) :
    PySem.W.WalkO q loose XP YP l.row.toRowW d [] (fun f vs => PySem.call f vs) := by
  refine Att.attach_call hn hdf ?_
  intro w s₀ s₁ mg mb fa o pm cd doc a vs ns G Y _ _ _ hmg script whole short gens
  have kin := hY w _ Y
  obtain ⟨fd, bind, prom⟩ := F w mg fa _ kin G.T.g hmg
  obtain ⟨H, base, seq, kinB, nsB, env, fin⟩ := law_start (P := l.prog) (w := w) kin G.T.g G.T.b G.T.builtins G.T.nolimit gens script whole (Nat.le_trans short hn2)
  refine codeAny_mono ((prom base kinB nsB).run callerA [] s₁ H ⟨[.ref a], []⟩ [.ref a] [.ref a] (fun v _ => v = .bl true) (fun _ _ _ => False) ⟨room, rfl⟩ env (bind s₁ (.ref a)) (.cons rfl .nil) ⟨a, ns, rfl, seq, short, fun _ => rfl⟩) ?_
  intro r s2 out
  cases r with
  | error e => exact out.elim
  | ok flow =>
    cases flow with
    | ret u =>
      obtain ⟨⟨v, rv, z⟩, h1, h2, h3⟩ := fin (fun v => v = .bl true) u s2 out
      subst z
      obtain rfl : u = Value.bool true := rv
      exact ⟨rfl, h1, h2, h3⟩
    | next => exact out.elim
    | brk => exact out.elim
    | cont => exact out.elim
end Vx
/-! # third part: what a def computes, as a plain function with refusals -/
namespace Vx
open PySem PySem.Spec PyProof.Rows L2
inductive Rx (α : Type) where
  | ok (a : α)
  | er (e : Nat)
  | bad
def Rx.bind {α β : Type} (m : Rx α) (f : α → Rx β) : Rx β :=
  match m with
  | .ok a => f a
  | .er e => .er e
  | .bad => .bad
/-- what is wanted of an outcome -/
@[irreducible] def cW {α : Type} (m : Rx α) (K : α → Prop) (E : Nat → Prop) : Prop :=
  match m with
  | .ok a => K a
  | .er e => E e
  | .bad => False
def grd {α : Type} (p : Prop) [Decidable p] (m : Rx α) : Rx α := if p then m else .bad
/-- within a comprehension nothing may be raised -/
def noEr {α : Type} (m : Rx α) : Rx α :=
  match m with
  | .ok a => .ok a
  | _ => .bad
/-- what the clause does not name may not come -/
def tryR {α β : Type} (m : Rx α) (cs : List Nat) (f : α → Rx β) (h : Nat → Rx β) : Rx β :=
  match m with
  | .ok a => f a
  | .er e => if e ∈ cs then h e else .bad
  | .bad => .bad
def bnd {α β : Type} (a : α) (f : α → Rx β) : Rx β := f a
inductive Lp (σ ρ : Type) where
  | go (s : σ)
  | bk (s : σ)
  | rt (r : ρ)
def Lp.aft {σ ρ τ : Type} (l : Lp σ ρ) (kr : ρ → Rx τ) (k : σ → Rx τ) : Rx τ :=
  match l with
  | .go s => k s
  | .bk s => k s
  | .rt r => kr r
def forS {σ α : Type} : List α → σ → (σ → α → Rx σ) → Rx σ
  | [], s, _ => .ok s
  | x :: r, s, f => (f s x).bind fun s' => forS r s' f
def forR {σ α ρ : Type} : List α → σ → (σ → α → Rx (Lp σ ρ)) → Rx (Lp σ ρ)
  | [], s, _ => .ok (.go s)
  | x :: r, s, f => (f s x).bind fun l =>
    match l with
    | .go s' => forR r s' f
    | .bk s' => .ok (.go s')
    | .rt v => .ok (.rt v)
def whileR {σ ρ : Type} : Nat → σ → (σ → Rx (Lp σ ρ)) → Rx (Lp σ ρ)
  | 0, _, _ => .bad
  | n + 1, s, f => (f s).bind fun l =>
    match l with
    | .go s' => whileR n s' f
    | .bk s' => .ok (.go s')
    | .rt v => .ok (.rt v)
def mapA {α β : Type} : List α → List β → (α → Rx β) → Rx (List β)
  | [], acc, _ => .ok acc
  | x :: r, acc, f => grd (acc.length ≤ 1000000) ((f x).bind fun y => mapA r (acc ++ [y]) f)
def mapF {α β : Type} : List α → List β → (α → Rx (Option β)) → Rx (List β)
  | [], acc, _ => .ok acc
  | x :: r, acc, f => grd (acc.length ≤ 1000000) ((f x).bind fun y =>
    match y with
    | some z => mapF r (acc ++ [z]) f
    | none => mapF r acc f)
section
variable {α β γ σ ρ τ : Type} {K : α → Prop} {E : Nat → Prop}
theorem cW_ok {a : α} (h : cW (.ok a) K E) : K a := by
  unfold cW at h
  exact h
theorem cW_er {e : Nat} (h : cW (.er e : Rx α) K E) : E e := by
  unfold cW at h
  exact h
theorem cW_bad {C : Prop} (h : cW (.bad : Rx α) K E) : C := by
  unfold cW at h
  exact h.elim
theorem cW_mk {a : α} (h : K a) : cW (.ok a) K E := by
  unfold cW
  exact h
theorem cW_mkE {e : Nat} (h : E e) : cW (.er e : Rx α) K E := by
  unfold cW
  exact h
theorem cW_gen {m : Rx α} (h : cW m K E) : ∃ (K' : α → Prop) (E' : Nat → Prop), (∀ v, K' v → K v) ∧ (∀ e, E' e → E e) ∧ cW m K' E' := ⟨K, E, fun _ x => x, fun _ x => x, h⟩
theorem cW_grd {p : Prop} {dp : Decidable p} {m : Rx α} (h : cW (grd p m) K E) : p ∧ cW m K E := by
  unfold grd at h
  split at h
  · exact ⟨‹p›, h⟩
  · exact cW_bad h
theorem cW_pos {p : Prop} {dp : Decidable p} {a b : Rx α} (c : p) (h : cW (if p then a else b) K E) : cW a K E := by rwa [if_pos c] at h
theorem cW_neg {p : Prop} {dp : Decidable p} {a b : Rx α} (c : ¬ p) (h : cW (if p then a else b) K E) : cW b K E := by rwa [if_neg c] at h
theorem cW_call {m : Rx β} {f : β → Rx α} {K2 : β → Prop} {E2 : Nat → Prop} (h : cW (m.bind f) K E) (ho : ∀ v, cW (f v) K E → K2 v) (he : ∀ e, E e → E2 e) : cW m K2 E2 := by
  cases m with
  | ok a => exact cW_mk (ho a h)
  | er e => exact cW_mkE (he e (cW_er (α := α) h))
  | bad => exact cW_bad (α := α) h
theorem cW_push {m : Rx β} {f : β → Rx α} (h : cW (m.bind f) K E) : ∃ K2 : β → Prop, (∀ v, K2 v → cW (f v) K E) ∧ cW m K2 E := ⟨fun v => cW (f v) K E, fun _ x => x, cW_call h (fun _ x => x) fun _ x => x⟩
theorem cW_name {m : Rx α} (h : cW m K E) : ∃ K' : α → Prop, (∀ v, K' v → K v) ∧ cW m K' E := ⟨K, fun _ x => x, h⟩
theorem cW_noEr {m : Rx α} (h : cW (noEr m) K E) : cW m K (fun _ => False) := by
  cases m with
  | ok a => exact cW_mk (cW_ok (α := α) h)
  | er e => exact cW_bad (α := α) h
  | bad => exact cW_bad (α := α) h
theorem cW_try {m : Rx β} {cs : List Nat} {f : β → Rx α} {g : Nat → Rx α} {K2 : β → Prop} {E2 : Nat → Prop} (h : cW (tryR m cs f g) K E) (ho : ∀ v, cW (f v) K E → K2 v) (hc : ∀ e, e ∈ cs → cW (g e) K E → E2 e) : cW m K2 E2 := by
  cases m with
  | ok a => exact cW_mk (ho a h)
  | er e =>
    have h2 : cW (if e ∈ cs then g e else .bad) K E := h
    by_cases q : e ∈ cs
    · exact cW_mkE (hc e q (cW_pos q h2))
    · exact cW_bad (cW_neg q h2)
  | bad => exact cW_bad (α := α) h
theorem cW_bnd {a : β} {f : β → Rx α} (h : cW (bnd a f) K E) : cW (f a) K E := h
theorem cW_negB {b : Bool} {x y : Rx α} (c : b = false) (h : cW (if b = true then x else y) K E) : cW y K E := cW_neg (by rw [c]; decide) h
theorem cW_forS {xs : List β} {i : Nat} {x : β} {s : α} {f : α → β → Rx α} (hx : xs[i]? = some x) (h : cW (forS (xs.drop i) s f) K E) : cW (f s x) (fun s' => cW (forS (xs.drop (i + 1)) s' f) K E) E := by
  rw [List.drop_eq_getElem?_toList_append, hx] at h
  exact cW_call h (fun _ z => z) fun _ z => z
theorem cW_forS0 {xs : List β} {n : Nat} {s : α} {f : α → β → Rx α} (hn : n = xs.length) (h : cW (forS (xs.drop n) s f) K E) : K s := by
  subst hn
  rw [List.drop_length] at h
  exact cW_ok h
theorem cW_forR {K : Lp σ ρ → Prop} {xs : List β} {i : Nat} {x : β} {s : σ} {f : σ → β → Rx (Lp σ ρ)} (hx : xs[i]? = some x) (h : cW (forR (xs.drop i) s f) K E) :
    cW (f s x) (fun l => match l with | .go s' => cW (forR (xs.drop (i + 1)) s' f) K E | .bk s' => K (.go s') | .rt v => K (.rt v)) E := by
  rw [List.drop_eq_getElem?_toList_append, hx] at h
  refine cW_call h (fun l z => ?_) fun _ z => z
  cases l with
  | go s' => exact z
  | bk s' => exact cW_ok (K := K) (a := .go s') z
  | rt v => exact cW_ok (K := K) (a := .rt v) z
theorem cW_forR0 {K : Lp σ ρ → Prop} {xs : List β} {n : Nat} {s : σ} {f : σ → β → Rx (Lp σ ρ)} (hn : n = xs.length) (h : cW (forR (xs.drop n) s f) K E) : K (.go s) := by
  subst hn
  rw [List.drop_length] at h
  exact cW_ok h
theorem cW_whileR {K : Lp σ ρ → Prop} {m : Nat} {s : σ} {f : σ → Rx (Lp σ ρ)} (h : cW (whileR m s f) K E) :
    ∃ n, m = n + 1 ∧ cW (f s) (fun l => match l with | .go s' => cW (whileR n s' f) K E | .bk s' => K (.go s') | .rt v => K (.rt v)) E := by
  cases m with
  | zero => exact cW_bad h
  | succ n =>
    refine ⟨n, rfl, cW_call h (fun l z => ?_) fun _ z => z⟩
    cases l with
    | go s' => exact z
    | bk s' => exact cW_ok (K := K) (a := .go s') z
    | rt v => exact cW_ok (K := K) (a := .rt v) z
theorem cW_mapA {K : List α → Prop} {xs : List β} {acc : List α} {i : Nat} {x : β} {f : β → Rx α} (hx : xs[i]? = some x) (h : cW (mapA (xs.drop i) acc f) K E) :
    acc.length ≤ 1000000 ∧ cW (f x) (fun y => cW (mapA (xs.drop (i + 1)) (acc ++ [y]) f) K E) E := by
  rw [List.drop_eq_getElem?_toList_append, hx] at h
  obtain ⟨z, h⟩ := cW_grd h
  exact ⟨z, cW_call h (fun _ z => z) fun _ z => z⟩
theorem cW_mapA0 {K : List α → Prop} {xs : List β} {acc : List α} {n : Nat} {f : β → Rx α} (hn : n = xs.length) (h : cW (mapA (xs.drop n) acc f) K E) : K acc := by
  subst hn
  rw [List.drop_length] at h
  exact cW_ok h
theorem cW_mapF {K : List α → Prop} {xs : List β} {acc : List α} {i : Nat} {x : β} {f : β → Rx (Option α)} (hx : xs[i]? = some x) (h : cW (mapF (xs.drop i) acc f) K E) :
    acc.length ≤ 1000000 ∧ cW (f x) (fun y => match y with | some z => cW (mapF (xs.drop (i + 1)) (acc ++ [z]) f) K E | none => cW (mapF (xs.drop (i + 1)) acc f) K E) E := by
  rw [List.drop_eq_getElem?_toList_append, hx] at h
  obtain ⟨z, h⟩ := cW_grd h
  refine ⟨z, cW_call h (fun y z => ?_) fun _ z => z⟩
  cases y with
  | none => exact z
  | some w => exact z
theorem cW_mapF0 {K : List α → Prop} {xs : List β} {acc : List α} {n : Nat} {f : β → Rx (Option α)} (hn : n = xs.length) (h : cW (mapF (xs.drop n) acc f) K E) : K acc := by
  subst hn
  rw [List.drop_length] at h
  exact cW_ok h
end
/-- the numbers of a range -/
def rng (lo : Int) (n : Nat) : List Int := (List.range n).map fun (j : Nat) => lo + (j : Int)
theorem rng_get {lo : Int} {n i : Nat} (h : i < n) : (rng lo n)[i]? = some (lo + (i : Int)) := by
  unfold rng
  rw [List.getElem?_map, List.getElem?_range h] <;> rfl
theorem rng_len (lo : Int) (n : Nat) : (rng lo n).length = n := by
  unfold rng
  rw [List.length_map, List.length_range]

def rngD (lo : Int) (n : Nat) : List Int := (List.range n).map fun (j : Nat) => lo + (j : Int) * (-1)
theorem rngD_get {lo : Int} {n i : Nat} (h : i < n) : (rngD lo n)[i]? = some (lo + (i : Int) * (-1)) := by
  unfold rngD
  rw [List.getElem?_map, List.getElem?_range h] <;> rfl
theorem rngD_len (lo : Int) (n : Nat) : (rngD lo n).length = n := by
  unfold rngD
  rw [List.length_map, List.length_range]

/-! ### calls that may raise -/
/-- what a call with n values and keywords ks gives the parameters -/
structure Bnd (K : PySem.W.Frag) (fd : FuncData) (ps : List Str) (n : Nat) (ks : List Str) (g : List V → List V → List V) : Prop where
  to : ∀ (s : Shared) (us ws : List Value) (vs zs : List V), K.In s.heap → vs.length = n → zs.length = ks.length → Vals vs us → Vals zs ws → ∃ vv : List Value, BindsTo s fd ⟨us, ks.zip ws⟩ (ps.zip vv) ∧ Vals (g vs zs) vv
theorem Bnd.of_kbn {K : PySem.W.Frag} {fd : FuncData} {ps ks : List Str} {n : Nat} {g : List Value → List Value → List Value} {gV : List V → List V → List V} (b : KBn K fd ps n ks g gV) : Bnd K fd ps n ks gV :=
  ⟨fun s us ws vs zs X l1 l2 r rz => ⟨g us ws, b.to s us ws X (r.length.symm.trans l1) (rz.length.symm.trans l2), b.rel r rz⟩⟩
theorem Bnd.all {K : PySem.W.Frag} {fd : FuncData} {ps ks : List Str} {n : Nat} {g : List V → List V → List V} (h : ∀ (us ws : List Value) (vs zs : List V), vs.length = n → zs.length = ks.length → Vals vs us → Vals zs ws →
    ∃ vv : List Value, bindArgs fd ⟨us, ks.zip ws⟩ = pure (ps.zip vv) ∧ Vals (g vs zs) vv) : Bnd K fd ps n ks g :=
  ⟨fun s us ws vs zs _ l1 l2 r rz => by
    obtain ⟨vv, e, q⟩ := h us ws vs zs l1 l2 r rz
    exact ⟨vv, BindsTo.of_eq e, q⟩⟩
abbrev Pat := Nat × List Str × (List V → List V → List V)
def Bnd1 (K : PySem.W.Frag) (fd : FuncData) (ps : List Str) (p : Pat) : Prop := Bnd K fd ps p.1 p.2.1 p.2.2
section
variable {P : Program} {w : World} {K : PySem.W.Frag} {mg : Str → Option Value} {base : Heap}
/-- a def of the top, with the ways it is called -/
structure DefX (K : PySem.W.Frag) (mg : Str → Option Value) (x : Str) (st : Stmt) (ps : List Str) (pats : List Pat) : Prop where
  ex : ∃ (f : Addr) (fd : FuncData) (dvs : List V) (kws : List (Str × V)), FunD K x x (defArgs st) (defBody st) (defScope st) dvs kws f fd ∧ mg x = some (.ref f) ∧ ∀ p ∈ pats, Bnd1 K fd ps p
structure CalX (P : Program) (w : World) (K : PySem.W.Frag) (mg : Str → Option Value) (base : Heap) (k : Nat) (x : Str) (sp : Sp) (pats : List Pat) : Prop where
  ex : ∃ (f : Addr) (fd : FuncData) (ps : List Str), FnG P w K mg base (L2.CX P w) k f fd ps sp ∧ mg x = some (.ref f) ∧ PySem.W.keepIn K (.ref f) = true ∧ ∀ p ∈ pats, Bnd1 K fd ps p
abbrev BodyX (P : Program) (w : World) (K : PySem.W.Frag) (mg : Str → Option Value) (base : Heap) (x : Str) (st : Stmt) (N : List Str) (k : Nat) (sp : Sp) : Prop :=
  ∀ (f : Addr) (cdv : Value) (A : Around) (outer : List Env) (s : Shared) (H : Hp) (vs : List V) (Q : VK) (E : XK), RoomG k (A.deeper (envOfC x (defScope st) s.heap.objs.size f cdv)) → sp vs H Q E →
    ∃ t, PSs (cxOf (L2.CX P w) P w K mg base N x (defScope st) f cdv A outer s H E) (defBody st) t ∧ t { nx := fun _ H' => Q .non H', rt := Q } (start N vs) H
theorem DefX.ok {x : Str} {st : Stmt} {N ps : List Str} {pats : List Pat} {k : Nat} {sp : Sp} (D : DefX K mg x st ps pats) (S : FnScope N ps (defScope st)) (len : ∀ vs H Q E, sp vs H Q E → vs.length = ps.length)
    (hbody : BodyX P w K mg base x st N k sp) : CalX P w K mg base (k + 1) x sp pats := by
  obtain ⟨f, fd, dvs, kws, F, hm, b⟩ := D.ex
  exact ⟨f, fd, ps, FnG.body F S len (fun cdv A outer s H vs Q E hr h => hbody f cdv A outer s H vs Q E hr h), hm, F.kp, b⟩
end
section
variable {X : Cx} {k j n : Nat} {f : Addr} {fd : FuncData} {ps ks : List Str} {g : List V → List V → List V} {sp : Sp} {x : Str} {pos p : Pos} {e : Expr} {es : List Expr} {kws : List Keyword} {t tk : TA} {W : WX}
theorem run_X {pins : List (Addr × Obj)} {σ : L2.St} {H : Hp} {s : Shared} {Q : VK} {us ws : List Value} {vs zs : List V} (F : FnG X.prog X.w X.K X.mg X.base (L2.CX X.prog X.w) k f fd ps sp) (hr : RoomG k X.A) (hb : Bnd X.K fd ps n ks g) (tkW : Takes X W)
    (I : Inv X pins σ H s) (r : Vals vs us) (rz : Vals zs ws) (l1 : vs.length = n) (l2 : zs.length = ks.length) (h : sp (g vs zs) H Q (WE W σ)) :
    wpAny (model X.prog X.w) X.A (call (.ref f) us (ks.zip ws)) (EP X pins σ Q) X.xe s := by
  obtain ⟨vv, b, r2⟩ := hb.to s us ws vs zs I.kIn l1 l2 r rz
  refine wpAny_call (codeAny_mono (F.run X.A X.stack s H ⟨us, ks.zip ws⟩ vv (g vs zs) Q (WE W σ) hr I.env0 b r2 h) fun rr s' hq => ?_)
  cases rr with
  | error er => exact passAt tkW σ pins H s er s' I hq
  | ok fl =>
    cases fl with
    | ret u => exact I.after hq
    | next => exact hq.elim
    | brk => exact hq.elim
    | cont => exact hq.elim
/-- f(e, .., k = v, ..) -/
def tCallX (n m : Nat) (sp : Sp) (g : List V → List V → List V) (W : WX) (t tk : TA) : TE := fun σ H Q => t σ H fun vs H1 => tk σ H1 fun zs H2 => vs.length = n ∧ zs.length = m ∧ sp (g vs zs) H2 Q (WE W σ)
theorem vx_callX {pats : List Pat} (c : CalX X.prog X.w X.K X.mg X.base k x sp pats) (pt : Pat) (hpt : pt ∈ pats) (hr : RoomG j X.A) (hk : k ≤ j) (tkW : Takes X W) (hg : Gl X x) (ha : PA X (e :: es) t) (hkw : PK X kws tk)
    (hall : (backToKw pos (keywordEach kws X.env)).all (·.1.isSome) = true := by rfl) (hks : (backToKw pos (keywordEach kws X.env)).filterMap (·.1) = pt.2.1 := by rfl)
    (hdb : (x == ("__debug__" : Str)) = false := by decide) (he : starEach (e :: es) X.env = (false, eval e X.env) :: starEach es X.env := by rfl)
    (hpl : ((backTo pos (starEach (e :: es) X.env)).any (·.1) || (backToKw pos (keywordEach kws X.env)).any (·.1.isNone)) = false := by rfl) :
    PE X (.Call (.Name x p) (e :: es) kws pos) (tCallX pt.1 pt.2.1.length sp pt.2.2 W t tk) := by
  obtain ⟨f, fd, ps, F, hm, kp, b⟩ := c.ex
  refine ⟨fun pins s σ H Q I h => ?_⟩
  refine wpAny_Call_Name_kw (ld_glob I hg hm ?_ hdb)
  refine PySem.W.callWith_KW (h₀ := X.base) I.ok.mod.kin kp hall (thn (ha.run pos pins s σ H _ I h) fun us s1 ⟨vs, H1, I1, r, q⟩ => ?_) hpl he
  refine thn (hkw.run pos pins s1 σ H1 _ I1 q) fun ws s2 ⟨zs, H2, I2, rz, l1, l2, q2⟩ => ⟨I2.kIn, ?_⟩
  rw [hks]
  exact run_X F (hr.low hk) (b pt hpt) tkW I2 r rz l1 l2 q2
theorem vx_callX0 {pats : List Pat} (c : CalX X.prog X.w X.K X.mg X.base k x sp pats) (pt : Pat) (hpt : pt ∈ pats) (hr : RoomG j X.A) (hk : k ≤ j) (tkW : Takes X W) (hg : Gl X x) (hks : pt.2.1 = [] := by rfl)
    (hdb : (x == ("__debug__" : Str)) = false := by decide) : PE X (.Call (.Name x p) [] [] pos) (tCallX pt.1 pt.2.1.length sp pt.2.2 W tNil tNil) := by
  obtain ⟨f, fd, ps, F, hm, kp, b⟩ := c.ex
  refine ⟨fun pins s σ H Q I h => ?_⟩
  refine wpAny_Call_Name_kw (ld_glob I hg hm ?_ hdb)
  obtain ⟨l1, l2, q2⟩ := h
  have hz := run_X (us := []) (ws := []) F (hr.low hk) (b pt hpt) tkW I .nil .nil l1 l2 q2
  rw [hks] at hz
  exact PySem.W.callWith_K0 I.kIn kp hz
end
/-! ### borrowed things -/
theorem Sep.bM {M : List Addr} {H0 G0 G H : Hp} {O : List (Addr)} (S : Sep M H0 G0 G H O) : Same (hideL M H0) H := fun b o e => by
  by_cases h : b ∈ M
  · rw [hideL_in h] at e
    cases e
  · rw [hideL_out h] at e
    exact S.base b o e h
theorem b_ne {M : List Addr} {H0 G0 G H : Hp} {O : List Addr} {a b : Addr} {o : HO} (h : (hideL M H0) a = some o) (S : Sep M H0 G0 G H O) (hb : b ∈ O) : a ≠ b := fun z => by
  subst z
  rcases (S.ow a hb).2.2 with q | q
  · rw [hideL_in q] at h
    cases h
  · by_cases hM : a ∈ M
    · rw [hideL_in hM] at h
      cases h
    · rw [hideL_out hM, q] at h
      cases h
theorem hide0 {H : Hp} : hideL [] H = H := by
  funext b
  unfold hideL
  rw [if_neg List.not_mem_nil]
theorem hide_nil {H : Hp} {a : Addr} {o : HO} (h : H a = some o) : (hideL [] H) a = some o := by
  rw [hide0]
  exact h
theorem Rp.hide_nil {H : Hp} {v : V} {d : PyData} (h : Rp H v d) : Rp (hideL [] H) v d := by
  rw [hide0]
  exact h
theorem Sep.startM {M : List Addr} {G H : Hp} (e : Same G H) (hM : ∀ a ∈ M, H a ≠ none) (hG : ∀ a ∈ M, G a = none) : Sep M H G G H M :=
  ⟨fun _ _ e _ => e, hM, e, Same.refl _, fun _ _ e => e, fun a ha => ⟨hG a ha, hM a ha, .inl ha⟩⟩
theorem Sep.gno {M : List Addr} {H0 G0 G H : Hp} {O L : List Addr} (S : Sep M H0 G0 G H O) (h : ∀ a ∈ L, a ∈ O) : ∀ a ∈ L, G a = none := fun a ha => (S.ow a (h a ha)).1
theorem RpAll.ixD {α : Type} [Inhabited α] {f : α → PyData} {H : Hp} {vs : List V} {xs : List α} {k : Int} (r : RpAll H vs (xs.map f)) (h : -(xs.length : Int) ≤ k ∧ k < xs.length) : ∃ v, atI vs k = some v ∧ Rp H v (f (itD xs k)) := by
  obtain ⟨v, x, h1, h2, h3⟩ := RpAll.ix r h
  refine ⟨v, h1, ?_⟩
  unfold itD
  rw [h2]
  exact h3
theorem tru_all {α : Type} [DecidableEq α] {f : α → PyData} {H : Hp} {vs : List V} {xs : List α} (r : RpAll H vs (xs.map f)) : (!decide (xs = [])) = !vs.isEmpty := by
  have h := r.len
  rw [List.length_map] at h
  cases xs <;> cases vs <;> simp_all
theorem ix_nn {α : Type} {xs : List α} {k : Int} (h0 : 0 ≤ k) (h1 : k < xs.length) : -(xs.length : Int) ≤ k ∧ k < xs.length := ⟨by omega, h1⟩
theorem all_nilQ {α : Type} {P : α → Prop} : ∀ x ∈ ([] : List α), P x := fun x h => by cases h
theorem all_consQ {α : Type} {P : α → Prop} {a : α} {l : List α} (h : P a) (t : ∀ x ∈ l, P x) : ∀ x ∈ a :: l, P x := fun x hx => by
  rcases List.mem_cons.mp hx with rfl | hx
  · exact h
  · exact t x hx
theorem mem_one {a b : Nat} (h : a ∈ [b]) : a = b := by simpa using h
theorem mem_cons2 {a b : Nat} {l : List Nat} (h : a ∈ b :: l) : a = b ∨ a ∈ l := List.mem_cons.mp h
theorem len0 {α : Type} {l : List α} (h : l.length = 0) : l = [] := List.length_eq_zero_iff.mp h
theorem len1 {α : Type} {l : List α} (h : l.length = 1) : ∃ a, l = [a] := List.length_eq_one_iff.mp h
theorem len_s {α : Type} {l : List α} {n : Nat} (h : l.length = n + 1) : ∃ a r, l = a :: r ∧ r.length = n := by
  cases l with
  | nil => cases h
  | cons a r => exact ⟨a, r, rfl, Nat.succ.inj h⟩
theorem len2 {α : Type} {l : List α} (h : l.length = 2) : ∃ a b, l = [a, b] := by
  obtain ⟨a, r, rfl, h2⟩ := len_s h
  obtain ⟨b, rfl⟩ := len1 h2
  exact ⟨a, b, rfl⟩
theorem len3 {α : Type} {l : List α} (h : l.length = 3) : ∃ a b c, l = [a, b, c] := by
  obtain ⟨a, r, rfl, h2⟩ := len_s h
  obtain ⟨b, c, rfl⟩ := len2 h2
  exact ⟨a, b, c, rfl⟩
theorem len4 {α : Type} {l : List α} (h : l.length = 4) : ∃ a b c d, l = [a, b, c, d] := by
  obtain ⟨a, r, rfl, h2⟩ := len_s h
  obtain ⟨b, c, d, rfl⟩ := len3 h2
  exact ⟨a, b, c, d, rfl⟩
theorem len5 {α : Type} {l : List α} (h : l.length = 5) : ∃ a b c d e, l = [a, b, c, d, e] := by
  obtain ⟨a, r, rfl, h2⟩ := len_s h
  obtain ⟨b, c, d, e, rfl⟩ := len4 h2
  exact ⟨a, b, c, d, e, rfl⟩
theorem len6 {α : Type} {l : List α} (h : l.length = 6) : ∃ a b c d e f, l = [a, b, c, d, e, f] := by
  obtain ⟨a, r, rfl, h2⟩ := len_s h
  obtain ⟨b, c, d, e, f, rfl⟩ := len5 h2
  exact ⟨a, b, c, d, e, f, rfl⟩
theorem len7 {α : Type} {l : List α} (h : l.length = 7) : ∃ a b c d e f g, l = [a, b, c, d, e, f, g] := by
  obtain ⟨a, r, rfl, h2⟩ := len_s h
  obtain ⟨b, c, d, e, f, g, rfl⟩ := len6 h2
  exact ⟨a, b, c, d, e, f, g, rfl⟩
def rLenTK (K : PySem.W.Frag) : List V → Hp → VK → Prop := fun xs H Q => ∃ (p : Addr) (vs : List V) (n : Nat), xs = [.ref p] ∧ SqT K H p vs ∧ vs.length = n ∧ Q (.int (n : Int)) H
theorem call_lenTK {X : Cx} {K : PySem.W.Frag} (hK : X.K = K := by rfl) : CallR X (.builtin "len") (rLenTK K) := by
  subst hK
  intro pins s σ H xs us Q I r h
  obtain ⟨p, vs, n, rfl, hs, hn, q⟩ := h
  exact call_len_seq pins s σ H _ us Q I r ⟨p, _, rfl, Or.inr hs, by rw [hn]; exact q⟩
theorem exm_mk {K : PySem.W.Frag} {S C : Addr} (h1 : PySem.W.subIn K (.ref C) (.type "BaseException") = some true) (h2 : PySem.W.isClsIn K C = true) (h3 : PySem.W.typeIn K (.ref C) = some (.type "type")) (h4 : PySem.W.subIn K (.ref S) (.ref C) = some true) :
    PySem.W.exmOne K (.ref S) (.ref C) = some true := by
  unfold PySem.W.isClsIn at h2
  unfold PySem.W.exmOne
  unfold PySem.W.kitCls
  simp only [h1, h2, h3, h4, beq_self_eq_true, Bool.and_self, if_true]
theorem kit_mk {K : PySem.W.Frag} {S C : Addr} (h2 : PySem.W.isClsIn K C = true) (h3 : PySem.W.typeIn K (.ref C) = some (.type "type")) (h4 : PySem.W.subIn K (.ref S) (.ref C) = some true) :
    PySem.W.kitOne K (.ref S) (.ref C) = some true := by
  unfold PySem.W.isClsIn at h2
  unfold PySem.W.kitOne
  split
  · rfl
  · unfold PySem.W.kitCls
    simp only [h2, h3, h4, beq_self_eq_true, Bool.and_self, if_true]
/-- isinstance(e, C) of the exception in hand -/
def rIsX (K : PySem.W.Frag) (a : Addr) (cls : Value) (d : Option Addr) : List V → Hp → VK → Prop := fun xs H Q => ∃ (D C : Addr) (b : Bool), cls = .ref D ∧ d = none ∧ ExcC K D ∧ xs = [.ref a, .ref C] ∧ PySem.W.kitOne K (.ref D) (.ref C) = some b ∧ Q (.bl b) H
theorem call_isX {X : Cx} {K : PySem.W.Frag} {a : Addr} {cls : Value} {d : Option Addr} {oe : Obj} {pn : List (Addr × Obj)} (hz : Zc cls d oe) (hf : ∃ vs, oe.data = .fields vs) (hK : X.K = K := by rfl) : CallR (X.suite a ((a, oe) :: pn)) (.builtin "isinstance") (rIsX K a cls d) := by
  subst hK
  intro pins s σ H xs us Q I r h
  obtain ⟨D, C, b, rfl, rfl, c, rfl, e, q⟩ := h
  exact call_isE c hz hf pins s σ H _ us Q I r ⟨_, _, b, rfl, fun u z => z, e, q⟩
/-! ### unpacking a list -/
section
variable {X : Cx} {K : PySem.W.Frag} {pos : Pos}
theorem pg_seqK {es : List Expr} {k : Nat} {t : TGs} {n : Nat} (h : PGs X es t) (hc : X.calm = true := by rfl) (hK : X.K = K := by rfl)
    (hn : (assignEach es X.env).length = n := by rfl) (hst : (assignEach es X.env).findIdx? (·.1) = none := by rfl) : PG X (.Tuple es k pos) (gLst K n t) := hK ▸ pg_lst hc h hn hst
end
theorem SqL.cast {K : PySem.W.Frag} {H : Hp} {a : Addr} {xs ys : List V} (h : SqL K H a xs) (e : xs = ys) : SqL K H a ys := e ▸ h
section
variable {α : Type} [Inhabited α] {f : α → V}
theorem unp2 {xs : List α} (h : xs.length = 2) : xs.map f = [f (itD xs 0), f (itD xs 1)] := by
  obtain ⟨a, b, rfl⟩ := len2 h
  rfl
theorem unp3 {xs : List α} (h : xs.length = 3) : xs.map f = [f (itD xs 0), f (itD xs 1), f (itD xs 2)] := by
  obtain ⟨a, b, c, rfl⟩ := len3 h
  rfl
theorem unp4 {xs : List α} (h : xs.length = 4) : xs.map f = [f (itD xs 0), f (itD xs 1), f (itD xs 2), f (itD xs 3)] := by
  obtain ⟨a, b, c, d, rfl⟩ := len4 h
  rfl
theorem unp6 {xs : List α} (h : xs.length = 6) : xs.map f = [f (itD xs 0), f (itD xs 1), f (itD xs 2), f (itD xs 3), f (itD xs 4), f (itD xs 5)] := by
  obtain ⟨a, b, c, d, e, g, rfl⟩ := len6 h
  rfl
theorem unp8 {xs : List α} (h : xs.length = 8) : xs.map f = [f (itD xs 0), f (itD xs 1), f (itD xs 2), f (itD xs 3), f (itD xs 4), f (itD xs 5), f (itD xs 6), f (itD xs 7)] := by
  obtain ⟨a, r, rfl, h2⟩ := len_s h
  obtain ⟨b, c, d, e, g, i, j, rfl⟩ := len7 h2
  rfl
end
/-! ### classes -/
section
variable {P : Program} {w : World} {K : PySem.W.Frag} {mg : Str → Option Value} {base : Heap}
structure MethX (K : PySem.W.Frag) (C : Addr) (q m : Str) (st : Stmt) (ps : List Str) (pats : List Pat) : Prop where
  ex : ∃ (f : Addr) (fd : FuncData) (dvs : List V) (kws : List (Str × V)), FunD K m q (defArgs st) (defBody st) (defScope st) dvs kws f fd ∧ Meth K C m f ∧ ∀ p ∈ pats, Bnd1 K fd ps p
structure InitX (K : PySem.W.Frag) (mg : Str → Option Value) (C : Addr) (cn q : Str) (st : Stmt) (ps : List Str) (pats : List Pat) : Prop where
  ex : ∃ (f : Addr) (fd : FuncData) (dvs : List V) (kws : List (Str × V)), FunD K "__init__" q (defArgs st) (defBody st) (defScope st) dvs kws f fd ∧ Mk K C f ∧ mg cn = some (.ref C) ∧ ∀ p ∈ pats, Bnd1 K fd ps p
structure PropX (K : PySem.W.Frag) (C : Addr) (q m : Str) (st : Stmt) (ps : List Str) (pats : List Pat) : Prop where
  ex : ∃ (r f : Addr) (fd : FuncData) (dvs : List V) (kws : List (Str × V)), FunD K m q (defArgs st) (defBody st) (defScope st) dvs kws f fd ∧ PropOf K C m r f ∧ Binds K fd ps []
structure MetX (P : Program) (w : World) (K : PySem.W.Frag) (mg : Str → Option Value) (base : Heap) (k : Nat) (C : Addr) (m : Str) (sp : Sp) (pats : List Pat) : Prop where
  ex : ∃ (f : Addr) (fd : FuncData) (ps : List Str), Cls K C ∧ Meth K C m f ∧ FnG P w K mg base (L2.CX P w) k f fd ps sp ∧ ∀ p ∈ pats, Bnd1 K fd ps p
structure PropY (P : Program) (w : World) (K : PySem.W.Frag) (mg : Str → Option Value) (base : Heap) (k : Nat) (C : Addr) (m : Str) (sp : Sp) (pats : List Pat) : Prop where
  ex : ∃ (q f : Addr) (fd : FuncData) (ps : List Str), Cls K C ∧ PropOf K C m q f ∧ FnG P w K mg base (L2.CX P w) k f fd ps sp ∧ Binds K fd ps []
structure MakX (P : Program) (w : World) (K : PySem.W.Frag) (mg : Str → Option Value) (base : Heap) (k : Nat) (cn : Str) (C : Addr) (sp : Sp) (pats : List Pat) : Prop where
  ex : ∃ (f : Addr) (fd : FuncData) (ps : List Str), Mk K C f ∧ FnG P w K mg base (L2.CX P w) k f fd ps sp ∧ mg cn = some (.ref C) ∧ ∀ p ∈ pats, Bnd1 K fd ps p
theorem MethX.ok {C : Addr} {q m : Str} {st : Stmt} {N ps : List Str} {pats : List Pat} {k : Nat} {sp : Sp} (D : MethX K C q m st ps pats) (c : Cls K C) (S : FnScope N ps (defScope st)) (len : ∀ vs H Q E, sp vs H Q E → vs.length = ps.length)
    (hbody : BodyX P w K mg base q st N k sp) : MetX P w K mg base (k + 1) C m sp pats := by
  obtain ⟨f, fd, dvs, kws, F, me, b⟩ := D.ex
  exact ⟨f, fd, ps, c, me, FnG.body F S len (fun cdv A outer s H vs Q E hr h => hbody f cdv A outer s H vs Q E hr h), b⟩
theorem PropX.ok {C : Addr} {q m : Str} {st : Stmt} {N ps : List Str} {pats : List Pat} {k : Nat} {sp : Sp} (D : PropX K C q m st ps pats) (c : Cls K C) (S : FnScope N ps (defScope st)) (len : ∀ vs H Q E, sp vs H Q E → vs.length = ps.length)
    (hbody : BodyX P w K mg base q st N k sp) : PropY P w K mg base (k + 1) C m sp pats := by
  obtain ⟨r, f, fd, dvs, kws, F, me, b⟩ := D.ex
  exact ⟨r, f, fd, ps, c, me, FnG.body F S len (fun cdv A outer s H vs Q E hr h => hbody f cdv A outer s H vs Q E hr h), b⟩
theorem InitX.ok {C : Addr} {cn q : Str} {st : Stmt} {N ps : List Str} {pats : List Pat} {k : Nat} {sp : Sp} (D : InitX K mg C cn q st ps pats) (S : FnScope N ps (defScope st)) (len : ∀ vs H Q E, sp vs H Q E → vs.length = ps.length)
    (hbody : BodyX P w K mg base q st N k sp) : MakX P w K mg base (k + 1) cn C sp pats := by
  obtain ⟨f, fd, dvs, kws, F, me, hm, b⟩ := D.ex
  exact ⟨f, fd, ps, me, FnG.body F S len (fun cdv A outer s H vs Q E hr h => hbody f cdv A outer s H vs Q E hr h), hm, b⟩
end
theorem cW_callN {α β : Type} {m : Rx β} {f : β → Rx α} {K : α → Prop} {E : Nat → Prop} {K2 : β → Prop} {E2 : Nat → Prop} (h : cW ((noEr m).bind f) K E) (ho : ∀ v, cW (f v) K E → K2 v) (_ : True) : cW m K2 E2 := by
  cases m with
  | ok a => exact cW_mk (ho a h)
  | er e => exact cW_bad (α := α) h
  | bad => exact cW_bad (α := α) h
section
variable {X : Cx} {k j n : Nat} {f C : Addr} {fd : FuncData} {ps ks : List Str} {g : List V → List V → List V} {sp : Sp} {x m : Str} {pos p apos : Pos} {e o : Expr} {es : List Expr} {kws : List Keyword} {ta : TE} {t tk : TA} {W : WX}
theorem run_mkX {pins : List (Addr × Obj)} {σ : L2.St} {H : Hp} {s : Shared} {Q : VK} {us ws : List Value} {vs zs : List V} (M : Mk X.K C f) (F : FnG X.prog X.w X.K X.mg X.base (L2.CX X.prog X.w) k f fd ps sp) (hr : RoomG (k + 1) X.A) (hb : Bnd X.K fd ps n ks g) (tkW : Takes X W)
    (I : Inv X pins σ H s) (r : Vals vs us) (rz : Vals zs ws) (l1 : vs.length + 1 = n) (l2 : zs.length = ks.length)
    (h : ∀ x dx, H x = none → H dx = none → dx ≠ x → sp (g (.ref x :: vs) zs) (upd (upd H dx (.own x)) x (.ins C dx [])) (fun v H2 => v = .non ∧ Q (.ref x) H2) (WE W σ)) :
    wpAny (model X.prog X.w) X.A (call (.ref C) us (ks.zip ws)) (EP X pins σ Q) X.xe s := by
  have hq := h (s.heap.objs.size + 1) s.heap.objs.size (I.hok.fresh (Nat.le_succ _)) (I.hok.fresh (Nat.le_refl _)) (Nat.ne_of_lt (Nat.lt_succ_self _))
  have I2 := Inv.made (C := C) I
  have r1 : Vals (V.ref (s.heap.objs.size + 1) :: vs) (Value.ref (s.heap.objs.size + 1) :: us) := .cons rfl r
  obtain ⟨vv, b, r2⟩ := hb.to _ (Value.ref (s.heap.objs.size + 1) :: us) ws (V.ref (s.heap.objs.size + 1) :: vs) zs I2.kIn (by rw [List.length_cons, l1]) l2 r1 rz
  refine wpAny_call (make_map (f := f) I.kIn M.makes M.init (beq_iff_eq.mp M.fn) (codeAny_mono (F.run _ X.stack _ _ ⟨Value.ref (s.heap.objs.size + 1) :: us, ks.zip ws⟩ vv _ _ (WE W σ) (hr.made C us (ks.zip ws))
    (I2.env0.make C us (ks.zip ws)) b r2 hq) fun r s' hq' => ?_))
  cases r with
  | error e => exact passAt tkW σ pins _ _ e s' I2 hq'
  | ok fl =>
    cases fl with
    | ret u =>
      obtain ⟨v, H', I3, rv, ev, q3⟩ := I2.after hq'
      subst ev
      exact ⟨rv, ⟨V.ref (s.heap.objs.size + 1), H', I3, rfl, q3⟩⟩
    | next => exact False.elim hq'
    | brk => exact False.elim hq'
    | cont => exact False.elim hq'
/-- C(e, .., k = v, ..) -/
def tMakeX (C : Addr) (n m : Nat) (sp : Sp) (g : List V → List V → List V) (W : WX) (t tk : TA) : TE := fun σ H Q => t σ H fun vs H1 => tk σ H1 fun zs H2 => vs.length + 1 = n ∧ zs.length = m ∧ ∀ x dx, H2 x = none → H2 dx = none → dx ≠ x →
  sp (g (.ref x :: vs) zs) (upd (upd H2 dx (.own x)) x (.ins C dx [])) (fun v H3 => v = .non ∧ Q (.ref x) H3) (WE W σ)
theorem vx_makeX {pats : List Pat} (c : MakX X.prog X.w X.K X.mg X.base k x C sp pats) (pt : Pat) (hpt : pt ∈ pats) (hr : RoomG j X.A) (hk : k + 1 ≤ j) (tkW : Takes X W) (hg : Gl X x) (ha : PA X (e :: es) t) (hkw : PK X kws tk)
    (hall : (backToKw pos (keywordEach kws X.env)).all (·.1.isSome) = true := by rfl) (hks : (backToKw pos (keywordEach kws X.env)).filterMap (·.1) = pt.2.1 := by rfl) (hdb : (x == ("__debug__" : Str)) = false := by decide)
    (he : starEach (e :: es) X.env = (false, eval e X.env) :: starEach es X.env := by rfl) (hpl : ((backTo pos (starEach (e :: es) X.env)).any (·.1) || (backToKw pos (keywordEach kws X.env)).any (·.1.isNone)) = false := by rfl) :
    PE X (.Call (.Name x p) (e :: es) kws pos) (tMakeX C pt.1 pt.2.1.length sp pt.2.2 W t tk) := by
  obtain ⟨f, fd, ps, M, F, hm, b⟩ := c.ex
  refine ⟨fun pins s σ H Q I h => ?_⟩
  refine wpAny_Call_Name_kw (ld_glob I hg hm ?_ hdb)
  refine PySem.W.callWith_KW (h₀ := X.base) I.ok.mod.kin M.kp hall (thn (ha.run pos pins s σ H _ I h) fun us s1 ⟨vs, H1, I1, r, q⟩ => ?_) hpl he
  refine thn (hkw.run pos pins s1 σ H1 _ I1 q) fun ws s2 ⟨zs, H2, I2, rz, l1, l2, q2⟩ => ⟨I2.kIn, ?_⟩
  rw [hks]
  exact run_mkX M F (hr.low hk) (b pt hpt) tkW I2 r rz l1 l2 q2
theorem vx_makeX0 {pats : List Pat} (c : MakX X.prog X.w X.K X.mg X.base k x C sp pats) (pt : Pat) (hpt : pt ∈ pats) (hr : RoomG j X.A) (hk : k + 1 ≤ j) (tkW : Takes X W) (hg : Gl X x) (hks : pt.2.1 = [] := by rfl)
    (hdb : (x == ("__debug__" : Str)) = false := by decide) : PE X (.Call (.Name x p) [] [] pos) (tMakeX C pt.1 pt.2.1.length sp pt.2.2 W tNil tNil) := by
  obtain ⟨f, fd, ps, M, F, hm, b⟩ := c.ex
  refine ⟨fun pins s σ H Q I h => ?_⟩
  refine wpAny_Call_Name_kw (ld_glob I hg hm ?_ hdb)
  obtain ⟨l1, l2, q2⟩ := h
  have hz := run_mkX (us := []) (ws := []) M F (hr.low hk) (b pt hpt) tkW I .nil .nil l1 l2 q2
  rw [hks] at hz
  exact PySem.W.callWith_K0 I.kIn M.kp hz
/-- o.m(e, .., k = v, ..) -/
def tMethX (C : Addr) (m : Str) (n mm : Nat) (sp : Sp) (g : List V → List V → List V) (W : WX) (ta : TE) (t tk : TA) : TE := fun σ H Q => ta σ H fun x H1 => ∃ a dx fs, x = .ref a ∧ H1 a = some (.ins C dx fs) ∧ fs.lookup m = none ∧
  t σ H1 fun vs H2 => tk σ H2 fun zs H3 => (x :: vs).length = n ∧ zs.length = mm ∧ sp (g (x :: vs) zs) H3 Q (WE W σ)
theorem vx_methX {pats : List Pat} {pl : Sem Bool} (c : MetX X.prog X.w X.K X.mg X.base k C m sp pats) (pt : Pat) (hpt : pt ∈ pats) (hr : RoomG j X.A) (hk : k ≤ j) (tkW : Takes X W) (he : PE X o ta) (ha : PA X (e :: es) t) (hkw : PK X kws tk)
    (hall : (backToKw pos (keywordEach kws X.env)).all (·.1.isSome) = true := by rfl) (hks : (backToKw pos (keywordEach kws X.env)).filterMap (·.1) = pt.2.1 := by rfl)
    (hst : starEach (e :: es) X.env = (false, eval e X.env) :: starEach es X.env := by rfl) (hpl : ((backTo pos (starEach (e :: es) X.env)).any (·.1) || (backToKw pos (keywordEach kws X.env)).any (·.1.isNone)) = false := by rfl)
    (ht : eval (.Call (.Attribute o m apos) (e :: es) kws pos) X.env = (do
      let ov ← eval o X.env
      standAt apos.atName
      let (f, first) ← holding [ov] (getMethod ov m pl)
      callWith pos f first (backTo pos (starEach (e :: es) X.env)) (backToKw pos (keywordEach kws X.env))) := by rfl) :
    PE X (.Call (.Attribute o m apos) (e :: es) kws pos) (tMethX C m pt.1 pt.2.1.length sp pt.2.2 W ta t tk) := by
  obtain ⟨f, fd, ps, hc, hm, F, b⟩ := c.ex
  refine ⟨fun pins s σ H Q I h => ?_⟩
  refine PySem.W.methodCall_KW (pl := pl) (thn (he.run pins s σ H _ I h) fun u s1 ⟨x, H1, I1, rx, a, dx, fs, ex, ea, l, q⟩ => ?_) ht
  subst ex
  obtain rfl : u = Value.ref a := rx
  refine getmeth_ok I1 ea hc hm l ?_
  refine PySem.W.callWith_KW (first := [.ref a]) (h₀ := X.base) I.ok.mod.kin hm.kp hall (thn (ha.run pos pins s1 σ H1 _ I1 q) fun us s2 ⟨vs, H2, I2, r, q2⟩ => ?_) hpl hst
  refine thn (hkw.run pos pins s2 σ H2 _ I2 q2) fun ws s3 ⟨zs, H3, I3, rz, l1, l2, q3⟩ => ⟨I3.kIn, ?_⟩
  rw [hks]
  exact run_X (us := .ref a :: us) (vs := .ref a :: vs) F (hr.low hk) (b pt hpt) tkW I3 (.cons rfl r) rz l1 l2 q3
theorem vx_methX0 {pats : List Pat} {pl : Sem Bool} (c : MetX X.prog X.w X.K X.mg X.base k C m sp pats) (pt : Pat) (hpt : pt ∈ pats) (hr : RoomG j X.A) (hk : k ≤ j) (tkW : Takes X W) (he : PE X o ta) (hks : pt.2.1 = [] := by rfl)
    (ht : eval (.Call (.Attribute o m apos) [] [] pos) X.env = (do
      let ov ← eval o X.env
      standAt apos.atName
      let (f, first) ← holding [ov] (getMethod ov m pl)
      callWith pos f first (backTo pos (starEach [] X.env)) (backToKw pos (keywordEach [] X.env))) := by rfl) :
    PE X (.Call (.Attribute o m apos) [] [] pos) (tMethX C m pt.1 pt.2.1.length sp pt.2.2 W ta tNil tNil) := by
  obtain ⟨f, fd, ps, hc, hm, F, b⟩ := c.ex
  refine ⟨fun pins s σ H Q I h => ?_⟩
  refine PySem.W.methodCall_KW (pl := pl) (thn (he.run pins s σ H _ I h) fun u s1 ⟨x, H1, I1, rx, a, dx, fs, ex, ea, l, q⟩ => ?_) ht
  subst ex
  obtain rfl : u = Value.ref a := rx
  refine getmeth_ok I1 ea hc hm l ?_
  obtain ⟨l1, l2, q3⟩ := q
  have hz := run_X (us := [.ref a]) (vs := [.ref a]) (ws := []) F (hr.low hk) (b pt hpt) tkW I1 (.cons rfl .nil) .nil l1 l2 q3
  rw [hks] at hz
  exact PySem.W.callWith_K0 (first := [.ref a]) I1.kIn hm.kp hz
theorem vx_propX {pats : List Pat} (c : PropY X.prog X.w X.K X.mg X.base k C m sp pats) (hr : RoomG j X.A) (hk : k + 1 ≤ j) (he : PE X o ta) (hab : attributeBase o m X.env (eval o X.env) = eval o X.env := by rfl) : PE X (.Attribute o m pos) (tProp C sp [] E0 ta) := by
  obtain ⟨q, f, fd, ps, cls, prop, F, bind⟩ := c.ex
  constructor
  intro pins s σ H Q I h
  refine attr_of hab (thn (he.run pins s σ H _ I h) ?_)
  rintro u s1 ⟨x, H1, I1, rx, a, dx, fs, rfl, ea, prom⟩
  cases rx
  obtain ⟨mA, O, _⟩ := ins_get I1.hok ea
  obtain ⟨od, J, _⟩ := O.look
  obtain ⟨rest, rec_⟩ := prop.rec_
  have short : [Value.ref a].length = ps.length := (F.len _ _ _ _ prom).symm ▸ rfl
  have isCls : (PySem.W.clsIn X.K C).isSome = true := by
    obtain ⟨cd, e, _⟩ := PySem.W.any_some cls.hd
    rw [e]
    rfl
  refine PySem.W.get_bind I1.kIn J (PySem.W.plainGet_of (cls.get m)).1 (PySem.W.findObj_data isCls prop.at_ prop.get prop.tak) (PySem.W.plainGet_of (cls.get m)).2 (wpAny_call (PySem.W.prop_get (s := { s1 with toks := s1.toks + 1 }) I1.kIn rec_ ?_))
  have I2 := I1.tok (s1.toks + 1)
  refine codeAny_mono (F.run X.A.in1 X.stack _ H1 ⟨[.ref a], []⟩ [.ref a] [.ref a] Q E0 (hr.low hk).one I2.env0.in1 (by simpa using bind _ [.ref a] I2.kIn (by simpa using short)) (.cons rfl .nil) prom) ?_
  intro r s2 out
  cases r with
  | error er => exact (passL (X := X.nox) pins σ H1 _ er s2 (I2.wish _) out).elim
  | ok flow =>
    cases flow with
    | ret v =>
      obtain ⟨y, H2, I3, ry, qy⟩ := I2.after out
      have given := PySem.W.handedOut_of (handed_of ry)
      show wpAny _ _ (handedOut v) _ _ s2
      rw [given]
      exact wpAny_pure ⟨y, H2, I3, ry, qy⟩
    | next => exact out.elim
    | brk => exact out.elim
    | cont => exact out.elim
end
theorem Sep.news {M : List Addr} {H0 G0 G H H' : Hp} {O : List Addr} (S : Sep M H0 G0 G H O) (e : Same H H') (L : List Addr) (hL : ∀ a ∈ L, H a = none ∧ H' a ≠ none ∧ H0 a = none) : Sep M H0 G0 G H' (L ++ O) := by
  have S2 := S.same e
  refine ⟨S2.base, S2.pm, S2.sG, S2.g0, S2.gn, fun a ha => ?_⟩
  rcases List.mem_append.mp ha with h | h
  · obtain ⟨h1, h2, h3⟩ := hL a h
    exact ⟨S.gfree h1, h2, .inr h3⟩
  · exact S2.ow a h
theorem vv_chain {r r' : R2} {ta tb tc : TE} {σ : L2.St} {H : Hp} {x y z : V} {a b : Bool} (ha : Val ta σ H x) (hb : Val tb σ H y) (hc : Val tc σ H z) (h1 : ∀ Q : VK, Q (.bl a) H → r x y H Q) (h2 : ∀ Q : VK, Q (.bl b) H → r' y z H Q) :
    Val (tChain r r' ta tb tc) σ H (.bl (a && b)) := fun Q q => ha _ (hb _ (h1 _ ⟨a, rfl, by
  cases a with
  | true =>
    rw [if_pos rfl]
    exact hc _ (h2 _ q)
  | false =>
    rw [if_neg Bool.false_ne_true]
    exact q⟩))
/-! ### constants that are tuples, lists backwards, zip -/
theorem inV_ints (x : Int) : ∀ xs : List Int, inV (V.int x) (xs.map V.int) = decide (x ∈ xs)
  | [] => by simp [inV]
  | y :: r => by
    have h := inV_ints x r
    unfold inV at h ⊢
    rw [List.map_cons, List.any_cons, h]
    by_cases c : x = y
    · subst c
      simp [eqV]
    · simp [eqV, c, Ne.symm c]
theorem flat_ints : ∀ xs : List Int, (xs.map V.int).all flatV = true
  | [] => rfl
  | _ :: r => flat_ints r
def rInI (K : PySem.W.Frag) : R2 := fun x y H Q => ∃ (i : Int) (p : Addr) (xs : List Int), x = .int i ∧ y = .ref p ∧ (SqL K H p (xs.map V.int) ∨ SqT K H p (xs.map V.int)) ∧ Q (.bl (decide (i ∈ xs))) H
def rNotInI (K : PySem.W.Frag) : R2 := fun x y H Q => ∃ (i : Int) (p : Addr) (xs : List Int), x = .int i ∧ y = .ref p ∧ (SqL K H p (xs.map V.int) ∨ SqT K H p (xs.map V.int)) ∧ Q (.bl (!decide (i ∈ xs))) H
theorem op_inI {X : Cx} {K : PySem.W.Frag} (hK : X.K = K := by rfl) : OpR X (compareOp .In) (rInI K) := by
  subst hK
  intro pins s σ H x y v u Q I rx ry h
  obtain ⟨i, p, xs, rfl, rfl, hs, q⟩ := h
  refine op_in_seq pins s σ H _ _ v u Q I rx ry ⟨p, _, rfl, hs, rfl, flat_ints xs, ?_⟩
  rw [if_neg Bool.false_ne_true, inV_ints]
  exact q
theorem op_notInI {X : Cx} {K : PySem.W.Frag} (hK : X.K = K := by rfl) : OpR X (compareOp .NotIn) (rNotInI K) := by
  subst hK
  intro pins s σ H x y v u Q I rx ry h
  obtain ⟨i, p, xs, rfl, rfl, hs, q⟩ := h
  refine op_notIn_seq pins s σ H _ _ v u Q I rx ry ⟨p, _, rfl, hs, rfl, flat_ints xs, ?_⟩
  rw [if_pos rfl, inV_ints]
  exact q
theorem pe_revLK {X : Cx} {K : PySem.W.Frag} {e : Expr} {te : TE} {k : Nat} {p1 p2 p3 pos : Pos} (he : PE X e te) (hK : X.K = K := by rfl) : PE X (.Subscript e (.Slice none none (some (.UnaryOp .USub (.Constant (.int 1) k p1) p2)) p3) pos) (tRevL K te) := hK ▸ pe_revL he
theorem rev_map {α : Type} {f : α → V} {xs : List α} {H : Hp} {p : Addr} (h : H p = some (.lst (xs.map f).reverse)) : H p = some (.lst (xs.reverse.map f)) := by
  rw [List.map_reverse]
  exact h
theorem RpAll.rev {G : Hp} : ∀ {vs : List V} {ds : List PyData}, RpAll G vs ds → RpAll G vs.reverse ds.reverse
  | _, _, .nil => .nil
  | _, _, .cons h t => by
    rw [List.reverse_cons, List.reverse_cons]
    exact (RpAll.rev t).append (.one h)
theorem rev_all {α : Type} {f : α → PyData} {xs : List α} {G : Hp} {vs : List V} (a : RpAll G vs (xs.map f)) : RpAll G vs.reverse (xs.reverse.map f) := by
  rw [List.map_reverse]
  exact a.rev
theorem pi_zipK {X : Cx} {K : PySem.W.Frag} {e e2 : Expr} {ta : TA} {p pos tpos : Pos} {elts : List Expr} {kk : Nat} (hg : Gl X "zip") (hm : X.mg "zip" = none) (ha : PA X [e, e2] ta) (hK : X.K = K := by rfl)
    (hs : starEach [e, e2] X.env = (false, eval e X.env) :: starEach [e2] X.env := by rfl) (hpl : (backTo pos (starEach [e2] X.env)).any (·.1) = false := by rfl) :
    PI X (.Tuple elts kk tpos) (.Call (.Name "zip" p) [e, e2] [] pos) (RZ.iZipA K ta) := hK ▸ RZ.pi_zipA hg hm ha hs hpl
/-- a comprehension over zip of two lists of one length -/
theorem lc_zipL {K : PySem.W.Frag} {a b : Addr} {xs ys : List V} {g : TG} {tt : TT} {te : TE} {vs : List Nat} {σ : L2.St} {H1 : Hp} {D : Addr} {Qd : Hp → Prop} (hl : xs.length = ys.length) (Pv : Nat → Hp → Prop) (h0 : Pv 0 (upd H1 D (.lst []))) (hq : ∀ i H, i ≤ xs.length → Pv i H → SqL K H a xs ∧ SqL K H b ys)
    (hs : ∀ (i : Nat) (x y : V) (T : Addr) (H : Hp), xs[i]? = some x → ys[i]? = some y → H T = none → Pv i H → g (.ref T) (wipe σ vs) (upd H T (.tup [x, y])) fun σ2 H2 => wipe σ2 vs = wipe σ vs ∧ tt σ2 H2 fun b H3 =>
      if b = true then te σ2 H3 fun y H4 => ∃ acc, H4 D = some (.lst acc) ∧ acc.length < sizeLine ∧ Pv (i + 1) (upd H4 D (.lst (acc ++ [y]))) else Pv (i + 1) H3) (hd : ∀ H, Pv xs.length H → Qd H) :
    ∃ W : Nat → Nat → Hp → Prop, (∃ m, W 0 m (upd H1 D (.lst []))) ∧ ∀ i m H, W i m H →
      ((Itz K a b).stop i H ∧ Qd H) ∨ ((Itz K a b).go i H ∧ ∃ Nx : Hp → Prop, (∀ H', Nx H' → ∃ m', m' < m ∧ W (i + 1) m' H') ∧ ∀ x H', (Itz K a b).yld i H x H' → g x (wipe σ vs) H' fun σ2 H2 => wipe σ2 vs = wipe σ vs ∧ tt σ2 H2 fun b H3 =>
        if b = true then te σ2 H3 fun y H4 => ∃ acc, H4 D = some (.lst acc) ∧ acc.length < sizeLine ∧ Nx (upd H4 D (.lst (acc ++ [y]))) else Nx H3) := by
  refine ⟨fun i m H => m = xs.length - i ∧ i ≤ xs.length ∧ Pv i H, ⟨xs.length, by simp, Nat.zero_le _, h0⟩, ?_⟩
  rintro i m H ⟨rfl, hi, p⟩
  obtain ⟨qx, qy⟩ := hq i H hi p
  by_cases hlt : i < xs.length
  · have hlt2 : i < ys.length := by omega
    refine .inr ⟨⟨xs, ys, xs[i], ys[i], qx, qy, List.getElem?_eq_getElem hlt, List.getElem?_eq_getElem hlt2⟩, Pv (i + 1), fun H' p' => ⟨xs.length - (i + 1), by omega, rfl, hlt, p'⟩, fun v H' y => ?_⟩
    obtain ⟨T, x', y', rfl, hT, rfl, f1, f2⟩ := y
    exact hs i x' y' T H (f1 xs qx) (f2 ys qy) hT p
  · have e : i = xs.length := by omega
    subst e
    exact .inl ⟨⟨xs, ys, qx, qy, Or.inl (Nat.le_refl _)⟩, hd H p⟩
theorem zip_get {α β : Type} {xs : List α} {ys : List β} {i : Nat} {x : α} {y : β} (h1 : xs[i]? = some x) (h2 : ys[i]? = some y) : (xs.zip ys)[i]? = some (x, y) := by
  rw [List.getElem?_zip_eq_some]
  exact ⟨h1, h2⟩
theorem zip_len {α β : Type} {xs : List α} {ys : List β} {n : Nat} (h : xs.length = ys.length) (e : n = xs.length) : n = (xs.zip ys).length := by
  rw [List.length_zip, ← h, Nat.min_self]
  exact e
theorem zlen {α β : Type} {vs ws : List V} {xs : List α} {ys : List β} (a : vs.length = xs.length) (b : ws.length = ys.length) (h : xs.length = ys.length) : vs.length = ws.length := by rw [a, b, h]
section
variable {t : TT} {ta tb : TE} {σ : L2.St} {H : Hp}
theorem vv_ifP {p : Prop} [Decidable p] {a b : Int} (ht : Ans t σ H (decide p)) (hx : p → Val ta σ H (.int a)) (hy : ¬ p → Val tb σ H (.int b)) : Val (tIf t ta tb) σ H (.int (if p then a else b)) := by
  by_cases h : p
  · have := vv_if (p := p) (a := a) (b := a) ht (hx h) (tb := ta) (hx h)
    intro Q q
    refine ht _ ?_
    rw [decide_eq_true h, if_pos rfl]
    rw [if_pos h] at q
    exact hx h _ q
  · intro Q q
    refine ht _ ?_
    rw [decide_eq_false h, if_neg Bool.false_ne_true]
    rw [if_neg h] at q
    exact hy h _ q
theorem vv_ifQ {c : Bool} {a b : Int} (ht : Ans t σ H c) (hx : c = true → Val ta σ H (.int a)) (hy : c = false → Val tb σ H (.int b)) : Val (tIf t ta tb) σ H (.int (if c = true then a else b)) := by
  intro Q q
  refine ht _ ?_
  cases c with
  | true =>
    rw [if_pos rfl]
    rw [if_pos rfl] at q
    exact hx rfl _ q
  | false =>
    rw [if_neg Bool.false_ne_true]
    rw [if_neg Bool.false_ne_true] at q
    exact hy rfl _ q
end
theorem kit_mk0 {K : PySem.W.Frag} {S C : Addr} (h1 : (Value.ref S == Value.ref C) = false) (h2 : PySem.W.isClsIn K C = true) (h3 : PySem.W.typeIn K (.ref C) = some (.type "type")) (h4 : PySem.W.subIn K (.ref S) (.ref C) = some false) :
    PySem.W.kitOne K (.ref S) (.ref C) = some false := by
  unfold PySem.W.isClsIn at h2
  unfold PySem.W.kitOne
  rw [if_neg (by rw [h1]; exact Bool.false_ne_true)]
  unfold PySem.W.kitCls
  simp only [h2, h3, h4, beq_self_eq_true, Bool.and_self, if_true]
theorem vv_call2 {ta tb : TE} {σ : L2.St} {H : Hp} {x y z : V} {r : List V → Hp → VK → Prop} (ha : Val ta σ H x) (hb : Val tb σ H y) (hr : ∀ Q : VK, Q z H → r [x, y] H Q) : Val (tCB r (tCons ta (tCons tb tNil))) σ H z := fun Q q => ha _ (hb _ (hr Q q))
/-! ### lists of data that the caller owns; values that are a truth value or a number -/
theorem Sep.stepnew {M : List Addr} {H0 G0 G H H' : Hp} {O : List Addr} {p : Addr} {o : HO} (S : Sep M H0 G0 G H O) {G' : Hp} (e : Same H H') (eG : Same G G') (sG : Same G' H') (hn : ∀ b, H b ≠ none → G b = none → G' b = none) (_n : H p = none) (h : H' p = some o) (g : G' p = none) (hm : H0 p = none) : Sep M H0 G0 G' H' (p :: O) := by
  have S2 := S.step e eG sG hn
  refine ⟨S2.base, S2.pm, S2.sG, S2.g0, S2.gn, fun a ha => ?_⟩
  rcases List.mem_cons.mp ha with rfl | ha
  · exact ⟨g, (fun z => by rw [z] at h; cases h), .inr hm⟩
  · exact S2.ow a ha
inductive Bi where
  | b (x : Bool)
  | n (i : Int)
deriving DecidableEq
def biV : Bi → V
  | .b x => .bl x
  | .n i => .int i
def Bi.el {α : Type} (v : Bi) (f : Bool → α) (g : Int → α) : α :=
  match v with
  | .b x => f x
  | .n i => g i
theorem cW_elb {α : Type} {x : Bool} {f : Bool → Rx α} {g : Int → Rx α} {K : α → Prop} {E : Nat → Prop} (h : cW (Bi.el (.b x) f g) K E) : cW (f x) K E := h
theorem cW_eln {α : Type} {x : Int} {f : Bool → Rx α} {g : Int → Rx α} {K : α → Prop} {E : Nat → Prop} (h : cW (Bi.el (.n x) f g) K E) : cW (g x) K E := h
theorem rp_tup4 {α β γ δ : Type} {f : α → PyData} {g : β → PyData} {h : γ → PyData} {i : δ → PyData} {H : Hp} {v : V} {x : α × β × γ × δ} (r : Rp H v (encT4 f g h i x)) : ∃ a v1 v2 v3 v4, v = .ref a ∧ H a = some (.tup [v1, v2, v3, v4]) ∧ Rp H v1 (f x.1) ∧ Rp H v2 (g x.2.1) ∧ Rp H v3 (h x.2.2.1) ∧ Rp H v4 (i x.2.2.2) := by
  unfold encT4 at r
  cases r with
  | tup h1 h2 =>
    cases h2 with
    | cons a b =>
      cases b with
      | cons b c =>
        cases c with
        | cons c d =>
          cases d with
          | cons d e =>
            cases e
            exact ⟨_, _, _, _, _, rfl, h1, a, b, c, d⟩
theorem rp_mk4 {α β γ δ : Type} {f : α → PyData} {g : β → PyData} {h : γ → PyData} {i : δ → PyData} {H : Hp} {a : Addr} {v1 v2 v3 v4 : V} {x : α} {y : β} {z : γ} {w : δ} (h1 : H a = some (.tup [v1, v2, v3, v4])) (r1 : Rp H v1 (f x)) (r2 : Rp H v2 (g y)) (r3 : Rp H v3 (h z)) (r4 : Rp H v4 (i w)) : Rp H (.ref a) (encT4 f g h i (x, y, z, w)) := .tup h1 (.cons r1 (.cons r2 (.cons r3 (.cons r4 .nil))))
theorem Sep.b0M {M : List Addr} {H0 G0 G H : Hp} {O : List Addr} (S : Sep M H0 G0 G H O) (h : ∀ a ∈ M, H a = H0 a) : Same H0 H := fun b o e => by
  by_cases z : b ∈ M
  · rw [h b z]
    exact e
  · exact S.base b o e z
section
variable {X : Cx} {k j n : Nat} {f C : Addr} {fd : FuncData} {ps ks : List Str} {g : List V → List V → List V} {sp : Sp} {x m : Str} {pos p apos : Pos} {e o : Expr} {es : List Expr} {kws : List Keyword} {ta : TE} {t tk : TA} {W : WX}
/-- keywords alone -/
theorem vx_makeXK {pats : List Pat} (c : MakX X.prog X.w X.K X.mg X.base k x C sp pats) (pt : Pat) (hpt : pt ∈ pats) (hr : RoomG j X.A) (hk : k + 1 ≤ j) (tkW : Takes X W) (hg : Gl X x) (hkw : PK X kws tk)
    (hall : (backToKw pos (keywordEach kws X.env)).all (·.1.isSome) = true := by rfl) (hks : (backToKw pos (keywordEach kws X.env)).filterMap (·.1) = pt.2.1 := by rfl) (hdb : (x == ("__debug__" : Str)) = false := by decide)
    (hpl : ((backTo pos (starEach [] X.env)).any (·.1) || (backToKw pos (keywordEach kws X.env)).any (·.1.isNone)) = false := by rfl) :
    PE X (.Call (.Name x p) [] kws pos) (tMakeX C pt.1 pt.2.1.length sp pt.2.2 W tNil tk) := by
  obtain ⟨f, fd, ps, M, F, hm, b⟩ := c.ex
  refine ⟨fun pins s σ H Q I h => ?_⟩
  refine wpAny_Call_Name_kw (ld_glob I hg hm ?_ hdb)
  refine PySem.W.callWith_KW0 (h₀ := X.base) I.ok.mod.kin M.kp hall ?_ hpl
  refine thn (hkw.run pos pins s σ H _ I h) fun ws s2 ⟨zs, H2, I2, rz, l1, l2, q2⟩ => ⟨I2.kIn, ?_⟩
  rw [hks]
  exact run_mkX (us := []) (vs := []) M F (hr.low hk) (b pt hpt) tkW I2 .nil rz l1 l2 q2
theorem vx_callXK {pats : List Pat} (c : CalX X.prog X.w X.K X.mg X.base k x sp pats) (pt : Pat) (hpt : pt ∈ pats) (hr : RoomG j X.A) (hk : k ≤ j) (tkW : Takes X W) (hg : Gl X x) (hkw : PK X kws tk)
    (hall : (backToKw pos (keywordEach kws X.env)).all (·.1.isSome) = true := by rfl) (hks : (backToKw pos (keywordEach kws X.env)).filterMap (·.1) = pt.2.1 := by rfl) (hdb : (x == ("__debug__" : Str)) = false := by decide)
    (hpl : ((backTo pos (starEach [] X.env)).any (·.1) || (backToKw pos (keywordEach kws X.env)).any (·.1.isNone)) = false := by rfl) :
    PE X (.Call (.Name x p) [] kws pos) (tCallX pt.1 pt.2.1.length sp pt.2.2 W tNil tk) := by
  obtain ⟨f, fd, ps, F, hm, kp, b⟩ := c.ex
  refine ⟨fun pins s σ H Q I h => ?_⟩
  refine wpAny_Call_Name_kw (ld_glob I hg hm ?_ hdb)
  refine PySem.W.callWith_KW0 (h₀ := X.base) I.ok.mod.kin kp hall ?_ hpl
  refine thn (hkw.run pos pins s σ H _ I h) fun ws s2 ⟨zs, H2, I2, rz, l1, l2, q2⟩ => ⟨I2.kIn, ?_⟩
  rw [hks]
  exact run_X (us := []) (vs := []) F (hr.low hk) (b pt hpt) tkW I2 .nil rz l1 l2 q2
theorem vx_methXK {pats : List Pat} {pl : Sem Bool} (c : MetX X.prog X.w X.K X.mg X.base k C m sp pats) (pt : Pat) (hpt : pt ∈ pats) (hr : RoomG j X.A) (hk : k ≤ j) (tkW : Takes X W) (he : PE X o ta) (hkw : PK X kws tk)
    (hall : (backToKw pos (keywordEach kws X.env)).all (·.1.isSome) = true := by rfl) (hks : (backToKw pos (keywordEach kws X.env)).filterMap (·.1) = pt.2.1 := by rfl)
    (hpl : ((backTo pos (starEach [] X.env)).any (·.1) || (backToKw pos (keywordEach kws X.env)).any (·.1.isNone)) = false := by rfl)
    (ht : eval (.Call (.Attribute o m apos) [] kws pos) X.env = (do
      let ov ← eval o X.env
      standAt apos.atName
      let (f, first) ← holding [ov] (getMethod ov m pl)
      callWith pos f first (backTo pos (starEach [] X.env)) (backToKw pos (keywordEach kws X.env))) := by rfl) :
    PE X (.Call (.Attribute o m apos) [] kws pos) (tMethX C m pt.1 pt.2.1.length sp pt.2.2 W ta tNil tk) := by
  obtain ⟨f, fd, ps, hc, hm, F, b⟩ := c.ex
  refine ⟨fun pins s σ H Q I h => ?_⟩
  refine PySem.W.methodCall_KW (pl := pl) (thn (he.run pins s σ H _ I h) fun u s1 ⟨x, H1, I1, rx, a, dx, fs, ex, ea, l, q⟩ => ?_) ht
  subst ex
  obtain rfl : u = Value.ref a := rx
  refine getmeth_ok I1 ea hc hm l ?_
  refine PySem.W.callWith_KW0 (first := [.ref a]) (h₀ := X.base) I.ok.mod.kin hm.kp hall ?_ hpl
  refine thn (hkw.run pos pins s1 σ H1 _ I1 q) fun ws s3 ⟨zs, H3, I3, rz, l1, l2, q3⟩ => ⟨I3.kIn, ?_⟩
  rw [hks]
  exact run_X (us := [.ref a]) (vs := [.ref a]) F (hr.low hk) (b pt hpt) tkW I3 (.cons rfl .nil) rz l1 l2 q3
end
end Vx
/-! # lists within lists that are owned as a whole -/
namespace Vx
open PySem PySem.Spec PyProof.Rows L2
inductive Kd where
  | lst
  | tup
  | ins (C dx : Addr) (ns : List Str)
def Kd.ho : Kd → List V → HO
  | .lst, vs => .lst vs
  | .tup, vs => .tup vs
  | .ins C dx ns, vs => .ins C dx (ns.zip vs)
/-- what stands in the heap as a tree: values as they are, data that stay, nodes of its own -/
inductive Dt where
  | val (v : V)
  | frz (d : PyData)
  | nod (k : Kd) (xs : List Dt)
mutual
inductive Ow (G H : Hp) : List Addr → V → Dt → Prop
  | val (v : V) : Ow G H [] v (.val v)
  | frz {v : V} {d : PyData} : Rp G v d → Ow G H [] v (.frz d)
  | nod {a : Addr} {k : Kd} {vs : List V} {ds : List Dt} {L : List Addr} : H a = some (k.ho vs) → OwAll G H L vs ds → a ∉ L → Ow G H (a :: L) (.ref a) (.nod k ds)
inductive OwAll (G H : Hp) : List Addr → List V → List Dt → Prop
  | nil : OwAll G H [] [] []
  | cons {L1 L2 : List Addr} {v : V} {vs : List V} {d : Dt} {ds : List Dt} : Ow G H L1 v d → OwAll G H L2 vs ds → (∀ b ∈ L1, b ∉ L2) → OwAll G H (L1 ++ L2) (v :: vs) (d :: ds)
end
def Keeps (L : List Addr) (H H' : Hp) : Prop := ∀ b ∈ L, ∀ o, H b = some o → H' b = some o
mutual
theorem Ow.mono {G G' H H' : Hp} (e : Same G G') : ∀ {L : List Addr} {v : V} {d : Dt}, Keeps L H H' → Ow G H L v d → Ow G' H' L v d
  | _, _, _, _, .val v => .val v
  | _, _, _, _, .frz r => .frz (r.mono e)
  | _, _, _, k, .nod h r n => .nod (k _ List.mem_cons_self _ h) (OwAll.mono e (fun b hb => k b (List.mem_cons_of_mem _ hb)) r) n
theorem OwAll.mono {G G' H H' : Hp} (e : Same G G') : ∀ {L : List Addr} {vs : List V} {ds : List Dt}, Keeps L H H' → OwAll G H L vs ds → OwAll G' H' L vs ds
  | _, _, _, _, .nil => .nil
  | _, _, _, k, .cons a r d => .cons (Ow.mono e (fun b hb => k b (List.mem_append_left _ hb)) a) (OwAll.mono e (fun b hb => k b (List.mem_append_right _ hb)) r) d
end
mutual
theorem Ow.there {G H : Hp} : ∀ {L : List Addr} {v : V} {d : Dt}, Ow G H L v d → ∀ b ∈ L, H b ≠ none
  | _, _, _, .val _, _, hb => nomatch hb
  | _, _, _, .frz _, _, hb => nomatch hb
  | _, _, _, .nod h r n, b, hb => by
    rcases List.mem_cons.mp hb with rfl | hb
    · exact some_ne h
    · exact OwAll.there r b hb
theorem OwAll.there {G H : Hp} : ∀ {L : List Addr} {vs : List V} {ds : List Dt}, OwAll G H L vs ds → ∀ b ∈ L, H b ≠ none
  | _, _, _, .nil, _, hb => nomatch hb
  | _, _, _, .cons a r d, b, hb => by
    rcases List.mem_append.mp hb with hb | hb
    · exact Ow.there a b hb
    · exact OwAll.there r b hb
end
theorem OwAll.len {G H : Hp} : ∀ {L : List Addr} {vs : List V} {ds : List Dt}, OwAll G H L vs ds → vs.length = ds.length
  | _, _, _, .nil => rfl
  | _, _, _, .cons _ r _ => congrArg Nat.succ r.len
theorem OwAll.snoc {G H : Hp} {L1 : List Addr} {v : V} {d : Dt} (h : Ow G H L1 v d) : ∀ {L : List Addr} {vs : List V} {ds : List Dt}, OwAll G H L vs ds → (∀ b ∈ L, b ∉ L1) → OwAll G H (L ++ L1) (vs ++ [v]) (ds ++ [d])
  | _, _, _, .nil, _ => by
    have z : OwAll G H (L1 ++ []) [v] [d] := .cons h .nil (fun _ _ z => nomatch z)
    rw [List.append_nil] at z
    exact z
  | _, _, _, .cons (L1 := La) (L2 := Lb) a r n, k => by
    have z := OwAll.cons a (OwAll.snoc h r fun b hb => k b (List.mem_append_right _ hb)) (fun b hb q => by
      rcases List.mem_append.mp q with q | q
      · exact n b hb q
      · exact k b (List.mem_append_left _ hb) q)
    rw [← List.append_assoc] at z
    exact z
theorem OwAll.app {G H : Hp} {L2 : List Addr} {ws : List V} {es : List Dt} (h : OwAll G H L2 ws es) : ∀ {L : List Addr} {vs : List V} {ds : List Dt}, OwAll G H L vs ds → (∀ b ∈ L, b ∉ L2) → OwAll G H (L ++ L2) (vs ++ ws) (ds ++ es)
  | _, _, _, .nil, _ => h
  | _, _, _, .cons (L1 := La) (L2 := Lb) a r n, k => by
    have z := OwAll.cons a (OwAll.app h r fun b hb => k b (List.mem_append_right _ hb)) (fun b hb q => by
      rcases List.mem_append.mp q with q | q
      · exact n b hb q
      · exact k b (List.mem_append_left _ hb) q)
    rw [← List.append_assoc] at z
    exact z
/-! ### trees that are data -/
mutual
inductive Dd : Dt → PyData → Prop
  | non : Dd (.val .non) .none
  | bl (b : Bool) : Dd (.val (.bl b)) (.bool b)
  | int (i : Int) : Dd (.val (.int i)) (.int i)
  | str (x : Str) : Dd (.val (.str x)) (.str x)
  | frz (d : PyData) : Dd (.frz d) d
  | lst {xs : List Dt} {ds : List PyData} : DdAll xs ds → Dd (.nod .lst xs) (.list ds)
  | tup {xs : List Dt} {ds : List PyData} : DdAll xs ds → Dd (.nod .tup xs) (.tuple ds)
inductive DdAll : List Dt → List PyData → Prop
  | nil : DdAll [] []
  | cons {x : Dt} {xs : List Dt} {d : PyData} {ds : List PyData} : Dd x d → DdAll xs ds → DdAll (x :: xs) (d :: ds)
end
mutual
/-- read in any heap that holds its nodes -/
theorem Ow.rp {G H I : Hp} (e : Same G I) : ∀ {L : List Addr} {v : V} {d : Dt} {p : PyData}, Keeps L H I → Ow G H L v d → Dd d p → Rp I v p
  | _, _, _, _, _, .val _, .non => .non
  | _, _, _, _, _, .val _, .bl b => .bl b
  | _, _, _, _, _, .val _, .int i => .int i
  | _, _, _, _, _, .val _, .str x => .str x
  | _, _, _, _, _, .frz r, .frz _ => r.mono e
  | _, _, _, _, k, .nod h r _, .lst q => .lst (k _ List.mem_cons_self _ h) (OwAll.rp e (fun b hb => k b (List.mem_cons_of_mem _ hb)) r q)
  | _, _, _, _, k, .nod h r _, .tup q => .tup (k _ List.mem_cons_self _ h) (OwAll.rp e (fun b hb => k b (List.mem_cons_of_mem _ hb)) r q)
theorem OwAll.rp {G H I : Hp} (e : Same G I) : ∀ {L : List Addr} {vs : List V} {ds : List Dt} {ps : List PyData}, Keeps L H I → OwAll G H L vs ds → DdAll ds ps → RpAll I vs ps
  | _, _, _, _, _, .nil, .nil => .nil
  | _, _, _, _, k, .cons a r _, .cons x xs => .cons (Ow.rp e (fun b hb => k b (List.mem_append_left _ hb)) a x) (OwAll.rp e (fun b hb => k b (List.mem_append_right _ hb)) r xs)
end
def oI (i : Int) : Dt := .val (.int i)
def oB (b : Bool) : Dt := .val (.bl b)
def oF {α : Type} (f : α → PyData) (x : α) : Dt := .frz (f x)
def oL {α : Type} (f : α → Dt) (xs : List α) : Dt := .nod .lst (xs.map f)
def EncO {α : Type} (f : α → Dt) (g : α → PyData) : Prop := ∀ x, Dd (f x) (g x)
theorem encO_I : EncO oI PyData.int := fun i => .int i
theorem encO_B : EncO oB PyData.bool := fun i => .bl i
theorem encO_F {α : Type} {f : α → PyData} : EncO (oF f) f := fun _ => .frz _
theorem EncO.all {α : Type} {f : α → Dt} {g : α → PyData} (h : EncO f g) : ∀ xs : List α, DdAll (xs.map f) (xs.map g)
  | [] => .nil
  | x :: xs => .cons (h x) (EncO.all h xs)
theorem encO_L {α : Type} {f : α → Dt} {g : α → PyData} (h : EncO f g) : EncO (oL f) (encL g) := fun xs => .lst (h.all xs)
theorem keeps_same {L : List Addr} {H H' : Hp} (e : Same H H') : Keeps L H H' := fun b _ o q => e b o q
theorem keeps_refl {L : List Addr} {H : Hp} : Keeps L H H := fun _ _ _ q => q
theorem keeps_mut {L : List Addr} {H H' : Hp} {m : Addr} (x : SameX m H H') (n : ∀ b ∈ L, b ≠ m) : Keeps L H H' := fun b hb o q => x b o q (n b hb)
theorem keeps_muts {L M : List Addr} {H H' : Hp} (x : SameXs M H H') (n : ∀ b ∈ L, b ∉ M) : Keeps L H H' := fun b hb o q => x b o q (n b hb)
theorem keeps_hide {L M : List Addr} {H : Hp} (n : ∀ b ∈ L, b ∉ M) : Keeps L H (hideL M H) := fun b hb o q => by
  rw [hideL_out (n b hb)]
  exact q
section
variable {α : Type} {f : α → Dt} {g : α → PyData} {G H I : Hp} {L : List Addr} {vs : List V} {xs : List α}
theorem OwAll.rpA (w : OwAll G H L vs (xs.map f)) (h : EncO f g) (e : Same G H) : RpAll H vs (xs.map g) := OwAll.rp e keeps_refl w (h.all xs)
theorem OwAll.rpH (w : OwAll G H L vs (xs.map f)) (h : EncO f g) (e : Same G I) (k : Keeps L H I) : RpAll I vs (xs.map g) := OwAll.rp e k w (h.all xs)
theorem OwAll.lenM (w : OwAll G H L vs (xs.map f)) : vs.length = xs.length := by rw [w.len, List.length_map]
theorem OwAll.snocM {L1 : List Addr} {v : V} {y : α} (w : OwAll G H L vs (xs.map f)) (h : Ow G H L1 v (f y)) (n : ∀ b ∈ L, b ∉ L1) : OwAll G H (L ++ L1) (vs ++ [v]) ((xs ++ [y]).map f) := by
  rw [List.map_append]
  exact OwAll.snoc h w n
theorem Ow.ints {a : Addr} {ys : List Int} (h : H a = some (.lst (ys.map V.int))) : Ow G H [a] (.ref a) (oL oI ys) := by
  have z : ∀ ys : List Int, OwAll G H [] (ys.map V.int) (ys.map oI) := fun ys => by
    induction ys with
    | nil => exact .nil
    | cons y r ih => exact .cons (L1 := []) (L2 := []) (.val _) ih (fun _ z => nomatch z)
  exact .nod (k := .lst) h (z ys) (fun z => nomatch z)
theorem Ow.list {a : Addr} {xs : List α} {L : List Addr} {vs : List V} (h : H a = some (.lst vs)) (w : OwAll G H L vs (xs.map f)) (n : ∀ b ∈ L, b ≠ a) : Ow G H (a :: L) (.ref a) (oL f xs) := .nod (k := .lst) h w (fun z => n a z rfl)
theorem Ow.toList {v : V} {L : List Addr} {xs : List α} (w : Ow G H L v (oL f xs)) : ∃ a vs L', v = .ref a ∧ L = a :: L' ∧ H a = some (.lst vs) ∧ OwAll G H L' vs (xs.map f) ∧ ∀ b ∈ L', b ≠ a := by
  unfold oL at w
  cases w with
  | nod h r n => exact ⟨_, _, _, rfl, rfl, h, r, fun b hb z => n (z ▸ hb)⟩
theorem OwAll.toInts : ∀ {L : List Addr} {vs : List V} {xs : List Int}, OwAll G H L vs (xs.map oI) → L = [] ∧ vs = xs.map V.int
  | _, _, [], .nil => ⟨rfl, rfl⟩
  | _, _, x :: xs, .cons a r _ => by
    obtain ⟨h1, h2⟩ := OwAll.toInts r
    cases a
    exact ⟨by rw [h1] <;> rfl, by rw [h2] <;> rfl⟩
theorem Ow.toInts {v : V} {L : List Addr} {xs : List Int} (w : Ow G H L v (oL oI xs)) : ∃ a, v = .ref a ∧ L = [a] ∧ H a = some (.lst (xs.map V.int)) := by
  obtain ⟨a, vs, L', rfl, rfl, h, r, _⟩ := w.toList
  obtain ⟨rfl, rfl⟩ := r.toInts
  exact ⟨a, rfl, rfl, h⟩
/-- the part at a place, and how a change of it alone changes the whole -/
theorem OwAll.part : ∀ {L : List Addr} {vs : List V} {ds : List Dt} {i : Nat} {d : Dt}, OwAll G H L vs ds → ds[i]? = some d → ∃ v L1, vs[i]? = some v ∧ Ow G H L1 v d ∧ (∀ b ∈ L1, b ∈ L) ∧
    ∀ H' d', (∀ b ∈ L, b ∉ L1 → ∀ o, H b = some o → H' b = some o) → Ow G H' L1 v d' → OwAll G H' L vs (ds.set i d')
  | _, _, _, _, _, .nil, h => by simp at h
  | _, _, _, 0, _, .cons (L1 := La) (L2 := Lb) a r n, h => by
    simp at h
    subst h
    refine ⟨_, La, rfl, a, fun b hb => List.mem_append_left _ hb, fun H' d' k w => ?_⟩
    exact .cons w (OwAll.mono (Same.refl G) (fun b hb => k b (List.mem_append_right _ hb) fun z => n b z hb) r) n
  | _, _, _, i + 1, _, .cons (L1 := La) (L2 := Lb) a r n, h => by
    obtain ⟨v, L1, h1, h2, h3, h4⟩ := OwAll.part (i := i) r (by simpa using h)
    refine ⟨v, L1, by simpa using h1, h2, fun b hb => List.mem_append_right _ (h3 b hb), fun H' d' k w => ?_⟩
    refine .cons (Ow.mono (Same.refl G) (fun b hb => k b (List.mem_append_left _ hb) fun z => n b hb (h3 b z)) a) (h4 H' d' (fun b hb nb => k b (List.mem_append_right _ hb) nb) w) n
/-- the same, where the part grows: its new footprint is the old one and what is new -/
theorem OwAll.part2 : ∀ {L : List Addr} {vs : List V} {ds : List Dt} {i : Nat} {d : Dt}, OwAll G H L vs ds → ds[i]? = some d → ∃ v L1, vs[i]? = some v ∧ Ow G H L1 v d ∧ (∀ b ∈ L1, b ∈ L) ∧
    (∀ H' d', (∀ b ∈ L, b ∉ L1 → ∀ o, H b = some o → H' b = some o) → Ow G H' L1 v d' → OwAll G H' L vs (ds.set i d')) ∧
    ∀ G' H' d' Fv L1', Same G G' → (∀ b ∈ L, b ∉ L1 → ∀ o, H b = some o → H' b = some o) → (∀ b ∈ L1', b ∈ L1 ++ Fv) → (∀ b ∈ Fv, b ∉ L) → Ow G' H' L1' v d' → ∃ L', (∀ b ∈ L', b ∈ L ++ Fv) ∧ OwAll G' H' L' vs (ds.set i d')
  | _, _, _, _, _, .nil, h => by simp at h
  | _, _, _, 0, _, .cons (L1 := La) (L2 := Lb) a r n, h => by
    simp at h
    subst h
    refine ⟨_, La, rfl, a, fun b hb => List.mem_append_left _ hb, fun H' d' k w => ?_, fun G' H' d' Fv L1' eG k s nf w => ⟨L1' ++ Lb, fun b hb => ?_, ?_⟩⟩
    · exact .cons w (OwAll.mono (Same.refl G) (fun b hb => k b (List.mem_append_right _ hb) fun z => n b z hb) r) n
    · rcases List.mem_append.mp hb with hb | hb
      · rcases List.mem_append.mp (s b hb) with q | q
        · exact List.mem_append_left _ (List.mem_append_left _ q)
        · exact List.mem_append_right _ q
      · exact List.mem_append_left _ (List.mem_append_right _ hb)
    · refine .cons w (OwAll.mono eG (fun b hb => k b (List.mem_append_right _ hb) fun z => n b z hb) r) fun b hb q => ?_
      rcases List.mem_append.mp (s b hb) with z | z
      · exact n b z q
      · exact nf b z (List.mem_append_right _ q)
  | _, _, _, i + 1, _, .cons (L1 := La) (L2 := Lb) a r n, h => by
    obtain ⟨v, L1, h1, h2, h3, h4, h5⟩ := OwAll.part2 (i := i) r (by simpa using h)
    refine ⟨v, L1, by simpa using h1, h2, fun b hb => List.mem_append_right _ (h3 b hb), fun H' d' k w => ?_, fun G' H' d' Fv L1' eG k s nf w => ?_⟩
    · refine .cons (Ow.mono (Same.refl G) (fun b hb => k b (List.mem_append_left _ hb) fun z => n b hb (h3 b z)) a) (h4 H' d' (fun b hb nb => k b (List.mem_append_right _ hb) nb) w) n
    · obtain ⟨L', s2, z⟩ := h5 G' H' d' Fv L1' eG (fun b hb nb => k b (List.mem_append_right _ hb) nb) s (fun b hb q => nf b hb (List.mem_append_right _ q)) w
      refine ⟨La ++ L', fun b hb => ?_, .cons (Ow.mono eG (fun b hb => k b (List.mem_append_left _ hb) fun z => n b hb (h3 b z)) a) z fun b hb q => ?_⟩
      · rcases List.mem_append.mp hb with hb | hb
        · exact List.mem_append_left _ (List.mem_append_left _ hb)
        · rcases List.mem_append.mp (s2 b hb) with q | q
          · exact List.mem_append_left _ (List.mem_append_right _ q)
          · exact List.mem_append_right _ q
      · rcases List.mem_append.mp (s2 b q) with y | y
        · exact n b hb y
        · exact nf b y (List.mem_append_left _ hb)
theorem OwAll.partM [Inhabited α] {k : Int} (w : OwAll G H L vs (xs.map f)) (h : -(xs.length : Int) ≤ k ∧ k < xs.length) : ∃ v L1, atI vs k = some v ∧ Ow G H L1 v (f (itD xs k)) ∧ (∀ b ∈ L1, b ∈ L) ∧
    (∀ H' y, (∀ b ∈ L, b ∉ L1 → ∀ o, H b = some o → H' b = some o) → Ow G H' L1 v (f y) → OwAll G H' L vs ((setL xs k y).map f)) ∧
    ∀ G' H' y Fv L1', Same G G' → (∀ b ∈ L, b ∉ L1 → ∀ o, H b = some o → H' b = some o) → (∀ b ∈ L1', b ∈ L1 ++ Fv) → (∀ b ∈ Fv, b ∉ L) → Ow G' H' L1' v (f y) → ∃ L', (∀ b ∈ L', b ∈ L ++ Fv) ∧ OwAll G' H' L' vs ((setL xs k y).map f) := by
  obtain ⟨j, e, hj⟩ := ixN_some h
  have hx := List.getElem?_eq_getElem hj
  obtain ⟨v, L1, h1, h2, h3, h4, h5⟩ := OwAll.part2 (i := j) (d := f xs[j]) w (by rw [List.getElem?_map, hx] <;> rfl)
  have ei : itD xs k = xs[j] := by
    unfold itD atI
    rw [e]
    show (xs[j]?).getD default = _
    rw [hx] <;> rfl
  refine ⟨v, L1, ?_, by rw [ei]; exact h2, h3, fun H' y q w2 => ?_, fun G' H' y Fv L1' eG q s nf w2 => ?_⟩
  · unfold atI
    rw [w.lenM, e]
    exact h1
  · have z := h4 H' (f y) q w2
    unfold setL
    rw [e, List.map_set]
    exact z
  · obtain ⟨L', s2, z⟩ := h5 G' H' (f y) Fv L1' eG q s nf w2
    refine ⟨L', s2, ?_⟩
    unfold setL
    rw [e, List.map_set]
    exact z
theorem grow_keeps {L L1 : List Addr} {m : Addr} {H H1 H2 : Hp} (e : Same H H1) (x : SameX m H1 H2) (hm : m ∈ L1) : ∀ b ∈ L, b ∉ L1 → ∀ o, H b = some o → H2 b = some o := fun b _ n o q => x b o (e b o q) (fun z => n (z ▸ hm))
theorem grow_sub {a : Addr} {L' Lr Fv : List Addr} (h : ∀ b ∈ L', b ∈ Lr ++ Fv) : ∀ b ∈ a :: L', b ∈ (a :: Lr) ++ Fv := fun b hb => by
  rcases List.mem_cons.mp hb with rfl | hb
  · exact List.mem_cons_self
  · exact List.mem_cons_of_mem _ (h b hb)
/-- the item of a turn -/
theorem OwAll.turn {i : Nat} {v : V} (w : OwAll G H L vs (xs.map f)) (h : vs[i]? = some v) : ∃ x L1, xs[i]? = some x ∧ Ow G H L1 v (f x) ∧ ∀ b ∈ L1, b ∈ L := by
  have hl := get_len h
  have e := w.lenM
  have hx := List.getElem?_eq_getElem (show i < xs.length by omega)
  obtain ⟨v2, L1, h1, h2, h3, _⟩ := OwAll.part (i := i) (d := f xs[i]) w (by rw [List.getElem?_map, hx] <;> rfl)
  rw [h] at h1
  cases h1
  exact ⟨_, L1, hx, h2, h3⟩
end
/-! ### what is owned, in pieces -/
theorem all_app {P : Addr → Prop} {L l : List Addr} (h : ∀ x ∈ L, P x) (t : ∀ x ∈ l, P x) : ∀ x ∈ L ++ l, P x := fun x hx => by
  rcases List.mem_append.mp hx with q | q
  · exact h x q
  · exact t x q
theorem nm_nil {a : Addr} : a ∉ ([] : List Addr) := fun z => nomatch z
theorem nm_cons {a m : Addr} {l : List Addr} (h : a ≠ m) (t : a ∉ l) : a ∉ m :: l := fun z => by
  rcases List.mem_cons.mp z with q | q
  · exact h q
  · exact t q
theorem nm_app {a : Addr} {L l : List Addr} (h : a ∉ L) (t : a ∉ l) : a ∉ L ++ l := fun z => by
  rcases List.mem_append.mp z with q | q
  · exact h q
  · exact t q
theorem there_ne {H : Hp} {L : List Addr} {x : Addr} (t : ∀ b ∈ L, H b ≠ none) (n : H x = none) : ∀ b ∈ L, b ≠ x := fun b hb z => t b hb (z ▸ n)
theorem new_ne {H : Hp} {L : List Addr} {x : Addr} {o : HO} (n : ∀ b ∈ L, H b = none) (h : H x = some o) : ∀ b ∈ L, b ≠ x := fun b hb z => by
  have := n b hb
  rw [z, h] at this
  cases this
theorem new_nl {H : Hp} {L L2 : List Addr} (n : ∀ b ∈ L, H b = none) (t : ∀ b ∈ L2, H b ≠ none) : ∀ b ∈ L, b ∉ L2 := fun b hb z => t b z (n b hb)
theorem nl_symm {L L2 : List Addr} (h : ∀ b ∈ L, b ∉ L2) : ∀ b ∈ L2, b ∉ L := fun b hb z => h b z hb
theorem none_of_same {H H' : Hp} {x : Addr} (e : Same H H') (n : H' x = none) : H x = none := by
  cases q : H x with
  | none => rfl
  | some o =>
    rw [e x o q] at n
    cases n
section
variable {M : List Addr} {H0 G0 G H H' : Hp} {O L : List Addr} {p m : Addr} {o : HO}
theorem Sep.h0 (S : Sep M H0 G0 G H O) {b : Addr} (hb : b ∈ O) (hM : b ∉ M) : H0 b = none := (S.ow b hb).2.2.elim (fun z => (hM z).elim) id
theorem g_nl {a : Addr} {o : HO} (h : G a = some o) (S : Sep M H0 G0 G H O) (hL : ∀ b ∈ L, b ∈ O) : ∀ b ∈ L, b ≠ a := fun b hb => (g_ne h S (hL b hb)).symm
theorem b_nl {a : Addr} {o : HO} (h : (hideL M H0) a = some o) (S : Sep M H0 G0 G H O) (hL : ∀ b ∈ L, b ∈ O) : ∀ b ∈ L, b ≠ a := fun b hb => (b_ne h S (hL b hb)).symm
/-- a whole tree that is to stay as it is -/
theorem Sep.freezeL (S : Sep M H0 G0 G H O) {O' : List Addr} (hL : ∀ b ∈ L, b ∈ O) (h0 : ∀ b ∈ L, H0 b = none) (hO : ∀ b ∈ O', b ∈ O ∧ b ∉ L) : ∃ G', Same G G' ∧ Keeps L H G' ∧ Sep M H0 G0 G' H O' := by
  have gn : ∀ b ∈ L, G b = none := fun b hb => (S.ow b (hL b hb)).1
  refine ⟨fun b => if b ∈ L then H b else G b, fun b u q => ?_, fun b hb u q => ?_, S.base, S.pm, fun b u q => ?_, fun b u q => ?_, fun b hb gb => ?_, fun a ha => ?_⟩
  · have n : b ∉ L := fun z => by
      rw [gn b z] at q
      cases q
    show (if b ∈ L then H b else G b) = _
    rw [if_neg n]
    exact q
  · show (if b ∈ L then H b else G b) = _
    rw [if_pos hb]
    exact q
  · by_cases z : b ∈ L
    · exact (if_pos z).symm.trans q
    · exact S.sG b u ((if_neg z).symm.trans q)
  · have z : b ∉ L := fun z => by
      have := S.g0 b u q
      rw [gn b z] at this
      cases this
    show (if b ∈ L then H b else G b) = _
    rw [if_neg z]
    exact S.g0 b u q
  · have z : b ∉ L := fun z => hb (h0 b z)
    show (if b ∈ L then H b else G b) = _
    rw [if_neg z]
    exact S.gn b hb gb
  · obtain ⟨h1, h2⟩ := hO a ha
    refine ⟨?_, (S.ow a h1).2⟩
    show (if a ∈ L then H a else G a) = _
    rw [if_neg h2]
    exact (S.ow a h1).1
/-- a callee hands over a list of lists of its own making -/
theorem Sep.steptree (S : Sep M H0 G0 G H O) {G' : Hp} (e : Same H H') (eG : Same G G') (sG : Same G' H') (hn : ∀ b, H b ≠ none → G b = none → G' b = none) (L : List Addr) (hL : ∀ b ∈ L, H b = none ∧ G' b = none ∧ H' b ≠ none) : Sep M H0 G0 G' H' (L ++ O) := by
  have S2 := S.step e eG sG hn
  refine ⟨S2.base, S2.pm, S2.sG, S2.g0, S2.gn, all_app (fun b hb => ⟨(hL b hb).2.1, (hL b hb).2.2, .inr (S.free (hL b hb).1)⟩) S2.ow⟩
end
theorem Rp.list_of {α : Type} {g : α → PyData} {H : Hp} {a : Addr} {vs : List V} {xs : List α} (h : H a = some (.lst vs)) (r : RpAll H vs (xs.map g)) : Rp H (.ref a) (encL g xs) := .lst h r
/-! ### repr of data -/
mutual
def nodes : PyData → Nat
  | .list xs => 1 + nodesAll xs
  | .tuple xs => 1 + nodesAll xs
  | _ => 1
def nodesAll : List PyData → Nat
  | [] => 0
  | x :: xs => nodes x + nodesAll xs
end
mutual
def smallD : PyData → Bool
  | .none => true
  | .bool _ => true
  | .int i => decide (i.natAbs < 10 ^ 19)
  | .str x => decide ((reprText x).length ≤ 20)
  | .list xs => smallAll xs
  | .tuple xs => smallAll xs
  | _ => false
def smallAll : List PyData → Bool
  | [] => true
  | x :: xs => smallD x && smallAll xs
end
theorem piled_list (ts : List Str) : (listText ts).length ≤ piled ts + 2 := by
  cases ts with
  | nil => exact Nat.le_refl 2
  | cons t r =>
    have e : (listText (t :: r)).length = (textFrom 1 ("[" ++ ("" : String) ++ t) r).length + 1 := by
      show (textFrom 0 "[" (t :: r) ++ "]").length = _
      rw [strLen_append]
      rfl
    rw [e, textFrom_length_pos r 1 _ (by decide), piled_cons, strLen_append, strLen_append]
    have h1 : (("[" : String) : Str).length = 1 := rfl
    have h2 : (("" : String) : Str).length = 0 := rfl
    omega
theorem piled_tup (ts : List Str) : (tupleText ts).length ≤ piled ts + 3 := by
  unfold tupleText
  rw [strLen_append, strLen_append]
  have h1 : (("(" : String) : Str).length = 1 := rfl
  have h2 : (((if ts.length == 1 then ",)" else ")" : String) : Str)).length ≤ 2 := by split <;> decide
  by_cases h : ts = []
  · subst h
    exact Nat.le_of_lt (by decide)
  · have := join_length_add ts h
    omega
mutual
theorem small_shown : ∀ d : PyData, smallD d = true → d.shown.length + 4 ≤ 26 * nodes d ∧ d.showable = true ∧ d.hasDict = false
  | .none, _ => ⟨by simp only [PyData.shown, nodes]; decide, by simp [PyData.showable], by simp [PyData.hasDict]⟩
  | .bool b, _ => ⟨by cases b <;> simp only [PyData.shown, nodes] <;> decide, by simp [PyData.showable], by simp [PyData.hasDict]⟩
  | .int i, h => by
    have h : i.natAbs < 10 ^ 19 := by simpa [smallD] using h
    refine ⟨?_, ?_, by simp [PyData.hasDict]⟩
    · have := int_text_length_le10 (k := 19) (by decide) h
      simp only [PyData.shown, nodes]
      rw [PySem.ofString_length]
      omega
    · simp only [PyData.showable, decide_eq_true_eq]
      have : i.natAbs < 2 ^ 64 := by omega
      rcases Nat.eq_zero_or_pos i.natAbs with z | z
      · rw [z]
        decide
      · have := (Nat.log2_lt (by omega)).mpr this
        omega
  | .str x, h => by
    have h : (reprText x).length ≤ 20 := by simpa [smallD] using h
    refine ⟨by simp only [PyData.shown, nodes]; omega, by simp [PyData.showable], by simp [PyData.hasDict]⟩
  | .list xs, h => by
    obtain ⟨h1, h2, h3⟩ := small_shownAll xs (by simpa [smallD] using h)
    refine ⟨?_, by simpa [PyData.showable] using h2, by simpa [PyData.hasDict] using h3⟩
    have := piled_list (PyData.shownAll xs)
    simp only [PyData.shown, nodes]
    omega
  | .tuple xs, h => by
    obtain ⟨h1, h2, h3⟩ := small_shownAll xs (by simpa [smallD] using h)
    refine ⟨?_, by simpa [PyData.showable] using h2, by simpa [PyData.hasDict] using h3⟩
    have := piled_tup (PyData.shownAll xs)
    simp only [PyData.shown, nodes]
    omega
  | .dict kvs, h => by simp [smallD] at h
theorem small_shownAll : ∀ ds : List PyData, smallAll ds = true → piled (PyData.shownAll ds) ≤ 26 * nodesAll ds ∧ PyData.showableAll ds = true ∧ PyData.hasDictAll ds = false
  | [], _ => ⟨by simp [PyData.shownAll, nodesAll, piled], by simp [PyData.showableAll], by simp [PyData.hasDictAll]⟩
  | d :: ds, h => by
    have h : smallD d = true ∧ smallAll ds = true := by simpa [smallAll] using h
    obtain ⟨a1, a2, a3⟩ := small_shown d h.1
    obtain ⟨b1, b2, b3⟩ := small_shownAll ds h.2
    refine ⟨?_, by simp [PyData.showableAll, a2, b2], by simp [PyData.hasDictAll, a3, b3]⟩
    simp only [PyData.shownAll, nodesAll, piled_cons]
    omega
end
/-- data that repr may show -/
def ShowOk (d : PyData) : Prop := smallD d = true ∧ nodes d ≤ 600000 ∧ d.depth ≤ 60
instance (d : PyData) : Decidable (ShowOk d) := by unfold ShowOk; infer_instance
def rRepr : List V → Hp → VK → Prop := fun xs H Q => ∃ (a : Addr) (d : PyData), xs = [.ref a] ∧ Rp H (.ref a) d ∧ ShowOk d ∧ Q (.str d.shown) H
theorem call_reprD {X : Cx} (hg : X.A.guards = some []) (hu : X.A.units + 64 < cLine) : CallR X (.builtin "repr") rRepr := by
  intro pins s σ H xs us Q I r h
  obtain ⟨a, d, rfl, rp, ⟨ok, nd, dp⟩, q⟩ := h
  obtain ⟨h1, h2, h3⟩ := small_shown d ok
  cases r with
  | cons ra rn =>
    cases rn
    cases ra
    obtain ⟨as, reads⟩ := Dp.reads I d _ _ rp.dp rfl
    refine repr_of_reads' reads h2 (PyData.noDict_hsm h3) hg (by omega) (fun _ _ e => e) (fun h' u tk k => ⟨.str d.shown, H, I.kept k, ⟨u, rfl⟩, q⟩) ?_
    show d.shown.length ≤ 2 ^ 24
    omega
/-- small data: nodes, depth -/
def Sm (n k : Nat) (d : PyData) : Prop := smallD d = true ∧ nodes d ≤ n ∧ d.depth ≤ k
theorem Sm.imp {n k n' k' : Nat} {d : PyData} (h : Sm n k d) (a : n ≤ n') (b : k ≤ k') : Sm n' k' d := ⟨h.1, Nat.le_trans h.2.1 a, Nat.le_trans h.2.2 b⟩
theorem Sm.show {n k : Nat} {d : PyData} (h : Sm n k d) (a : n ≤ 600000 := by decide) (b : k ≤ 60 := by decide) : ShowOk d := h.imp a b
theorem sm_non : Sm 1 0 .none := ⟨by simp [smallD], by simp [nodes], by simp [PyData.depth]⟩
theorem sm_bool (b : Bool) : Sm 1 0 (.bool b) := ⟨by simp [smallD], by simp [nodes], by simp [PyData.depth]⟩
theorem sm_int {i : Int} (h : -10000000000000000000 < i ∧ i < 10000000000000000000) : Sm 1 0 (.int i) := ⟨by simp only [smallD, decide_eq_true_eq]; omega, by simp [nodes], by simp [PyData.depth]⟩
theorem sm_all {α : Type} {f : α → PyData} {n k : Nat} : ∀ {xs : List α}, (∀ x ∈ xs, Sm n k (f x)) → smallAll (xs.map f) = true ∧ nodesAll (xs.map f) ≤ xs.length * n ∧ PyData.depthAll (xs.map f) ≤ k
  | [], _ => ⟨by simp [smallAll], by simp [nodesAll], by simp [PyData.depthAll]⟩
  | x :: xs, h => by
    obtain ⟨a1, a2, a3⟩ := h x List.mem_cons_self
    obtain ⟨b1, b2, b3⟩ := sm_all fun y hy => h y (List.mem_cons_of_mem _ hy)
    refine ⟨by simp [smallAll, a1, b1], ?_, ?_⟩
    · simp only [List.map_cons, nodesAll, List.length_cons, Nat.succ_mul]
      omega
    · simp only [List.map_cons, PyData.depthAll]
      omega
theorem sm_L {α : Type} {f : α → PyData} {n k m : Nat} {xs : List α} (h : ∀ x ∈ xs, Sm n k (f x)) (hm : xs.length ≤ m) : Sm (1 + m * n) (k + 1) (encL f xs) := by
  obtain ⟨a1, a2, a3⟩ := sm_all h
  refine ⟨by simp [encL, smallD, a1], ?_, ?_⟩
  · have := Nat.mul_le_mul_right n hm
    simp only [encL, nodes]
    omega
  · simp only [encL, PyData.depth]
    omega
theorem sm_ints {xs : List Int} {m : Nat} (h : ∀ x ∈ xs, -10000000000000000000 < x ∧ x < 10000000000000000000) (hm : xs.length ≤ m) : Sm (1 + m * 1) 1 (encL PyData.int xs) := sm_L (fun x hx => sm_int (h x hx)) hm
theorem sm_T2 {α β : Type} {f : α → PyData} {g : β → PyData} {n k m j : Nat} {p : α × β} (h1 : Sm n k (f p.1)) (h2 : Sm m j (g p.2)) : Sm (1 + n + m) (max k j + 1) (encT2 f g p) := by
  obtain ⟨a1, a2, a3⟩ := h1
  obtain ⟨b1, b2, b3⟩ := h2
  refine ⟨by simp [encT2, smallD, smallAll, a1, b1], ?_, ?_⟩
  · simp only [encT2, nodes, nodesAll]
    omega
  · simp only [encT2, PyData.depth, PyData.depthAll]
    omega
theorem sm_T3 {α β γ : Type} {f : α → PyData} {g : β → PyData} {h : γ → PyData} {n k m j l i : Nat} {p : α × β × γ} (h1 : Sm n k (f p.1)) (h2 : Sm m j (g p.2.1)) (h3 : Sm l i (h p.2.2)) : Sm (1 + n + m + l) (max k (max j i) + 1) (encT3 f g h p) := by
  obtain ⟨a1, a2, a3⟩ := h1
  obtain ⟨b1, b2, b3⟩ := h2
  obtain ⟨c1, c2, c3⟩ := h3
  refine ⟨by simp [encT3, smallD, smallAll, a1, b1, c1], ?_, ?_⟩
  · simp only [encT3, nodes, nodesAll]
    omega
  · simp only [encT3, PyData.depth, PyData.depthAll]
    omega
end Vx
namespace Vx
open PySem PySem.Spec PyProof.Rows L2
theorem new_ne2 {H : Hp} {L : List Addr} {x : Addr} (n : ∀ b ∈ L, H b = none) (h : H x ≠ none) : ∀ b ∈ L, b ≠ x := fun b hb z => h (z ▸ n b hb)
theorem upd_tree {α : Type} {f : α → Dt} {G H H' : Hp} {L L1 : List Addr} {vs : List V} {xs : List α} {k : Int} {v : V} {m : Addr} {y : α} (up : ∀ H' y, (∀ b ∈ L, b ∉ L1 → ∀ o, H b = some o → H' b = some o) → Ow G H' L1 v (f y) → OwAll G H' L vs ((setL xs k y).map f)) (x : SameX m H H') (hm : m ∈ L1) (w : Ow G H' L1 v (f y)) :
    OwAll G H' L vs ((setL xs k y).map f) := up H' y (fun c _ n o q => x c o q (fun z => n (z ▸ hm))) w
theorem Ow.toFrz {α : Type} {f : α → PyData} {G H : Hp} {L : List Addr} {v : V} {x : α} (w : Ow G H L v (oF f x)) : L = [] ∧ Rp G v (f x) := by
  unfold oF at w
  cases w with
  | frz r => exact ⟨rfl, r⟩
section
variable {α : Type} {f : α → Dt} {G H : Hp} {L : List Addr} {vs : List V} {xs : List α}
theorem OwAll.pin {i : Nat} {v : V} {x : α} (w : OwAll G H L vs (xs.map f)) (h : vs[i]? = some v) (hx : xs[i]? = some x) : ∃ L1, Ow G H L1 v (f x) ∧ ∀ b ∈ L1, b ∈ L := by
  obtain ⟨y, L1, h1, h2, h3⟩ := OwAll.turn w h
  rw [hx] at h1
  cases h1
  exact ⟨L1, h2, h3⟩
theorem OwAll.pinInts {i : Nat} {b : Addr} {xs : List (List Int)} {x : List Int} (w : OwAll G H L vs (xs.map (oL oI))) (h : vs[i]? = some (.ref b)) (hx : xs[i]? = some x) : H b = some (.lst (x.map V.int)) ∧ b ∈ L := by
  obtain ⟨L1, w1, h1⟩ := OwAll.pin w h hx
  obtain ⟨c, e, rfl, h2⟩ := Ow.toInts w1
  cases e
  exact ⟨h2, h1 _ List.mem_cons_self⟩
end
end Vx
namespace Vx
open PySem PySem.Spec PyProof.Rows L2
theorem lookup_relab {c : Str → Bool} {y : Str} : ∀ l : List (Str × NameKind), (l.lookup y = some .cell ∨ l.lookup y = some .free) →
    ((l.map fun (n, k) => if (k == .free && c n) then (n, NameKind.cell) else (n, k)).lookup y = some .cell ∨ (l.map fun (n, k) => if (k == .free && c n) then (n, NameKind.cell) else (n, k)).lookup y = some .free)
  | [], h => by simp at h
  | (n, k) :: r, h => by
    rw [List.map_cons]
    dsimp only
    by_cases e : y == n
    · have hk : k = .cell ∨ k = .free := by
        rw [List.lookup_cons, e] at h
        simpa using h
      by_cases q : (k == .free && c n) = true
      · left
        rw [if_pos q, List.lookup_cons, e]
      · rw [if_neg q, List.lookup_cons, e]
        simpa using hk
    · have e : (y == n) = false := by simpa using e
      rw [List.lookup_cons, e] at h
      have ih := lookup_relab (c := c) r h
      by_cases q : (k == .free && c n) = true
      · rw [if_pos q, List.lookup_cons, e]
        exact ih
      · rw [if_neg q, List.lookup_cons, e]
        exact ih
theorem blk_relabel {N : List Str} {sc scope : Scope} {env : Env} {own : List (Str × Nat)} (h : BlkOk N sc scope own) : BlkOk N (relabel sc env) scope own := by
  refine ⟨h.kind, h.uniq, h.ix, fun y hy e => ?_, h.own⟩
  have z := lookup_relab (c := fun n => env.scope.kind == .function && env.kindOf n == some .cell) (y := y.1) sc.names (h.free y hy e)
  unfold relabel
  simpa only [Bool.and_assoc] using z
end Vx
namespace Vx
open PySem PySem.Spec PyProof.Rows L2
theorem FnG.low {P : Program} {w : World} {K : PySem.W.Frag} {mg : Str → Option Value} {base : Heap} {cx : CXT} {j k : Nat} {f : Addr} {fd : FuncData} {ps : List Str} {sp : Sp} (F : FnG P w K mg base cx j f fd ps sp) (h : j ≤ k) : FnG P w K mg base cx k f fd ps sp := ⟨F.len, fun A o s H a us vs Q E r => F.run A o s H a us vs Q E (r.low h)⟩
/-! ### a local name that holds one of several defs -/
structure HeldX (P : Program) (w : World) (K : PySem.W.Frag) (mg : Str → Option Value) (base : Heap) (k n : Nat) (f : Addr) (sp : Sp) : Prop where
  ex : ∃ (fd : FuncData) (ps : List Str), FnG P w K mg base (L2.CX P w) k f fd ps sp ∧ PySem.W.keepIn K (.ref f) = true ∧ Bnd K fd ps n [] (fun vs _ => vs)
theorem HeldX.of {P : Program} {w : World} {K : PySem.W.Frag} {mg : Str → Option Value} {base : Heap} {j k n : Nat} {x : Str} {sp : Sp} {pats : List Pat} {a : Addr} (c : CalX P w K mg base j x sp pats) (hx : mg x = some (.ref a)) (hp : (n, [], fun vs _ => vs) ∈ pats) (hj : j ≤ k) : HeldX P w K mg base k n a sp := by
  obtain ⟨f, fd, ps, F, hm, kp, b⟩ := c.ex
  rw [hx] at hm
  injection hm with hm
  injection hm with hm
  subst hm
  exact ⟨fd, ps, F.low hj, kp, b _ hp⟩
def tCallF (i n : Nat) (L : List (Addr × Sp)) (W : WX) (t : TA) : TE := fun σ H Q => ∃ f sp, σ[i]? = some (some (.ref f)) ∧ (f, sp) ∈ L ∧ t σ H fun vs H1 => vs.length = n ∧ ([] : List V).length = 0 ∧ sp vs H1 Q (WE W σ)
theorem vx_callF {X : Cx} {k j i n : Nat} {x : Str} {p pos : Pos} {e : Expr} {es : List Expr} {t : TA} {W : WX} (L : List (Addr × Sp)) (A : ∀ q ∈ L, HeldX X.prog X.w X.K X.mg X.base k n q.1 q.2) (hr : RoomG j X.A) (hk : k ≤ j) (tkW : Takes X W) (hN : X.N[i]? = some x) (hv : Vis X.env.scope x) (ha : PA X (e :: es) t)
    (hdb : (x == ("__debug__" : Str)) = false := by decide) (hcd : (x == ("__classdict__" : Str)) = false := by decide) (he : starEach (e :: es) X.env = (false, eval e X.env) :: starEach es X.env := by rfl) (hpl : (backTo pos (starEach es X.env)).any (·.1) = false := by rfl) :
    PE X (.Call (.Name x p) (e :: es) [] pos) (tCallF i n L W t) := by
  constructor
  intro pins s σ H Q I h
  obtain ⟨f, sp, slot, mem, rest⟩ := h
  obtain ⟨fd, ps, F, kp, b⟩ := (A _ mem).ex
  refine wpAny_Call_Name_kw (thn ((pe_var (pos := p) hN hv hdb hcd).run pins s σ H (fun v H1 => v = .ref f ∧ H1 = H) I ⟨.ref f, slot, rfl, rfl⟩) ?_)
  rintro u s1 ⟨v, H1, I1, r1, rfl, rfl⟩
  cases r1
  refine PySem.W.callWith_K (h₀ := X.base) I.ok.mod.kin kp (thn (ha.run pos pins s1 σ _ _ I1 rest) ?_) he hpl
  rintro us s2 ⟨vs, H2, I2, r, l1, l2, q⟩
  exact ⟨I2.kIn, run_X (us := us) (ws := []) (zs := []) F (hr.low hk) b tkW I2 r .nil l1 l2 q⟩
/-! ### the least of a list, the place of an item -/
def minL : List Int → Int
  | [] => 0
  | [x] => x
  | x :: y :: r => if x ≤ minL (y :: r) then x else minL (y :: r)
theorem minL_spec : ∀ (xs : List Int), xs ≠ [] → minL xs ∈ xs ∧ ∀ y ∈ xs, minL xs ≤ y
  | [], h => absurd rfl h
  | [x], _ => ⟨List.mem_cons_self, fun y hy => by rw [List.mem_singleton.mp hy]; exact Int.le_refl x⟩
  | x :: y :: r, _ => by
    obtain ⟨h1, h2⟩ := minL_spec (y :: r) (fun z => nomatch z)
    unfold minL
    split
    · refine ⟨List.mem_cons_self, fun z hz => ?_⟩
      rcases List.mem_cons.mp hz with rfl | hz
      · exact Int.le_refl _
      · have := h2 z hz
        omega
    · refine ⟨List.mem_cons_of_mem _ h1, fun z hz => ?_⟩
      rcases List.mem_cons.mp hz with rfl | hz
      · omega
      · exact h2 z hz
def maxL (xs : List Int) : Int := -(minL (xs.map fun x => -x))
theorem maxL_spec (xs : List Int) (h : xs ≠ []) : maxL xs ∈ xs ∧ ∀ y ∈ xs, y ≤ maxL xs := by
  obtain ⟨h1, h2⟩ := minL_spec (xs.map fun x => -x) (by simpa using h)
  obtain ⟨z, hz, e⟩ := List.mem_map.mp h1
  unfold maxL
  refine ⟨by rw [← e, Int.neg_neg]; exact hz, fun y hy => ?_⟩
  have := h2 _ (List.mem_map_of_mem hy)
  omega
section
variable {X : Cx} {K : PySem.W.Frag}
def rMinL (K : PySem.W.Frag) : List V → Hp → VK → Prop := fun vs H Q => ∃ (a : Addr) (ns : List Int), vs = [V.ref a] ∧ SqL K H a (ns.map V.int) ∧ ns ≠ [] ∧ Q (.int (minL ns)) H
def rMaxL (K : PySem.W.Frag) : List V → Hp → VK → Prop := fun vs H Q => ∃ (a : Addr) (ns : List Int), vs = [V.ref a] ∧ SqL K H a (ns.map V.int) ∧ ns ≠ [] ∧ Q (.int (maxL ns)) H
theorem cr_minL (hc : X.calm = true) (hK : X.K = K := by rfl) : CallR X (.builtin "min") (rMinL K) := by
  subst hK
  intro pins s σ H vs us Q I r h
  obtain ⟨a, ns, rfl, hs, hn, q⟩ := h
  refine cr_min hc pins s σ H _ us Q I r ⟨a, ns, rfl, hs, List.length_pos_iff.mpr hn, fun m hm hle => ?_⟩
  obtain ⟨h1, h2⟩ := minL_spec ns hn
  have e : m = minL ns := Int.le_antisymm (by have := hle _ h1; omega) (h2 m hm)
  rw [e]
  exact q
theorem cr_maxL (hc : X.calm = true) (hK : X.K = K := by rfl) : CallR X (.builtin "max") (rMaxL K) := by
  subst hK
  intro pins s σ H vs us Q I r h
  obtain ⟨a, ns, rfl, hs, hn, q⟩ := h
  refine cr_max hc pins s σ H _ us Q I r ⟨a, ns, rfl, hs, List.length_pos_iff.mpr hn, fun m hm hle => ?_⟩
  obtain ⟨h1, h2⟩ := maxL_spec ns hn
  have e : m = maxL ns := Int.le_antisymm (h2 m hm) (by have := hle _ h1; omega)
  rw [e]
  exact q
end
end Vx
namespace Vx
open PySem PySem.Spec PyProof.Rows L2
def idxL (ns : List Int) (i : Int) : Int := (ns.idxOf i : Nat)
def rIndexI (K : PySem.W.Frag) : V → List V → Hp → VK → Prop := fun x xs H Q => ∃ (a : Addr) (ns : List Int) (i : Int), x = V.ref a ∧ xs = [.int i] ∧ SqL K H a (ns.map V.int) ∧ i ∈ ns ∧ Q (.int (idxL ns i)) H
theorem mt_indexI {X : Cx} {K : PySem.W.Frag} (hK : X.K = K := by rfl) : MtR X "list.index" (rIndexI K) := by
  subst hK
  intro pins s σ H x xs v us Q I rx rxs h
  obtain ⟨a, ns, i, rfl, rfl, hs, hi, q⟩ := h
  have hl := List.idxOf_lt_length_of_mem hi
  refine mt_index pins s σ H _ _ v us Q I rx rxs ⟨a, _, .int i, ns.idxOf i, .int i, rfl, rfl, hs, rfl, flat_ints ns, ?_, by simp [eqV], fun m z hm hz => ?_, q⟩
  · rw [List.getElem?_map, List.getElem?_eq_getElem hl, List.getElem_idxOf hl] <;> rfl
  · rw [List.getElem?_map] at hz
    cases e : ns[m]? with
    | none => rw [e] at hz; cases hz
    | some y =>
      rw [e] at hz
      cases hz
      have hml : m < ns.length := by omega
      have hy : ns[m] = y := by
        rw [List.getElem?_eq_getElem hml] at e
        exact Option.some.inj e
      have := List.not_of_lt_findIdx (p := (· == i)) (xs := ns) (i := m) hm
      simp only [beq_iff_eq, hy] at this
      simp [eqV, this]
theorem cW_aftgo {σ ρ τ : Type} {s : σ} {kr : ρ → Rx τ} {k : σ → Rx τ} {K : τ → Prop} {E : Nat → Prop} (h : cW ((Lp.go s : Lp σ ρ).aft kr k) K E) : cW (k s) K E := h
end Vx
namespace Vx
open PySem PySem.Spec PyProof.Rows L2
/-! ### a truth value or a number beside a number -/
def Bi.num : Bi → Int
  | .b x => if x then 1 else 0
  | .n i => i
def Bi.dat : Bi → PyData
  | .b x => .bool x
  | .n i => .int i
section
variable {X : Cx}
def rEqBI : R2 := fun x y H Q => ∃ (b : Bi) (i : Int), x = biV b ∧ y = .int i ∧ Q (.bl (decide (b.num = i))) H
def rNeBI : R2 := fun x y H Q => ∃ (b : Bi) (i : Int), x = biV b ∧ y = .int i ∧ Q (.bl (!decide (b.num = i))) H
theorem eqv_bi (b : Bi) (i : Int) : PyData.eqv b.dat (.int i) = decide (b.num = i) := by
  cases b with
  | b x => cases x <;> (rw [Bool.eq_iff_iff]; simp [Bi.dat, Bi.num, PyData.eqv])
  | n j =>
    rw [Bool.eq_iff_iff]
    simp only [Bi.dat, Bi.num, PyData.eqv, beq_iff_eq]
    exact decide_eq_true_iff.symm
theorem dp_bi {K : PySem.W.Frag} {H : Hp} : ∀ b : Bi, Dp K H (biV b) b.dat
  | .b x => .bl x
  | .n i => .int i
theorem shaped_bi : ∀ b : Bi, SeqAt.shaped b.dat = true
  | .b x => by unfold SeqAt.shaped; simp [Bi.dat, PyData.canLay0, PyData.depth]
  | .n i => by unfold SeqAt.shaped; simp [Bi.dat, PyData.canLay0, PyData.depth]
theorem op_eqBI (hu : X.A.units + 64 < cLine) : OpR X (compareOp .Eq) rEqBI := by
  intro pins s σ H x y v u Q I rx ry h
  obtain ⟨b, i, rfl, rfl, q⟩ := h
  exact op_eqD hu pins s σ H _ _ v u Q I rx ry ⟨b.dat, .int i, dp_bi b, .int i, shaped_bi b, shaped_bi (.n i), by rw [eqv_bi]; exact q⟩
theorem op_neBI (hu : X.A.units + 64 < cLine) : OpR X (compareOp .NotEq) rNeBI := by
  intro pins s σ H x y v u Q I rx ry h
  obtain ⟨b, i, rfl, rfl, q⟩ := h
  exact op_neD hu pins s σ H _ _ v u Q I rx ry ⟨b.dat, .int i, dp_bi b, .int i, shaped_bi b, shaped_bi (.n i), by rw [eqv_bi]; exact q⟩
end
end Vx
namespace Vx
open PySem PySem.Spec PyProof.Rows L2
/-! ### == of own objects by an own __eq__ that never raises -/
section
variable {X : Cx} {k j : Nat}
def rEqX (C : Addr) (n mm : Nat) (sp : Sp) (g : List V → List V → List V) : R2 := fun x y H Q => ∃ (a b dx dy : Addr) (fs gs : List (Str × V)), x = .ref a ∧ y = .ref b ∧ H a = some (.ins C dx fs) ∧ H b = some (.ins C dy gs) ∧ 2 = n ∧ 0 = mm ∧ sp (g [x, y] []) H (fun v H' => (∃ r, v = .bl r) ∧ Q v H') E0
theorem op_eqX {C : Addr} {sp : Sp} {pats : List Pat} (c : MetX X.prog X.w X.K X.mg X.base k C "__eq__" sp pats) (pt : Pat) (hpt : pt ∈ pats) (hr : RoomG j X.A) (hk : k ≤ j) (hks : pt.2.1 = [] := by rfl) : OpR X (compareOp .Eq) (rEqX C pt.1 pt.2.1.length sp pt.2.2) := by
  intro pins s σ H x y v u Q I rx ry hq
  obtain ⟨a, b, dx, dy, fs, gs, rfl, rfl, ha, hb', l1, l2, q⟩ := hq
  obtain ⟨f, fd, ps, hc, hm, F, bb⟩ := c.ex
  cases rx
  cases ry
  obtain ⟨mA, J, _⟩ := ins_get I.hok ha
  obtain ⟨mB, J', _⟩ := ins_get I.hok hb'
  obtain ⟨od, J, _⟩ := J.look
  obtain ⟨od', J', _⟩ := J'.look
  obtain ⟨m, hF⟩ := I.fr
  have hz := run_X (us := [.ref a, .ref b]) (vs := [.ref a, .ref b]) (ws := []) (zs := []) F (hr.low hk) (bb pt hpt) (takes0 (X := X)) I (.cons rfl (.cons rfl .nil)) .nil l1 l2 q
  rw [hks] at hz
  show wpAny (model X.prog X.w) X.A (richCompare .Eq (.ref a) (.ref b)) (EP X pins σ Q) X.xe s
  refine PySem.W.cmp_K (op := .Eq) (tb := .ref C) (hr.low hk).toRoom.units0 hF I.ok.mod.kin J J'.type (by simp [PySem.W.notFirst]) hm.at_ hm.fn ?_
  refine wpAny_mono hz (fun r s' z => ?_) fun _ _ e => e
  obtain ⟨w, H', I', rw', ⟨⟨q1, rfl⟩, q2⟩⟩ := z
  cases rw'
  exact ⟨V.bl q1, H', I', rfl, q2⟩
end
end Vx
namespace Vx
open PySem PySem.Spec PyProof.Rows L2
/-! ### isinstance of the exception in hand: a built-in class, a tuple of classes -/
theorem kit_blt {K : PySem.W.Frag} {D : Addr} {T : String} {b : Bool} (h : PySem.W.subIn K (.ref D) (.type T) = some b) (h0 : PySem.W.kitMeta T = true := by decide +kernel) : PySem.W.kitOne K (.ref D) (.type T) = some b := by
  unfold PySem.W.kitOne
  rw [if_neg (show ¬ (Value.ref D == Value.type T) = true from fun z => nomatch (show false = true from z))]
  show (if PySem.W.kitMeta T = true then PySem.W.subIn K (.ref D) (.type T) else none) = some b
  rw [if_pos h0, h]
def rIsXB (K : PySem.W.Frag) (a : Addr) (cls : Value) (d : Option Addr) : List V → Hp → VK → Prop := fun xs H Q => ∃ (D : Addr) (T : String) (b : Bool), cls = .ref D ∧ d = none ∧ ExcC K D ∧ xs = [.ref a, .ty T] ∧ PySem.W.kitOne K (.ref D) (.type T) = some b ∧ Q (.bl b) H
theorem call_isXB {X : Cx} {K : PySem.W.Frag} {a : Addr} {cls : Value} {d : Option Addr} {oe : Obj} {pn : List (Addr × Obj)} (hz : Zc cls d oe) (hf : ∃ vs, oe.data = .fields vs) (hK : X.K = K := by rfl) : CallR (X.suite a ((a, oe) :: pn)) (.builtin "isinstance") (rIsXB K a cls d) := by
  subst hK
  intro pins s σ H xs us Q I r h
  obtain ⟨D, T, b, rfl, rfl, c, rfl, e, q⟩ := h
  exact call_isE c hz hf pins s σ H _ us Q I r ⟨_, _, b, rfl, fun u z => z, e, q⟩
def rIsXT (K : PySem.W.Frag) (a : Addr) (cls : Value) (d : Option Addr) : List V → Hp → VK → Prop := fun xs H Q => ∃ (D tp : Addr) (cs : List V) (ws : List Value) (b : Bool), cls = .ref D ∧ d = none ∧ ExcC K D ∧ xs = [.ref a, .ref tp] ∧ H tp = some (.tup cs) ∧ Paired ClsV cs ws ∧ PySem.W.kitAny K (.ref D) ws = some b ∧ Q (.bl b) H
theorem call_isXT {X : Cx} {K : PySem.W.Frag} {a : Addr} {cls : Value} {d : Option Addr} {oe : Obj} {pn : List (Addr × Obj)} (hz : Zc cls d oe) (hf : ∃ vs, oe.data = .fields vs) (hK : X.K = K := by rfl) : CallR (X.suite a ((a, oe) :: pn)) (.builtin "isinstance") (rIsXT K a cls d) := by
  subst hK
  intro pins s σ H xs us Q I r h
  obtain ⟨D, tp, cs, ws, b, rfl, rfl, C, rfl, hT, k, e, q⟩ := h
  cases r with
  | cons rx rr =>
    cases rr with
    | cons rt rr =>
      cases rr
      cases rx
      cases rt
      obtain ⟨hget, _⟩ := I.pin (a, oe) (List.mem_append.mpr (.inl List.mem_cons_self))
      obtain ⟨vs, hv⟩ := hf
      have J : PySem.W.InstAt s.heap a oe D none := by
        obtain ⟨oc, od, oda, osl⟩ := oe
        obtain ⟨h1, h2⟩ := hz
        dsimp only at h1 h2 hv
        subst h1 h2 hv
        exact ⟨hget, rfl, rfl, trivial⟩
      obtain ⟨_, its, rv, o, h1, h2, n, h3⟩ := (show ObjOk X.prog X.w H s.heap tp (.tup cs) from I.hok tp _ hT)
      have e3 := ClsV.all k rv
      subst e3
      obtain ⟨oc, od, dt, sl⟩ := o
      simp only at h2 h3
      subst h2 h3
      exact PySem.W.kia_tup (PySem.W.handS_kitx_exc C.hg C.hk C.hs C.hd C.ha C.hn C.ht C.hm) I.kIn J h1 e (fun z => nomatch z) fun tk => ⟨.bl b, H, I.kept (t' := tk) fun _ _ z => z, rfl, q⟩
theorem kit_self {K : PySem.W.Frag} {t : Value} (h : (t == t) = true := by simp) : PySem.W.kitOne K t t = some true := by
  unfold PySem.W.kitOne
  rw [if_pos h]
/-- what a class must say, so that isinstance asks its objects rightly -/
structure IsiC (K : PySem.W.Frag) (C : Addr) : Prop where
  ha : PySem.W.findIn K (.ref C) "__class__" = some (some (.builtin "object.__class__"))
  hn : PySem.W.specialIn K (.builtin "object.__class__") "__get__" = some (some (.builtin "getset_descriptor.__get__"))
  ht : PySem.W.takesIn K (.builtin "object.__class__") = some true
  hm : PySem.W.mroIn K C (.type "object") = some true
theorem tyX_ins {K : PySem.W.Frag} {H : Hp} {a C dx : Addr} {fs : List (Str × V)} (e : H a = some (.ins C dx fs)) (cl : Cls K C) (c : IsiC K C) : TyX K H (.ref a) (.ref C) := .base (.ins e cl c.ha c.hn c.ht c.hm)
end Vx
namespace Vx
open PySem PySem.Spec PyProof.Rows L2
theorem op_notTrue {X : Cx} : OpR X (compareOp .IsNot) (fun x y H Q => ∃ b : Bool, x = .bl b ∧ y = .bl true ∧ Q (.bl (!b)) H) := by
  intro pins s σ H x y v u Q I rx ry h
  obtain ⟨b, rfl, rfl, q⟩ := h
  cases rx
  cases ry
  show wpAny (model X.prog X.w) X.A (compareOp .IsNot (.bool b) (.bool true)) (EP X pins σ Q) X.xe s
  have e : compareOp .IsNot (.bool b) (.bool true) = pure (.bool (!b)) := by cases b <;> rfl
  rw [e]
  exact wpAny_pure ⟨.bl (!b), H, I, rfl, q⟩
end Vx
/-! # lists stored into trees -/
namespace Vx
open PySem PySem.Spec PyProof.Rows L2
section
variable {G H I : Hp} {α : Type} {f : α → Dt} {L : List Addr} {vs : List V} {xs : List α}
theorem OwAll.set {L1 : List Addr} {v : V} {d : Dt} (h : Ow G H L1 v d) : ∀ {L : List Addr} {vs : List V} {ds : List Dt} (i : Nat), i < ds.length → OwAll G H L vs ds → (∀ b ∈ L1, b ∉ L) → ∃ L', (∀ b ∈ L', b ∈ L ++ L1) ∧ OwAll G H L' (vs.set i v) (ds.set i d)
  | _, _, _, _, hi, .nil, _ => absurd hi (Nat.not_lt_zero _)
  | _, _, _, 0, _, .cons (L1 := La) (L2 := Lb) a r n, nf => by
    refine ⟨L1 ++ Lb, fun b hb => ?_, .cons h r fun b hb q => nf b hb (List.mem_append_right _ q)⟩
    rcases List.mem_append.mp hb with q | q
    · exact List.mem_append_right _ q
    · exact List.mem_append_left _ (List.mem_append_right _ q)
  | _, _, _, i + 1, hi, .cons (L1 := La) (L2 := Lb) a r n, nf => by
    obtain ⟨L', s, w⟩ := OwAll.set h i (Nat.lt_of_succ_lt_succ hi) r fun b hb q => nf b hb (List.mem_append_right _ q)
    refine ⟨La ++ L', fun b hb => ?_, .cons a w fun b hb q => ?_⟩
    · rcases List.mem_append.mp hb with q | q
      · exact List.mem_append_left _ (List.mem_append_left _ q)
      · rcases List.mem_append.mp (s b q) with z | z
        · exact List.mem_append_left _ (List.mem_append_right _ z)
        · exact List.mem_append_right _ z
    · rcases List.mem_append.mp (s b q) with z | z
      · exact n b hb z
      · exact nf b z (List.mem_append_left _ hb)
theorem ixN_len {k : Int} (e : vs.length = xs.length) (h : -(xs.length : Int) ≤ k ∧ k < xs.length) : ixN vs.length k = some ((ixN vs.length k).getD 0) := by
  rw [e]
  obtain ⟨j, hj, _⟩ := ixN_some h
  rw [hj]
  rfl
theorem OwAll.setM {k : Int} {L1 : List Addr} {v : V} {y : α} (w : OwAll G H L vs (xs.map f)) (h : -(xs.length : Int) ≤ k ∧ k < xs.length) (ow : Ow G H L1 v (f y)) (n : ∀ b ∈ L1, b ∉ L) :
    ∃ L', (∀ b ∈ L', b ∈ L ++ L1) ∧ OwAll G H L' (vs.set ((ixN vs.length k).getD 0) v) ((setL xs k y).map f) := by
  obtain ⟨j, e, hj⟩ := ixN_some h
  obtain ⟨L', s, z⟩ := OwAll.set ow j (by simpa using hj) w n
  refine ⟨L', s, ?_⟩
  unfold setL
  rw [w.lenM, e, List.map_set]
  exact z
end
theorem ne_of_len {α : Type} {xs : List α} (h : 1 ≤ xs.length ∧ xs.length ≤ 1000000) : xs ≠ [] := by
  rintro rfl
  simp at h
end Vx
namespace Vx
open PySem PySem.Spec PyProof.Rows L2
/-! ### written dicts of ints -/
inductive EI : List (Int × Int) → List DictEntry → Prop
  | nil : EI [] []
  | cons {k v : Int} {t u : Tok} {r : List (Int × Int)} {es : List DictEntry} (h : EI r es) : EI ((k, v) :: r) (⟨hashInt k, .int k t, .int v u⟩ :: es)
def lookI : List (Int × Int) → Int → Option Int
  | [], _ => none
  | (k, v) :: r, i => if i = k then some v else lookI r i
def KDI (K : PySem.W.Frag) (a : Addr) (kvs : List (Int × Int)) : Prop :=
  ∃ es n, K.lookup a = some ⟨.type "dict", none, .dict es n, #[]⟩ ∧ (a == sysModules) = false ∧ EI kvs es.toList
theorem lookI_mem {kvs : List (Int × Int)} {i : Int} : (lookI kvs i).isSome = decide (i ∈ kvs.map (·.1)) := by
  induction kvs with
  | nil => rfl
  | cons p r ih =>
    obtain ⟨k, v⟩ := p
    unfold lookI
    by_cases q : i = k
    · rw [if_pos q]; simp [q]
    · rw [if_neg q, ih]; simp [q]
theorem EI.find {i : Int} : ∀ {kvs : List (Int × Int)} {es : List DictEntry}, EI kvs es → match lookI kvs i with
    | some v => ∃ u, (es.find? fun e => keyIs (.inl i) e.key).map (·.val) = some (.int v u)
    | none => (es.find? fun e => keyIs (.inl i) e.key).map (·.val) = none
  | _, _, .nil => rfl
  | _, _, .cons (k := k) (v := v) (t := t) (u := u) (r := r) (es := es) h => by
    have ih := EI.find (i := i) h
    unfold lookI
    by_cases q : i = k
    · subst q
      rw [if_pos rfl]
      refine ⟨u, ?_⟩
      rw [List.find?_cons_of_pos (by exact keyIs_int i t)]
      rfl
    · rw [if_neg q]
      have e : ¬ (keyIs (.inl i) (Value.int k t) = true) := by
        intro z
        obtain ⟨t', e'⟩ := Value.isInt_shape (k := i) (v := Value.int k t) z
        injection e' with e1 _
        exact q e1.symm
      rw [List.find?_cons_of_neg (by exact e)]
      exact ih
theorem EI.keys {P : Program} {w : World} : ∀ {kvs : List (Int × Int)} {es : List DictEntry}, EI kvs es → ∀ e ∈ es, ∃ k, (mixKind P w).is k e.key = true ∧ e.hash = (mixKind P w).hash k
  | _, _, .nil, e, he => nomatch he
  | _, _, .cons (k := k) (t := t) h, e, he => by
    rcases List.mem_cons.mp he with rfl | he
    · exact ⟨.inl k, keyIs_int k t, rfl⟩
    · exact EI.keys h e he
section
variable {X : Cx} {K : PySem.W.Frag}
theorem KDI.map {d : Addr} {kvs : List (Int × Int)} {pins : List (Addr × Obj)} {σ : L2.St} {H : Hp} {s : Shared} (D : KDI X.K d kvs) (I : Inv X pins σ H s) : (d == sysModules) = false ∧ ∃ f, s.heap.MapOf (mixKind X.prog X.w) d f ∧ ∀ i, match lookI kvs i with
    | some v => ∃ u, f (.inl i) = some (.int v u)
    | none => f (.inl i) = none := by
  obtain ⟨es, n, hl, hd, he⟩ := D
  refine ⟨hd, fun k => findBy keyIs es k, ⟨_, es, n, I.kIn _ _ hl, ⟨rfl, rfl, rfl⟩, rfl, fun e q => EI.keys he e (Array.mem_toList_iff.mpr q), fun _ => rfl⟩, fun i => ?_⟩
  have := EI.find (i := i) he
  have e : findBy keyIs es (.inl i) = (es.toList.find? fun e => keyIs (.inl i) e.key).map (·.val) := by
    obtain ⟨l⟩ := es
    unfold findBy
    rw [List.find?_toArray]
  show match lookI kvs i with
    | some v => ∃ u, findBy keyIs es (.inl i) = some (.int v u)
    | none => findBy keyIs es (.inl i) = none
  rw [e]
  exact this
def rInDI (K : PySem.W.Frag) : R2 := fun x y H Q => ∃ (i : Int) (d : Addr) (kvs : List (Int × Int)) (ks : List Int), x = .int i ∧ y = .ref d ∧ KDI K d kvs ∧ ks = kvs.map (·.1) ∧ Q (.bl (decide (i ∈ ks))) H
def rNotInDI (K : PySem.W.Frag) : R2 := fun x y H Q => ∃ (i : Int) (d : Addr) (kvs : List (Int × Int)) (ks : List Int), x = .int i ∧ y = .ref d ∧ KDI K d kvs ∧ ks = kvs.map (·.1) ∧ Q (.bl (!decide (i ∈ ks))) H
def rIxDI (K : PySem.W.Frag) : R2 := fun x y H Q => ∃ (d : Addr) (i v : Int) (kvs : List (Int × Int)), x = .ref d ∧ y = .int i ∧ KDI K d kvs ∧ lookI kvs i = some v ∧ Q (.int v) H
theorem op_inDI (hK : X.K = K := by rfl) : OpR X (compareOp .In) (rInDI K) := by
  subst hK
  intro pins s σ H x y v u Q I rx ry h
  obtain ⟨i, d, kvs, ks, rfl, rfl, D, rfl, q⟩ := h
  rw [← lookI_mem] at q
  obtain ⟨t, rfl⟩ := rx
  cases ry
  obtain ⟨hd, f, hm, hf⟩ := D.map I
  refine wpAny_in_of (knd := mixKind X.prog X.w) (kV_is (k := .inl i) ⟨t, rfl⟩) hd hm ?_
  have e : (f (.inl i)).isSome = (lookI kvs i).isSome := by
    have := hf i
    split at this
    · next v hv => obtain ⟨u, hu⟩ := this; rw [hu, hv]; rfl
    · next hv => rw [this, hv]; rfl
  rw [e]
  exact ⟨.bl (lookI kvs i).isSome, H, I.tok _, rfl, q⟩
theorem op_notInDI (hK : X.K = K := by rfl) : OpR X (compareOp .NotIn) (rNotInDI K) := by
  subst hK
  intro pins s σ H x y v u Q I rx ry h
  obtain ⟨i, d, kvs, ks, rfl, rfl, D, rfl, q⟩ := h
  rw [← lookI_mem] at q
  obtain ⟨t, rfl⟩ := rx
  cases ry
  obtain ⟨hd, f, hm, hf⟩ := D.map I
  refine wpAny_notIn_of (knd := mixKind X.prog X.w) (kV_is (k := .inl i) ⟨t, rfl⟩) hd hm ?_
  have e : (f (.inl i)).isSome = (lookI kvs i).isSome := by
    have := hf i
    split at this
    · next v hv => obtain ⟨u, hu⟩ := this; rw [hu, hv]; rfl
    · next hv => rw [this, hv]; rfl
  rw [e]
  exact ⟨.bl (!(lookI kvs i).isSome), H, I.tok _, rfl, q⟩
theorem ix_DI (hK : X.K = K := by rfl) : IxR X (rIxDI K) := by
  subst hK
  intro value slice pins s σ H x y v u Q I rx ry h hs
  obtain ⟨p, i, r, kvs, rfl, rfl, D, e, q⟩ := h
  obtain rfl : v = Value.ref p := rx
  obtain ⟨t, rfl⟩ := ry
  obtain ⟨hd, f, hm, hf⟩ := D.map I
  have := hf i
  rw [e] at this
  obtain ⟨u, hu⟩ := this
  exact tail_any hm.typeIs slot_dict_getitem.lookup (wpAny_getItem_of (knd := mixKind X.prog X.w) (kV_is (k := .inl i) ⟨t, rfl⟩) hm hu ⟨.int r, H, I.tok _, ⟨_, rfl⟩, q⟩) hs
end
/-- the value at a key that is there -/
def dictI (kvs : List (Int × Int)) (i : Int) : Int := (lookI kvs i).getD 0
theorem lookI_at {kvs : List (Int × Int)} {i : Int} (h : i ∈ kvs.map (·.1)) : lookI kvs i = some (dictI kvs i) := by
  have := lookI_mem (kvs := kvs) (i := i)
  rw [decide_eq_true h] at this
  unfold dictI
  cases e : lookI kvs i with
  | none => rw [e] at this; cases this
  | some v => rfl
/-! ### walks over two lists, over numbered items, backwards -/
theorem pi_enumK {X : Cx} {K : PySem.W.Frag} {e : Expr} {ta : TA} {p pos tpos : Pos} {elts : List Expr} {kk : Nat} (hg : Gl X "enumerate") (hm : X.mg "enumerate" = none) (ha : PA X [e] ta) (hK : X.K = K := by rfl) (hs : starEach [e] X.env = [(false, eval e X.env)] := by rfl) :
    PI X (.Tuple elts kk tpos) (.Call (.Name "enumerate" p) [e] [] pos) (iEnum K ta) := hK ▸ pi_enum hg hm ha hs
section
variable {K : PySem.W.Frag} {a b : Addr} {xs ys : List V} {g : TG} {tb : TS} {tt : TT} {te : TE} {D : Ends} {σ : L2.St} {H H1 : Hp} {vs : List Nat} {DD : Addr} {Qd : Hp → Prop}
theorem for_enum (Pv : Nat → L2.St → Hp → Prop) (h0 : Pv 0 σ H) (hq : ∀ i σ H, Pv i σ H → SqL K H a xs)
    (hs : ∀ (i : Nat) (y : V) (T : Addr) (σ : L2.St) (H : Hp), xs[i]? = some y → H T = none → Pv i σ H → g (.ref T) σ (upd H T (.tup [.int (i : Nat), y])) fun σ2 H2 => tb { D with nx := Pv (i + 1), ct := Pv (i + 1), bk := D.nx } σ2 H2) (hd : ∀ σ H, Pv xs.length σ H → D.nx σ H) :
    ∃ W : Nat → Nat → L2.St → Hp → Prop, (∃ m, W 0 m σ H) ∧ ∀ i m σ H, W i m σ H →
      ((Ite K a).stop i H ∧ D.nx σ H) ∨ ((Ite K a).go i H ∧ ∃ N : L2.St → Hp → Prop, (∀ σ' H', N σ' H' → ∃ m', m' < m ∧ W (i + 1) m' σ' H') ∧ ∀ v H', (Ite K a).yld i H v H' → g v σ H' fun σ2 H2 => tb { D with nx := N, ct := N, bk := D.nx } σ2 H2) := by
  refine for_it walk_enum Pv h0 (fun i σ H _ p => hq i σ H p) (fun i x σ H H' hi p y => ?_) hd
  obtain ⟨T, x1, y1, rfl, hT, rfl, h1, h2⟩ := y
  cases h1
  exact hs i y1 T σ H h2 hT p
theorem lc_enum (Pv : Nat → Hp → Prop) (h0 : Pv 0 (upd H1 DD (.lst []))) (hq : ∀ i H, i ≤ xs.length → Pv i H → SqL K H a xs)
    (hs : ∀ (i : Nat) (y : V) (T : Addr) (H : Hp), xs[i]? = some y → H T = none → Pv i H → g (.ref T) (wipe σ vs) (upd H T (.tup [.int (i : Nat), y])) fun σ2 H2 => wipe σ2 vs = wipe σ vs ∧ tt σ2 H2 fun b H3 =>
      if b = true then te σ2 H3 fun y H4 => ∃ acc, H4 DD = some (.lst acc) ∧ acc.length < sizeLine ∧ Pv (i + 1) (upd H4 DD (.lst (acc ++ [y]))) else Pv (i + 1) H3) (hd : ∀ H, Pv xs.length H → Qd H) :
    ∃ W : Nat → Nat → Hp → Prop, (∃ m, W 0 m (upd H1 DD (.lst []))) ∧ ∀ i m H, W i m H →
      ((Ite K a).stop i H ∧ Qd H) ∨ ((Ite K a).go i H ∧ ∃ Nx : Hp → Prop, (∀ H', Nx H' → ∃ m', m' < m ∧ W (i + 1) m' H') ∧ ∀ x H', (Ite K a).yld i H x H' → g x (wipe σ vs) H' fun σ2 H2 => wipe σ2 vs = wipe σ vs ∧ tt σ2 H2 fun b H3 =>
        if b = true then te σ2 H3 fun y H4 => ∃ acc, H4 DD = some (.lst acc) ∧ acc.length < sizeLine ∧ Nx (upd H4 DD (.lst (acc ++ [y]))) else Nx H3) := by
  refine lc_it walk_enum Pv h0 hq (fun i x H H' hi p y => ?_) hd
  obtain ⟨T, x1, y1, rfl, hT, rfl, h1, h2⟩ := y
  cases h1
  exact hs i y1 T H h2 hT p
/-- zip of two lists of any lengths -/
theorem for_zipM (n : Nat) (hn : n = min xs.length ys.length) (Pv : Nat → L2.St → Hp → Prop) (h0 : Pv 0 σ H) (hq : ∀ i σ H, Pv i σ H → SqL K H a xs ∧ SqL K H b ys)
    (hs : ∀ (i : Nat) (x y : V) (T : Addr) (σ : L2.St) (H : Hp), xs[i]? = some x → ys[i]? = some y → H T = none → Pv i σ H → g (.ref T) σ (upd H T (.tup [x, y])) fun σ2 H2 => tb { D with nx := Pv (i + 1), ct := Pv (i + 1), bk := D.nx } σ2 H2) (hd : ∀ σ H, Pv n σ H → D.nx σ H) :
    ∃ W : Nat → Nat → L2.St → Hp → Prop, (∃ m, W 0 m σ H) ∧ ∀ i m σ H, W i m σ H →
      ((Itz K a b).stop i H ∧ D.nx σ H) ∨ ((Itz K a b).go i H ∧ ∃ N : L2.St → Hp → Prop, (∀ σ' H', N σ' H' → ∃ m', m' < m ∧ W (i + 1) m' σ' H') ∧ ∀ v H', (Itz K a b).yld i H v H' → g v σ H' fun σ2 H2 => tb { D with nx := N, ct := N, bk := D.nx } σ2 H2) := by
  refine for_it (walk_zip hn) Pv h0 (fun i σ H _ p => hq i σ H p) (fun i x σ H H' hi p y => ?_) hd
  obtain ⟨T, x1, y1, rfl, hT, rfl, h1, h2⟩ := y
  exact hs i x1 y1 T σ H h1 h2 hT p
theorem lc_zipM (n : Nat) (hn : n = min xs.length ys.length) (Pv : Nat → Hp → Prop) (h0 : Pv 0 (upd H1 DD (.lst []))) (hq : ∀ i H, i ≤ n → Pv i H → SqL K H a xs ∧ SqL K H b ys)
    (hs : ∀ (i : Nat) (x y : V) (T : Addr) (H : Hp), xs[i]? = some x → ys[i]? = some y → H T = none → Pv i H → g (.ref T) (wipe σ vs) (upd H T (.tup [x, y])) fun σ2 H2 => wipe σ2 vs = wipe σ vs ∧ tt σ2 H2 fun b H3 =>
      if b = true then te σ2 H3 fun y H4 => ∃ acc, H4 DD = some (.lst acc) ∧ acc.length < sizeLine ∧ Pv (i + 1) (upd H4 DD (.lst (acc ++ [y]))) else Pv (i + 1) H3) (hd : ∀ H, Pv n H → Qd H) :
    ∃ W : Nat → Nat → Hp → Prop, (∃ m, W 0 m (upd H1 DD (.lst []))) ∧ ∀ i m H, W i m H →
      ((Itz K a b).stop i H ∧ Qd H) ∨ ((Itz K a b).go i H ∧ ∃ Nx : Hp → Prop, (∀ H', Nx H' → ∃ m', m' < m ∧ W (i + 1) m' H') ∧ ∀ x H', (Itz K a b).yld i H x H' → g x (wipe σ vs) H' fun σ2 H2 => wipe σ2 vs = wipe σ vs ∧ tt σ2 H2 fun b H3 =>
        if b = true then te σ2 H3 fun y H4 => ∃ acc, H4 DD = some (.lst acc) ∧ acc.length < sizeLine ∧ Nx (upd H4 DD (.lst (acc ++ [y]))) else Nx H3) := by
  refine lc_it (walk_zip hn) Pv h0 hq (fun i x H H' hi p y => ?_) hd
  obtain ⟨T, x1, y1, rfl, hT, rfl, h1, h2⟩ := y
  exact hs i x1 y1 T H h1 h2 hT p
end
theorem zipM_len {α β : Type} {xs : List α} {ys : List β} : min xs.length ys.length = (xs.zip ys).length := by rw [List.length_zip]
theorem zipM_n {α β : Type} {vs ws : List V} {xs : List α} {ys : List β} (a : vs.length = xs.length) (b : ws.length = ys.length) : min xs.length ys.length = min vs.length ws.length := by rw [a, b]
def rListTK (K : PySem.W.Frag) : List V → Hp → VK → Prop := fun xs H Q => ∃ (p : Addr) (vs : List V), xs = [.ref p] ∧ SqT K H p vs ∧ ∀ l, H l = none → Q (.ref l) (upd H l (.lst vs))
theorem call_listTK {X : Cx} {K : PySem.W.Frag} (hK : X.K = K := by rfl) : CallR X (.type "list") (rListTK K) := by
  subst hK
  intro pins s σ H xs us Q I r h
  obtain ⟨p, vs, rfl, hs, q⟩ := h
  exact call_list_of pins s σ H _ us Q I r ⟨p, _, rfl, Or.inr hs, q⟩
/-- two lists that keep step -/
inductive F2 {α β : Type} (P : α → β → Prop) : List α → List β → Prop
  | nil : F2 P [] []
  | cons {a : α} {b : β} {l : List α} {m : List β} (h : P a b) (t : F2 P l m) : F2 P (a :: l) (b :: m)
theorem F2.get {α β : Type} {P : α → β → Prop} : ∀ {l : List α} {m : List β}, F2 P l m → ∀ (j : Nat), j < l.length → ∃ a b, l[j]? = some a ∧ m[j]? = some b ∧ P a b
  | _, _, .nil, j, h => absurd h (Nat.not_lt_zero _)
  | _, _, .cons h t, 0, _ => ⟨_, _, rfl, rfl, h⟩
  | _, _, .cons h t, j + 1, hj => t.get j (Nat.lt_of_succ_lt_succ hj)
theorem F2.at {α β : Type} [Inhabited α] [Inhabited β] {P : α → β → Prop} {l : List α} {m : List β} (h : F2 P l m) (k : Int) (h0 : 0 ≤ k) (h1 : k < l.length) : P (itD l k) (itD m k) := by
  obtain ⟨j, rfl⟩ : ∃ j : Nat, k = (j : Int) := ⟨k.toNat, by omega⟩
  obtain ⟨a, b, ha, hb, p⟩ := h.get j (by omega)
  have e1 : itD l (j : Int) = a := by unfold itD; rw [atI_nat ha]; rfl
  have e2 : itD m (j : Int) = b := by unfold itD; rw [atI_nat hb]; rfl
  rw [e1, e2]
  exact p
theorem SqT.cast {K : PySem.W.Frag} {H : Hp} {a : Addr} {xs ys : List V} (h : SqT K H a xs) (e : xs = ys) : SqT K H a ys := e ▸ h
/-- enumerate(xs) -/
def enumL {α : Type} (xs : List α) : List (Int × α) := (rng 0 xs.length).zip xs
theorem enumL_len {α : Type} (xs : List α) : (enumL xs).length = xs.length := by
  unfold enumL
  rw [List.length_zip, rng_len, Nat.min_self]
theorem enumL_get {α : Type} {xs : List α} {i : Nat} {x : α} (h : xs[i]? = some x) : (enumL xs)[i]? = some ((i : Int), x) := by
  have hl : i < xs.length := (List.getElem?_eq_some_iff.mp h).1
  unfold enumL
  rw [List.getElem?_zip_eq_some]
  refine ⟨?_, h⟩
  have := rng_get (lo := 0) hl
  rw [this]
  congr 1
  omega
end Vx
namespace Vx
open PySem PySem.Spec PyProof.Rows L2
theorem wipe_get : ∀ (σ : L2.St) (vs : List Nat) (j : Nat), (wipe σ vs)[j]? = if j ∈ vs ∧ j < σ.length then some none else σ[j]?
  | σ, [], j => by simp [wipe]
  | σ, v :: vs, j => by
    unfold wipe
    by_cases e : v = j
    · subst e
      by_cases h : v < σ.length
      · rw [List.getElem?_set_self (by rw [wipe_length]; exact h), if_pos ⟨List.mem_cons_self, h⟩]
      · rw [if_neg (fun z => h z.2), List.getElem?_eq_none (by rw [List.length_set, wipe_length]; omega), List.getElem?_eq_none (by omega)]
    · rw [List.getElem?_set_ne e, wipe_get σ vs j]
      have : (j ∈ v :: vs ∧ j < σ.length) ↔ (j ∈ vs ∧ j < σ.length) := by
        constructor
        · rintro ⟨h1, h2⟩
          rcases List.mem_cons.mp h1 with rfl | h1
          · exact absurd rfl e
          · exact ⟨h1, h2⟩
        · rintro ⟨h1, h2⟩
          exact ⟨List.mem_cons_of_mem _ h1, h2⟩
      by_cases q : j ∈ vs ∧ j < σ.length
      · rw [if_pos q, if_pos (this.mpr q)]
      · rw [if_neg q, if_neg (fun z => q (this.mp z))]
theorem wipe_wipe {σ : L2.St} {vs : List Nat} : wipe (wipe σ vs) vs = wipe σ vs := by
  apply List.ext_getElem?
  intro j
  rw [wipe_get (wipe σ vs), wipe_length]
  by_cases q : j ∈ vs ∧ j < σ.length
  · rw [if_pos q, wipe_get, if_pos q]
  · rw [if_neg q]
theorem wipe_set {σ : L2.St} {vs : List Nat} {v : Nat} {x : Option V} (h : v ∈ vs) : wipe (σ.set v x) vs = wipe σ vs := by
  apply List.ext_getElem?
  intro j
  rw [wipe_get, wipe_get, List.length_set]
  by_cases q : j ∈ vs ∧ j < σ.length
  · rw [if_pos q, if_pos q]
  · rw [if_neg q, if_neg q]
    by_cases e : v = j
    · subst e
      have hl : ¬ v < σ.length := fun z => q ⟨h, z⟩
      rw [List.getElem?_eq_none (by rw [List.length_set]; omega), List.getElem?_eq_none (by omega)]
    · rw [List.getElem?_set_ne e]
/-- a comprehension over a step range -/
theorem lc_rangeC {lo c : Int} {n : Nat} {g : TG} {tt : TT} {te : TE} {vs : List Nat} {σ : L2.St} {H1 : Hp} {D : Addr} {Qd : Hp → Prop} (Pv : Nat → Hp → Prop) (h0 : Pv 0 (upd H1 D (.lst [])))
    (hs : ∀ i H, i < n → Pv i H → g (.int (lo + (i : Nat) * c)) (wipe σ vs) H fun σ2 H2 => wipe σ2 vs = wipe σ vs ∧ tt σ2 H2 fun b H3 =>
      if b = true then te σ2 H3 fun y H4 => ∃ acc, H4 D = some (.lst acc) ∧ acc.length < sizeLine ∧ Pv (i + 1) (upd H4 D (.lst (acc ++ [y]))) else Pv (i + 1) H3) (hd : ∀ H, Pv n H → Qd H) :
    ∃ W : Nat → Nat → Hp → Prop, (∃ m, W 0 m (upd H1 D (.lst []))) ∧ ∀ i m H, W i m H →
      ((Itc lo c n).stop i H ∧ Qd H) ∨ ((Itc lo c n).go i H ∧ ∃ Nx : Hp → Prop, (∀ H', Nx H' → ∃ m', m' < m ∧ W (i + 1) m' H') ∧ ∀ x H', (Itc lo c n).yld i H x H' → g x (wipe σ vs) H' fun σ2 H2 => wipe σ2 vs = wipe σ vs ∧ tt σ2 H2 fun b H3 =>
        if b = true then te σ2 H3 fun y H4 => ∃ acc, H4 D = some (.lst acc) ∧ acc.length < sizeLine ∧ Nx (upd H4 D (.lst (acc ++ [y]))) else Nx H3) := by
  refine ⟨fun i m H => m = n - i ∧ i ≤ n ∧ Pv i H, ⟨n, by simp, Nat.zero_le _, h0⟩, ?_⟩
  rintro i m H ⟨rfl, hi, p⟩
  rcases Nat.lt_or_ge i n with hlt | hge
  · refine .inr ⟨hlt, Pv (i + 1), fun H' p' => ⟨n - (i + 1), by omega, rfl, hlt, p'⟩, fun x H' y => ?_⟩
    obtain ⟨e, y⟩ := y
    subst e y
    exact hs i _ hlt p
  · cases Nat.le_antisymm hi hge
    exact .inl ⟨Nat.le_refl _, hd H p⟩

/-! ### reversed(list of ints), any(list of ints) -/
theorem pi_revK {X : Cx} {K : PySem.W.Frag} {tg : Expr} {e : Expr} {ta : TA} {p pos : Pos} (hg : Gl X "reversed") (hm : X.mg "reversed" = none) (ha : PA X [e] ta) (hK : X.K = K := by rfl) (hs : starEach [e] X.env = [(false, eval e X.env)] := by rfl) :
    PI X tg (.Call (.Name "reversed" p) [e] [] pos) (iRev K ta) := hK ▸ pi_reversed hg hm ha hs
theorem for_revI {K : PySem.W.Frag} {a : Addr} {xs : List Int} {g : TG} {tb : TS} {D : Ends} {σ : L2.St} {H : Hp} (Pv : Nat → L2.St → Hp → Prop) (h0 : Pv 0 σ H) (hl : ∀ i σ H, i ≤ (xs.reverse.map V.int).length → Pv i σ H → SqL K H a (xs.map V.int))
    (hs : ∀ i x σ H, (xs.reverse.map V.int)[i]? = some x → Pv i σ H → g x σ H fun σ2 H2 => tb { D with nx := Pv (i + 1), ct := Pv (i + 1), bk := D.nx } σ2 H2) (hd : ∀ σ H, Pv (xs.reverse.map V.int).length σ H → D.nx σ H) :
    ∃ W : Nat → Nat → L2.St → Hp → Prop, (∃ m, W 0 m σ H) ∧ ∀ i m σ H, W i m σ H →
      ((Itv K a (xs.map V.int).length).stop i H ∧ D.nx σ H) ∨ ((Itv K a (xs.map V.int).length).go i H ∧ ∃ N : L2.St → Hp → Prop, (∀ σ' H', N σ' H' → ∃ m', m' < m ∧ W (i + 1) m' σ' H') ∧ ∀ x H', (Itv K a (xs.map V.int).length).yld i H x H' → g x σ H' fun σ2 H2 => tb { D with nx := N, ct := N, bk := D.nx } σ2 H2) := by
  have en : (xs.reverse.map V.int).length = (xs.map V.int).length := by rw [List.length_map, List.length_map, List.length_reverse]
  rw [en] at hl hd
  refine for_it walk_rev Pv h0 hl (fun i x σ H H' hi p y => ?_) hd
  obtain ⟨rfl, hx⟩ := y
  refine hs i x σ _ ?_ p
  rw [List.map_reverse, List.getElem?_reverse hi]
  exact hx
theorem ints_get : ∀ {ns : List Int} {us : List Value} {i : Nat} {v : Value}, IntsAre us ns → us[i]? = some v → ∃ t, v = .int (ns.getD i 0) t := by
  intro ns us i v h
  induction h generalizing i with
  | nil => intro z; simp at z
  | cons n t _ ih =>
    intro z
    cases i with
    | zero => simp at z; exact ⟨t, by rw [← z]; rfl⟩
    | succ i => exact ih (by simpa using z)
theorem any_rangeI : ∀ ns : List Int, (List.range ns.length).any (fun i => ns.getD i 0 != 0) = ns.any (fun x => x != 0)
  | [] => rfl
  | b :: bs => by
    rw [List.length_cons, List.range_succ_eq_map, List.any_cons, List.any_map, List.any_cons, ← any_rangeI bs]
    all_goals rfl
theorem ints_len : ∀ {ns : List Int} {us : List Value}, IntsAre us ns → us.length = ns.length := by
  intro ns us h
  induction h with
  | nil => rfl
  | cons _ _ _ ih => simp [ih]
def rAnyI (K : PySem.W.Frag) : List V → Hp → VK → Prop := fun vs H Q => ∃ (a : Addr) (ns : List Int), vs = [V.ref a] ∧ SqL K H a (ns.map V.int) ∧ Q (.bl (ns.any fun x => x != 0)) H
theorem cr_anyI {X : Cx} (hc : X.calm = true) : CallR X (.builtin "any") (rAnyI X.K) := by
  intro pins s σ H vs us Q I r h
  obtain ⟨a, ns, rfl, hs, q⟩ := h
  obtain ⟨its, rv, hl, _⟩ := I.list hs
  rw [Vals.ref1 r]
  have hb := rv.ints
  refine call_any_walk (iter_any hl.isList fun s₂ e2 st hne => ?_)
  subst e2
  have ht : TruthOf X.prog X.w X.A.in1 (fun i v => its.toArray[i]? = some v) (fun i => ns.getD i 0 != 0) := fun i v s Q E hv hq => by
    obtain ⟨t, rfl⟩ := ints_get hb (by simpa using hv)
    exact PyProof.Rows.truthy_int hq
  refine ⟨_, _, _, _, _, _, _, rfl, Walks.list (A := X.A.in1) (I.ok.hd hc) _ a hne its.toArray, st, ht, fun h' tk hk => ?_⟩
  refine ⟨.bl _, H, I.kept fun b o eo => hk b o (fun hmem => ?_) (Heap.get?_push_of_some _ eo), ?_, q⟩
  · rcases List.mem_cons.mp hmem with e1 | hmem
    · exact absurd (e1 ▸ Heap.lt_size eo) (Nat.lt_irrefl _)
    · cases hmem
  · show Value.bool _ = Value.bool _
    rw [← any_rangeI, List.size_toArray, ints_len hb]
theorem cr_anyIK {X : Cx} {K : PySem.W.Frag} (hc : X.calm = true) (hK : X.K = K := by rfl) : CallR X (.builtin "any") (rAnyI K) := hK ▸ cr_anyI hc
/-- an item of a list of data stored anew -/
theorem RpAll.setM {α : Type} {f : α → PyData} {G : Hp} {vs : List V} {xs : List α} {k : Int} {v : V} {y : α} (d : RpAll G vs (xs.map f)) (r : Rp G v (f y)) : RpAll G (vs.set ((ixN vs.length k).getD 0) v) ((setL xs k y).map f) := by
  have e : vs.length = xs.length := by rw [d.len, List.length_map]
  unfold setL
  rw [List.map_set, e]
  exact RpAll.set r _ d
end Vx
/-! # data of any shape: None beside data, tuples of several shapes -/
namespace Vx
open PySem PySem.Spec PyProof.Rows L2
def encD (d : PyData) : PyData := d
def encN (_ : Unit) : PyData := .none
def encT1 {α : Type} (f : α → PyData) (x : α) : PyData := .tuple [f x]
instance instInhD : Inhabited PyData := ⟨.none⟩
/-- a known shape: what is laid, what is read back, whether the data has the shape -/
structure Cst (α : Type) where
  enc : α → PyData
  dec : PyData → α
  ok : PyData → Bool
  h : ∀ d, ok d = true → enc (dec d) = d
  oke : ∀ x, ok (enc x) = true
  de : ∀ x, dec (enc x) = x
def cI : Cst Int := ⟨PyData.int, fun d => match d with | .int i => i | _ => 0, fun d => match d with | .int _ => true | _ => false, fun d h => (by cases d <;> first | rfl | (cases h)), fun _ => rfl, fun _ => rfl⟩
def cB : Cst Bool := ⟨PyData.bool, fun d => match d with | .bool i => i | _ => false, fun d => match d with | .bool _ => true | _ => false, fun d h => (by cases d <;> first | rfl | (cases h)), fun _ => rfl, fun _ => rfl⟩
def cS : Cst Str := ⟨PyData.str, fun d => match d with | .str i => i | _ => "", fun d => match d with | .str _ => true | _ => false, fun d h => (by cases d <;> first | rfl | (cases h)), fun _ => rfl, fun _ => rfl⟩
def cN : Cst Unit := ⟨encN, fun _ => (), fun d => match d with | .none => true | _ => false, fun d h => (by cases d <;> first | rfl | (cases h)), fun _ => rfl, fun _ => rfl⟩
def cD : Cst PyData := ⟨encD, fun d => d, fun _ => true, fun _ _ => rfl, fun _ => rfl, fun _ => rfl⟩
theorem map_dec {α : Type} (c : Cst α) : ∀ xs : List PyData, xs.all c.ok = true → (xs.map c.dec).map c.enc = xs
  | [], _ => rfl
  | x :: xs, h => by
    rw [List.all_cons, Bool.and_eq_true] at h
    rw [List.map_cons, List.map_cons, c.h x h.1, map_dec c xs h.2]
def cL {α : Type} (c : Cst α) : Cst (List α) where
  enc := encL c.enc
  dec := fun d => match d with | .list xs => xs.map c.dec | _ => []
  ok := fun d => match d with | .list xs => xs.all c.ok | _ => false
  h := fun d h => by
    cases d with
    | list xs => exact congrArg PyData.list (map_dec c xs h)
    | _ => cases h
  oke := fun x => by
    show (x.map c.enc).all c.ok = true
    rw [List.all_map, List.all_eq_true]
    exact fun a _ => c.oke a
  de := fun x => by
    show (x.map c.enc).map c.dec = x
    rw [List.map_map]
    have e : c.dec ∘ c.enc = id := funext c.de
    rw [e, List.map_id]
def cT1 {α : Type} (a : Cst α) : Cst α where
  enc := encT1 a.enc
  dec := fun d => match d with | .tuple [x] => a.dec x | _ => a.dec .none
  ok := fun d => match d with | .tuple [x] => a.ok x | _ => false
  h := fun d h => by
    split at h
    · next x => exact congrArg (fun z => PyData.tuple [z]) (a.h x h)
    · cases h
  oke := fun x => a.oke x
  de := fun x => a.de x
def cT2 {α β : Type} (a : Cst α) (b : Cst β) : Cst (α × β) where
  enc := encT2 a.enc b.enc
  dec := fun d => match d with | .tuple [x, y] => (a.dec x, b.dec y) | _ => (a.dec .none, b.dec .none)
  ok := fun d => match d with | .tuple [x, y] => a.ok x && b.ok y | _ => false
  h := fun d h => by
    split at h
    · next x y =>
      rw [Bool.and_eq_true] at h
      show PyData.tuple [a.enc (a.dec x), b.enc (b.dec y)] = _
      rw [a.h x h.1, b.h y h.2]
    · cases h
  oke := fun x => by show (a.ok (a.enc x.1) && b.ok (b.enc x.2)) = true; rw [a.oke, b.oke]; rfl
  de := fun x => by show (a.dec (a.enc x.1), b.dec (b.enc x.2)) = x; rw [a.de, b.de]
def cT3 {α β γ : Type} (a : Cst α) (b : Cst β) (c : Cst γ) : Cst (α × β × γ) where
  enc := encT3 a.enc b.enc c.enc
  dec := fun d => match d with | .tuple [x, y, z] => (a.dec x, b.dec y, c.dec z) | _ => (a.dec .none, b.dec .none, c.dec .none)
  ok := fun d => match d with | .tuple [x, y, z] => a.ok x && b.ok y && c.ok z | _ => false
  h := fun d h => by
    split at h
    · next x y z =>
      simp only [Bool.and_eq_true] at h
      show PyData.tuple [a.enc (a.dec x), b.enc (b.dec y), c.enc (c.dec z)] = _
      rw [a.h x h.1.1, b.h y h.1.2, c.h z h.2]
    · cases h
  oke := fun x => by show (a.ok (a.enc x.1) && b.ok (b.enc x.2.1) && c.ok (c.enc x.2.2)) = true; rw [a.oke, b.oke, c.oke]; rfl
  de := fun x => by show (a.dec (a.enc x.1), b.dec (b.enc x.2.1), c.dec (c.enc x.2.2)) = x; rw [a.de, b.de, c.de]
def cT4 {α β γ δ : Type} (a : Cst α) (b : Cst β) (c : Cst γ) (e : Cst δ) : Cst (α × β × γ × δ) where
  enc := encT4 a.enc b.enc c.enc e.enc
  dec := fun d => match d with | .tuple [x, y, z, w] => (a.dec x, b.dec y, c.dec z, e.dec w) | _ => (a.dec .none, b.dec .none, c.dec .none, e.dec .none)
  ok := fun d => match d with | .tuple [x, y, z, w] => a.ok x && b.ok y && c.ok z && e.ok w | _ => false
  h := fun d h => by
    split at h
    · next x y z w =>
      simp only [Bool.and_eq_true] at h
      show PyData.tuple [a.enc (a.dec x), b.enc (b.dec y), c.enc (c.dec z), e.enc (e.dec w)] = _
      rw [a.h x h.1.1.1, b.h y h.1.1.2, c.h z h.1.2, e.h w h.2]
    · cases h
  oke := fun x => by show (a.ok (a.enc x.1) && b.ok (b.enc x.2.1) && c.ok (c.enc x.2.2.1) && e.ok (e.enc x.2.2.2)) = true; rw [a.oke, b.oke, c.oke, e.oke]; rfl
  de := fun x => by show (a.dec (a.enc x.1), b.dec (b.enc x.2.1), c.dec (c.enc x.2.2.1), e.dec (e.enc x.2.2.2)) = x; rw [a.de, b.de, c.de, e.de]
section
variable {H : Hp} {v : V} {d : PyData}
theorem rp_dcast {α : Type} (c : Cst α) (g : c.ok d = true) (r : Rp H v d) : Rp H v (c.enc (c.dec d)) := by rw [c.h d g]; exact r
def dNone : PyData → Bool
  | .none => true
  | _ => false
def dSeq : PyData → Bool
  | .list _ => true
  | .tuple _ => true
  | _ => false
def dTup : PyData → Bool
  | .tuple _ => true
  | _ => false
def dLst : PyData → Bool
  | .list _ => true
  | _ => false
def dInt : PyData → Bool
  | .int _ => true
  | .bool _ => true
  | _ => false
def dBool : PyData → Bool
  | .bool _ => true
  | _ => false
def dGet : PyData → Nat → PyData
  | .tuple xs, k => xs.getD k .none
  | .list xs, k => xs.getD k .none
  | _, _ => .none
def dHasT : PyData → Nat → Bool
  | .tuple xs, k => decide (k < xs.length)
  | _, _ => false
theorem rp_ref (g : dSeq d = true) (r : Rp H v d) : ∃ a, v = .ref a := by
  cases r <;> first | exact ⟨_, rfl⟩ | cases g
theorem rp_dget {k : Nat} (g : dHasT d k = true) (r : Rp H v d) : ∃ a vs u, v = .ref a ∧ H a = some (.tup vs) ∧ atI vs (k : Int) = some u ∧ Rp H u (dGet d k) := by
  cases r with
  | tup h rs =>
    rename_i ds
    have hk : k < ds.length := of_decide_eq_true g
    obtain ⟨u, h1, h2⟩ := RpAll.at' (i := k) (d := ds[k]) rs (List.getElem?_eq_getElem hk)
    refine ⟨_, _, u, rfl, h, ?_, ?_⟩
    · exact atI_nat h1
    · show Rp H u (ds.getD k .none)
      rw [List.getD_eq_getElem?_getD, List.getElem?_eq_getElem hk]
      exact h2
  | _ => cases g
theorem rp_non {x : Unit} (r : Rp H v (encN x)) : v = .non := by unfold encN at r; cases r; rfl
theorem rp_tup1 {α : Type} {f : α → PyData} {x : α} (r : Rp H v (encT1 f x)) : ∃ a v1, v = .ref a ∧ H a = some (.tup [v1]) ∧ Rp H v1 (f x) := by
  unfold encT1 at r
  cases r with
  | tup h1 h2 =>
    cases h2 with
    | cons r1 t => cases t; exact ⟨_, _, rfl, h1, r1⟩
theorem rp_mk1 {α : Type} {f : α → PyData} {a : Addr} {v1 : V} {x : α} (h1 : H a = some (.tup [v1])) (r1 : Rp H v1 (f x)) : Rp H (.ref a) (encT1 f x) := .tup h1 (.cons r1 .nil)
theorem rp_none_iff (r : Rp H v d) : decide (v = V.non) = dNone d := by
  cases r <;> simp [dNone]
end
section
variable {X : Cx}
def rIsND : R2 := fun x y H Q => ∃ d, y = .non ∧ Rp H x d ∧ Q (.bl (dNone d)) H
def rNotND : R2 := fun x y H Q => ∃ d, y = .non ∧ Rp H x d ∧ Q (.bl (!dNone d)) H
theorem op_isND : OpR X (compareOp .Is) rIsND := by
  intro pins s σ H x y v u Q I rx ry h
  obtain ⟨d, e, r, q⟩ := h
  exact op_isN pins s σ H x y v u Q I rx ry ⟨e, by rw [rp_none_iff r]; exact q⟩
theorem op_notND : OpR X (compareOp .IsNot) rNotND := by
  intro pins s σ H x y v u Q I rx ry h
  obtain ⟨d, e, r, q⟩ := h
  exact op_notN pins s σ H x y v u Q I rx ry ⟨e, by rw [rp_none_iff r]; exact q⟩
def rEqD : R2 := fun x y H Q => ∃ a b : PyData, Rp H x a ∧ Rp H y b ∧ (SeqAt.shaped a = true ∧ SeqAt.shaped b = true) ∧ Q (.bl (PyData.eqv a b)) H
def rNeD : R2 := fun x y H Q => ∃ a b : PyData, Rp H x a ∧ Rp H y b ∧ (SeqAt.shaped a = true ∧ SeqAt.shaped b = true) ∧ Q (.bl (!PyData.eqv a b)) H
theorem op_eqDD (hu : X.A.units + 64 < cLine) : OpR X (compareOp .Eq) rEqD := by
  intro pins s σ H x y v u Q I rx ry h
  obtain ⟨a, b, h1, h2, ⟨s1, s2⟩, q⟩ := h
  exact op_eqD hu pins s σ H _ _ v u Q I rx ry ⟨_, _, h1.dp, h2.dp, s1, s2, q⟩
theorem op_neDD (hu : X.A.units + 64 < cLine) : OpR X (compareOp .NotEq) rNeD := by
  intro pins s σ H x y v u Q I rx ry h
  obtain ⟨a, b, h1, h2, ⟨s1, s2⟩, q⟩ := h
  exact op_neD hu pins s σ H _ _ v u Q I rx ry ⟨_, _, h1.dp, h2.dp, s1, s2, q⟩
def dTy : PyData → String
  | .none => "NoneType"
  | .bool _ => "bool"
  | .int _ => "int"
  | .str _ => "str"
  | .list _ => "list"
  | .tuple _ => "tuple"
  | .dict _ => "dict"
theorem Rp.tyX {K : PySem.W.Frag} {H : Hp} {v : V} {d : PyData} (r : Rp H v d) : TyX K H v (.type (dTy d)) := by
  cases r with
  | non => exact .base .non
  | bl b => exact .base (.bl b)
  | int i => exact .base (.int i)
  | str x => exact .base (.str x)
  | lst h _ => exact .base (.lst h)
  | tup h _ => exact .base (.tup h)
def rIsiD (T : String) (f : PyData → Bool) : List V → Hp → VK → Prop := fun xs H Q => ∃ (x : V) (d : PyData), xs = [x, .ty T] ∧ Rp H x d ∧ Q (.bl (f d)) H
theorem call_isiD {T : String} {f : PyData → Bool} (hT : ∀ d, kitB (dTy d) T = some (f d)) : CallR X (.builtin "isinstance") (rIsiD T f) := by
  intro pins s σ H xs us Q I r h
  obtain ⟨x, d, rfl, rx, q⟩ := h
  exact call_isi pins s σ H _ us Q I r ⟨x, .ty T, _, _, _, rfl, .ty T, rx.tyX, kit_ty (hT d), q⟩
theorem kit_dTup (d : PyData) : kitB (dTy d) "tuple" = some (dTup d) := by
  cases d with
  | none => exact (by decide +kernel : kitB "NoneType" "tuple" = some false)
  | bool _ => exact (by decide +kernel : kitB "bool" "tuple" = some false)
  | int _ => exact (by decide +kernel : kitB "int" "tuple" = some false)
  | str _ => exact (by decide +kernel : kitB "str" "tuple" = some false)
  | list _ => exact (by decide +kernel : kitB "list" "tuple" = some false)
  | tuple _ => exact (by decide +kernel : kitB "tuple" "tuple" = some true)
  | dict _ => exact (by decide +kernel : kitB "dict" "tuple" = some false)
theorem kit_dLst (d : PyData) : kitB (dTy d) "list" = some (dLst d) := by
  cases d with
  | none => exact (by decide +kernel : kitB "NoneType" "list" = some false)
  | bool _ => exact (by decide +kernel : kitB "bool" "list" = some false)
  | int _ => exact (by decide +kernel : kitB "int" "list" = some false)
  | str _ => exact (by decide +kernel : kitB "str" "list" = some false)
  | list _ => exact (by decide +kernel : kitB "list" "list" = some true)
  | tuple _ => exact (by decide +kernel : kitB "tuple" "list" = some false)
  | dict _ => exact (by decide +kernel : kitB "dict" "list" = some false)
theorem kit_dInt (d : PyData) : kitB (dTy d) "int" = some (dInt d) := by
  cases d with
  | none => exact (by decide +kernel : kitB "NoneType" "int" = some false)
  | bool _ => exact (by decide +kernel : kitB "bool" "int" = some true)
  | int _ => exact (by decide +kernel : kitB "int" "int" = some true)
  | str _ => exact (by decide +kernel : kitB "str" "int" = some false)
  | list _ => exact (by decide +kernel : kitB "list" "int" = some false)
  | tuple _ => exact (by decide +kernel : kitB "tuple" "int" = some false)
  | dict _ => exact (by decide +kernel : kitB "dict" "int" = some false)
theorem kit_dBool (d : PyData) : kitB (dTy d) "bool" = some (dBool d) := by
  cases d with
  | none => exact (by decide +kernel : kitB "NoneType" "bool" = some false)
  | bool _ => exact (by decide +kernel : kitB "bool" "bool" = some true)
  | int _ => exact (by decide +kernel : kitB "int" "bool" = some false)
  | str _ => exact (by decide +kernel : kitB "str" "bool" = some false)
  | list _ => exact (by decide +kernel : kitB "list" "bool" = some false)
  | tuple _ => exact (by decide +kernel : kitB "tuple" "bool" = some false)
  | dict _ => exact (by decide +kernel : kitB "dict" "bool" = some false)
end
/-! ### written dicts of numbers with text keys -/
inductive ES (P : Params) : List (Str × Int) → List DictEntry → Prop
  | nil : ES P [] []
  | cons {h k v} {t u : Tok} {r : List (Str × Int)} {es : List DictEntry} (e : h = PyData.keyHash P k) (x : ES P r es) : ES P ((k, v) :: r) (⟨h, .str k t, .int v u⟩ :: es)
def lookS : List (Str × Int) → Str → Option Int
  | [], _ => none
  | (k, v) :: r, i => if k = i then some v else lookS r i
def KDS (K : PySem.W.Frag) (w : World) (a : Addr) (kvs : List (Str × Int)) : Prop :=
  ∃ es n, K.lookup a = some ⟨.type "dict", none, .dict es n, #[]⟩ ∧ ES w.params kvs es.toList
theorem ES.lit {P : Params} : ∀ {kvs : List (Str × Int)} {es : List DictEntry}, ES P kvs es → PySem.W.KeysLit P es
  | _, _, .nil => trivial
  | _, _, .cons e x => ⟨⟨_, _, rfl, e⟩, ES.lit x⟩
theorem ES.find {P : Params} {i : Str} {v : Int} : ∀ {kvs : List (Str × Int)} {es : List DictEntry}, ES P kvs es → lookS kvs i = some v → ∃ e u, es.find? (fun e => e.key.isStr i) = some e ∧ e.val = .int v u
  | _, _, .nil, h => by cases h
  | _, _, .cons (k := k) (u := u) e x, h => by
    unfold lookS at h
    by_cases q : k = i
    · rw [if_pos q] at h
      subst q
      cases h
      refine ⟨_, u, List.find?_cons_of_pos ?_, rfl⟩
      simp [Value.isStr]
    · rw [if_neg q] at h
      obtain ⟨e', u', h1, h2⟩ := ES.find x h
      refine ⟨e', u', ?_, h2⟩
      rw [List.find?_cons_of_neg]
      · exact h1
      · simp [Value.isStr, q]
theorem KDS.at {K : PySem.W.Frag} {w : World} {a : Addr} {kvs : List (Str × Int)} {z : Str} {v : Int} (D : KDS K w a kvs) (h : lookS kvs z = some v) : KDct K w a z (.int v) := by
  obtain ⟨es, n, hl, x⟩ := D
  obtain ⟨e, u, h1, h2⟩ := x.find h
  refine ⟨es, n, .int v u, hl, x.lit, ?_, ⟨u, rfl⟩⟩
  unfold PySem.W.nsIn
  rw [hl]
  show (match es.toList.find? (fun e => e.key.isStr z) with
      | some e => some (some e.val)
      | none => if es.toList.any (·.refKey) then none else some none) = _
  rw [h1]
  show some (some e.val) = _
  rw [h2]
def rIxDS (K : PySem.W.Frag) (w : World) : R2 := fun x y H Q => ∃ (p : Addr) (z : Str) (kvs : List (Str × Int)) (v : Int), x = .ref p ∧ y = .str z ∧ KDS K w p kvs ∧ lookS kvs z = some v ∧ Q (.int v) H
theorem ix_DS {X : Cx} {K : PySem.W.Frag} {w : World} (hK : X.K = K := by rfl) (hw : X.w = w := by rfl) : IxR X (rIxDS K w) := by
  subst hK hw
  intro value slice pins s σ H x y v u Q I rx ry h hs
  obtain ⟨p, z, kvs, r, e1, e2, D, e, q⟩ := h
  exact ix_kdict value slice pins s σ H x y v u Q I rx ry ⟨p, z, .int r, e1, e2, D.at e, q⟩ hs
def dictS (kvs : List (Str × Int)) (i : Str) : Int := (lookS kvs i).getD 0
def hasS (kvs : List (Str × Int)) (i : Str) : Bool := (lookS kvs i).isSome
theorem lookS_at {kvs : List (Str × Int)} {i : Str} (h : hasS kvs i = true) : lookS kvs i = some (dictS kvs i) := by
  unfold hasS at h
  unfold dictS
  cases e : lookS kvs i with
  | none => rw [e] at h; cases h
  | some v => rfl
/-! ### for the mathematics -/
theorem eqv_enc {α : Type} [DecidableEq α] {n : Nat} {f : α → PyData} (ok : EncOk n f) (x y : α) : PyData.eqv (f x) (f y) = decide (x = y) := ok.eqv x y
end Vx
namespace Vx
open PySem PySem.Spec PyProof.Rows L2
theorem sm_str {x : Str} (h : (reprText x).length ≤ 20) : Sm 1 0 (.str x) := ⟨by simp only [smallD, decide_eq_true_eq]; exact h, by simp [nodes], by simp [PyData.depth]⟩
theorem sm_none : Sm 1 0 (encN ()) := sm_non
theorem sm_T1 {α : Type} {f : α → PyData} {n k : Nat} {p : α} (h1 : Sm n k (f p)) : Sm (1 + n) (k + 1) (encT1 f p) := by
  obtain ⟨a1, a2, a3⟩ := h1
  refine ⟨by simp [encT1, smallD, smallAll, a1], ?_, ?_⟩
  · simp only [encT1, nodes, nodesAll]
    omega
  · simp only [encT1, PyData.depth, PyData.depthAll]
    omega
theorem sm_T4 {α β γ δ : Type} {f : α → PyData} {g : β → PyData} {h : γ → PyData} {e : δ → PyData} {n k m j l i o q : Nat} {p : α × β × γ × δ} (h1 : Sm n k (f p.1)) (h2 : Sm m j (g p.2.1)) (h3 : Sm l i (h p.2.2.1)) (h4 : Sm o q (e p.2.2.2)) : Sm (1 + n + m + l + o) (max k (max j (max i q)) + 1) (encT4 f g h e p) := by
  obtain ⟨a1, a2, a3⟩ := h1
  obtain ⟨b1, b2, b3⟩ := h2
  obtain ⟨c1, c2, c3⟩ := h3
  obtain ⟨d1, d2, d3⟩ := h4
  refine ⟨by simp [encT4, smallD, smallAll, a1, b1, c1, d1], ?_, ?_⟩
  · simp only [encT4, nodes, nodesAll]
    omega
  · simp only [encT4, PyData.depth, PyData.depthAll]
    omega
theorem Sm.enc {n k : Nat} {d : PyData} (h : Sm n k d) : Sm n k (encD d) := h
end Vx
namespace Vx
theorem len8 {α : Type} {l : List α} (h : l.length = 8) : ∃ x0 x1 x2 x3 x4 x5 x6 x7, l = [x0, x1, x2, x3, x4, x5, x6, x7] := by
  obtain ⟨x0, r, rfl, h2⟩ := len_s h
  obtain ⟨x1, x2, x3, x4, x5, x6, x7, rfl⟩ := len7 h2
  exact ⟨x0, x1, x2, x3, x4, x5, x6, x7, rfl⟩
theorem len9 {α : Type} {l : List α} (h : l.length = 9) : ∃ x0 x1 x2 x3 x4 x5 x6 x7 x8, l = [x0, x1, x2, x3, x4, x5, x6, x7, x8] := by
  obtain ⟨x0, r, rfl, h2⟩ := len_s h
  obtain ⟨x1, x2, x3, x4, x5, x6, x7, x8, rfl⟩ := len8 h2
  exact ⟨x0, x1, x2, x3, x4, x5, x6, x7, x8, rfl⟩
theorem len10 {α : Type} {l : List α} (h : l.length = 10) : ∃ x0 x1 x2 x3 x4 x5 x6 x7 x8 x9, l = [x0, x1, x2, x3, x4, x5, x6, x7, x8, x9] := by
  obtain ⟨x0, r, rfl, h2⟩ := len_s h
  obtain ⟨x1, x2, x3, x4, x5, x6, x7, x8, x9, rfl⟩ := len9 h2
  exact ⟨x0, x1, x2, x3, x4, x5, x6, x7, x8, x9, rfl⟩
theorem len11 {α : Type} {l : List α} (h : l.length = 11) : ∃ x0 x1 x2 x3 x4 x5 x6 x7 x8 x9 x10, l = [x0, x1, x2, x3, x4, x5, x6, x7, x8, x9, x10] := by
  obtain ⟨x0, r, rfl, h2⟩ := len_s h
  obtain ⟨x1, x2, x3, x4, x5, x6, x7, x8, x9, x10, rfl⟩ := len10 h2
  exact ⟨x0, x1, x2, x3, x4, x5, x6, x7, x8, x9, x10, rfl⟩
theorem len12 {α : Type} {l : List α} (h : l.length = 12) : ∃ x0 x1 x2 x3 x4 x5 x6 x7 x8 x9 x10 x11, l = [x0, x1, x2, x3, x4, x5, x6, x7, x8, x9, x10, x11] := by
  obtain ⟨x0, r, rfl, h2⟩ := len_s h
  obtain ⟨x1, x2, x3, x4, x5, x6, x7, x8, x9, x10, x11, rfl⟩ := len11 h2
  exact ⟨x0, x1, x2, x3, x4, x5, x6, x7, x8, x9, x10, x11, rfl⟩
end Vx
namespace Vx
open PySem PySem.Spec PyProof.Rows L2
theorem Sep.mutnews {M : List Addr} {H0 G0 G H H' : Hp} {O : List Addr} (S : Sep M H0 G0 G H O) {L : List Addr} (x : SameXs L H H') (hL : ∀ a ∈ L, a ∈ O) (hs : ∀ a ∈ L, H' a ≠ none) (N : List Addr) (hN : ∀ a ∈ N, H a = none ∧ H' a ≠ none ∧ H0 a = none) : Sep M H0 G0 G H' (N ++ O) := by
  have S1 := S.mut x hL hs
  refine ⟨S1.base, S1.pm, S1.sG, S1.g0, S1.gn, fun a ha => ?_⟩
  rcases List.mem_append.mp ha with z | z
  · obtain ⟨h1, h2, h3⟩ := hN a z
    exact ⟨S.gfree h1, h2, .inr h3⟩
  · exact S1.ow a z
end Vx
/-! # sorted(set(xs)), xs a list of numbers -/
namespace Vs
open PySem PySem.Spec PyProof.Rows L2
section
variable {prog : Program} {wo : World} {Ar : Around} {Er : Value → Shared → Prop} {st : Shared}
/-- the object that set.__new__ lays -/
abbrev bare (wo : World) : Obj := { cls := .type "set", dict := none, data := .set #[] 0 (.fresh 0 0 (!wo.params.followText "set-order")) }
theorem get_bare (h : Heap) : (h.push (bare wo)).get? h.objs.size = some (bare wo) := Heap.get?_push_size _ rfl
/-- set.__init__ of a new, empty set over a list of numbers -/
theorem init_list {lst : Addr} {arr : Array Value} {ks : List Int} (calm : Ar.handled = none) (isl : st.heap.IsList lst arr) (hin : IntsAre arr.toList ks) (few : ks.length + 1 < scanBound)
    (R : Result → Shared → Prop)
    (fin : ∀ (g : Heap) (tk c : Nat), SetR wo g st.heap.objs.size (fun j => decide (j ∈ ks)) c → c ≤ ks.length → (∀ b o, st.heap.get? b = some o → g.get? b = some o) → R (.ok (.ret .none)) { st with heap := g, toks := tk }) :
    codeAny (model prog wo) Ar (.call (.builtin "set.__init__") ⟨[.ref st.heap.objs.size, .ref lst], []⟩) R { st with heap := st.heap.push (bare wo) } := by
  have typ : Shared.TypeIs { st with heap := st.heap.push (bare wo) } (.ref st.heap.objs.size) "set" := ⟨_, get_bare _, rfl⟩
  have len : arr.size = ks.length := by
    have z := hin.length
    rwa [Array.length_toList] at z
  refine codeAny_call_builtin F.called_set.init.plain F.entry_set_init (check_set_init_1 typ ?_)
  obtain ⟨⟨k1, k2, k3, k4⟩, ho, e1, m, e2⟩ := isl
  simp only at e1 e2
  subst e1 e2
  have below : lst < st.heap.objs.size := Heap.lt_size ho
  have il : (st.heap.push (bare wo)).IsList lst arr := ⟨_, Heap.get?_push_of_some _ ho, rfl, m, rfl⟩
  have a1 := F.sub_list_set
  have a2 := F.sub_list_frozenset
  have a3 : (Value.type "list" == Value.type "dict") = false := by decide
  have a4 := Heap.get?_push_of_some (bare wo) ho
  unfold Builtin.«set.__init__» noKeywords Builtin.Frozenset.updateFrom
  generalize hw : pyIter = WK
  wp_walk
  subst hw
  refine wpAny_pyIter_list il (wpAny_bind (wpAny_runValue ?_))
  have sz : (st.heap.push (bare wo)).objs.size = st.heap.objs.size + 1 := Heap.size_push ..
  have c3 : Ar.in1.in1.handled = none := by simp [calm]
  have far : lst ≠ (st.heap.push (bare wo)).objs.size := by rw [sz]; exact Nat.ne_of_lt (Nat.lt_succ_of_lt below)
  have out : st.heap.objs.size ∉ [(st.heap.push (bare wo)).objs.size, lst] := by
    intro z
    rcases List.mem_cons.mp z with z | z
    · rw [sz] at z; exact absurd z (Nat.ne_of_lt (Nat.lt_succ_self _))
    · exact absurd (List.mem_singleton.mp z) (Nat.ne_of_gt below)
  refine set_update_ints ((Walks.list c3 _ lst far arr).toS) st.heap.objs.size out ks len few (fun i v hv => ?_) (arr.size - 0) 0 _ (by omega) (Nat.zero_le _) ?_ ?_ ?_
  · have hi : i < ks.length := by rw [← len]; exact (Array.getElem?_eq_some_iff.mp hv).1
    obtain ⟨t, e⟩ := PyProof.Rows.IntsAre.int_at hin i v (by rw [Array.getElem?_toList]; exact hv)
    refine ⟨ks[i], t, List.getElem?_eq_getElem hi, ?_⟩
    rw [e, List.getD_eq_getElem?_getD, List.getElem?_eq_getElem hi] <;> rfl
  · exact ⟨⟨_, Heap.get?_push_size _ rfl, rfl, rfl⟩, il.push _⟩
  · exact ⟨0, Nat.le_refl 0, setR_new_at (Heap.get?_push_of_some _ (get_bare _))⟩
  · rintro ⟨g, q1, q2, q3, q4⟩ c mv hc hs
    have b1 : q1 = st.gens := mv.gens
    have b2 : q2 = st.drawn := mv.drawn
    have b3 : q4 = st.os := mv.os
    subst b1 b2 b3
    refine wpAny_pure ?_
    refine wpAny_pure ?_
    rw [len] at hc
    refine fin g q3 c hs hc fun b o e => ?_
    have hb : b < st.heap.objs.size := Heap.lt_size e
    refine mv.heap b o (fun z => ?_) (Heap.get?_push_of_some _ (Heap.get?_push_of_some _ e))
    rcases List.mem_cons.mp z with z | z
    · exact absurd z (Nat.ne_of_lt hb)
    · have z := List.mem_singleton.mp z
      rw [sz] at z
      exact absurd z (Nat.ne_of_lt (Nat.lt_succ_of_lt hb))
end
end Vs
namespace Vs
open PySem PySem.Spec PyProof.Rows L2
section
variable {prog : Program} {wo : World} {Ar : Around} {Er : Value → Shared → Prop} {st : Shared}
/-- set(xs): a new set of the numbers of a list -/
theorem make_list {lst : Addr} {arr : Array Value} {ks : List Int} {Q : Value → Shared → Prop} (calm : Ar.handled = none) (isl : st.heap.IsList lst arr) (hin : IntsAre arr.toList ks) (few : ks.length + 1 < scanBound)
    (fin : ∀ (g : Heap) (tk c : Nat), SetR wo g st.heap.objs.size (fun j => decide (j ∈ ks)) c → c ≤ ks.length → (∀ b o, st.heap.get? b = some o → g.get? b = some o) → Q (.ref st.heap.objs.size) { st with heap := g, toks := tk }) :
    wpAny (model prog wo) Ar (call (.type "set") [.ref lst]) Q Er st := by
  obtain ⟨cc, tl, hmro⟩ := F.called_set.mro
  have m1 := F.called_set.made
  have m2 := F.called_set.sub
  have m3 := F.called_set.notType
  have m4 := F.called_set.canCreate
  have m5 := F.typeCall_set_1 (.ref lst)
  refine wpAny_call (codeAny_of_tree ?_)
  show wpAny _ _ (callAny (.type "set") _) _ _ _
  refine wpAny_pure ⟨Code.quiet_builtin _ (by decide +kernel), codeAny_builtin F.entry_type_call ?_⟩
  rw [Around.under_plain (weight_type_call_type "set" [.ref lst] []) rfl]
  repeat (any_goals (first | assumption | wp_step))
  refine codeAny_mono (code_set_led1 (.ref lst) (E := Er) (Q₁ := fun obj z => obj = .ref st.heap.objs.size ∧ z = { st with heap := st.heap.push (bare wo) }) ⟨rfl, rfl⟩) fun r z hr => ?_
  match r, hr with
  | .error e, hr => exact hr
  | .ok (.ret obj), hr =>
    obtain ⟨rfl, rfl⟩ := hr
    have m6 := F.called_set.init.lookup
    have m7 := F.called_set.init.bind (.ref st.heap.objs.size)
    have typ : Shared.TypeIs { st with heap := st.heap.push (bare wo) } (.ref st.heap.objs.size) "set" := ⟨_, get_bare _, rfl⟩
    repeat (any_goals (first | assumption | wp_step))
    refine codeAny_mono (init_list (R := wants (fun r z => r = .none ∧ ∃ g tk c, z = { st with heap := g, toks := tk } ∧ SetR wo g st.heap.objs.size (fun j => decide (j ∈ ks)) c ∧ c ≤ ks.length ∧ ∀ b o, st.heap.get? b = some o → g.get? b = some o) Er)
      (by simp [calm]) isl hin few fun g tk c a b k => ⟨rfl, g, tk, c, rfl, a, b, k⟩) fun r z hr => ?_
    match r, hr with
    | .error e, hr => exact hr
    | .ok (.ret v), hr =>
      obtain ⟨rfl, g, tk, c, rfl, a, b, k⟩ := hr
      repeat (any_goals (first | assumption | wp_step))
      exact fin _ _ _ a b k
end
section
variable {X : Cx}
/-- set(xs) -/
def rSetI (w : World) : List V → Hp → VK → Prop := fun xs H Q => ∃ (l : Addr) (ks : List Int), xs = [V.ref l] ∧ (∃ K, SqL K H l (ks.map V.int)) ∧ ks.length ≤ 50 ∧
  ∀ (p : Addr) (n : Nat), n ≤ ks.length → H p = none → Q (.ref p) (upd H p (SetO w p (fun j => decide (j ∈ ks)) n))
end
end Vs
namespace Vx
open PySem PySem.Spec PyProof.Rows L2
section
variable {X : Cx}
def rSetI (K : PySem.W.Frag) (w : World) : List V → Hp → VK → Prop := fun xs H Q => ∃ (l : Addr) (ks : List Int), xs = [V.ref l] ∧ SqL K H l (ks.map V.int) ∧ ks.length ≤ 50 ∧
  ∀ (p : Addr) (n : Nat), n ≤ ks.length → H p = none → Q (.ref p) (upd H p (SetO w p (fun j => decide (j ∈ ks)) n))
theorem cr_setI {K : PySem.W.Frag} {w : World} (hc : X.calm = true) (hK : X.K = K := by rfl) (hw : X.w = w := by rfl) : CallR X (.type "set") (rSetI K w) := by
  subst hK hw
  intro pins s σ H xs us Q I r h
  obtain ⟨l, ks, rfl, hl, hf, q⟩ := h
  rw [Vals.ref1 r]
  obtain ⟨its, rv, pl, hz⟩ := I.list hl
  have hb : scanBound = 4096 := rfl
  refine Vs.make_list (I.ok.hd hc) pl.isList (by simpa using ints_of_vals rv) (by omega) fun g tk c R hcn k => ?_
  exact ⟨.ref _, upd H _ (SetO X.w _ (fun j => decide (j ∈ ks)) c), I.laid (t' := tk) k (Nat.le_refl _) (setO_new R), rfl, q _ c hcn (I.hok.fresh (Nat.le_refl _))⟩
def rSortSet (w : World) : List V → Hp → VK → Prop := fun vs H Q => ∃ (a : Addr) (ks : List Int) (n : Nat), vs = [V.ref a] ∧ H a = some (SetO w a (fun j => decide (j ∈ ks)) n) ∧ n ≤ 50 ∧
  ∀ (ns : List Int) (p : Addr), ns.Pairwise (· < ·) → (∀ k : Int, k ∈ ns ↔ k ∈ ks) → H p = none → Q (.ref p) (upd H p (.lst (ns.map V.int)))
theorem cr_sortSet {w : World} (hc : X.calm = true) (hw : X.w = w := by rfl) : CallR X (.builtin "sorted") (rSortSet w) := by
  subst hw
  intro pins s σ H vs us Q I r h
  obtain ⟨a, ks, n, rfl, ha, h64, q⟩ := h
  exact cr_sortedSet hc pins s σ H _ us Q I r ⟨a, _, n, rfl, ha, by omega, fun ns p pw hm hl hn => q ns p pw (fun k => (hm k).trans decide_eq_true_iff) hn⟩
end
/-! ### numbers in order, each once -/
def insS (x : Int) : List Int → List Int
  | [] => [x]
  | y :: r => if x < y then x :: y :: r else if x = y then y :: r else y :: insS x r
def sortSet (xs : List Int) : List Int := xs.foldr insS []
theorem insS_mem {x k : Int} : ∀ {l : List Int}, k ∈ insS x l ↔ k = x ∨ k ∈ l
  | [] => by simp [insS]
  | y :: r => by
    unfold insS
    split
    · simp
    · split
      · next h => subst h; simp
      · rw [List.mem_cons, insS_mem (l := r), List.mem_cons]
        constructor <;> (intro h; rcases h with h | h | h <;> simp [h])
theorem insS_pw {x : Int} : ∀ {l : List Int}, l.Pairwise (· < ·) → (insS x l).Pairwise (· < ·)
  | [], _ => by simp [insS]
  | y :: r, h => by
    have hy := List.pairwise_cons.mp h
    unfold insS
    split
    · next c =>
      refine List.pairwise_cons.mpr ⟨fun z hz => ?_, h⟩
      rcases List.mem_cons.mp hz with rfl | hz
      · exact c
      · exact Int.lt_trans c (hy.1 z hz)
    · next c =>
      split
      · exact h
      · refine List.pairwise_cons.mpr ⟨fun z hz => ?_, insS_pw hy.2⟩
        rcases insS_mem.mp hz with rfl | hz
        · omega
        · exact hy.1 z hz
theorem sortSet_mem {k : Int} : ∀ {l : List Int}, k ∈ sortSet l ↔ k ∈ l
  | [] => Iff.rfl
  | y :: r => by
    show k ∈ insS y (sortSet r) ↔ _
    rw [insS_mem, sortSet_mem (l := r), List.mem_cons]
theorem sortSet_pw : ∀ l : List Int, (sortSet l).Pairwise (· < ·)
  | [] => List.Pairwise.nil
  | y :: r => insS_pw (sortSet_pw r)
theorem pw_uniq : ∀ {a b : List Int}, a.Pairwise (· < ·) → b.Pairwise (· < ·) → (∀ k : Int, k ∈ a ↔ k ∈ b) → a = b
  | [], [], _, _, _ => rfl
  | [], y :: r, _, _, h => absurd ((h y).mpr List.mem_cons_self) (by simp)
  | x :: r, [], _, _, h => absurd ((h x).mp List.mem_cons_self) (by simp)
  | x :: r, y :: t, p, q, h => by
    have p := List.pairwise_cons.mp p
    have q := List.pairwise_cons.mp q
    have e : x = y := by
      rcases List.mem_cons.mp ((h x).mp List.mem_cons_self) with e | e
      · exact e
      · rcases List.mem_cons.mp ((h y).mpr List.mem_cons_self) with e2 | e2
        · exact e2.symm
        · have := q.1 x e
          have := p.1 y e2
          omega
    subst e
    rw [pw_uniq p.2 q.2 fun k => ?_]
    have hk := h k
    rw [List.mem_cons, List.mem_cons] at hk
    constructor
    · intro z
      rcases hk.mp (.inr z) with e | e
      · have := p.1 k z; omega
      · exact e
    · intro z
      rcases hk.mpr (.inr z) with e | e
      · have := q.1 k z; omega
      · exact e
theorem sortSet_of {ks ns : List Int} (p : ns.Pairwise (· < ·)) (h : ∀ k : Int, k ∈ ns ↔ k ∈ ks) : ns = sortSet ks := pw_uniq p (sortSet_pw ks) fun k => (h k).trans sortSet_mem.symm
theorem gen_new2 {H H' : Hp} {p q : Addr} {o u : HO} (n : H p = none) (m : upd H p o q = none) (h : upd (upd H p o) q u = H') : Same H H' ∧ H' q = some u ∧ H q = none := by
  have hne : q ≠ p := fun z => by rw [z, upd_same] at m; cases m
  have hq : H q = none := by rwa [upd_ne hne] at m
  subst h
  refine ⟨fun b x e => ?_, upd_same, hq⟩
  rw [upd_ne (fun z => by rw [z, hq] at e; cases e), upd_ne (fun z => by rw [z, n] at e; cases e)]
  exact e
/-! ### texts in tuples and lists -/
theorem map_getF {α : Type} {f : α → V} {xs : List α} {i : Nat} {x : V} (h : (xs.map f)[i]? = some x) : ∃ o, xs[i]? = some o ∧ x = f o := by
  rw [List.getElem?_map] at h
  cases e : xs[i]? with
  | none => rw [e] at h; cases h
  | some o => rw [e] at h; exact ⟨o, rfl, (Option.some.inj h).symm⟩
theorem inV_strs (x : Str) : ∀ xs : List Str, inV (V.str x) (xs.map V.str) = decide (x ∈ xs)
  | [] => by simp [inV]
  | y :: r => by
    have h := inV_strs x r
    unfold inV at h ⊢
    rw [List.map_cons, List.any_cons, h]
    by_cases c : x = y
    · subst c
      simp [eqV]
    · simp [eqV, c, Ne.symm c]
theorem flat_strs : ∀ xs : List Str, (xs.map V.str).all flatV = true
  | [] => rfl
  | _ :: r => flat_strs r
section
variable {X : Cx} {K : PySem.W.Frag}
def rInS (K : PySem.W.Frag) : R2 := fun x y H Q => ∃ (i : Str) (p : Addr) (xs : List Str), x = .str i ∧ y = .ref p ∧ (SqL K H p (xs.map V.str) ∨ SqT K H p (xs.map V.str)) ∧ Q (.bl (decide (i ∈ xs))) H
theorem op_inS (hK : X.K = K := by rfl) : OpR X (compareOp .In) (rInS K) := by
  subst hK
  intro pins s σ H x y v u Q I rx ry h
  obtain ⟨i, p, xs, e1, e2, hs, q⟩ := h
  refine op_in_seq pins s σ H _ _ v u Q I rx ry ⟨p, _, e2, hs, by rw [e1]; rfl, flat_strs xs, ?_⟩
  rw [if_neg Bool.false_ne_true, e1, inV_strs]
  exact q
/-- a list or a tuple of numbers -/
def SeqI (K : PySem.W.Frag) (H : Hp) (v : V) (xs : List Int) : Prop := ∃ a, v = .ref a ∧ (H a = some (.lst (xs.map V.int)) ∨ H a = some (.tup (xs.map V.int)) ∨ ∀ H, SqT K H a (xs.map V.int))
def rListSI (K : PySem.W.Frag) : List V → Hp → VK → Prop := fun xs H Q => ∃ (v : V) (ks : List Int), xs = [v] ∧ SeqI K H v ks ∧ ∀ l, H l = none → Q (.ref l) (upd H l (.lst (ks.map V.int)))
theorem call_listSI (hK : X.K = K := by rfl) : CallR X (.type "list") (rListSI K) := by
  subst hK
  intro pins s σ H xs us Q I r h
  obtain ⟨v, ks, rfl, ⟨a, rfl, h2⟩, q⟩ := h
  refine call_list_of pins s σ H _ us Q I r ⟨a, _, rfl, ?_, q⟩
  rcases h2 with z | z | z
  · exact .inl (SqL.of z)
  · exact .inr (SqT.of z)
  · exact .inr (z H)
theorem SeqI.mono {H H' : Hp} {v : V} {xs : List Int} (e : Same H H') (h : SeqI K H v xs) : SeqI K H' v xs := by
  obtain ⟨a, e1, h⟩ := h
  refine ⟨a, e1, ?_⟩
  rcases h with z | z | z
  · exact .inl (e _ _ z)
  · exact .inr (.inl (e _ _ z))
  · exact .inr (.inr z)
def rTupLK (K : PySem.W.Frag) : List V → Hp → VK → Prop := fun xs H Q => ∃ (p : Addr) (ks : List Int), xs = [.ref p] ∧ SqL K H p (ks.map V.int) ∧ ∀ l, H l = none → Q (.ref l) (upd H l (.tup (ks.map V.int)))
theorem call_tupLK (hK : X.K = K := by rfl) : CallR X (.type "tuple") (rTupLK K) := by
  subst hK
  intro pins s σ H xs us Q I r h
  obtain ⟨p, ks, rfl, hs, q⟩ := h
  exact call_tuple_of pins s σ H _ us Q I r ⟨p, _, rfl, .inl ⟨hs, q⟩⟩
end
/-! ### written dicts of tuples with text keys -/
def lookG {α : Type} : List (Str × α) → Str → Option α
  | [], _ => none
  | (k, v) :: r, i => if k = i then some v else lookG r i
def dictG {α : Type} [Inhabited α] (kvs : List (Str × α)) (i : Str) : α := (lookG kvs i).getD default
def hasG {α : Type} (kvs : List (Str × α)) (i : Str) : Bool := (lookG kvs i).isSome
theorem lookG_at {α : Type} [Inhabited α] {kvs : List (Str × α)} {i : Str} (h : hasG kvs i = true) : lookG kvs i = some (dictG kvs i) := by
  unfold hasG at h
  unfold dictG
  cases e : lookG kvs i with
  | none => rw [e] at h; cases h
  | some v => rfl
inductive EA (P : Params) : List (Str × Addr) → List DictEntry → Prop
  | nil : EA P [] []
  | cons {h k a} {t : Tok} {r : List (Str × Addr)} {es : List DictEntry} (e : h = PyData.keyHash P k) (x : EA P r es) : EA P ((k, a) :: r) (⟨h, .str k t, .ref a⟩ :: es)
def KDA (K : PySem.W.Frag) (w : World) (a : Addr) (kvs : List (Str × Addr)) : Prop :=
  ∃ es n, K.lookup a = some ⟨.type "dict", none, .dict es n, #[]⟩ ∧ EA w.params kvs es.toList
theorem EA.lit {P : Params} : ∀ {kvs : List (Str × Addr)} {es : List DictEntry}, EA P kvs es → PySem.W.KeysLit P es
  | _, _, .nil => trivial
  | _, _, .cons e x => ⟨⟨_, _, rfl, e⟩, EA.lit x⟩
theorem EA.find {P : Params} {i : Str} {a : Addr} : ∀ {kvs : List (Str × Addr)} {es : List DictEntry}, EA P kvs es → lookG kvs i = some a → ∃ e, es.find? (fun e => e.key.isStr i) = some e ∧ e.val = .ref a
  | _, _, .nil, h => by cases h
  | _, _, .cons (k := k) e x, h => by
    unfold lookG at h
    by_cases q : k = i
    · rw [if_pos q] at h
      subst q
      cases h
      refine ⟨_, List.find?_cons_of_pos ?_, rfl⟩
      simp [Value.isStr]
    · rw [if_neg q] at h
      obtain ⟨e', h1, h2⟩ := EA.find x h
      refine ⟨e', ?_, h2⟩
      rw [List.find?_cons_of_neg]
      · exact h1
      · simp [Value.isStr, q]
def rIxDA (K : PySem.W.Frag) (w : World) : R2 := fun x y H Q => ∃ (p : Addr) (z : Str) (kvs : List (Str × Addr)) (a : Addr), x = .ref p ∧ y = .str z ∧ KDA K w p kvs ∧ lookG kvs z = some a ∧ Q (.ref a) H
theorem ix_DA {X : Cx} {K : PySem.W.Frag} {w : World} (hK : X.K = K := by rfl) (hw : X.w = w := by rfl) : IxR X (rIxDA K w) := by
  subst hK hw
  intro value slice pins s σ H x y v u Q I rx ry h hs
  obtain ⟨p, z, kvs, a, e1, e2, ⟨es, n, hl, xx⟩, e, q⟩ := h
  obtain ⟨en, h1, h2⟩ := xx.find e
  refine ix_kdict value slice pins s σ H x y v u Q I rx ry ⟨p, z, .ref a, e1, e2, ⟨es, n, .ref a, hl, xx.lit, ?_, rfl⟩, q⟩ hs
  unfold PySem.W.nsIn
  rw [hl]
  show (match es.toList.find? (fun e => e.key.isStr z) with
      | some e => some (some e.val)
      | none => if es.toList.any (·.refKey) then none else some none) = _
  rw [h1]
  show some (some en.val) = _
  rw [h2]
theorem F2.look {α β : Type} [Inhabited α] [Inhabited β] {P : α → β → Prop} {z : Str} : ∀ {l : List (Str × α)} {m : List (Str × β)}, F2 (fun p q => p.1 = q.1 ∧ P p.2 q.2) l m → hasG m z = true → P (dictG l z) (dictG m z)
  | _, _, .nil, h => by cases h
  | (k, a) :: l, (k2, b) :: m, .cons h r, hz => by
    obtain ⟨e, hp⟩ := h
    have e : k = k2 := e
    subst e
    unfold hasG lookG at hz
    unfold dictG lookG
    by_cases q : k = z
    · rw [if_pos q, if_pos q]; exact hp
    · rw [if_neg q] at hz
      rw [if_neg q, if_neg q]
      exact F2.look r hz
theorem F2.hasK {α β : Type} {P : α → β → Prop} {z : Str} : ∀ {l : List (Str × α)} {m : List (Str × β)}, F2 (fun p q => p.1 = q.1 ∧ P p.2 q.2) l m → hasG m z = true → hasG l z = true
  | _, _, .nil, h => by cases h
  | (k, a) :: l, (k2, b) :: m, .cons h r, hz => by
    have e : k = k2 := h.1
    subst e
    unfold hasG lookG at hz ⊢
    by_cases q : k = z
    · rw [if_pos q]; rfl
    · rw [if_neg q] at hz ⊢
      exact F2.hasK r hz
end Vx
namespace Vx
open PySem PySem.Spec PyProof.Rows L2
theorem op_notFalse {X : Cx} : OpR X (compareOp .IsNot) (fun x y H Q => ∃ b : Bool, x = .bl b ∧ y = .bl false ∧ Q (.bl b) H) := by
  intro pins s σ H x y v u Q I rx ry h
  obtain ⟨b, rfl, rfl, q⟩ := h
  cases rx
  cases ry
  show wpAny (model X.prog X.w) X.A (compareOp .IsNot (.bool b) (.bool false)) (EP X pins σ Q) X.xe s
  have e : compareOp .IsNot (.bool b) (.bool false) = pure (.bool b) := by cases b <;> rfl
  rw [e]
  exact wpAny_pure ⟨.bl b, H, I, rfl, q⟩
end Vx
/-! ### comprehensions that change an object -/
namespace Vx
open PySem PySem.Spec PyProof.Rows L2
section
variable {α β σ γ : Type}
def bind2 (m : Rx (α × σ)) (f : α → σ → Rx γ) : Rx γ := m.bind fun v => f v.1 v.2
def mapAS : List α → List β → σ → (σ → α → Rx (β × σ)) → Rx (List β × σ)
  | [], acc, s, _ => .ok (acc, s)
  | x :: r, acc, s, f => grd (acc.length ≤ 1000000) ((f s x).bind fun y => mapAS r (acc ++ [y.1]) y.2 f)
def mapFS : List α → List β → σ → (σ → α → Rx (Option β × σ)) → Rx (List β × σ)
  | [], acc, s, _ => .ok (acc, s)
  | x :: r, acc, s, f => grd (acc.length ≤ 1000000) ((f s x).bind fun y =>
    match y.1 with
    | some z => mapFS r (acc ++ [z]) y.2 f
    | none => mapFS r acc y.2 f)
theorem cW_push2 {m : Rx (α × σ)} {f : α → σ → Rx γ} {K : γ → Prop} {E : Nat → Prop} (h : cW (bind2 m f) K E) : ∃ K2 : α × σ → Prop, (∀ a s, K2 (a, s) → cW (f a s) K E) ∧ cW m K2 E := ⟨fun v => cW (f v.1 v.2) K E, fun _ _ x => x, cW_call h (fun _ x => x) fun _ x => x⟩
theorem cW_mapAS {K : List β × σ → Prop} {E : Nat → Prop} {xs : List α} {acc : List β} {s : σ} {i : Nat} {x : α} {f : σ → α → Rx (β × σ)} (hx : xs[i]? = some x) (h : cW (mapAS (xs.drop i) acc s f) K E) :
    acc.length ≤ 1000000 ∧ cW (f s x) (fun y => cW (mapAS (xs.drop (i + 1)) (acc ++ [y.1]) y.2 f) K E) E := by
  rw [List.drop_eq_getElem?_toList_append, hx] at h
  obtain ⟨z, h⟩ := cW_grd h
  exact ⟨z, cW_call h (fun _ z => z) fun _ z => z⟩
theorem cW_mapAS0 {K : List β × σ → Prop} {E : Nat → Prop} {xs : List α} {acc : List β} {s : σ} {n : Nat} {f : σ → α → Rx (β × σ)} (hn : n = xs.length) (h : cW (mapAS (xs.drop n) acc s f) K E) : K (acc, s) := by
  subst hn
  rw [List.drop_length] at h
  exact cW_ok h
theorem cW_mapFS {K : List β × σ → Prop} {E : Nat → Prop} {xs : List α} {acc : List β} {s : σ} {i : Nat} {x : α} {f : σ → α → Rx (Option β × σ)} (hx : xs[i]? = some x) (h : cW (mapFS (xs.drop i) acc s f) K E) :
    acc.length ≤ 1000000 ∧ cW (f s x) (fun y => match y.1 with | some z => cW (mapFS (xs.drop (i + 1)) (acc ++ [z]) y.2 f) K E | none => cW (mapFS (xs.drop (i + 1)) acc y.2 f) K E) E := by
  rw [List.drop_eq_getElem?_toList_append, hx] at h
  obtain ⟨z, h⟩ := cW_grd h
  refine ⟨z, cW_call h (fun y z => ?_) fun _ z => z⟩
  obtain ⟨o, t⟩ := y
  cases o with
  | none => exact z
  | some w => exact z
theorem cW_mapFS0 {K : List β × σ → Prop} {E : Nat → Prop} {xs : List α} {acc : List β} {s : σ} {n : Nat} {f : σ → α → Rx (Option β × σ)} (hn : n = xs.length) (h : cW (mapFS (xs.drop n) acc s f) K E) : K (acc, s) := by
  subst hn
  rw [List.drop_length] at h
  exact cW_ok h
end
theorem sx_of {L : List Addr} {a b : Hp} (h : Same a b) : SameXs L a b := fun p o e _ => h p o e
theorem sx_same {L : List Addr} {a b c : Hp} (h : SameXs L a b) (k : Same b c) : SameXs L a c := fun p o e n => k p o (h p o e n)
theorem sx_mut {L : List Addr} {a b c : Hp} (h : SameXs L a b) (k : SameXs L b c) : SameXs L a c := fun p o e n => k p o (h p o e n) n
theorem sx_mut1 {L : List Addr} {a b c : Hp} {D : Addr} (h : SameXs L a b) (k : SameX D b c) (d : a D = none) : SameXs L a c := fun p o e n => k p o (h p o e n) (ne_of_none e d)
def rIndexTS (K : PySem.W.Frag) : V → List V → Hp → VK → Prop := fun x xs H Q => ∃ (p : Addr) (ys : List Str) (z : Str), x = .ref p ∧ xs = [.str z] ∧ SqT K H p (ys.map V.str) ∧ z ∈ ys ∧ Q (.int ((ys.idxOf z : Nat) : Int)) H
theorem mt_indexTS {X : Cx} {K : PySem.W.Frag} (hK : X.K = K := by rfl) : MtR X "tuple.index" (rIndexTS K) := by
  subst hK
  intro pins s σ H x xs v us Q I rx rxs h
  obtain ⟨p, ys, z, rfl, rfl, hs, hm, q⟩ := h
  refine mt_tup_index pins s σ H _ _ v us Q I rx rxs ⟨p, ys, z, ys.idxOf z, rfl, rfl, hs, ?_, ?_, q⟩
  · have hl := List.idxOf_lt_length_iff.mpr hm
    rw [List.getElem?_eq_getElem hl]
    exact congrArg some (List.getElem_idxOf hl)
  · intro m hm2 hg
    have h1 := (List.getElem?_eq_some_iff.mp hg)
    obtain ⟨h2, h3⟩ := h1
    have h4 := List.not_of_lt_findIdx hm2
    rw [h3, beq_self_eq_true] at h4
    cases h4
end Vx
/-! # fourth part: reckoning with functions that may refuse -/
namespace Vx
open PySem PySem.Spec PyProof.Rows L2
section
variable {α β σ ρ τ : Type}
theorem bind_ok (a : α) (f : α → Rx β) : (Rx.ok a).bind f = f a := rfl
theorem bind_er (e : Nat) (f : α → Rx β) : (Rx.er e : Rx α).bind f = .er e := rfl
theorem grd_pos {p : Prop} {dp : Decidable p} {m : Rx α} (h : p) : grd p m = m := if_pos h
theorem bnd_eq (a : α) (f : α → Rx β) : bnd a f = f a := rfl
theorem noEr_ok (a : α) : noEr (.ok a : Rx α) = .ok a := rfl
theorem tryR_ok {cs : List Nat} (a : α) (f : α → Rx β) (g : Nat → Rx β) : tryR (.ok a) cs f g = f a := rfl
theorem tryR_er {cs : List Nat} {e : Nat} (h : e ∈ cs) (f : α → Rx β) (g : Nat → Rx β) : tryR (.er e) cs f g = g e := if_pos h
theorem aft_go (s : σ) (kr : ρ → Rx τ) (k : σ → Rx τ) : (Lp.go s : Lp σ ρ).aft kr k = k s := rfl
theorem aft_rt (r : ρ) (kr : ρ → Rx τ) (k : σ → Rx τ) : (Lp.rt r : Lp σ ρ).aft kr k = kr r := rfl
/-- gives a value of which P holds -/
def Gv (m : Rx α) (P : α → Prop) : Prop := ∃ v, m = .ok v ∧ P v
theorem Gv.ok {a : α} {P : α → Prop} (h : P a) : Gv (.ok a) P := ⟨a, rfl, h⟩
theorem Gv.of_eq {m : Rx α} {a : α} {P : α → Prop} (e : m = .ok a) (h : P a) : Gv m P := ⟨a, e, h⟩
theorem Gv.bind {m : Rx α} {f : α → Rx β} {P : α → Prop} {Q : β → Prop} (h : Gv m P) (k : ∀ v, P v → Gv (f v) Q) : Gv (m.bind f) Q := by
  obtain ⟨v, rfl, p⟩ := h
  exact k v p
theorem Gv.bind_eq {m : Rx α} {f : α → Rx β} {a : α} {Q : β → Prop} (h : m = .ok a) (k : Gv (f a) Q) : Gv (m.bind f) Q := by
  subst h
  exact k
theorem Gv.grd {p : Prop} {dp : Decidable p} {m : Rx α} {Q : α → Prop} (h : p) (k : Gv m Q) : Gv (Vx.grd p m) Q := by
  rw [grd_pos h]
  exact k
theorem Gv.bnd {a : α} {f : α → Rx β} {Q : β → Prop} (k : ∀ x, x = a → Gv (f x) Q) : Gv (Vx.bnd a f) Q := k a rfl
theorem Gv.ite {p : Prop} {dp : Decidable p} {a b : Rx α} {Q : α → Prop} (h1 : p → Gv a Q) (h2 : ¬ p → Gv b Q) : Gv (if p then a else b) Q := by
  split
  · exact h1 ‹_›
  · exact h2 ‹_›
theorem Gv.pos {p : Prop} {dp : Decidable p} {a b : Rx α} {Q : α → Prop} (h : p) (k : Gv a Q) : Gv (if p then a else b) Q := by rwa [if_pos h]
theorem Gv.neg {p : Prop} {dp : Decidable p} {a b : Rx α} {Q : α → Prop} (h : ¬ p) (k : Gv b Q) : Gv (if p then a else b) Q := by rwa [if_neg h]
theorem Gv.imp {m : Rx α} {P Q : α → Prop} (h : Gv m P) (k : ∀ v, P v → Q v) : Gv m Q := by
  obtain ⟨v, e, p⟩ := h
  exact ⟨v, e, k v p⟩
theorem Gv.noEr {m : Rx α} {P : α → Prop} (h : Gv m P) : Gv (Vx.noEr m) P := by
  obtain ⟨v, rfl, p⟩ := h
  exact ⟨v, rfl, p⟩
theorem Gv.tryOk {m : Rx α} {cs : List Nat} {f : α → Rx β} {g : Nat → Rx β} {P : α → Prop} {Q : β → Prop} (h : Gv m P) (k : ∀ v, P v → Gv (f v) Q) : Gv (tryR m cs f g) Q := by
  obtain ⟨v, rfl, p⟩ := h
  exact k v p
theorem Gv.tryEr {m : Rx α} {cs : List Nat} {e : Nat} {f : α → Rx β} {g : Nat → Rx β} {Q : β → Prop} (h : m = .er e) (hm : e ∈ cs) (k : Gv (g e) Q) : Gv (tryR m cs f g) Q := by
  subst h
  rw [tryR_er hm]
  exact k
theorem Gv.get {m : Rx α} {a : α} (h : Gv m (fun v => v = a)) : m = .ok a := by
  obtain ⟨v, e, rfl⟩ := h
  exact e
theorem Gv.eq {m : Rx α} {P : α → Prop} (h : Gv m P) : ∃ v, m = .ok v ∧ P v := h
/-- a loop that keeps P -/
theorem Gv.forS {P : Nat → σ → Prop} {xs : List α} {s : σ} {f : σ → α → Rx σ} (h0 : P 0 s) (hs : ∀ i x s, xs[i]? = some x → P i s → Gv (f s x) (P (i + 1))) : Gv (Vx.forS xs s f) (P xs.length) := by
  induction xs generalizing s P with
  | nil => exact .ok h0
  | cons x r ih =>
    refine Gv.bind (hs 0 x s rfl h0) fun s' p => ?_
    exact ih (P := fun i => P (i + 1)) p fun i y s hy q => hs (i + 1) y s (by simpa using hy) q
theorem Gv.forR {P : Nat → σ → Prop} {xs : List α} {s : σ} {f : σ → α → Rx (Lp σ ρ)} (h0 : P 0 s) (hs : ∀ i x s, xs[i]? = some x → P i s → Gv (f s x) (fun l => ∃ s', l = .go s' ∧ P (i + 1) s')) : Gv (Vx.forR xs s f) (fun l => ∃ s', l = .go s' ∧ P xs.length s') := by
  induction xs generalizing s P with
  | nil => exact .ok ⟨s, rfl, h0⟩
  | cons x r ih =>
    refine Gv.bind (hs 0 x s rfl h0) ?_
    rintro _ ⟨s', rfl, p⟩
    exact ih (P := fun i => P (i + 1)) p fun i y s hy q => hs (i + 1) y s (by simpa using hy) q
/-- a loop that carries nothing -/
theorem forR_unit {xs : List α} {f : Unit → α → Rx (Lp Unit ρ)} (h : ∀ x ∈ xs, f () x = .ok (.go ())) : Vx.forR xs () f = .ok (.go ()) := by
  induction xs with
  | nil => rfl
  | cons x r ih =>
    show (f () x).bind _ = _
    rw [h x List.mem_cons_self]
    exact ih fun y hy => h y (List.mem_cons_of_mem _ hy)
theorem forS_pure {xs : List α} {s : σ} {f : σ → α → Rx σ} {g : σ → α → σ} (h : ∀ s x, x ∈ xs → f s x = .ok (g s x)) : Vx.forS xs s f = .ok (xs.foldl g s) := by
  induction xs generalizing s with
  | nil => rfl
  | cons x r ih =>
    show (f s x).bind _ = _
    rw [h s x List.mem_cons_self]
    exact ih fun s y hy => h s y (List.mem_cons_of_mem _ hy)
theorem mapA_pure {xs : List α} {acc : List β} {f : α → Rx β} {g : α → β} (h : ∀ x ∈ xs, f x = .ok (g x)) (hl : acc.length + xs.length ≤ 1000000) : mapA xs acc f = .ok (acc ++ xs.map g) := by
  induction xs generalizing acc with
  | nil => simp [mapA]
  | cons x r ih =>
    rw [List.length_cons] at hl
    unfold mapA
    rw [grd_pos (by omega), h x List.mem_cons_self, bind_ok, ih (fun y hy => h y (List.mem_cons_of_mem _ hy)) (by rw [List.length_append, List.length_cons, List.length_nil]; omega)]
    simp
theorem mapA_pure0 {xs : List α} {f : α → Rx β} {g : α → β} (h : ∀ x ∈ xs, f x = .ok (g x)) (hl : xs.length ≤ 1000000) : mapA xs [] f = .ok (xs.map g) := by
  rw [mapA_pure h (by simpa using hl)]
  rfl
theorem mapF_pure {xs : List α} {acc : List β} {f : α → Rx (Option β)} {g : α → Option β} (h : ∀ x ∈ xs, f x = .ok (g x)) (hl : acc.length + xs.length ≤ 1000000) : mapF xs acc f = .ok (acc ++ xs.filterMap g) := by
  induction xs generalizing acc with
  | nil => simp [mapF]
  | cons x r ih =>
    rw [List.length_cons] at hl
    unfold mapF
    rw [grd_pos (by omega), h x List.mem_cons_self, bind_ok]
    cases e : g x with
    | none =>
      show mapF r acc f = _
      rw [ih (fun y hy => h y (List.mem_cons_of_mem _ hy)) (by omega), List.filterMap_cons, e]
    | some z =>
      show mapF r (acc ++ [z]) f = _
      rw [ih (fun y hy => h y (List.mem_cons_of_mem _ hy)) (by rw [List.length_append, List.length_cons, List.length_nil]; omega), List.filterMap_cons, e]
      simp
/-- a while that ends: m falls -/
theorem Gv.whileR {P : σ → Prop} {R : σ → Prop} (m : σ → Nat) {f : σ → Rx (Lp σ ρ)} (hs : ∀ s, P s → Gv (f s) (fun l => (∃ s', l = .go s' ∧ P s' ∧ m s' < m s) ∨ ∃ s', l = .bk s' ∧ R s')) : ∀ {n : Nat} {s : σ}, P s → m s < n → Gv (Vx.whileR n s f) (fun l => ∃ s', l = .go s' ∧ R s') := by
  intro n
  induction n with
  | zero => intro s _ h; exact absurd h (Nat.not_lt_zero _)
  | succ n ih =>
    intro s p h
    refine Gv.bind (hs s p) ?_
    rintro _ (⟨s', rfl, p', l⟩ | ⟨s', rfl, r⟩)
    · exact ih p' (by omega)
    · exact .ok ⟨s', rfl, r⟩
end
/-- a loop that may return -/
theorem Gv.forRR {α σ ρ : Type} {P : Nat → σ → Prop} {Q : ρ → Prop} {xs : List α} {s : σ} {f : σ → α → Rx (Lp σ ρ)} (h0 : P 0 s) (hs : ∀ i x s, xs[i]? = some x → P i s → Gv (f s x) (fun l => (∃ s', l = .go s' ∧ P (i + 1) s') ∨ ∃ r, l = .rt r ∧ Q r)) : Gv (Vx.forR xs s f) (fun l => (∃ s', l = .go s' ∧ P xs.length s') ∨ ∃ r, l = .rt r ∧ Q r) := by
  induction xs generalizing s P with
  | nil => exact .ok (.inl ⟨s, rfl, h0⟩)
  | cons x r ih =>
    refine Gv.bind (hs 0 x s rfl h0) ?_
    rintro _ (⟨s', rfl, p⟩ | ⟨r, rfl, q⟩)
    · exact ih (P := fun i => P (i + 1)) p fun i y s hy q => hs (i + 1) y s (by simpa using hy) q
    · exact .ok (.inr ⟨r, rfl, q⟩)
theorem rng_mem {lo x : Int} {n : Nat} (h : x ∈ rng lo n) : lo ≤ x ∧ x < lo + n := by
  unfold rng at h
  obtain ⟨j, hj, rfl⟩ := List.mem_map.mp h
  have := List.mem_range.mp hj
  omega
theorem rng_at {lo x : Int} {n i : Nat} (h : (rng lo n)[i]? = some x) : x = lo + i ∧ i < n := by
  have hl := get_len h
  rw [rng_len] at hl
  rw [rng_get hl] at h
  exact ⟨(Option.some.inj h).symm, hl⟩
end Vx
/-! # texts: signs, splits, replacements; class methods; what wants a token -/
namespace Vx
open PySem PySem.Spec PyProof.Rows L2 CwR
section
variable {X : Cx} {e f o : Expr} {es : List Expr} {te tf to : TE} {ta : TA} {pos apos : Pos}
theorem mt_isdecimal : MtR X "str.isdecimal" (fun x xs H Q => ∃ a, x = .str a ∧ xs = [] ∧ True ∧ Q (.bl (Txt.isdecimal a)) H) :=
  mt0 (C := fun _ => True) (g := fun a => .bl (Txt.isdecimal a)) fun _ _ s _ _ h => PySem.SC.isdecimal (h _ s.toks rfl)
theorem pe_isdec (ho : PE X o to) (hbase : attributeBase o "isdecimal" X.env (eval o X.env) = eval o X.env := by rfl) (hline : (apos.endLine == pos.line) = true := by rfl) :
    PE X (.Call (.Attribute o "isdecimal" apos) [] [] pos) (tM0 (fun x xs H Q => ∃ a, x = .str a ∧ xs = [] ∧ True ∧ Q (.bl (Txt.isdecimal a)) H) to) := pe_m0 F.slot_str_isdecimal F.type_str_isdecimal mt_isdecimal ho hbase hline
/-- an expression that gives a token out -/
def PEO (X : Cx) (e : Expr) (t : TE) : Prop :=
  ∀ (pins : List (Addr × Obj)) (s : Shared) (σ : L2.St) (H : Hp) (Q : VK), Inv X pins σ H s → t σ H Q → wpAny (model X.prog X.w) X.A (eval e X.env) (fun u s' => 1 ≤ s'.toks ∧ EP X pins σ Q u s') X.xe s
def PSO (X : Cx) (st : Stmt) (t : TS) : Prop :=
  ∀ (pins : List (Addr × Obj)) (s : Shared) (σ : L2.St) (H : Hp) (D : Ends), Inv X pins σ H s → t D σ H → wpAny (model X.prog X.w) X.A (exec st X.env) (fun f s' => 1 ≤ s'.toks ∧ SP X pins D f s') X.xe s
/-- once a token is out, one is out -/
theorem still {α : Type} {M : Model} {A : Around} {t : Sem α} {Q : α → Shared → Prop} {E : Value → Shared → Prop} {s : Shared} (h0 : 1 ≤ s.toks) (h : wpAny M A t Q E s) : wpAny M A t (fun a s' => 1 ≤ s'.toks ∧ Q a s') E s :=
  wpAny_mono (PySem.wpAny_toks h) (fun _ _ q => ⟨Nat.le_trans h0 q.1, q.2⟩) fun _ _ q => q.2
theorem peo_str {x : Str} {j : Nat} : PEO X (.Constant (.str x) j pos) (tC (.str x)) := fun pins s σ H Q I h => Calls.Constant_str ⟨by show 1 ≤ s.toks + 1; omega, .str x, H, I.tok _, ⟨_, rfl⟩, h⟩
theorem peo_left {op : Operator} {r : R2} (ho : OpR X (binaryOp op) r) (ha : PEO X e te) (hb : PE X f tf) : PEO X (.BinOp e op f pos) (tOp r te tf) := fun pins s σ H Q I h => by
  refine wpAny_BinOp (thn (ha pins s σ H _ I h) fun v s1 ⟨k1, x, H1, I1, r1, q1⟩ => ?_)
  exact thn (still k1 (hb.run pins s1 σ H1 _ I1 q1)) fun u s2 ⟨k2, y, H2, I2, r2, q2⟩ => still k2 (ho pins s2 σ H2 x y v u Q I2 r1 r2 q2)
theorem peo_right {op : Operator} {r : R2} (ho : OpR X (binaryOp op) r) (ha : PE X e te) (hb : PEO X f tf) : PEO X (.BinOp e op f pos) (tOp r te tf) := fun pins s σ H Q I h => by
  refine wpAny_BinOp (thn (ha.run pins s σ H _ I h) fun v s1 ⟨x, H1, I1, r1, q1⟩ => ?_)
  exact thn (hb pins s1 σ H1 _ I1 q1) fun u s2 ⟨k2, y, H2, I2, r2, q2⟩ => still k2 (ho pins s2 σ H2 x y v u Q I2 r1 r2 q2)
theorem pa_o (ha : PEO X e te) (hr : PAT X es ta) (hs : starEach (e :: es) X.env = (false, eval e X.env) :: starEach es X.env := by rfl) :
    ∀ (pos : Pos) (pins : List (Addr × Obj)) (s : Shared) (σ : L2.St) (H : Hp) (Q : List V → Hp → Prop), Inv X pins σ H s → tCons te ta σ H Q → wpAny (model X.prog X.w) X.A (spliced (backTo pos (starEach (e :: es) X.env))) (fun us s' => 1 ≤ s'.toks ∧ AP X pins σ Q us s') X.xe s := fun pos pins s σ H Q I h => by
  rw [hs]
  show wpAny _ _ (spliced ((false, eval e X.env) :: backTo pos (starEach es X.env))) _ _ s
  refine Calls.spliced_cons (thn (ha pins s σ H _ I h) fun v s1 ⟨k1, x, H1, I1, r1, q1⟩ => ?_)
  exact thn (still k1 (hr pos pins s1 σ H1 _ k1 I1 q1)) fun us s2 ⟨k2, xs, H2, I2, r2, q2⟩ => ⟨k2, x :: xs, H2, I2, .cons r1 r2, q2⟩
/-- a display whose first item gives a token out -/
theorem peo_lst (ha : PEO X e te) (hr : PAT X es ta) (hs : starEach (e :: es) X.env = (false, eval e X.env) :: starEach es X.env := by rfl) : PEO X (.List (e :: es) pos) (tLst (tCons te ta)) := fun pins s σ H Q I hq => by
  refine wpAny_List_spliced (thn (pa_o ha hr hs pos pins s σ H _ I hq) fun us s1 ⟨k1, xs, H1, I1, r, z, q⟩ => ⟨by rw [← r.length]; exact z, k1, ?_⟩)
  have hf : H1 s1.heap.objs.size = none := I1.hok.fresh (Nat.le_refl _)
  refine ⟨.ref s1.heap.objs.size, upd H1 s1.heap.objs.size (.lst xs), I1.laid (t' := s1.toks) (fun b u e => Heap.get?_push_of_some _ e) (Nat.le_refl _) ?_, rfl, q _ hf⟩
  exact ⟨z, us, 0, r, Heap.get?_push_size _ rfl⟩
theorem PEO.pe (h : PEO X e te) : PE X e te := ⟨fun pins s σ H Q I q => thn (h pins s σ H Q I q) fun _ _ x => x.2⟩
theorem pat_of (h : PA X es ta) : PAT X es ta := fun pos pins s σ H Q _ I q => h.run pos pins s σ H Q I q
theorem pso_set {i : Nat} {x : Str} {pos' : Pos} (hN : X.N.Nodup) (hi : X.N[i]? = some x) (hx : Loc X.env.scope x) (he : PEO X e te) (hs : swapsWith e (some (.Name x pos')) pos.line X.env = pure false := by rfl) (hf : X.fn x = true ∨ X.env.scope.names.lookup x = some .local := by first | exact .inl rfl | exact .inr rfl | assumption) :
    PSO X (.Assign [.Name x pos'] e pos) (tAsg te (gName i)) := fun pins s σ H D I h =>
  wpAny_Assign_Name (thn (he pins s σ H _ I h) fun v s1 ⟨k1, y, H1, I1, r1, q1⟩ => still k1 (store_ok I1 hN hi hx r1 (fun s2 I2 => ⟨_, H1, I2, q1⟩) hf)) hs
theorem pst_set {i : Nat} {x : Str} {pos' : Pos} (hN : X.N.Nodup) (hi : X.N[i]? = some x) (hx : Loc X.env.scope x) (he : PET X e te) (hs : swapsWith e (some (.Name x pos')) pos.line X.env = pure false := by rfl) (hf : X.fn x = true ∨ X.env.scope.names.lookup x = some .local := by first | exact .inl rfl | exact .inr rfl | assumption) :
    PST X (.Assign [.Name x pos'] e pos) (tAsg te (gName i)) := fun pins s σ H D h0 I h =>
  wpAny_Assign_Name (thn (he pins s σ H _ h0 I h) fun v s1 ⟨y, H1, I1, r1, q1⟩ => store_ok I1 hN hi hx r1 (fun s2 I2 => ⟨_, H1, I2, q1⟩) hf) hs
theorem pst_asg {tg : Expr} {g : TG} (he : PET X e te) (hg : PG X tg g) (hs : swapsWithSole [tg] e pos.line X.env = pure false := by rfl) (hw : swappedStores [tg] e X.env = pure none := by rfl)
    (h1 : (assignEach [tg] X.env).map (·.2) = [assign tg X.env] := by rfl) : PST X (.Assign [tg] e pos) (tAsg te g) := fun pins s σ H D h0 I h => by
  refine wpAny_Assign_stores (thn (he pins s σ H _ h0 I h) fun v s1 ⟨x, H1, I1, r1, q1⟩ => ?_) hs hw
  rw [h1]
  exact thn (hg.run pins s1 σ H1 x v _ I1 r1 q1) fun _ s2 q => q
theorem pss_consO {st : Stmt} {rest : List Stmt} {t u : TS} (h1 : PSO X st t) (h2 : PSsT X rest u) : PSs X (st :: rest) (tSeq t u) := by
  refine ⟨fun pins s σ H D I h => wpAny_execs_cons (thn (h1 pins s σ H { D with nx := u D } I h) fun f s1 ⟨k1, q⟩ => ?_)⟩
  cases f with
  | next =>
    obtain ⟨σ', H', I', q⟩ := q
    exact h2 pins s1 σ' H' D k1 I' q
  | ret v => exact q
  | brk => exact q
  | cont => exact q
theorem pet_split (ho : PET X o to) (he : PE X e te) (hs : starEach [e] X.env = [(false, eval e X.env)] := by rfl) (hbase : attributeBase o "split" X.env (eval o X.env) = eval o X.env := by rfl) (hline : (apos.endLine == pos.line) = true := by rfl) :
    PET X (.Call (.Attribute o "split" apos) [e] [] pos) (tM1 (fun x xs H Q => ∃ a b, x = .str a ∧ xs = [.str b] ∧ (b.length == 0) = false ∧ a.length + 2 ≤ sizeLine ∧ rNewStrs (Txt.split a b) H Q) to te) := fun pins s σ H Q h0 I h => by
  refine PySem.Call_method1 hbase hs hline (thn (ho pins s σ H _ h0 I h) fun v s1 ⟨x, H1, I1, r1, q1⟩ => ?_)
  obtain ⟨⟨a, rfl⟩, q1⟩ := q1
  obtain ⟨t, rfl⟩ := _root_.id r1
  refine ⟨"str", _, F.plainAttrs_str, F.slot_str_split, F.type_str_split, typeIs_str _ _ _, (fun _ e => nomatch e), Calls.callWith_builtin rfl (Calls.evalArgs_plain (Calls.spliced_cons ?_))⟩
  exact thn (he.run pins s1 σ H1 _ I1 q1) fun u s2 ⟨y, H2, I2, r2, q2⟩ => Calls.spliced_nil (mt_split pins s2 σ H2 _ [y] _ [u] Q I2 r1 (.cons r2 .nil) q2)
end
/-! ### promises of defs whose first statement wants a token -/
structure FnT (P : Program) (w : World) (K : PySem.W.Frag) (mg : Str → Option Value) (base : Heap) (cx : CXT) (k : Nat) (f : Addr) (fd : FuncData) (ps : List Str) (sp : Sp) : Prop where
  len : ∀ vs H Q E, sp vs H Q E → vs.length = ps.length
  run : ∀ (A : Around) (outer : List Env) (s : Shared) (H : Hp) (args : Args) (us : List Value) (vs : List V) (Q : VK) (E : XK), 1 ≤ s.toks → RoomG k A → Env0 P w K mg base A outer s H → BindsTo s fd args (ps.zip us) → Vals vs us → sp vs H Q E → codeAny (model P w) A (.call (.ref f) args) (CR cx outer P w H s Q E) s
section
variable {P : Program} {w : World} {K : PySem.W.Frag} {mg : Str → Option Value} {base : Heap} {cx : CXT} {j k : Nat} {f : Addr} {fd : FuncData} {ps : List Str} {sp sp' : Sp}
theorem FnT.body {x qual : Str} {params : Arguments} {body : List Stmt} {scope : Scope} {dvs : List V} {kws : List (Str × V)} {N : List Str} (F : FunD K x qual params body scope dvs kws f fd) (S : FnScope N ps scope) (len : ∀ vs H Q E, sp vs H Q E → vs.length = ps.length)
    (hb : ∀ (cdv : Value) (A : Around) (outer : List Env) (s : Shared) (H : Hp) (vs : List V) (Q : VK) (E : XK), RoomG k (A.deeper (envOfC qual scope s.heap.objs.size f cdv)) → sp vs H Q E →
      ∃ t, PSsT (cxOf cx P w K mg base N qual scope f cdv A outer s H E) body t ∧ t { nx := fun _ H' => Q .non H', rt := Q } (start N vs) H) : FnT P w K mg base cx (k + 1) f fd ps sp := by
  obtain ⟨oc, od, dV, kV, doc, pm, an, cdv, ct, osl, rfl, lk, code, _, _⟩ := F.ex
  constructor
  · exact len
  · intro A outer s H args us vs Q E h0 room env binds vals prom
    have nvs := len vs H Q E prom
    have kin : K.In s.heap := env.mod.kin.keeps fun b o q => (env.bs b o q).1
    have nolim : s.heap.NoLimit := env.mod.nolimit.keeps fun b o q => (env.bs b o q).1
    have kinds : ∀ q ∈ ps.zip us, scope.names.lookup q.1 = some .local ∨ (scope.names.lookup q.1 = some .cell ∧ ((cellsFrom (s.heap.objs.size + 1) scope.names []).lookup q.1).isSome = true) := by
      rintro ⟨n, v⟩ hq
      cases S.par n (List.of_mem_zip hq).1 with
      | inl z => exact .inl z
      | inr z => exact .inr ⟨z, PySem.W.cellsFrom_some _ _ _ (.inl z)⟩
    refine codeAny_call_function room.toRoom.depth (kin _ _ lk) rfl S.co S.gen rfl (PySem.W.codeRec_of kin code) (binds _ _ _ _ ?_)
    refine PySem.wpAny_with_toks h0 (wpAny_newFunctionEnv_cells S.kind kinds ?_)
    rintro _ rfl s1 made h1
    refine ⟨nolim.keeps made.toInCall.keep, codeAny_func ?_⟩
    obtain ⟨t, pss, start_⟩ := hb cdv A outer s H vs Q E ⟨room.toRoom.deeper _, room.gd⟩ prom
    have inv := inv_start (CX := cx) (E := E) S room.hd env nvs vals made
    have close : ∀ {τ : L2.St} {H2 : Hp} {v : V} {u : Value} {s2 : Shared}, Inv (cxOf cx P w K mg base N qual scope f cdv A outer s H E) [] τ H2 s2 → RelV v u → Q v H2 → CE outer P w H s Q u s2 := fun inv2 rel q => ⟨_, _, inv2.os, inv2.bare, inv2.base, inv2.hok, rel, q⟩
    refine wpAny_mono (pss [] s1 (start N vs) H _ h1 inv start_) ?_ fun _ _ z => z
    intro flow s2 out
    cases flow with
    | next =>
      obtain ⟨τ, H2, inv2, q⟩ := out
      exact close (v := .non) (u := .none) inv2 rfl q
    | ret u =>
      obtain ⟨v, τ, H2, inv2, rel, q⟩ := out
      exact close inv2 rel q
    | brk =>
      obtain ⟨_, _, _, q⟩ := out
      exact q.elim
    | cont =>
      obtain ⟨_, _, _, q⟩ := out
      exact q.elim
end
structure CalT (P : Program) (w : World) (K : PySem.W.Frag) (mg : Str → Option Value) (base : Heap) (k : Nat) (x : Str) (sp : Sp) (pats : List Pat) : Prop where
  ex : ∃ (f : Addr) (fd : FuncData) (ps : List Str), FnT P w K mg base (L2.CX P w) k f fd ps sp ∧ mg x = some (.ref f) ∧ PySem.W.keepIn K (.ref f) = true ∧ ∀ p ∈ pats, Bnd1 K fd ps p
/-- a classmethod of the text, and its promise -/
structure ClmX (K : PySem.W.Frag) (C : Addr) (q m : Str) (st : Stmt) (ps : List Str) (pats : List Pat) : Prop where
  ex : ∃ (p f : Addr) (fd : FuncData) (dvs : List V) (kws : List (Str × V)), FunD K m q (defArgs st) (defBody st) (defScope st) dvs kws f fd ∧ ClX.CRead K C (.type "type") ∧ ClX.CMet K C (.type "type") m p f ∧ ∀ p ∈ pats, Bnd1 K fd ps p
structure ClmT (P : Program) (w : World) (K : PySem.W.Frag) (mg : Str → Option Value) (base : Heap) (k : Nat) (C : Addr) (m : Str) (sp : Sp) (pats : List Pat) : Prop where
  ex : ∃ (p f : Addr) (fd : FuncData) (ps : List Str), FnT P w K mg base (L2.CX P w) k f fd ps sp ∧ ClX.CRead K C (.type "type") ∧ ClX.CMet K C (.type "type") m p f ∧ ∀ p ∈ pats, Bnd1 K fd ps p
abbrev BodyT (P : Program) (w : World) (K : PySem.W.Frag) (mg : Str → Option Value) (base : Heap) (x : Str) (st : Stmt) (N : List Str) (k : Nat) (sp : Sp) : Prop :=
  ∀ (f : Addr) (cdv : Value) (A : Around) (outer : List Env) (s : Shared) (H : Hp) (vs : List V) (Q : VK) (E : XK), RoomG k (A.deeper (envOfC x (defScope st) s.heap.objs.size f cdv)) → sp vs H Q E →
    ∃ t, PSsT (cxOf (L2.CX P w) P w K mg base N x (defScope st) f cdv A outer s H E) (defBody st) t ∧ t { nx := fun _ H' => Q .non H', rt := Q } (start N vs) H
section
variable {P : Program} {w : World} {K : PySem.W.Frag} {mg : Str → Option Value} {base : Heap} {k : Nat} {sp : Sp}
theorem DefX.okT {x : Str} {st : Stmt} {N ps : List Str} {pats : List Pat} (D : DefX K mg x st ps pats) (S : FnScope N ps (defScope st)) (len : ∀ vs H Q E, sp vs H Q E → vs.length = ps.length)
    (hbody : BodyT P w K mg base x st N k sp) : CalT P w K mg base (k + 1) x sp pats := by
  obtain ⟨f, fd, dvs, kws, F, hm, b⟩ := D.ex
  exact ⟨f, fd, ps, FnT.body F S len (fun cdv A outer s H vs Q E hr h => hbody f cdv A outer s H vs Q E hr h), hm, F.kp, b⟩
theorem ClmX.okT {C : Addr} {q m : Str} {st : Stmt} {N ps : List Str} {pats : List Pat} (D : ClmX K C q m st ps pats) (S : FnScope N ps (defScope st)) (len : ∀ vs H Q E, sp vs H Q E → vs.length = ps.length)
    (hbody : BodyT P w K mg base q st N k sp) : ClmT P w K mg base (k + 1) C m sp pats := by
  obtain ⟨p, f, fd, dvs, kws, F, r, c, b⟩ := D.ex
  exact ⟨p, f, fd, ps, FnT.body F S len (fun cdv A outer s H vs Q E hr h => hbody f cdv A outer s H vs Q E hr h), r, c, b⟩
end
section
variable {X : Cx} {k j n i : Nat} {f C : Addr} {fd : FuncData} {ps ks : List Str} {g : List V → List V → List V} {sp : Sp} {x m : Str} {pos apos p : Pos} {o e : Expr} {es : List Expr} {kws : List Keyword} {tv to : TE} {t tk : TA} {W : WX}
theorem run_T {pins : List (Addr × Obj)} {σ : L2.St} {H : Hp} {s : Shared} {Q : VK} {us ws : List Value} {vs zs : List V} (F : FnT X.prog X.w X.K X.mg X.base (L2.CX X.prog X.w) k f fd ps sp) (h0 : 1 ≤ s.toks) (hr : RoomG k X.A) (hb : Bnd X.K fd ps n ks g) (tkW : Takes X W)
    (I : Inv X pins σ H s) (r : Vals vs us) (rz : Vals zs ws) (l1 : vs.length = n) (l2 : zs.length = ks.length) (h : sp (g vs zs) H Q (WE W σ)) :
    wpAny (model X.prog X.w) X.A (call (.ref f) us (ks.zip ws)) (EP X pins σ Q) X.xe s := by
  obtain ⟨vv, b, r2⟩ := hb.to s us ws vs zs I.kIn l1 l2 r rz
  refine wpAny_call (codeAny_mono (F.run X.A X.stack s H ⟨us, ks.zip ws⟩ vv (g vs zs) Q (WE W σ) h0 hr I.env0 b r2 h) fun rr s' hq => ?_)
  cases rr with
  | error er => exact passAt tkW σ pins H s er s' I hq
  | ok fl =>
    cases fl with
    | ret u => exact I.after hq
    | next => exact hq.elim
    | brk => exact hq.elim
    | cont => exact hq.elim
theorem vx_callT {pats : List Pat} (c : CalT X.prog X.w X.K X.mg X.base k x sp pats) (pt : Pat) (hpt : pt ∈ pats) (hr : RoomG j X.A) (hk : k ≤ j) (tkW : Takes X W) (hg : Gl X x) (ha : PA X (e :: es) t) (hkw : PK X kws tk)
    (hall : (backToKw pos (keywordEach kws X.env)).all (·.1.isSome) = true := by rfl) (hks : (backToKw pos (keywordEach kws X.env)).filterMap (·.1) = pt.2.1 := by rfl)
    (hdb : (x == ("__debug__" : Str)) = false := by decide) (he : starEach (e :: es) X.env = (false, eval e X.env) :: starEach es X.env := by rfl)
    (hpl : ((backTo pos (starEach (e :: es) X.env)).any (·.1) || (backToKw pos (keywordEach kws X.env)).any (·.1.isNone)) = false := by rfl) :
    PET X (.Call (.Name x p) (e :: es) kws pos) (tCallX pt.1 pt.2.1.length sp pt.2.2 W t tk) := by
  obtain ⟨f, fd, ps, F, hm, kp, b⟩ := c.ex
  intro pins s σ H Q h0 I h
  refine wpAny_Call_Name_kw (ld_glob I hg hm ?_ hdb)
  refine PySem.W.callWith_KW (h₀ := X.base) I.ok.mod.kin kp hall (thn (still h0 (ha.run pos pins s σ H _ I h)) fun us s1 ⟨k1, vs, H1, I1, r, q⟩ => ?_) hpl he
  refine thn (still k1 (hkw.run pos pins s1 σ H1 _ I1 q)) fun ws s2 ⟨k2, zs, H2, I2, rz, l1, l2, q2⟩ => ⟨I2.kIn, ?_⟩
  rw [hks]
  exact run_T F k2 (hr.low hk) (b pt hpt) tkW I2 r rz l1 l2 q2
/-- C.m as a value gives a token out -/
theorem getcmet_okT {pins : List (Addr × Obj)} {σ : L2.St} {H : Hp} {s : Shared} {A : Around} {E : Value → Shared → Prop} {mc : Value} {q g : Addr} {pl : Sem Bool} {Q : Value × List Value → Shared → Prop} (I : Inv X pins σ H s) (r : ClX.CRead X.K C mc) (k : ClX.CMet X.K C mc m q g)
    (h : ∀ s', 1 ≤ s'.toks → Inv X ((s.heap.objs.size, PySem.W.methodObj (.ref g) (.ref C)) :: pins) σ H s' → Q (.ref s.heap.objs.size, []) s') : wpAny (model X.prog X.w) A (getMethod (.ref C) m pl) Q E s := by
  obtain ⟨rest, hp⟩ := k.rc
  refine PySem.W.method_cls I.kIn r.ga (PySem.W.cls_bind I.kIn r.rd k.at_ ?_)
  refine wpAny_call (PySem.W.cm_get (s := { s with toks := s.toks + 1 }) I.kIn hp (PySem.W.handed_on rfl ?_))
  exact h _ (by show 1 ≤ s.toks + 1; omega) (ClX.met_new I)
def tClmT (C : Addr) (n : Nat) (sp : Sp) (g : List V → List V → List V) (W : WX) (ta : TE) (t : TA) : TE := fun σ H Q => ta σ H fun x H1 => x = .ref C ∧ t σ H1 fun vs H2 => vs.length + 1 = n ∧ sp (g (x :: vs) []) H2 Q (WE W σ)
theorem vx_clsT {pats : List Pat} {ta : TE} {pl : Sem Bool} (c : ClmT X.prog X.w X.K X.mg X.base k C m sp pats) (pt : Pat) (hpt : pt ∈ pats) (hr : RoomG j X.A) (hk : k ≤ j) (tkW : Takes X W) (he : PE X o ta) (ha : PA X (e :: es) t) (hks : pt.2.1 = [] := by rfl)
    (hst : starEach (e :: es) X.env = (false, eval e X.env) :: starEach es X.env := by rfl) (hpl : (backTo pos (starEach es X.env)).any (·.1) = false := by rfl)
    (ht : eval (.Call (.Attribute o m apos) (e :: es) [] pos) X.env = (do
      let ov ← eval o X.env
      standAt apos.atName
      let (f, first) ← holding [ov] (getMethod ov m pl)
      callWith pos f first (backTo pos (starEach (e :: es) X.env)) (backToKw pos (keywordEach [] X.env))) := by rfl) :
    PE X (.Call (.Attribute o m apos) (e :: es) [] pos) (tClmT C pt.1 sp pt.2.2 W ta t) := by
  obtain ⟨q, f, fd, ps, F, r, cm, b⟩ := c.ex
  refine ⟨fun pins s σ H Q I h => ?_⟩
  refine PySem.W.methodCall_KW (pl := pl) (thn (he.run pins s σ H _ I h) fun u s1 ⟨x, H1, I1, rx, ex, q⟩ => ?_) ht
  subst ex
  obtain rfl : u = Value.ref C := rx
  refine getcmet_okT I1 r cm fun s2 k2 I2 => ?_
  refine ClX.callwith_cm I2 (ClX.base_none I1 (Nat.le_refl _)) cm.fi (thn (still k2 (ha.run pos _ s2 σ H1 _ I2 q)) fun us s3 ⟨k3, vs, H2, I3, rv, l1, q2⟩ => ⟨⟨ClX.pin_at I3, I3.kIn⟩, ?_⟩) hst hpl
  have hb := b pt hpt
  unfold Bnd1 at hb
  rw [hks] at hb
  obtain ⟨vv, bb, r2⟩ := hb.to s3 (.ref C :: us) [] (.ref C :: vs) [] I3.kIn (by rw [List.length_cons, l1]) rfl (.cons rfl rv) .nil
  have hz : wpAny (model X.prog X.w) X.A (call (.ref s1.heap.objs.size) us) (EP X ((s1.heap.objs.size, PySem.W.methodObj (.ref f) (.ref C)) :: pins) σ Q) X.xe s3 := by
    refine wpAny_call (PySem.W.method_call (ClX.pin_at I3) (codeAny_mono (F.run X.A X.stack s3 H2 ⟨.ref C :: us, []⟩ vv (pt.2.2 (.ref C :: vs) []) Q (WE W σ) k3 (hr.low hk) I3.env0 bb r2 q2) fun rr s' hq => ?_))
    cases rr with
    | error er => exact passAt tkW σ _ H2 s3 er s' I3 hq
    | ok fl =>
      cases fl with
      | ret u => exact I3.after hq
      | next => exact hq.elim
      | brk => exact hq.elim
      | cont => exact hq.elim
  exact thn hz fun _ _ y => ClX.unpinE y
/-- x(e, .., k = v, ..), x a name that stands for the class at C -/
def tMakeL (i : Nat) (C : Addr) (n m : Nat) (sp : Sp) (g : List V → List V → List V) (W : WX) (t tk : TA) : TE := fun σ H Q => σ[i]? = some (some (.ref C)) ∧ tMakeX C n m sp g W t tk σ H Q
theorem vx_makeL {pats : List Pat} {cn : Str} (c : MakX X.prog X.w X.K X.mg X.base k cn C sp pats) (pt : Pat) (hpt : pt ∈ pats) (hr : RoomG j X.A) (hk : k + 1 ≤ j) (tkW : Takes X W) (hv : PE X (.Name x p) (tVar i)) (ha : PA X (e :: es) t) (hkw : PK X kws tk)
    (hall : (backToKw pos (keywordEach kws X.env)).all (·.1.isSome) = true := by rfl) (hks : (backToKw pos (keywordEach kws X.env)).filterMap (·.1) = pt.2.1 := by rfl)
    (he : starEach (e :: es) X.env = (false, eval e X.env) :: starEach es X.env := by rfl) (hpl : ((backTo pos (starEach (e :: es) X.env)).any (·.1) || (backToKw pos (keywordEach kws X.env)).any (·.1.isNone)) = false := by rfl) :
    PE X (.Call (.Name x p) (e :: es) kws pos) (tMakeL i C pt.1 pt.2.1.length sp pt.2.2 W t tk) := by
  obtain ⟨f, fd, ps, M, F, hm, b⟩ := c.ex
  refine ⟨fun pins s σ H Q I h => ?_⟩
  refine wpAny_Call_Name_kw (thn (hv.run pins s σ H (fun v H1 => v = .ref C ∧ tMakeX C pt.1 pt.2.1.length sp pt.2.2 W t tk σ H1 Q) I ⟨_, h.1, rfl, h.2⟩) fun u s0 ⟨v, H0, I0, rv, ev, h⟩ => ?_)
  subst ev
  obtain rfl : u = Value.ref C := rv
  refine PySem.W.callWith_KW (h₀ := X.base) I0.ok.mod.kin M.kp hall (thn (ha.run pos pins s0 σ H0 _ I0 h) fun us s1 ⟨vs, H1, I1, r, q⟩ => ?_) hpl he
  refine thn (hkw.run pos pins s1 σ H1 _ I1 q) fun ws s2 ⟨zs, H2, I2, rz, l1, l2, q2⟩ => ⟨I2.kIn, ?_⟩
  rw [hks]
  exact run_mkX M F (hr.low hk) (b pt hpt) tkW I2 r rz l1 l2 q2
end
end Vx
namespace Vx
open PySem PySem.Spec PyProof.Rows L2
theorem vv_m0 {ta : TE} {σ : L2.St} {H : Hp} {a : Str} {z : V} {r : V → List V → Hp → VK → Prop} (ha : Val ta σ H (.str a)) (hr : ∀ Q : VK, Q z H → r (.str a) [] H Q) : Val (tM0 r ta) σ H z := fun Q q => ha _ ⟨⟨a, rfl⟩, hr Q q⟩
def strI (i : Int) : Str := toString i
def sgnS (z : Str) (i : Int) : Str := ⟨#[itD z.cps.toList i]⟩
def numS (z : Str) : Int := (PySem.intText? z).getD 0
theorem numS_some {z : Str} (h : (PySem.intText? z).isSome = true) : PySem.intText? z = some (numS z) := by
  unfold numS
  cases e : PySem.intText? z with
  | none =>
    rw [e] at h
    cases h
  | some n => rfl
theorem atI_in {α : Type} [Inhabited α] {xs : List α} {k : Int} (h : -(xs.length : Int) ≤ k ∧ k < xs.length) : atI xs k = some (itD xs k) := by
  obtain ⟨j, e, hj⟩ := ixN_some h
  unfold itD atI
  rw [e]
  show xs[j]? = some ((xs[j]?).getD default)
  rw [List.getElem?_eq_getElem hj]
  rfl
/-- {x}, x a number -/
def tFmtI (te : TE) : TE := fun σ H Q => te σ H fun x H1 => ∃ i : Int, x = .int i ∧ i.natAbs.log2 < 1920 ∧ Q (.str (toString i)) H1
theorem pe_fmtI {X : Cx} {e : Expr} {te : TE} {pos : Pos} (he : PE X e te) : PE X (.FormattedValue e (-1) none pos) (tFmtI te) := by
  refine ⟨fun pins s σ H Q I h => ?_⟩
  refine wpAny_FormattedValue_plain (thn (he.run pins s σ H _ I h) fun v s1 hv => ?_)
  obtain ⟨x, H1, I1, r1, i, rfl, hz, q⟩ := hv
  obtain ⟨t, rfl⟩ := r1
  exact wpAny_formatField_int hz ⟨.str (toString i), H1, I1.tok _, ⟨_, rfl⟩, q⟩
end Vx
namespace Vx
open PySem PySem.Spec PyProof.Rows L2
/-! ### the head's facts -/
abbrev Frg : Type := PySem.W.Frag
abbrev FaK : Type := Frg → Bool
abbrev AlK : Type := Bool × List He.FnW × List (Option (List (Option (Str × Int))))
def obsK (fa : List (List FaK)) (fn : List He5.DefA) (ts : List He.Tab) (K : Frg) : AlK :=
  ((fa.all fun l => l.all fun f => f K) && fn.all fun d => d.ok K, fn.map fun d => He5.fnA K (d.at_ K), ts.map fun t => He.dicW K (t.1 K))
def valK (fn : List He5.DefA) (ts : List He.Tab) (w : World) : AlK := (true, fn.map He5.DefA.val, ts.map fun t => some (He.keysIn w.params t.2))
def SaysK (fa : List (List FaK)) (fn : List He5.DefA) (ts : List He.Tab) (w : World) (K : Frg) : Prop := obsK fa fn ts K = valK fn ts w
/-- what the names reach in n steps; what has been met is a number's bits -/
def grow1 : List Addr → Nat → List Addr → Nat × List Addr
  | [], m, nw => (m, nw)
  | a :: r, m, nw => match Nat.beq (Nat.land (Nat.shiftRight m a) 1) 1 with
    | true => grow1 r m nw
    | false => HandSHeadRun.frNat (Nat.lor m (Nat.shiftLeft 1 a)) fun m' => grow1 r m' (a :: nw)
def refsG (g : Addr → Option Obj) (a : Addr) : List Addr := match g a with
  | some o => He.refsD o
  | none => []
def asB (g : Addr → Option Obj) : Nat → Nat → List Addr → List Addr
  | 0, _, fr => fr
  | n + 1, m, fr => match grow1 (fr.flatMap (refsG g)) m [] with
    | (m', nw) => fr ++ asB g n m' nw
def asK (g : Addr → Option Obj) (n : Nat) : List Addr := asB g n (Nat.shiftLeft 1 mainGlobals) [mainGlobals]
def obsKG (n : Nat) (fa : List (List FaK)) (fn : List He5.DefA) (ts : List He.Tab) (g : Addr → Option Obj) : AlK := obsK fa fn ts (He.frG g (asK g n))
def hookK (n : Nat) (fa : List (List FaK)) (fn : List He5.DefA) (ts : List He.Tab) : PySem.W.Hook where
  α := AlK
  obs := fun s => obsKG n fa fn ts s.heap.get?
  val := fun w => valK fn ts w
  says := fun w h => ∃ K : Frg, K.In h ∧ SaysK fa fn ts w K
  of := fun _ _ e => ⟨_, He.frG_in, e⟩
  keeps := fun _ _ _ ⟨K, hK, c⟩ k => ⟨K, PySem.W.Frag.In.keeps hK k, c⟩
theorem obsKG_eq {n : Nat} {fa : List (List FaK)} {fn : List He5.DefA} {ts : List He.Tab} {g : Addr → Option Obj} {s : Shared} (h : ∀ a, g a = s.heap.get? a) : obsKG n fa fn ts g = (hookK n fa fn ts).obs s := by
  have e : g = s.heap.get? := funext h
  rw [e] <;> rfl
/-- what is looked at, off the tree -/
def obG (n : Nat) (fa : List (List FaK)) (fn : List He5.DefA) (ts : List He.Tab) (s : PySem.W.SharedT) : AlK := obsKG n fa fn ts (HandSHeadRun.getT s)
theorem obsK_app {fa fa2 : List (List FaK)} {fn fn2 : List He5.DefA} {ts ts2 : List He.Tab} {K : Frg} {w : World} (a : obsK fa fn ts K = valK fn ts w) (b : obsK fa2 fn2 ts2 K = valK fn2 ts2 w) : obsK (fa ++ fa2) (fn ++ fn2) (ts ++ ts2) K = valK (fn ++ fn2) (ts ++ ts2) w := by
  obtain ⟨a1, a2⟩ := Prod.mk.inj a
  obtain ⟨a2, a3⟩ := Prod.mk.inj a2
  obtain ⟨b1, b2⟩ := Prod.mk.inj b
  obtain ⟨b2, b3⟩ := Prod.mk.inj b2
  obtain ⟨a4, a5⟩ := Bool.and_eq_true_iff.mp a1
  obtain ⟨b4, b5⟩ := Bool.and_eq_true_iff.mp b1
  unfold obsK valK
  rw [List.all_append, List.all_append, List.map_append, List.map_append, List.map_append, List.map_append, a2, a3, b2, b3, a4, a5, b4, b5]
  rfl
/-- two runs that look at different things are one -/
theorem run_app {r : PySem.W.OpenRow} {q : Program} {n M : Nat} {loose : List PySem.Str} {w : World} {fa fa2 : List (List FaK)} {fn fn2 : List He5.DefA} {ts ts2 : List He.Tab} (a : HandSHeadRun.RunEq r q (hookK n fa fn ts) (obG n fa fn ts) M loose w) (b : HandSHeadRun.RunEq r q (hookK n fa2 fn2 ts2) (obG n fa2 fn2 ts2) M loose w) : HandSHeadRun.RunEq r q (hookK n (fa ++ fa2) (fn ++ fn2) (ts ++ ts2)) (obG n (fa ++ fa2) (fn ++ fn2) (ts ++ ts2)) M loose w := by
  intro os
  have x := a os
  have y := b os
  cases e : HandSHeadRun.endF (HandSHeadRun.stepQ (HandSHeadRun.denQ HandSHeadRun.tabQ) r.prog w) M r.prog w os with
  | none =>
    rw [e] at x
    cases x
  | some s =>
    rw [e] at x y
    obtain ⟨x1, x2⟩ := Prod.mk.inj (Option.some.inj x)
    obtain ⟨x2, x3⟩ := Prod.mk.inj x2
    obtain ⟨_, y2⟩ := Prod.mk.inj (Option.some.inj y)
    obtain ⟨_, y3⟩ := Prod.mk.inj y2
    show some (_, _, _) = _
    rw [x1, x2]
    exact congrArg (fun z => some (true, _, z)) (obsK_app (w := w) x3 y3)
section
variable {fa : List (List FaK)} {fn : List He5.DefA} {ts : List He.Tab} {w : World} {K : Frg}
theorem SaysK.fact (c : SaysK fa fn ts w K) (i j : Nat) {l : List FaK} {f : FaK} (hl : fa[i]? = some l := by rfl) (h : l[j]? = some f := by rfl) : f K = true := by
  have c1 := (He.ba (show ((fa.all fun l => l.all fun f => f K) && fn.all fun d => d.ok K) = true from congrArg (fun z : AlK => z.1) c)).1
  have c2 := List.all_eq_true.mp c1 l (List.mem_of_getElem? hl)
  exact List.all_eq_true.mp c2 f (List.mem_of_getElem? h)
theorem SaysK.def_ (c : SaysK fa fn ts w K) (i : Nat) {d : He5.DefA} (h : fn[i]? = some d := by rfl) : ∃ fd, FunD K d.name d.qual d.params d.body d.scope (d.dvs K) (d.kws K) (d.at_ K) fd := by
  have c2 := (He.ba (show ((fa.all fun l => l.all fun f => f K) && fn.all fun d => d.ok K) = true from congrArg (fun z : AlK => z.1) c)).2
  have e : fn.map (fun d => He5.fnA K (d.at_ K)) = fn.map He5.DefA.val := congrArg (fun z : AlK => z.2.1) c
  have e2 : (fn.map fun d => He5.fnA K (d.at_ K))[i]? = (fn.map He5.DefA.val)[i]? := by rw [e]
  rw [List.getElem?_map, List.getElem?_map, h] at e2
  exact He5.DefA.funD (Option.some.inj e2) (List.all_eq_true.mp c2 d (List.mem_of_getElem? h))
theorem SaysK.tab (c : SaysK fa fn ts w K) (i : Nat) {t : He.Tab} (h : ts[i]? = some t := by rfl) : He.dicW K (t.1 K) = some (He.keysIn w.params t.2) := by
  have e : ts.map (fun t => He.dicW K (t.1 K)) = ts.map fun t => some (He.keysIn w.params t.2) := congrArg (fun z : AlK => z.2.2) c
  have e2 : (ts.map fun t => He.dicW K (t.1 K))[i]? = (ts.map fun t => some (He.keysIn w.params t.2))[i]? := by rw [e]
  rw [List.getElem?_map, List.getElem?_map, h] at e2
  exact Option.some.inj e2
end
/-! ### facts -/
/-- a def's keyword default, if it is an object -/
def kdA (f : Frg → Addr) (x : Str) (K : Frg) : Addr := match K.lookup (f K) with
  | some ⟨_, _, .func fd, _⟩ => (match fd.kwdefaults with
    | .ref D => (match PySem.W.nsIn K D x with
      | some (some (.ref a)) => a
      | _ => 0)
    | _ => 0)
  | _ => 0
/-- a property's def -/
def prA (C m : Str) (K : Frg) : Addr := match PySem.W.recIn K (He.ma K (He.ga K C) m) "property" with
  | some (.ref f :: _) => f
  | _ => 0
def prpB (C m : Str) : FaK := fun K => He.eqO (PySem.W.findIn K (.ref (He.ga K C)) m) (some (some (.ref (He.ma K (He.ga K C) m)))) &&
  (He.eqO (PySem.W.specialIn K (.ref (He.ma K (He.ga K C) m)) "__get__") (some (some (.builtin "property.__get__"))) &&
  (decide (PySem.W.takesIn K (.ref (He.ma K (He.ga K C) m)) = some true) && (match PySem.W.recIn K (He.ma K (He.ga K C) m) "property" with
    | some (.ref _ :: _) => true
    | _ => false)))
theorem prpB_ok {K : Frg} {C m : Str} (h : prpB C m K = true) : PySem.W.findIn K (.ref (He.ga K C)) m = some (some (.ref (He.ma K (He.ga K C) m))) ∧ PySem.W.specialIn K (.ref (He.ma K (He.ga K C) m)) "__get__" = some (some (.builtin "property.__get__")) ∧
    PySem.W.takesIn K (.ref (He.ma K (He.ga K C) m)) = some true ∧ ∃ rs, PySem.W.recIn K (He.ma K (He.ga K C) m) "property" = some (.ref (prA C m K) :: rs) := by
  obtain ⟨h1, h⟩ := He.ba h
  obtain ⟨h2, h⟩ := He.ba h
  obtain ⟨h3, h4⟩ := He.ba h
  refine ⟨He.eqO_ok h1, He.eqO_ok h2, of_decide_eq_true h3, ?_⟩
  unfold prA
  split at h4
  · rename_i f r e
    exact ⟨r, by rw [e]⟩
  · cases h4
def isiB (C : Str) : FaK := fun K => He.eqO (PySem.W.findIn K (.ref (He.ga K C)) "__class__") (some (some (.builtin "object.__class__"))) && (He.eqO (PySem.W.specialIn K (.builtin "object.__class__") "__get__") (some (some (.builtin "getset_descriptor.__get__"))) &&
  (decide (PySem.W.takesIn K (.builtin "object.__class__") = some true) && decide (PySem.W.mroIn K (He.ga K C) (.type "object") = some true)))
theorem isiB_ok {K : Frg} {C : Str} (h : isiB C K = true) : IsiC K (He.ga K C) := by
  obtain ⟨h1, h⟩ := He.ba h
  obtain ⟨h2, h⟩ := He.ba h
  obtain ⟨h3, h4⟩ := He.ba h
  exact ⟨He.eqO_ok h1, He.eqO_ok h2, of_decide_eq_true h3, of_decide_eq_true h4⟩
def excCB (C : Str) : FaK := fun K => He.eqO (PySem.W.findIn K (.ref (He.ga K C)) "__getattribute__") (some (some (.builtin "BaseException.__getattribute__"))) && (He.eqO (PySem.W.findIn K (.ref (He.ga K C)) "__getattr__") (some none) &&
  (decide (PySem.W.subIn K (.ref (He.ga K C)) (.type "BaseException") = some true) && (PySem.W.hasDictIn K (He.ga K C) && isiB C K)))
theorem excCB_ok {K : Frg} {C : Str} (h : excCB C K = true) : ExcC K (He.ga K C) := by
  obtain ⟨h1, h⟩ := He.ba h
  obtain ⟨h2, h⟩ := He.ba h
  obtain ⟨h3, h⟩ := He.ba h
  obtain ⟨h4, h⟩ := He.ba h
  obtain ⟨h5, h⟩ := He.ba h
  obtain ⟨h6, h⟩ := He.ba h
  obtain ⟨h7, h8⟩ := He.ba h
  exact ⟨He.eqO_ok h1, He.eqO_ok h2, of_decide_eq_true h3, h4, He.eqO_ok h5, He.eqO_ok h6, of_decide_eq_true h7, of_decide_eq_true h8⟩
def kitFB (D : Str) (c : Frg → Value) (b : Bool) : FaK := fun K => decide (PySem.W.kitOne K (.ref (He.ga K D)) (c K) = some b)
theorem kitFB_ok {K : Frg} {D : Str} {c : Frg → Value} {b : Bool} (h : kitFB D c b K = true) : PySem.W.kitOne K (.ref (He.ga K D)) (c K) = some b := of_decide_eq_true h
/-- a tuple of these -/
def tupK (a : Frg → Addr) (vs : List He.Dv) : FaK := fun K => match K.lookup (a K) with
  | some ⟨.type c, none, .seq its _, _⟩ => decide (c = "tuple") && (decide (its.size ≤ sizeLine) && He.relAll (vs.map (He.Dv.v K)) its.toList)
  | _ => false
theorem tupK_at {K : Frg} {a : Frg → Addr} {vs : List He.Dv} (h : tupK a vs K = true) : ∃ its n sl, K.lookup (a K) = some ⟨.type "tuple", none, .seq its n, sl⟩ ∧ its.size ≤ sizeLine ∧ Vals (vs.map (He.Dv.v K)) its.toList := by
  unfold tupK at h
  cases q : K.lookup (a K) with
  | none =>
    rw [q] at h
    cases h
  | some o =>
    obtain ⟨oc, od, dt, osl⟩ := o
    rw [q] at h
    cases oc with
    | type c =>
      cases od with
      | none =>
        cases dt with
        | seq its n =>
          obtain ⟨h1, h2⟩ := He.ba (show (decide (c = "tuple") && (decide (its.size ≤ sizeLine) && He.relAll (vs.map (He.Dv.v K)) its.toList)) = true from h)
          obtain ⟨h3, h4⟩ := He.ba h2
          refine ⟨its, n, osl, ?_, of_decide_eq_true h3, He.relAll_ok h4⟩
          rw [of_decide_eq_true h1]
        | _ => cases h
      | some d => cases dt <;> cases h
    | _ => cases od <;> cases dt <;> cases h
theorem tupK_ok {K : Frg} {a : Frg → Addr} {vs : List He.Dv} (h : tupK a vs K = true) (H : Hp) : SqT K H (a K) (vs.map (He.Dv.v K)) := by
  obtain ⟨its, n, sl, e, h1, h2⟩ := tupK_at h
  exact .inr ⟨_, its, n, e, rfl, rfl, h1, h2⟩
theorem tupK_cls {K : Frg} {a : Frg → Addr} {vs : List He.Dv} (h : tupK a vs K = true) : ∃ o, K.lookup (a K) = some o ∧ o.cls = .type "tuple" ∧ o.dict = none := by
  obtain ⟨its, n, sl, e, h1, h2⟩ := tupK_at h
  exact ⟨_, e, rfl, rfl⟩
/-- the i-th item of a tuple -/
def itK (a : Frg → Addr) (i : Nat) (K : Frg) : Addr := match K.lookup (a K) with
  | some ⟨_, _, .seq its _, _⟩ => (match its.toList[i]? with
    | some (.ref b) => b
    | _ => 0)
  | _ => 0
/-- the value of a key of text -/
def ikK (a : Frg → Addr) (k : Str) (K : Frg) : Addr := match PySem.W.nsIn K (a K) k with
  | some (some (.ref b)) => b
  | _ => 0
/-! ### dicts of ints -/
def eiB : List (Int × Int) → List DictEntry → Bool
  | [], [] => true
  | (k, v) :: r, ⟨h, .int k2 _, .int v2 _⟩ :: es => decide (h = hashInt k) && (decide (k2 = k) && (decide (v2 = v) && eiB r es))
  | _, _ => false
theorem eiB_ok : ∀ {kvs : List (Int × Int)} {es : List DictEntry}, eiB kvs es = true → EI kvs es
  | [], [], _ => .nil
  | [], _ :: _, h => by cases h
  | _ :: _, [], h => by cases h
  | (k, v) :: r, ⟨h0, kk, vv⟩ :: es, h => by
    cases kk with
    | int k2 t =>
      cases vv with
      | int v2 u =>
        obtain ⟨h1, h⟩ := He.ba (show (decide (h0 = hashInt k) && (decide (k2 = k) && (decide (v2 = v) && eiB r es))) = true from h)
        obtain ⟨h2, h⟩ := He.ba h
        obtain ⟨h3, h⟩ := He.ba h
        rw [of_decide_eq_true h1, of_decide_eq_true h2, of_decide_eq_true h3]
        exact .cons (eiB_ok h)
      | _ => cases h
    | _ => cases vv <;> cases h
def kdiB (a : Frg → Addr) (kvs : List (Int × Int)) : FaK := fun K => match K.lookup (a K) with
  | some ⟨.type c, none, .dict es _, sl⟩ => decide (c = "dict") && (sl.isEmpty && (!(a K == sysModules) && eiB kvs es.toList))
  | _ => false
theorem kdiB_ok {K : Frg} {a : Frg → Addr} {kvs : List (Int × Int)} (h : kdiB a kvs K = true) : KDI K (a K) kvs := by
  unfold kdiB at h
  cases q : K.lookup (a K) with
  | none =>
    rw [q] at h
    cases h
  | some o =>
    obtain ⟨oc, od, dt, osl⟩ := o
    rw [q] at h
    cases oc with
    | type c =>
      cases od with
      | none =>
        cases dt with
        | dict es n =>
          obtain ⟨h1, h2⟩ := He.ba (show (decide (c = "dict") && (osl.isEmpty && (!(a K == sysModules) && eiB kvs es.toList))) = true from h)
          obtain ⟨h3, h4⟩ := He.ba h2
          obtain ⟨h5, h6⟩ := He.ba h4
          refine ⟨es, n, ?_, ?_, eiB_ok h6⟩
          · rw [q, of_decide_eq_true h1, Array.isEmpty_iff.mp h3]
          · cases y : a K == sysModules with
            | false => rfl
            | true =>
              rw [y] at h5
              cases h5
        | _ => cases h
      | some b => cases dt <;> cases h
    | _ => cases od <;> cases dt <;> cases h
/-! ### dicts with text keys: the values -/
def valsL (K : Frg) (vs : List He.Dv) (es : List DictEntry) : Bool := He.relAll (vs.map (He.Dv.v K)) (es.map (·.val))
def dvB (a : Frg → Addr) (vs : List He.Dv) : FaK := fun K => match K.lookup (a K) with
  | some ⟨_, _, .dict es _, _⟩ => valsL K vs es.toList
  | _ => false
theorem dic_of {K : Frg} {P : Params} {a : Frg → Addr} {ks : List Str} {vs : List He.Dv} (h : He.dicW K (a K) = some (He.keysIn P ks)) (hv : dvB a vs K = true) :
    ∃ es n, K.lookup (a K) = some ⟨.type "dict", none, .dict es n, #[]⟩ ∧ es.toList.map He.keyOf = He.keysIn P ks ∧ Vals (vs.map (He.Dv.v K)) (es.toList.map (·.val)) := by
  unfold He.dicW at h
  unfold dvB at hv
  cases q : K.lookup (a K) with
  | none =>
    rw [q] at h
    cases h
  | some o =>
    obtain ⟨oc, od, dt, osl⟩ := o
    rw [q] at h hv
    cases oc with
    | type c =>
      cases od with
      | none =>
        cases dt with
        | dict es n =>
          have h1 : (match decide (c = "dict") && (osl.isEmpty && !(a K == sysModules)) with
            | true => some (es.toList.map He.keyOf)
            | false => none) = some (He.keysIn P ks) := h
          cases z : decide (c = "dict") && (osl.isEmpty && !(a K == sysModules)) with
          | false =>
            rw [z] at h1
            cases h1
          | true =>
            rw [z] at h1
            obtain ⟨z1, z2⟩ := He.ba z
            obtain ⟨z3, z4⟩ := He.ba z2
            refine ⟨es, n, ?_, Option.some.inj h1, He.relAll_ok hv⟩
            rw [of_decide_eq_true z1, Array.isEmpty_iff.mp z3]
        | _ => cases h
      | some b => cases dt <;> cases h
    | _ => cases od <;> cases dt <;> cases h
theorem fnD_ex {K : Frg} {x q : Str} {args : Arguments} {body : List Stmt} {sc : Scope} {kws : List (Str × V)} {f : Addr} {fd : FuncData} (F : FunD K x q args body sc [] kws f fd) : ∃ (kV doc : Value) (pm : Value) (an : Option Addr) (cdv ct : Value), fd = PySem.W.fnOf x q args body sc .none kV doc pm an cdv ct := by
  obtain ⟨oc, od, dV, kV, doc, pm, an, cdv, ct, osl, e, l, c, hd, _⟩ := F.ex
  rcases hd with ⟨_, e2⟩ | ⟨e2, _⟩
  · subst e2
    exact ⟨_, _, _, _, _, _, e⟩
  · exact absurd rfl e2
/-! ### positional defaults -/
theorem fnD_exP {K : PySem.W.Frag} {x q : Str} {args : Arguments} {body : List Stmt} {sc : Scope} {dvs : List V} {kws : List (Str × V)} {f : Addr} {fd : FuncData} (F : FunD K x q args body sc dvs kws f fd) : ∃ (dV kV doc : Value) (pm : Value) (an : Option Addr) (cdv ct : Value), fd = PySem.W.fnOf x q args body sc dV kV doc pm an cdv ct := by
  obtain ⟨oc, od, dV, kV, doc, pm, an, cdv, ct, osl, e, l, c, hd, _⟩ := F.ex
  exact ⟨_, _, _, _, _, _, _, e⟩
theorem Bnd.dfl {K : PySem.W.Frag} {x qual : Str} {params : Arguments} {body : List Stmt} {scope : Scope} {dvs : List V} {kws : List (Str × V)} {f : Addr} {fd : FuncData} {ps : List Str} (F : FunD K x qual params body scope dvs kws f fd) (n j : Nat) (hd : dvs ≠ [])
    (h : ∀ (T : Addr) (kV doc pm : Value) (an : Option Addr) (cdv ct : Value) (us its : List Value), us.length = n → its.length = dvs.length →
      ∃ k, bindArgs (PySem.W.fnOf x qual params body scope (.ref T) kV doc pm an cdv ct) ⟨us, []⟩ = seqItems? (.ref T) >>= k ∧ k (some its.toArray) = pure (ps.zip (us ++ its.drop j))) : Bnd K fd ps n [] (fun vs _ => vs ++ dvs.drop j) := by
  obtain ⟨oc, od, dV, kV, doc, pm, an, cdv, ct, osl, rfl, lk, hcd, hD, hK⟩ := F.ex
  rcases hD with ⟨e, _⟩ | ⟨_, T, o, its, m, rfl, lT, oT, rT⟩
  · exact absurd e hd
  · refine ⟨fun s us ws vs zs X hv hz rv rz => ⟨us ++ its.drop j, ?_, rv.append (rT.drop j)⟩⟩
    have hw : ws = [] := by
      have := rz.length
      rw [hz] at this
      exact List.eq_nil_of_length_eq_zero this.symm
    subst hw
    obtain ⟨k, e1, e2⟩ := h T kV doc pm an cdv ct us its (rv.length.symm.trans hv) rT.length.symm
    refine BindsTo.of_looks fun M => ?_
    show PySem.W.Looks M s.heap (bindArgs _ ⟨us, []⟩) _
    rw [e1]
    exact looks_items X lT oT (.of_pure e2)
/-- every argument is given though the def has defaults -/
theorem Bnd.dflA {K : PySem.W.Frag} {x qual : Str} {params : Arguments} {body : List Stmt} {scope : Scope} {dvs : List V} {kws : List (Str × V)} {f : Addr} {fd : FuncData} {ps : List Str} (F : FunD K x qual params body scope dvs kws f fd) (n : Nat) (hd : dvs ≠ [])
    (h : ∀ (T : Addr) (kV doc pm : Value) (an : Option Addr) (cdv ct : Value) (us its : List Value), us.length = n → its.length = dvs.length →
      ∃ k, bindArgs (PySem.W.fnOf x qual params body scope (.ref T) kV doc pm an cdv ct) ⟨us, []⟩ = seqItems? (.ref T) >>= k ∧ k (some its.toArray) = pure (ps.zip us)) : Bnd K fd ps n [] (fun vs _ => vs) := by
  have b := Bnd.dfl (ps := ps) F n dvs.length hd fun T kV doc pm an cdv ct us its h1 h2 => by
    obtain ⟨k, e1, e2⟩ := h T kV doc pm an cdv ct us its h1 h2
    refine ⟨k, e1, ?_⟩
    rw [e2, ← h2, List.drop_length, List.append_nil]
  have e : (fun (vs : List V) (_ : List V) => vs ++ dvs.drop dvs.length) = fun vs _ => vs := by
    funext vs _
    rw [List.drop_length, List.append_nil]
  rw [← e]
  exact b
/-! ### the law -/
theorem walkK {l : PySem.W.OpenLaw} {n k : Nat} {q : Program} {loose : List Str} {XP : (Str → Option Value) → Heap → Prop} {YP : World → Heap → Prop} {d : DefRec} {x : Str} (hn : l.most = some n) (hn2 : n ≤ sizeLine) (hdf : d.params.defaults = []) (room : Room k callerA)
    (F : ∀ (w : World) (mg : Str → Option Value) (fa : Addr) (h : Heap), YP w h → h.Ns mainGlobals mg → mg d.name = some (.ref fa) →
      ∃ (K : Frg) (fd : FuncData), K.In h ∧ (∀ (s : Shared) (u : Value), BindsTo s fd ⟨[u], []⟩ [(x, u)]) ∧ ∀ base : Heap, K.In base → base.Ns mainGlobals mg → FnG l.prog w K mg base CX0 k fa fd [x] (fun vs H Q _ => ∃ (a : Addr) (ns : List Int), vs = [.ref a] ∧ SqL K H a (ns.map V.int) ∧ ns.length ≤ n ∧ ∀ H', Q (.bl true) H')) :
    PySem.W.WalkO q loose XP YP l.row.toRowW d [] (fun f vs => PySem.call f vs) := by
  refine Att.attach_call hn hdf ?_
  intro w s₀ s₁ mg mb fa o pm cd doc a vs ns G Y _ _ _ hmg script whole short gens
  obtain ⟨K, fd, kin, bind, prom⟩ := F w mg fa _ Y G.T.g hmg
  obtain ⟨H, base, seq, kinB, nsB, env, fin⟩ := law_start (P := l.prog) (w := w) kin G.T.g G.T.b G.T.builtins G.T.nolimit gens script whole (Nat.le_trans short hn2)
  refine codeAny_mono ((prom base kinB nsB).run callerA [] s₁ H ⟨[.ref a], []⟩ [.ref a] [.ref a] (fun v _ => v = .bl true) (fun _ _ _ => False) ⟨room, rfl⟩ env (bind s₁ (.ref a)) (.cons rfl .nil) ⟨a, ns, rfl, seq, short, fun _ => rfl⟩) ?_
  intro r s2 out
  cases r with
  | error e => exact out.elim
  | ok flow =>
    cases flow with
    | ret u =>
      obtain ⟨⟨v, rv, z⟩, h1, h2, h3⟩ := fin (fun v => v = .bl true) u s2 out
      subst z
      obtain rfl : u = Value.bool true := rv
      exact ⟨rfl, h1, h2, h3⟩
    | next => exact out.elim
    | brk => exact out.elim
    | cont => exact out.elim
end Vx
namespace Vx
open PySem PySem.Spec PyProof.Rows L2
/-! ### a classmethod -/
def clA (C m : Str) (K : Frg) : Addr := He5.wf K (He.ga K C) "classmethod" m
def clB (C m : Str) : FaK := fun K => PySem.W.readsIn K (He.ga K C) (.type "type") && (He5.wrapB K (He.ga K C) "classmethod" "classmethod.__get__" m && PySem.W.fnIn K (He5.wf K (He.ga K C) "classmethod" m))
theorem clB_ok {K : Frg} {C m : Str} (h : clB C m K = true) : ClX.CRead K (He.ga K C) (.type "type") ∧ ClX.CMet K (He.ga K C) (.type "type") m (He.ma K (He.ga K C) m) (clA C m K) := by
  obtain ⟨h1, h2⟩ := He.ba h
  obtain ⟨h3, h4⟩ := He.ba h2
  obtain ⟨k1, k2⟩ := He5.wrapB_ok h3
  refine ⟨⟨h1, ?_⟩, ⟨k1, k2, h4⟩⟩
  have h := h1
  unfold PySem.W.readsIn at h
  obtain ⟨h, _⟩ := He.ba h
  obtain ⟨h, _⟩ := He.ba h
  obtain ⟨h, h3⟩ := He.ba h
  obtain ⟨_, h2⟩ := He.ba h
  unfold PySem.W.specialIn
  rw [beq_iff_eq.mp h2, Option.bind_some]
  exact beq_iff_eq.mp h3
end Vx
namespace Vx
open PySem PySem.Spec PyProof.Rows L2
/-! ### the same looked at with the interpreter's own statics -/
def obsKC (n : Nat) (fa : List (List FaK)) (fn : List He5.DefA) (ts : List He.Tab) (g : Addr → Option Obj) : AlK := obsK fa fn ts (He.frG g (asK g n ++ [cStatics]))
def hookKC (n : Nat) (fa : List (List FaK)) (fn : List He5.DefA) (ts : List He.Tab) : PySem.W.Hook where
  α := AlK
  obs := fun s => obsKC n fa fn ts s.heap.get?
  val := fun w => valK fn ts w
  says := fun w h => ∃ K : Frg, K.In h ∧ SaysK fa fn ts w K
  of := fun _ _ e => ⟨_, He.frG_in, e⟩
  keeps := fun _ _ _ ⟨K, hK, c⟩ k => ⟨K, PySem.W.Frag.In.keeps hK k, c⟩
theorem obsKC_eq {n : Nat} {fa : List (List FaK)} {fn : List He5.DefA} {ts : List He.Tab} {g : Addr → Option Obj} {s : Shared} (h : ∀ a, g a = s.heap.get? a) : obsKC n fa fn ts g = (hookKC n fa fn ts).obs s := by
  have e : g = s.heap.get? := funext h
  rw [e] <;> rfl
end Vx
namespace Vx
open PySem PySem.Spec PyProof.Rows L2
theorem es_of {P : Params} : ∀ {kvs : List (Str × Int)} {es : List DictEntry}, es.map He.keyOf = He.keysIn P (kvs.map (·.1)) → Vals (kvs.map fun q => V.int q.2) (es.map (·.val)) → ES P kvs es
  | [], [], _, _ => .nil
  | [], _ :: _, h, _ => by cases h
  | _ :: _, [], h, _ => by cases h
  | (k, v) :: r, e :: es, h, hv => by
    have h1 : He.keyOf e :: es.map He.keyOf = some (k, PyData.keyHash P k) :: He.keysIn P (r.map (·.1)) := h
    injection h1 with h2 h3
    obtain ⟨hh, kk, vv⟩ := e
    cases hv with
    | cons r1 r2 =>
      obtain ⟨u, e1⟩ := r1
      have e1 : vv = .int v u := e1
      subst e1
      unfold He.keyOf at h2
      cases kk with
      | str x t =>
        have h4 := Option.some.inj h2
        obtain ⟨h5, h6⟩ := Prod.mk.inj h4
        subst h5
        exact .cons h6 (es_of h3 r2)
      | _ => cases h2
theorem kds_of {K : Frg} {w : World} {a : Frg → Addr} {kvs : List (Str × Int)} (h : He.dicW K (a K) = some (He.keysIn w.params (kvs.map (·.1)))) (hv : dvB a (kvs.map fun q => .int q.2) K = true) : KDS K w (a K) kvs := by
  obtain ⟨es, n, e, k, v⟩ := dic_of h hv
  refine ⟨es, n, e, es_of k ?_⟩
  rw [List.map_map] at v
  exact v
def lowK (a : Frg → Addr) : FaK := fun K => !(a K == sysModules)
theorem lowK_ok {K : Frg} {a : Frg → Addr} (h : lowK a K = true) : (a K == sysModules) = false := by
  unfold lowK at h
  cases e : (a K == sysModules) with
  | false => rfl
  | true => rw [e] at h; cases h
end Vx
namespace Vx
open PySem PySem.Spec PyProof.Rows L2
theorem ea_of {P : Params} : ∀ {kvs : List (Str × Addr)} {es : List DictEntry}, es.map He.keyOf = He.keysIn P (kvs.map (·.1)) → Vals (kvs.map fun q => V.ref q.2) (es.map (·.val)) → EA P kvs es
  | [], [], _, _ => .nil
  | [], _ :: _, h, _ => by cases h
  | _ :: _, [], h, _ => by cases h
  | (k, v) :: r, e :: es, h, hv => by
    have h1 : He.keyOf e :: es.map He.keyOf = some (k, PyData.keyHash P k) :: He.keysIn P (r.map (·.1)) := h
    injection h1 with h2 h3
    obtain ⟨hh, kk, vv⟩ := e
    cases hv with
    | cons r1 r2 =>
      have e1 : vv = .ref v := r1
      subst e1
      unfold He.keyOf at h2
      cases kk with
      | str x t =>
        have h4 := Option.some.inj h2
        obtain ⟨h5, h6⟩ := Prod.mk.inj h4
        subst h5
        exact .cons h6 (ea_of h3 r2)
      | _ => cases h2
theorem kda_of {K : Frg} {w : World} {a : Frg → Addr} {kvs : List (Str × (Frg → Addr))} (h : He.dicW K (a K) = some (He.keysIn w.params (kvs.map (·.1)))) (hv : dvB a (kvs.map fun q => .adr q.2) K = true) : KDA K w (a K) (kvs.map fun q => (q.1, q.2 K)) := by
  obtain ⟨es, n, e, k, v⟩ := dic_of h hv
  refine ⟨es, n, e, ea_of (k.trans ?_) ?_⟩
  · rw [List.map_map]
    rfl
  · rw [List.map_map] at v ⊢
    exact v
end Vx
namespace Vx
open PySem PySem.Spec PyProof.Rows L2
structure St_Format where
  width : Int
  height : Int
  depth : Int
  chroma : Int
deriving DecidableEq
def F__law_draws_b1 (free_15 : Bool) (found_33 : (List Int)) (rest_34 : Int) (state_35 : Int) (it38 : Int) : Rx ((List Int) × Int × Int) :=
  (if free_15 = true then (if 1 < rest_34 then grd (0 < (it38 : Int)) <| grd ((found_33).length ≤ 1000000) <| bnd ((found_33) ++ [(rest_34 % it38)]) fun y49 => grd (0 < (it38 : Int) ∧ (it38 : Int) < 2 ^ 128) <| bnd ((rest_34 / it38)) fun rest_51 => .ok ((y49), (rest_51), (state_35)) else bnd ((((state_35 * 48271) + 11) % 2147483647)) fun state_52 => bnd ((((state_52 * 69621) + 7) % 2147483647)) fun state_53 => grd (0 < (it38 : Int)) <| grd ((found_33).length ≤ 1000000) <| bnd ((found_33) ++ [((state_53 / 13) % it38)]) fun y62 => .ok ((y62), (rest_34), (state_53))) else bnd ((((state_35 * 48271) + 11) % 2147483647)) fun state_63 => bnd ((((state_63 * 69621) + 7) % 2147483647)) fun state_64 => grd (0 < (it38 : Int)) <| grd ((found_33).length ≤ 1000000) <| bnd ((found_33) ++ [((state_64 / 13) % it38)]) fun y73 => .ok ((y73), (rest_34), (state_64)))

def F__law_draws_r1 (found_79 : (List Int)) (rest_80 : Int) (state_81 : Int) : Rx (List Int) :=
  .ok (found_79)

def F__law_draws (cell' : Int) (limits' : (List Int)) : Rx (List Int) :=
  bnd ((if cell' < 0 then -cell' else cell')) fun rest_10 => bnd ((rest_10 % 2147483647)) fun state_11 => bnd ((decide (cell' < 0) || decide (((10 : Int) ^ Int.toNat 18) ≤ cell'))) fun free_14 => Rx.bind (forS (limits') ((([] : (List Int))), (rest_10), (state_11)) (fun s x => F__law_draws_b1 (free_14) (s.1) (s.2.1) (s.2.2) x)) fun s => F__law_draws_r1  (s.1) (s.2.1) (s.2.2)

def F_Format___init__ (width' : Int) (height' : Int) (depth' : Int) (chroma' : Int) : Rx St_Format :=
  (if 1 ≤ width' then (if width' ≤ 256 then (if 1 ≤ height' then (if height' ≤ 256 then (if 8 ≤ depth' then (if depth' ≤ 12 then (if 0 ≤ chroma' then (if chroma' ≤ 2 then .ok (⟨width', height', depth', chroma'⟩ : St_Format) else .er 1) else .er 1) else .er 1) else .er 1) else .er 1) else .er 1) else .er 1) else .er 1)

def F__law_cell (script' : (List Int)) (k' : Int) : Rx Int :=
  (if k' < (((script') : (List Int)).length : Int) then grd (-((script' : (List Int)).length : Int) ≤ k' ∧ k' < ((script' : (List Int)).length : Int)) <| .ok ((itD (script') (k'))) else .ok (0))

def F__law_between (first' : Int) (second' : Int) (low' : Int) (high' : Int) : Rx Int :=
  (if (first' : Int) = 0 then .ok (low') else (if (first' : Int) = 1 then .ok (high') else (if (first' : Int) = 2 then .ok ((if high' < (low' + 1) then high' else (low' + 1))) else grd (0 < (((high' - low') + 1) : Int)) <| .ok ((low' + (second' % ((high' - low') + 1)))))))

def F_Format_text (self' : St_Format) : Rx Str :=
  grd ((self'.width : Int).natAbs.log2 < 1920) <| grd (((Str.empty ++ (strI (self'.width))) : Str).length ≤ 16777216) <| grd ((((Str.empty ++ (strI (self'.width))) ++ ("x" : Str)) : Str).length ≤ 16777216) <| grd ((self'.height : Int).natAbs.log2 < 1920) <| grd (((((Str.empty ++ (strI (self'.width))) ++ ("x" : Str)) ++ (strI (self'.height))) : Str).length ≤ 16777216) <| grd ((((((Str.empty ++ (strI (self'.width))) ++ ("x" : Str)) ++ (strI (self'.height))) ++ (":" : Str)) : Str).length ≤ 16777216) <| grd ((self'.depth : Int).natAbs.log2 < 1920) <| grd (((((((Str.empty ++ (strI (self'.width))) ++ ("x" : Str)) ++ (strI (self'.height))) ++ (":" : Str)) ++ (strI (self'.depth))) : Str).length ≤ 16777216) <| grd ((((((((Str.empty ++ (strI (self'.width))) ++ ("x" : Str)) ++ (strI (self'.height))) ++ (":" : Str)) ++ (strI (self'.depth))) ++ (":" : Str)) : Str).length ≤ 16777216) <| grd ((self'.chroma : Int).natAbs.log2 < 1920) <| grd (((((((((Str.empty ++ (strI (self'.width))) ++ ("x" : Str)) ++ (strI (self'.height))) ++ (":" : Str)) ++ (strI (self'.depth))) ++ (":" : Str)) ++ (strI (self'.chroma))) : Str).length ≤ 16777216) <| .ok ((((((((Str.empty ++ (strI (self'.width))) ++ ("x" : Str)) ++ (strI (self'.height))) ++ (":" : Str)) ++ (strI (self'.depth))) ++ (":" : Str)) ++ (strI (self'.chroma))))

def F__numbers_in_c1 (it186 : Str) : Rx Bool :=
  grd ((it186 : Str).length ≤ 16777216) <| .ok (((!(Txt.isdecimal (it186))) || decide (3 < (((it186 : Str).length : Nat) : Int))))

def F__numbers_in_c2 (it254 : Str) : Rx Int :=
  grd ((PySem.intText? (it254)).isSome = true ∧ (it254 : Str).length ≤ 640) <| .ok ((numS (it254)))

def F__numbers_in (text' : Str) : Rx (List Int) :=
  grd ((text' : Str).length + ((text' : Str).length + 1) * 1 ≤ 16777216) <| grd (((Txt.replace (text') "x" ":") : Str).length + 2 ≤ 16777216) <| (if (((((Txt.split ((Txt.replace (text') "x" ":")) ":")) : (List Str)).length : Int) : Int) = 4 then Rx.bind (mapA ((Txt.split ((Txt.replace (text') "x" ":")) ":")) [] (fun x => noEr (F__numbers_in_c1  x))) fun v143 => (if (List.any (v143) id) = true then .er 1 else Rx.bind (mapA ((Txt.split ((Txt.replace (text') "x" ":")) ":")) [] (fun x => noEr (F__numbers_in_c2  x))) fun v211 => .ok (v211)) else .er 1)

def F_Format_parse (text' : Str) : Rx St_Format :=
  Rx.bind (F__numbers_in text') fun v276 => grd ((v276).length = 4) <| bnd ((itD (v276) 0)) fun width_286 => bnd ((itD (v276) 1)) fun height_287 => bnd ((itD (v276) 2)) fun depth_288 => bnd ((itD (v276) 3)) fun chroma_289 => Rx.bind (F_Format___init__ width_286 height_287 depth_288 chroma_289) fun v301 => Rx.bind (F_Format_text (v301)) fun v306 => (if V.str (v306) = V.str (text') then .ok v301 else .er 1)

def F__law_text (numbers' : (List Int)) : Rx Str :=
  grd (-((numbers' : (List Int)).length : Int) ≤ 0 ∧ 0 < ((numbers' : (List Int)).length : Int)) <| grd (((itD (numbers') (0)) : Int).natAbs.log2 < 1920) <| grd (((strI ((itD (numbers') (0)))) : Str).length + (("x" : Str) : Str).length ≤ 16777216) <| grd (-((numbers' : (List Int)).length : Int) ≤ 1 ∧ 1 < ((numbers' : (List Int)).length : Int)) <| grd (((itD (numbers') (1)) : Int).natAbs.log2 < 1920) <| grd (((((strI ((itD (numbers') (0)))) : Str) ++ (("x" : Str) : Str)) : Str).length + ((strI ((itD (numbers') (1)))) : Str).length ≤ 16777216) <| grd (((((((strI ((itD (numbers') (0)))) : Str) ++ (("x" : Str) : Str)) : Str) ++ ((strI ((itD (numbers') (1)))) : Str)) : Str).length + ((":" : Str) : Str).length ≤ 16777216) <| grd (-((numbers' : (List Int)).length : Int) ≤ 2 ∧ 2 < ((numbers' : (List Int)).length : Int)) <| grd (((itD (numbers') (2)) : Int).natAbs.log2 < 1920) <| grd (((((((((strI ((itD (numbers') (0)))) : Str) ++ (("x" : Str) : Str)) : Str) ++ ((strI ((itD (numbers') (1)))) : Str)) : Str) ++ ((":" : Str) : Str)) : Str).length + ((strI ((itD (numbers') (2)))) : Str).length ≤ 16777216) <| grd (((((((((((strI ((itD (numbers') (0)))) : Str) ++ (("x" : Str) : Str)) : Str) ++ ((strI ((itD (numbers') (1)))) : Str)) : Str) ++ ((":" : Str) : Str)) : Str) ++ ((strI ((itD (numbers') (2)))) : Str)) : Str).length + ((":" : Str) : Str).length ≤ 16777216) <| grd (-((numbers' : (List Int)).length : Int) ≤ 3 ∧ 3 < ((numbers' : (List Int)).length : Int)) <| grd (((itD (numbers') (3)) : Int).natAbs.log2 < 1920) <| grd (((((((((((((strI ((itD (numbers') (0)))) : Str) ++ (("x" : Str) : Str)) : Str) ++ ((strI ((itD (numbers') (1)))) : Str)) : Str) ++ ((":" : Str) : Str)) : Str) ++ ((strI ((itD (numbers') (2)))) : Str)) : Str) ++ ((":" : Str) : Str)) : Str).length + ((strI ((itD (numbers') (3)))) : Str).length ≤ 16777216) <| .ok ((((((((((((((strI ((itD (numbers') (0)))) : Str) ++ (("x" : Str) : Str)) : Str) ++ ((strI ((itD (numbers') (1)))) : Str)) : Str) ++ ((":" : Str) : Str)) : Str) ++ ((strI ((itD (numbers') (2)))) : Str)) : Str) ++ ((":" : Str) : Str)) : Str) ++ ((strI ((itD (numbers') (3)))) : Str)))

def F__law_bad_c1 (it366 : Int) : Rx Str :=
  grd ((it366 : Int).natAbs.log2 < 1920) <| .ok ((strI (it366)))

def F__law_bad_b2 (text_524 : Str) (numbers_525 : (List Int)) (number_526 : Int) (parts_527 : (List Str)) (texts_545 : (List Str)) (it548 : Int) : Rx ((List Str)) :=
  grd (-((parts_527 : (List Str)).length : Int) ≤ it548 ∧ it548 < ((parts_527 : (List Str)).length : Int)) <| grd ((("0" : Str) : Str).length + ((itD (parts_527) (it548)) : Str).length ≤ 16777216) <| grd (-((parts_527 : (List Str)).length : Int) ≤ it548 ∧ it548 < ((parts_527 : (List Str)).length : Int)) <| bnd (setL (parts_527) (it548) (((("0" : Str) : Str) ++ ((itD (parts_527) (it548)) : Str)))) fun y568 => grd (-((y568 : (List Str)).length : Int) ≤ 0 ∧ 0 < ((y568 : (List Str)).length : Int)) <| grd (((itD (y568) (0)) : Str).length + (("x" : Str) : Str).length ≤ 16777216) <| grd (-((y568 : (List Str)).length : Int) ≤ 1 ∧ 1 < ((y568 : (List Str)).length : Int)) <| grd (((((itD (y568) (0)) : Str) ++ (("x" : Str) : Str)) : Str).length + ((itD (y568) (1)) : Str).length ≤ 16777216) <| grd (((((((itD (y568) (0)) : Str) ++ (("x" : Str) : Str)) : Str) ++ ((itD (y568) (1)) : Str)) : Str).length + ((":" : Str) : Str).length ≤ 16777216) <| grd (-((y568 : (List Str)).length : Int) ≤ 2 ∧ 2 < ((y568 : (List Str)).length : Int)) <| grd (((((((((itD (y568) (0)) : Str) ++ (("x" : Str) : Str)) : Str) ++ ((itD (y568) (1)) : Str)) : Str) ++ ((":" : Str) : Str)) : Str).length + ((itD (y568) (2)) : Str).length ≤ 16777216) <| grd (((((((((((itD (y568) (0)) : Str) ++ (("x" : Str) : Str)) : Str) ++ ((itD (y568) (1)) : Str)) : Str) ++ ((":" : Str) : Str)) : Str) ++ ((itD (y568) (2)) : Str)) : Str).length + ((":" : Str) : Str).length ≤ 16777216) <| grd (-((y568 : (List Str)).length : Int) ≤ 3 ∧ 3 < ((y568 : (List Str)).length : Int)) <| grd (((((((((((((itD (y568) (0)) : Str) ++ (("x" : Str) : Str)) : Str) ++ ((itD (y568) (1)) : Str)) : Str) ++ ((":" : Str) : Str)) : Str) ++ ((itD (y568) (2)) : Str)) : Str) ++ ((":" : Str) : Str)) : Str).length + ((itD (y568) (3)) : Str).length ≤ 16777216) <| grd ((text_524 : Str).length + ((text_524 : Str).length + 1) * 2 ≤ 16777216) <| grd ((texts_545).length + ([(((((((((((((itD (y568) (0)) : Str) ++ (("x" : Str) : Str)) : Str) ++ ((itD (y568) (1)) : Str)) : Str) ++ ((":" : Str) : Str)) : Str) ++ ((itD (y568) (2)) : Str)) : Str) ++ ((":" : Str) : Str)) : Str) ++ ((itD (y568) (3)) : Str)), (Txt.replace (text_524) ":" ":0")]).length ≤ 1000000) <| grd (-(([257, 257, 13, 3] : (List Int)).length : Int) ≤ it548 ∧ it548 < (([257, 257, 13, 3] : (List Int)).length : Int)) <| grd (-((numbers_525 : (List Int)).length : Int) ≤ it548 ∧ it548 < ((numbers_525 : (List Int)).length : Int)) <| bnd (setL (numbers_525) (it548) (((itD ([257, 257, 13, 3]) (it548)) + number_526))) fun y627 => Rx.bind (F__law_text (y627)) fun v629 => grd (((texts_545) ++ ([(((((((((((((itD (y568) (0)) : Str) ++ (("x" : Str) : Str)) : Str) ++ ((itD (y568) (1)) : Str)) : Str) ++ ((":" : Str) : Str)) : Str) ++ ((itD (y568) (2)) : Str)) : Str) ++ ((":" : Str) : Str)) : Str) ++ ((itD (y568) (3)) : Str)), (Txt.replace (text_524) ":" ":0")])).length ≤ 1000000) <| bnd (((texts_545) ++ ([(((((((((((((itD (y568) (0)) : Str) ++ (("x" : Str) : Str)) : Str) ++ ((itD (y568) (1)) : Str)) : Str) ++ ((":" : Str) : Str)) : Str) ++ ((itD (y568) (2)) : Str)) : Str) ++ ((":" : Str) : Str)) : Str) ++ ((itD (y568) (3)) : Str)), (Txt.replace (text_524) ":" ":0")])) ++ [v629]) fun y637 => grd (-(([0, 0, 7, 7] : (List Int)).length : Int) ≤ it548 ∧ it548 < (([0, 0, 7, 7] : (List Int)).length : Int)) <| grd (-((y627 : (List Int)).length : Int) ≤ it548 ∧ it548 < ((y627 : (List Int)).length : Int)) <| bnd (setL (y627) (it548) ((itD ([0, 0, 7, 7]) (it548)))) fun y656 => Rx.bind (F__law_text (y656)) fun v658 => grd ((y637).length ≤ 1000000) <| bnd ((y637) ++ [v658]) fun y666 => .ok (y666)

def F__law_bad_r2 (texts_676 : (List Str)) : Rx (List Str) :=
  .ok (texts_676)

def F__law_bad (text' : Str) (numbers' : (List Int)) (number' : Int) : Rx (List Str) :=
  Rx.bind (mapA (numbers') [] (fun x => noEr (F__law_bad_c1  x))) fun v326 => grd ((("0" : Str) : Str).length + (text' : Str).length ≤ 16777216) <| grd ((("+" : Str) : Str).length + (text' : Str).length ≤ 16777216) <| grd ((("-" : Str) : Str).length + (text' : Str).length ≤ 16777216) <| grd (((" " : Str) : Str).length + (text' : Str).length ≤ 16777216) <| grd ((text' : Str).length + ((" " : Str) : Str).length ≤ 16777216) <| grd ((text' : Str).length + (("\n" : Str) : Str).length ≤ 16777216) <| grd ((text' : Str).length ≤ 16777216) <| grd ((text' : Str).length + ((":" : Str) : Str).length ≤ 16777216) <| grd ((("x" : Str) : Str).length + (text' : Str).length ≤ 16777216) <| grd ((text' : Str).length + ((text' : Str).length + 1) * 1 ≤ 16777216) <| grd ((text' : Str).length + ((text' : Str).length + 1) * 1 ≤ 16777216) <| grd ((text' : Str).length + ((text' : Str).length + 1) * 1 ≤ 16777216) <| grd ((text' : Str).length + ((text' : Str).length + 1) * 1 ≤ 16777216) <| grd (([("" : Str), ((("0" : Str) : Str) ++ (text' : Str)), ((("+" : Str) : Str) ++ (text' : Str)), ((("-" : Str) : Str) ++ (text' : Str)), (((" " : Str) : Str) ++ (text' : Str)), ((text' : Str) ++ ((" " : Str) : Str)), ((text' : Str) ++ (("\n" : Str) : Str)), (cutS (text') none (some ((-1)))), ((text' : Str) ++ ((":" : Str) : Str)), ((("x" : Str) : Str) ++ (text' : Str))]).length + ([(Txt.replace (text') "x" "X"), (Txt.replace (text') ":" ";"), (Txt.replace (text') ":" "x"), (Txt.replace (text') "x" ":")]).length ≤ 1000000) <| grd (-((v326 : (List Str)).length : Int) ≤ 0 ∧ 0 < ((v326 : (List Str)).length : Int)) <| grd (((itD (v326) (0)) : Str).length + (("x" : Str) : Str).length ≤ 16777216) <| grd (-((v326 : (List Str)).length : Int) ≤ 1 ∧ 1 < ((v326 : (List Str)).length : Int)) <| grd (((((itD (v326) (0)) : Str) ++ (("x" : Str) : Str)) : Str).length + ((itD (v326) (1)) : Str).length ≤ 16777216) <| grd (((((((itD (v326) (0)) : Str) ++ (("x" : Str) : Str)) : Str) ++ ((itD (v326) (1)) : Str)) : Str).length + ((":" : Str) : Str).length ≤ 16777216) <| grd (-((v326 : (List Str)).length : Int) ≤ 2 ∧ 2 < ((v326 : (List Str)).length : Int)) <| grd (((((((((itD (v326) (0)) : Str) ++ (("x" : Str) : Str)) : Str) ++ ((itD (v326) (1)) : Str)) : Str) ++ ((":" : Str) : Str)) : Str).length + ((itD (v326) (2)) : Str).length ≤ 16777216) <| grd (-((v326 : (List Str)).length : Int) ≤ 0 ∧ 0 < ((v326 : (List Str)).length : Int)) <| grd (((itD (v326) (0)) : Str).length + (("x" : Str) : Str).length ≤ 16777216) <| grd (-((v326 : (List Str)).length : Int) ≤ 1 ∧ 1 < ((v326 : (List Str)).length : Int)) <| grd (((((itD (v326) (0)) : Str) ++ (("x" : Str) : Str)) : Str).length + ((itD (v326) (1)) : Str).length ≤ 16777216) <| grd (-((v326 : (List Str)).length : Int) ≤ 0 ∧ 0 < ((v326 : (List Str)).length : Int)) <| grd ((text' : Str).length + ((":" : Str) : Str).length ≤ 16777216) <| grd (-((v326 : (List Str)).length : Int) ≤ 3 ∧ 3 < ((v326 : (List Str)).length : Int)) <| grd ((((text' : Str) ++ ((":" : Str) : Str)) : Str).length + ((itD (v326) (3)) : Str).length ≤ 16777216) <| grd ((([("" : Str), ((("0" : Str) : Str) ++ (text' : Str)), ((("+" : Str) : Str) ++ (text' : Str)), ((("-" : Str) : Str) ++ (text' : Str)), (((" " : Str) : Str) ++ (text' : Str)), ((text' : Str) ++ ((" " : Str) : Str)), ((text' : Str) ++ (("\n" : Str) : Str)), (cutS (text') none (some ((-1)))), ((text' : Str) ++ ((":" : Str) : Str)), ((("x" : Str) : Str) ++ (text' : Str))]) ++ ([(Txt.replace (text') "x" "X"), (Txt.replace (text') ":" ";"), (Txt.replace (text') ":" "x"), (Txt.replace (text') "x" ":")])).length + ([(((((((((itD (v326) (0)) : Str) ++ (("x" : Str) : Str)) : Str) ++ ((itD (v326) (1)) : Str)) : Str) ++ ((":" : Str) : Str)) : Str) ++ ((itD (v326) (2)) : Str)), (((((itD (v326) (0)) : Str) ++ (("x" : Str) : Str)) : Str) ++ ((itD (v326) (1)) : Str)), (itD (v326) (0)), ((((text' : Str) ++ ((":" : Str) : Str)) : Str) ++ ((itD (v326) (3)) : Str))]).length ≤ 1000000) <| grd (-((v326 : (List Str)).length : Int) ≤ 0 ∧ 0 < ((v326 : (List Str)).length : Int)) <| grd (((itD (v326) (0)) : Str).length + (("x0" : Str) : Str).length ≤ 16777216) <| grd (-((v326 : (List Str)).length : Int) ≤ 1 ∧ 1 < ((v326 : (List Str)).length : Int)) <| grd (((((itD (v326) (0)) : Str) ++ (("x0" : Str) : Str)) : Str).length + ((itD (v326) (1)) : Str).length ≤ 16777216) <| grd (((((((itD (v326) (0)) : Str) ++ (("x0" : Str) : Str)) : Str) ++ ((itD (v326) (1)) : Str)) : Str).length + ((":" : Str) : Str).length ≤ 16777216) <| grd (-((v326 : (List Str)).length : Int) ≤ 2 ∧ 2 < ((v326 : (List Str)).length : Int)) <| grd (((((((((itD (v326) (0)) : Str) ++ (("x0" : Str) : Str)) : Str) ++ ((itD (v326) (1)) : Str)) : Str) ++ ((":" : Str) : Str)) : Str).length + ((itD (v326) (2)) : Str).length ≤ 16777216) <| grd (((((((((((itD (v326) (0)) : Str) ++ (("x0" : Str) : Str)) : Str) ++ ((itD (v326) (1)) : Str)) : Str) ++ ((":" : Str) : Str)) : Str) ++ ((itD (v326) (2)) : Str)) : Str).length + ((":" : Str) : Str).length ≤ 16777216) <| grd (-((v326 : (List Str)).length : Int) ≤ 3 ∧ 3 < ((v326 : (List Str)).length : Int)) <| grd (((((((((((((itD (v326) (0)) : Str) ++ (("x0" : Str) : Str)) : Str) ++ ((itD (v326) (1)) : Str)) : Str) ++ ((":" : Str) : Str)) : Str) ++ ((itD (v326) (2)) : Str)) : Str) ++ ((":" : Str) : Str)) : Str).length + ((itD (v326) (3)) : Str).length ≤ 16777216) <| grd ((text' : Str).length ≤ 16777216) <| grd (((cutS (text') none (some ((-1)))) : Str).length + (("0" : Str) : Str).length ≤ 16777216) <| grd (-((v326 : (List Str)).length : Int) ≤ 3 ∧ 3 < ((v326 : (List Str)).length : Int)) <| grd (((((cutS (text') none (some ((-1)))) : Str) ++ (("0" : Str) : Str)) : Str).length + ((itD (v326) (3)) : Str).length ≤ 16777216) <| grd (((([("" : Str), ((("0" : Str) : Str) ++ (text' : Str)), ((("+" : Str) : Str) ++ (text' : Str)), ((("-" : Str) : Str) ++ (text' : Str)), (((" " : Str) : Str) ++ (text' : Str)), ((text' : Str) ++ ((" " : Str) : Str)), ((text' : Str) ++ (("\n" : Str) : Str)), (cutS (text') none (some ((-1)))), ((text' : Str) ++ ((":" : Str) : Str)), ((("x" : Str) : Str) ++ (text' : Str))]) ++ ([(Txt.replace (text') "x" "X"), (Txt.replace (text') ":" ";"), (Txt.replace (text') ":" "x"), (Txt.replace (text') "x" ":")])) ++ ([(((((((((itD (v326) (0)) : Str) ++ (("x" : Str) : Str)) : Str) ++ ((itD (v326) (1)) : Str)) : Str) ++ ((":" : Str) : Str)) : Str) ++ ((itD (v326) (2)) : Str)), (((((itD (v326) (0)) : Str) ++ (("x" : Str) : Str)) : Str) ++ ((itD (v326) (1)) : Str)), (itD (v326) (0)), ((((text' : Str) ++ ((":" : Str) : Str)) : Str) ++ ((itD (v326) (3)) : Str))])).length + ([(((((((((((((itD (v326) (0)) : Str) ++ (("x0" : Str) : Str)) : Str) ++ ((itD (v326) (1)) : Str)) : Str) ++ ((":" : Str) : Str)) : Str) ++ ((itD (v326) (2)) : Str)) : Str) ++ ((":" : Str) : Str)) : Str) ++ ((itD (v326) (3)) : Str)), (((((cutS (text') none (some ((-1)))) : Str) ++ (("0" : Str) : Str)) : Str) ++ ((itD (v326) (3)) : Str))]).length ≤ 1000000) <| grd ((text' : Str).length + (("0" : Str) : Str).length ≤ 16777216) <| grd ((text' : Str).length + ((text' : Str).length + 1) * 2 ≤ 16777216) <| grd ((text' : Str).length + ((text' : Str).length + 1) * 2 ≤ 16777216) <| grd ((text' : Str).length + (("x" : Str) : Str).length ≤ 16777216) <| grd ((text' : Str).length + ((text' : Str).length + 1) * 2 ≤ 16777216) <| grd ((((([("" : Str), ((("0" : Str) : Str) ++ (text' : Str)), ((("+" : Str) : Str) ++ (text' : Str)), ((("-" : Str) : Str) ++ (text' : Str)), (((" " : Str) : Str) ++ (text' : Str)), ((text' : Str) ++ ((" " : Str) : Str)), ((text' : Str) ++ (("\n" : Str) : Str)), (cutS (text') none (some ((-1)))), ((text' : Str) ++ ((":" : Str) : Str)), ((("x" : Str) : Str) ++ (text' : Str))]) ++ ([(Txt.replace (text') "x" "X"), (Txt.replace (text') ":" ";"), (Txt.replace (text') ":" "x"), (Txt.replace (text') "x" ":")])) ++ ([(((((((((itD (v326) (0)) : Str) ++ (("x" : Str) : Str)) : Str) ++ ((itD (v326) (1)) : Str)) : Str) ++ ((":" : Str) : Str)) : Str) ++ ((itD (v326) (2)) : Str)), (((((itD (v326) (0)) : Str) ++ (("x" : Str) : Str)) : Str) ++ ((itD (v326) (1)) : Str)), (itD (v326) (0)), ((((text' : Str) ++ ((":" : Str) : Str)) : Str) ++ ((itD (v326) (3)) : Str))])) ++ ([(((((((((((((itD (v326) (0)) : Str) ++ (("x0" : Str) : Str)) : Str) ++ ((itD (v326) (1)) : Str)) : Str) ++ ((":" : Str) : Str)) : Str) ++ ((itD (v326) (2)) : Str)) : Str) ++ ((":" : Str) : Str)) : Str) ++ ((itD (v326) (3)) : Str)), (((((cutS (text') none (some ((-1)))) : Str) ++ (("0" : Str) : Str)) : Str) ++ ((itD (v326) (3)) : Str))])).length + ([((text' : Str) ++ (("0" : Str) : Str)), (Txt.replace (text') "x" " x"), (Txt.replace (text') ":" ": "), ((text' : Str) ++ (("x" : Str) : Str)), (Txt.replace (text') ":" "::")]).length ≤ 1000000) <| Rx.bind (forS (rng (0) (Int.toNat (4))) ((((([("" : Str), ((("0" : Str) : Str) ++ (text' : Str)), ((("+" : Str) : Str) ++ (text' : Str)), ((("-" : Str) : Str) ++ (text' : Str)), (((" " : Str) : Str) ++ (text' : Str)), ((text' : Str) ++ ((" " : Str) : Str)), ((text' : Str) ++ (("\n" : Str) : Str)), (cutS (text') none (some ((-1)))), ((text' : Str) ++ ((":" : Str) : Str)), ((("x" : Str) : Str) ++ (text' : Str))]) ++ ([(Txt.replace (text') "x" "X"), (Txt.replace (text') ":" ";"), (Txt.replace (text') ":" "x"), (Txt.replace (text') "x" ":")])) ++ ([(((((((((itD (v326) (0)) : Str) ++ (("x" : Str) : Str)) : Str) ++ ((itD (v326) (1)) : Str)) : Str) ++ ((":" : Str) : Str)) : Str) ++ ((itD (v326) (2)) : Str)), (((((itD (v326) (0)) : Str) ++ (("x" : Str) : Str)) : Str) ++ ((itD (v326) (1)) : Str)), (itD (v326) (0)), ((((text' : Str) ++ ((":" : Str) : Str)) : Str) ++ ((itD (v326) (3)) : Str))])) ++ ([(((((((((((((itD (v326) (0)) : Str) ++ (("x0" : Str) : Str)) : Str) ++ ((itD (v326) (1)) : Str)) : Str) ++ ((":" : Str) : Str)) : Str) ++ ((itD (v326) (2)) : Str)) : Str) ++ ((":" : Str) : Str)) : Str) ++ ((itD (v326) (3)) : Str)), (((((cutS (text') none (some ((-1)))) : Str) ++ (("0" : Str) : Str)) : Str) ++ ((itD (v326) (3)) : Str))])) ++ ([((text' : Str) ++ (("0" : Str) : Str)), (Txt.replace (text') "x" " x"), (Txt.replace (text') ":" ": "), ((text' : Str) ++ (("x" : Str) : Str)), (Txt.replace (text') ":" "::")])) (fun s x => F__law_bad_b2 (text') (numbers') (number') (v326) s x)) fun s => F__law_bad_r2  s

def F__law_other_signs_b1 (text_686 : Str) (signs_687 : Str) (texts_706 : (List Str)) (it709 : Int) : Rx ((List Str)) :=
  grd ((signs_687 : Str).length ≤ 16777216) <| grd ((text_686 : Str).length ≤ 16777216) <| Rx.bind (F__law_draws it709 ([(((signs_687 : Str).length : Nat) : Int), (((text_686 : Str).length : Nat) : Int)])) fun v721 => grd (-((v721 : (List Int)).length : Int) ≤ 0 ∧ 0 < ((v721 : (List Int)).length : Int)) <| grd ((signs_687 : Str).length ≤ 16777216 ∧ -(((signs_687 : Str).cps.toList).length : Int) ≤ (itD (v721) (0)) ∧ (itD (v721) (0)) < (((signs_687 : Str).cps.toList).length : Int)) <| grd (-((v721 : (List Int)).length : Int) ≤ 1 ∧ 1 < ((v721 : (List Int)).length : Int)) <| bnd ((itD (v721) (1))) fun at_733 => grd ((text_686 : Str).length ≤ 16777216) <| grd (((cutS (text_686) none (some (at_733))) : Str).length + ((sgnS (signs_687) ((itD (v721) (0)))) : Str).length ≤ 16777216) <| grd ((text_686 : Str).length ≤ 16777216) <| grd (((((cutS (text_686) none (some (at_733))) : Str) ++ ((sgnS (signs_687) ((itD (v721) (0)))) : Str)) : Str).length + ((cutS (text_686) (some (at_733)) none) : Str).length ≤ 16777216) <| grd ((texts_706).length ≤ 1000000) <| bnd ((texts_706) ++ [(((((cutS (text_686) none (some (at_733))) : Str) ++ ((sgnS (signs_687) ((itD (v721) (0)))) : Str)) : Str) ++ ((cutS (text_686) (some (at_733)) none) : Str))]) fun y746 => grd ((text_686 : Str).length ≤ 16777216 ∧ -(((text_686 : Str).cps.toList).length : Int) ≤ at_733 ∧ at_733 < (((text_686 : Str).cps.toList).length : Int)) <| (if V.str ((sgnS (signs_687) ((itD (v721) (0))))) = V.str ((sgnS (text_686) (at_733))) then .ok (y746) else grd ((text_686 : Str).length ≤ 16777216) <| grd (((cutS (text_686) none (some (at_733))) : Str).length + ((sgnS (signs_687) ((itD (v721) (0)))) : Str).length ≤ 16777216) <| grd ((text_686 : Str).length ≤ 16777216) <| grd (((((cutS (text_686) none (some (at_733))) : Str) ++ ((sgnS (signs_687) ((itD (v721) (0)))) : Str)) : Str).length + ((cutS (text_686) (some ((at_733 + 1))) none) : Str).length ≤ 16777216) <| grd ((y746).length ≤ 1000000) <| bnd ((y746) ++ [(((((cutS (text_686) none (some (at_733))) : Str) ++ ((sgnS (signs_687) ((itD (v721) (0)))) : Str)) : Str) ++ ((cutS (text_686) (some ((at_733 + 1))) none) : Str))]) fun y760 => .ok (y760))

def F__law_other_signs_r1 (texts_766 : (List Str)) : Rx (List Str) :=
  .ok (texts_766)

def F__law_other_signs (text' : Str) (cells' : (List Int)) : Rx (List Str) :=
  Rx.bind (forS (cells') (([] : (List Str))) (fun s x => F__law_other_signs_b1 (text') ((" !\"#$&'()*+,-./:;<=>?@ABCDEFGHIJKLMNOPQRSTUVWXYZ[\\]^_`abcdefghijklmnopqrstuvwxyz{|}~" : Str)) s x)) fun s => F__law_other_signs_r1  s

def F_Format___eq__ (self' : St_Format) (other' : St_Format) : Rx Bool :=
  (if decide ((self'.width : Int) = other'.width) = true then (if decide ((self'.height : Int) = other'.height) = true then (if decide ((self'.depth : Int) = other'.depth) = true then .ok (decide ((self'.chroma : Int) = other'.chroma)) else .ok (false)) else .ok (false)) else .ok (false))

def F__law_refused (text' : Str) : Rx Bool :=
  tryR (F_Format_parse text') [1] (fun v770 => .ok (false)) (fun _ => .ok (true))

def F_law_c1 (lows_821 : (List Int)) (highs_822 : (List Int)) (draws_823 : (List Int)) (it858 : Int) : Rx Int :=
  grd (-((draws_823 : (List Int)).length : Int) ≤ (2 * it858) ∧ (2 * it858) < ((draws_823 : (List Int)).length : Int)) <| grd (-((draws_823 : (List Int)).length : Int) ≤ ((2 * it858) + 1) ∧ ((2 * it858) + 1) < ((draws_823 : (List Int)).length : Int)) <| grd (-((lows_821 : (List Int)).length : Int) ≤ it858 ∧ it858 < ((lows_821 : (List Int)).length : Int)) <| grd (-((highs_822 : (List Int)).length : Int) ≤ it858 ∧ it858 < ((highs_822 : (List Int)).length : Int)) <| Rx.bind (F__law_between ((itD (draws_823) ((2 * it858)))) ((itD (draws_823) (((2 * it858) + 1)))) ((itD (lows_821) (it858))) ((itD (highs_822) (it858)))) fun v863 => .ok v863

def F_law_c2 (it1063 : Str) : Rx Bool :=
  Rx.bind (F__law_refused it1063) fun v1064 => .ok v1064

def F_law (script' : (List Int)) : Rx Bool :=
  Rx.bind (F__law_cell (script') 0) fun v802 => Rx.bind (F__law_draws v802 ([6, 256, 6, 256, 6, 5, 6, 3, 100000])) fun v812 => Rx.bind (mapA (rng (0) (Int.toNat (4))) [] (fun x => noEr (F_law_c1 ([1, 1, 8, 0]) ([256, 256, 12, 2]) (v812) x))) fun v824 => grd (-((v824 : (List Int)).length : Int) ≤ 0 ∧ 0 < ((v824 : (List Int)).length : Int)) <| grd (-((v824 : (List Int)).length : Int) ≤ 1 ∧ 1 < ((v824 : (List Int)).length : Int)) <| grd (-((v824 : (List Int)).length : Int) ≤ 2 ∧ 2 < ((v824 : (List Int)).length : Int)) <| grd (-((v824 : (List Int)).length : Int) ≤ 3 ∧ 3 < ((v824 : (List Int)).length : Int)) <| Rx.bind (F_Format___init__ ((itD (v824) (0))) ((itD (v824) (1))) ((itD (v824) (2))) ((itD (v824) (3)))) fun v903 => Rx.bind (F_Format_text (v903)) fun v908 => Rx.bind (F__law_text (v824)) fun v913 => (if V.str (v908) = V.str (v913) then Rx.bind (F_Format_parse v908) fun v915 => Rx.bind (noEr (F_Format___eq__ (v915) (v903))) fun v925 => (if (!(v925)) = true then .ok (false) else (if ([v915.width, v915.height, v915.depth, v915.chroma] : (List Int)) = v824 then grd (-((v812 : (List Int)).length : Int) ≤ 8 ∧ 8 < ((v812 : (List Int)).length : Int)) <| Rx.bind (F__law_bad v908 (v824) ((itD (v812) (8)))) fun v944 => grd (([7]).length + (cutL (script') (some (1)) (some (20))).length ≤ 1000000) <| Rx.bind (F__law_other_signs v908 (([7]) ++ (cutL (script') (some (1)) (some (20))))) fun v982 => grd ((v944).length + (v982).length ≤ 1000000) <| Rx.bind (mapA ((v944) ++ (v982)) [] (fun x => noEr (F_law_c2  x))) fun v1002 => .ok ((List.all (v1002) id)) else .ok (false))) else .ok (false))
theorem cell_gv (s : List Int) (k : Int) (h : 0 ≤ k) : Gv (F__law_cell s k) (fun _ => True) := by
  unfold F__law_cell
  exact Gv.ite (fun c => Gv.grd ⟨by omega, c⟩ (.ok trivial)) fun _ => .ok trivial
def Inb : List Int → List Int → Prop
  | [], [] => True
  | v :: vs, l :: ls => 0 ≤ v ∧ v < l ∧ Inb vs ls
  | _, _ => False
theorem Inb.snoc : ∀ {vs ls : List Int} {y l : Int}, Inb vs ls → 0 ≤ y → y < l → Inb (vs ++ [y]) (ls ++ [l])
  | [], [], _, _, _, h0, h1 => ⟨h0, h1, trivial⟩
  | _ :: _, _ :: _, _, _, h, h0, h1 => ⟨h.1, h.2.1, Inb.snoc h.2.2 h0 h1⟩
  | [], _ :: _, _, _, h, _, _ => h.elim
  | _ :: _, [], _, _, h, _, _ => h.elim
theorem Inb.len : ∀ {vs ls : List Int}, Inb vs ls → vs.length = ls.length
  | [], [], _ => rfl
  | _ :: _, _ :: _, h => congrArg Nat.succ (Inb.len h.2.2)
  | [], _ :: _, h => h.elim
  | _ :: _, [], h => h.elim
theorem Inb.cons {v ls : List Int} {l : Int} (h : Inb v (l :: ls)) : ∃ a r, v = a :: r ∧ 0 ≤ a ∧ a < l ∧ Inb r ls := by
  cases v with
  | nil => exact h.elim
  | cons a r => exact ⟨a, r, rfl, h.1, h.2.1, h.2.2⟩
theorem Inb.nil {v : List Int} (h : Inb v []) : v = [] := by
  cases v with
  | nil => rfl
  | cons a r => exact h.elim
theorem draws_gv (cell : Int) (limits : List Int) (hl : ∀ l ∈ limits, 0 < l ∧ l < 18446744073709551616) (hn : limits.length ≤ 1000000) : Gv (F__law_draws cell limits) (fun v => Inb v limits) := by
  unfold F__law_draws
  refine Gv.bnd fun rest _ => Gv.bnd fun state _ => Gv.bnd fun free _ => Gv.bind (Gv.forS (P := fun i s => Inb s.1 (limits.take i)) ?_ fun i x s hx p => ?_) fun s p => .ok ?_
  · rw [List.take_zero]
    trivial
  · have hb0 := hl x (List.mem_of_getElem? hx)
    have hb : 0 < x ∧ x < 2 ^ 128 := ⟨hb0.1, by omega⟩
    have hlen := p.len
    have hi := get_len hx
    rw [List.length_take] at hlen
    have nx : ∀ y : Int, 0 ≤ y → y < x → Inb (s.1 ++ [y]) (limits.take (i + 1)) := fun y h0 h1 => by
      rw [take_succ_get hx]
      exact p.snoc h0 h1
    unfold F__law_draws_b1
    refine Gv.ite (fun _ => Gv.ite (fun _ => Gv.grd hb.1 (Gv.grd (by omega) (Gv.bnd fun y hy => Gv.grd ⟨hb.1, hb.2⟩ (Gv.bnd fun _ _ => .ok ?_)))) fun _ => Gv.bnd fun _ _ => Gv.bnd fun _ _ => Gv.grd hb.1 (Gv.grd (by omega) (Gv.bnd fun y hy => .ok ?_))) fun _ => Gv.bnd fun _ _ => Gv.bnd fun _ _ => Gv.grd hb.1 (Gv.grd (by omega) (Gv.bnd fun y hy => .ok ?_))
    · subst hy
      exact nx _ (Int.emod_nonneg _ (by omega)) (Int.emod_lt_of_pos _ hb.1)
    · subst hy
      exact nx _ (Int.emod_nonneg _ (by omega)) (Int.emod_lt_of_pos _ hb.1)
    · subst hy
      exact nx _ (Int.emod_nonneg _ (by omega)) (Int.emod_lt_of_pos _ hb.1)
  · rw [List.take_length] at p
    exact p
theorem ixg {xs : List Int} {k : Int} {n : Nat} (e : xs.length = n) (h : -(n : Int) ≤ k ∧ k < n) : -(xs.length : Int) ≤ k ∧ k < xs.length := by
  rw [e]
  exact h
theorem itD_lit {xs : List Int} {a k : Int} (n : Nat) (e : k = (n : Int)) (h : xs[n]? = some a) : itD xs k = a := by
  subst e
  have hl := get_len h
  unfold itD atI ixN
  rw [if_pos (by omega), if_pos (by omega)]
  show (xs[n]?).getD default = a
  rw [h]
  rfl
theorem between_gv (f s lo hi : Int) (h : lo ≤ hi) : Gv (F__law_between f s lo hi) (fun v => lo ≤ v ∧ v ≤ hi) := by
  unfold F__law_between
  refine Gv.ite (fun _ => .ok (by omega)) fun _ => Gv.ite (fun _ => .ok (by omega)) fun _ => Gv.ite (fun _ => .ok ?_) fun _ => Gv.grd (by omega) (.ok ?_)
  · split <;> omega
  · have a := Int.emod_nonneg s (show hi - lo + 1 ≠ 0 by omega)
    have b := Int.emod_lt_of_pos s (show 0 < hi - lo + 1 by omega)
    omega
/-! ### signs of numbers -/
abbrev nl (n : Nat) : List Nat := TL.numL n
abbrev S (l : List Nat) : Str := SX.S l
theorem strI_S {n : Int} (h : 0 ≤ n) : strI n = S (nl n.toNat) := by
  obtain ⟨k, rfl⟩ : ∃ k : Nat, n = (k : Int) := ⟨n.toNat, by omega⟩
  exact TL.ext_tl (TL.tl_num k)
theorem e_x : ("x" : Str) = S [120] := TL.ext_tl (by decide +kernel)
theorem e_c : (":" : Str) = S [58] := TL.ext_tl (by decide +kernel)
theorem e_0 : Str.empty = S [] := rfl
theorem log_ok {n : Int} (h : 0 ≤ n) (h2 : n < 1000000) : n.natAbs.log2 < 1920 := by
  by_cases c : n.natAbs = 0
  · rw [c]
    decide
  · refine (Nat.log2_lt c).mpr (Nat.lt_of_lt_of_le (show n.natAbs < 2 ^ 20 by omega) (Nat.pow_le_pow_right (by decide) (by decide)))
theorem nl_len {n : Nat} (h : n < 1000000) : (nl n).length ≤ 6 := TL.numL_len (by decide) (by omega)
theorem nl3 {n : Nat} (h : n < 1000) : (nl n).length ≤ 3 := TL.numL_len (by decide) (by omega)
def ct (w h d c : Nat) : List Nat := nl w ++ 120 :: (nl h ++ 58 :: (nl d ++ 58 :: nl c))
theorem ct_len {w h d c : Nat} (hw : w < 1000000) (hh : h < 1000000) (hd : d < 1000000) (hc : c < 1000000) : (ct w h d c).length ≤ 27 := by
  have a := nl_len hw
  have b := nl_len hh
  have e := nl_len hd
  have f := nl_len hc
  unfold ct
  simp only [List.length_append, List.length_cons]
  omega
theorem txt_eq {w h d c : Int} (hw : 0 ≤ w) (hh : 0 ≤ h) (hd : 0 ≤ d) (hc : 0 ≤ c) : ((((((strI w ++ ("x" : Str)) ++ strI h) ++ (":" : Str)) ++ strI d) ++ (":" : Str)) ++ strI c : Str) = S (ct w.toNat h.toNat d.toNat c.toNat) := by
  rw [strI_S hw, strI_S hh, strI_S hd, strI_S hc, e_x, e_c]
  simp only [SX.S_cat]
  unfold ct
  simp only [List.append_assoc, List.singleton_append, List.cons_append, List.nil_append]
theorem text_ok {f : St_Format} (hw : 0 ≤ f.width ∧ f.width < 1000000) (hh : 0 ≤ f.height ∧ f.height < 1000000) (hd : 0 ≤ f.depth ∧ f.depth < 1000000) (hc : 0 ≤ f.chroma ∧ f.chroma < 1000000) :
    F_Format_text f = .ok (S (ct f.width.toNat f.height.toNat f.depth.toNat f.chroma.toNat)) := by
  have a := nl_len (n := f.width.toNat) (by omega)
  have b := nl_len (n := f.height.toNat) (by omega)
  have e := nl_len (n := f.depth.toNat) (by omega)
  have g := nl_len (n := f.chroma.toNat) (by omega)
  unfold F_Format_text
  rw [strI_S hw.1, strI_S hh.1, strI_S hd.1, strI_S hc.1, e_x, e_c, e_0]
  simp only [SX.S_cat, SX.S_len, List.length_append, List.length_cons, List.length_nil, List.nil_append]
  rw [grd_pos (log_ok hw.1 hw.2), grd_pos (by omega), grd_pos (by omega), grd_pos (log_ok hh.1 hh.2), grd_pos (by omega), grd_pos (by omega), grd_pos (log_ok hd.1 hd.2), grd_pos (by omega), grd_pos (by omega), grd_pos (log_ok hc.1 hc.2), grd_pos (by omega)]
  unfold ct
  simp only [List.append_assoc, List.singleton_append, List.cons_append, List.nil_append]
theorem ltext_ok {w h d c : Int} (hw : 0 ≤ w ∧ w < 1000000) (hh : 0 ≤ h ∧ h < 1000000) (hd : 0 ≤ d ∧ d < 1000000) (hc : 0 ≤ c ∧ c < 1000000) : F__law_text [w, h, d, c] = .ok (S (ct w.toNat h.toNat d.toNat c.toNat)) := by
  have a := nl_len (n := w.toNat) (by omega)
  have b := nl_len (n := h.toNat) (by omega)
  have e := nl_len (n := d.toNat) (by omega)
  have g := nl_len (n := c.toNat) (by omega)
  unfold F__law_text
  rw [show itD [w, h, d, c] 0 = w from rfl, show itD [w, h, d, c] 1 = h from rfl, show itD [w, h, d, c] 2 = d from rfl, show itD [w, h, d, c] 3 = c from rfl, strI_S hw.1, strI_S hh.1, strI_S hd.1, strI_S hc.1, e_x, e_c]
  simp only [SX.S_cat, SX.S_len, List.length_append, List.length_cons, List.length_nil, List.nil_append]
  rw [grd_pos (by omega), grd_pos (log_ok hw.1 hw.2), grd_pos (by omega), grd_pos (by omega), grd_pos (log_ok hh.1 hh.2), grd_pos (by omega), grd_pos (by omega), grd_pos (by omega), grd_pos (log_ok hd.1 hd.2), grd_pos (by omega), grd_pos (by omega), grd_pos (by omega), grd_pos (log_ok hc.1 hc.2), grd_pos (by omega)]
  unfold ct
  simp only [List.append_assoc, List.singleton_append, List.cons_append, List.nil_append]
/-! ### one sign replaced, texts cut at a sign -/
def rp1 (y : Nat) (z l : List Nat) : List Nat := l.flatMap fun c => if c = y then z else [c]
theorem repl1 (y : Nat) (z : List Nat) : ∀ l : List Nat, PySem.StrLaws.replL [y] z l = rp1 y z l
  | [] => PySem.StrLaws.replL_nil
  | c :: r => by
    unfold rp1
    rw [List.flatMap_cons]
    by_cases h : c = y
    · rw [if_pos h, PySem.StrLaws.replL_hit (by simp) (by rw [h]; rfl)]
      show z ++ PySem.StrLaws.replL [y] z r = _
      rw [repl1 y z r]
      rfl
    · rw [if_neg h, PySem.StrLaws.replL_miss (by simpa using h), repl1 y z r]
      rfl
theorem rep_S {y : Nat} {z a : List Nat} : Txt.replace (S a) (S [y]) (S z) = S (rp1 y z a) := TL.ext_tl (by
  have e := PySem.StrLaws.replace_list (x := S a) (y := S [y]) (z := S z) (by rw [SX.S_len]; exact Nat.le_refl _)
  show (Txt.replace (S a) (S [y]) (S z)).cps.toList = _
  rw [e]
  exact repl1 y z a)
theorem rp1_app (y : Nat) (z a b : List Nat) : rp1 y z (a ++ b) = rp1 y z a ++ rp1 y z b := List.flatMap_append
theorem rp1_none {y : Nat} {z : List Nat} : ∀ {a : List Nat}, y ∉ a → rp1 y z a = a
  | [], _ => rfl
  | c :: r, h => by
    have h1 : ¬ c = y := fun e => h (by rw [e]; exact List.mem_cons_self)
    have h2 : y ∉ r := fun e => h (List.mem_cons_of_mem _ e)
    show (if c = y then z else [c]) ++ rp1 y z r = _
    rw [if_neg h1, rp1_none h2]
    rfl
theorem rp1_hit (y : Nat) (z r : List Nat) : rp1 y z (y :: r) = z ++ rp1 y z r := by
  show (if y = y then z else [y]) ++ rp1 y z r = _
  rw [if_pos rfl]
theorem rp1_miss {y c : Nat} (z r : List Nat) (h : ¬ c = y) : rp1 y z (c :: r) = c :: rp1 y z r := by
  show (if c = y then z else [c]) ++ rp1 y z r = _
  rw [if_neg h]
  rfl
theorem nl_free (n : Nat) {s : Nat} (h : s < 48 ∨ 57 < s) : s ∉ nl n := TL.numL_free h
theorem rp1_nl (n y : Nat) (z : List Nat) (h : y < 48 ∨ 57 < y) : rp1 y z (nl n) = nl n := rp1_none (nl_free n h)
theorem rp_x (z : List Nat) (w h d c : Nat) : rp1 120 z (ct w h d c) = nl w ++ (z ++ (nl h ++ 58 :: (nl d ++ 58 :: nl c))) := by
  unfold ct
  rw [rp1_app, rp1_nl _ _ _ (by decide), rp1_hit, rp1_app, rp1_nl _ _ _ (by decide), rp1_miss _ _ (by decide), rp1_app, rp1_nl _ _ _ (by decide), rp1_miss _ _ (by decide), rp1_nl _ _ _ (by decide)]
theorem rp_c (z : List Nat) (w h d c : Nat) : rp1 58 z (ct w h d c) = nl w ++ 120 :: (nl h ++ (z ++ (nl d ++ (z ++ nl c)))) := by
  unfold ct
  rw [rp1_app, rp1_nl _ _ _ (by decide), rp1_miss _ _ (by decide), rp1_app, rp1_nl _ _ _ (by decide), rp1_hit, rp1_app, rp1_nl _ _ _ (by decide), rp1_hit, rp1_nl _ _ _ (by decide)]
theorem rp1_mem {y : Nat} {z a : List Nat} {k : Nat} (hz : ∀ c ∈ z, c < k) (ha : ∀ c ∈ a, c < k) : ∀ c ∈ rp1 y z a, c < k := fun c hc => by
  obtain ⟨b, hb, h⟩ := List.mem_flatMap.mp hc
  split at h
  · exact hz c h
  · rw [List.mem_singleton.mp h]
    exact ha b hb
theorem rp1_len {y x : Nat} {a : List Nat} : (rp1 y [x] a).length = a.length := by
  induction a with
  | nil => rfl
  | cons c r ih =>
    show ((if c = y then [x] else [c]) ++ rp1 y [x] r).length = _
    rw [List.length_append, ih, List.length_cons]
    split <;> simp <;> omega
theorem spl_in {s : Nat} {k : Nat} : ∀ (l acc : List Nat), (∀ c ∈ acc, c < k) → (∀ c ∈ l, c < k) → ∀ p ∈ TL.spl [s] 0 acc l, ∀ c ∈ p, c < k
  | [], acc, ha, _, p, hp, c, hc => by
    rw [TL.spl_nil, List.mem_singleton] at hp
    rw [hp] at hc
    exact ha c hc
  | x :: r, acc, ha, hl, p, hp, c, hc => by
    have hr : ∀ c ∈ r, c < k := fun c hc => hl c (List.mem_cons_of_mem _ hc)
    cases q : TL.pre [s] (x :: r) with
    | true =>
      rw [TL.spl_hit q] at hp
      rcases List.mem_cons.mp hp with e | hp
      · rw [e] at hc
        exact ha c hc
      · exact spl_in r [] (fun c hc => nomatch hc) hr p hp c hc
    | false =>
      rw [TL.spl_miss q] at hp
      exact spl_in r (acc ++ [x]) (fun c hc => by
        rcases List.mem_append.mp hc with z | z
        · exact ha c z
        · rw [List.mem_singleton.mp z]
          exact hl x List.mem_cons_self) hr p hp c hc
theorem spl_count {s : Nat} : ∀ (l acc : List Nat), (TL.spl [s] 0 acc l).length ≤ l.length + 1
  | [], acc => by rw [TL.spl_nil]; exact Nat.le_refl _
  | x :: r, acc => by
    cases q : TL.pre [s] (x :: r) with
    | true =>
      rw [TL.spl_hit q]
      have := spl_count (s := s) r []
      show (TL.spl [s] 0 [] r).length + 1 ≤ r.length + 1 + 1
      omega
    | false =>
      rw [TL.spl_miss q, List.length_cons]
      have := spl_count (s := s) r (acc ++ [x])
      omega
theorem spl_lens {s : Nat} : ∀ (l acc : List Nat), ∀ p ∈ TL.spl [s] 0 acc l, p.length ≤ acc.length + l.length
  | [], acc, p, hp => by
    rw [TL.spl_nil, List.mem_singleton] at hp
    rw [hp]
    exact Nat.le_refl _
  | x :: r, acc, p, hp => by
    cases q : TL.pre [s] (x :: r) with
    | true =>
      rw [TL.spl_hit q] at hp
      rcases List.mem_cons.mp hp with e | hp
      · rw [e]; omega
      · have := spl_lens r [] p hp
        rw [List.length_nil] at this
        rw [List.length_cons]
        omega
    | false =>
      rw [TL.spl_miss q] at hp
      have := spl_lens r (acc ++ [x]) p hp
      rw [List.length_append, List.length_singleton] at this
      rw [List.length_cons]
      omega
/-- the words that parse looks at -/
def wds (a : List Nat) : List (List Nat) := TL.spl [58] 0 [] (rp1 120 [58] a)
theorem words_eq (a : List Nat) : Txt.split (Txt.replace (S a) ("x" : Str) (":" : Str)) (":" : Str) = (wds a).map S := by
  rw [e_x, e_c, rep_S]
  exact SX.split_S (by simp) (by decide)
/-! k02 two -/
theorem dec_all : ∀ c : Fin 128, PySem.Unicode.isDecimal c.val = true → 48 ≤ c.val ∧ c.val ≤ 57 := by decide +kernel
theorem dec_dig : ∀ c : Fin 58, 48 ≤ c.val → PySem.Unicode.isDecimal c.val = true := by decide +kernel
theorem isdec_S {p : List Nat} (h : Txt.isdecimal (S p) = true) (ha : ∀ c ∈ p, c < 128) : p ≠ [] ∧ PySem.NumText.AllDigits p := by
  unfold Txt.isdecimal at h
  obtain ⟨h1, h2⟩ := Bool.and_eq_true_iff.mp h
  have h3 := of_decide_eq_true h1
  rw [SX.S_len] at h3
  refine ⟨fun e => by rw [e] at h3; exact absurd h3 (Nat.lt_irrefl _), fun c hc => ?_⟩
  have h4 : p.all PySem.Unicode.isDecimal = true := by
    rw [← Array.all_toList] at h2
    exact h2
  exact dec_all ⟨c, ha c hc⟩ (List.all_eq_true.mp h4 c hc)
theorem isdec_nl (n : Nat) : Txt.isdecimal (S (nl n)) = true := by
  unfold Txt.isdecimal
  rw [SX.S_len]
  refine Bool.and_eq_true_iff.mpr ⟨decide_eq_true (List.length_pos_iff.mpr (TL.numL_ne n)), ?_⟩
  rw [← Array.all_toList]
  refine List.all_eq_true.mpr fun c hc => ?_
  have d := TL.numL_digits n c hc
  exact dec_dig ⟨c, by omega⟩ d.1
theorem num_S {p : List Nat} (h : PySem.NumText.AllDigits p) (hne : p ≠ []) (hl : p.length ≤ 4000) : PySem.intText? (S p) = some ((PySem.NumText.digitsVal p : Nat) : Int) := PySem.intText_digits h hne (by rw [SX.S_len]; omega)
theorem num_nl {n : Nat} (h : n < 1000000) : numS (S (nl n)) = (n : Int) := by
  unfold numS
  rw [num_S (TL.numL_digits n) (TL.numL_ne n) (by have := nl_len h; show (nl n).length ≤ 4000; omega), TL.numL_val]
  rfl
theorem c1_ok {p : List Nat} (hl : p.length ≤ 100000) : F__numbers_in_c1 (S p) = .ok (!(Txt.isdecimal (S p)) || decide (3 < p.length)) := by
  unfold F__numbers_in_c1
  rw [SX.S_len, grd_pos (by omega), show decide (3 < ((p.length : Nat) : Int)) = decide (3 < p.length) from decide_eq_decide.mpr (by omega)]
/-- what _numbers_in gives: a refusal or four numbers -/
theorem numbers_gv {a : List Nat} (ha : ∀ c ∈ a, c < 128) (hl : a.length ≤ 10000) : F__numbers_in (S a) = .er 1 ∨ ∃ v : List Int, F__numbers_in (S a) = .ok v ∧ v.length = 4 ∧ (∀ x ∈ v, 0 ≤ x) ∧ v = (wds a).map fun p => numS (S p) := by
  have hr : (rp1 120 [58] a).length = a.length := rp1_len
  have hin : ∀ p ∈ wds a, ∀ c ∈ p, c < 128 := spl_in _ [] (fun c hc => nomatch hc) (rp1_mem (by decide) ha)
  have hcount := spl_count (s := 58) (rp1 120 [58] a) []
  have hlens := spl_lens (s := 58) (rp1 120 [58] a) []
  have hc : (wds a).length ≤ 10001 := by unfold wds; omega
  have hlen : ∀ p ∈ wds a, p.length ≤ 10000 := fun p hp => by
    have := hlens p hp
    rw [List.length_nil] at this
    omega
  unfold F__numbers_in
  have er : Txt.replace (S a) ("x" : Str) (":" : Str) = S (rp1 120 [58] a) := by rw [e_x, e_c, rep_S]
  rw [words_eq, er, SX.S_len, SX.S_len, grd_pos (by omega), grd_pos (by omega), List.length_map]
  by_cases h4 : ((wds a).length : Int) = 4
  · rw [if_pos h4, mapA_pure0 (f := fun x => noEr (F__numbers_in_c1 x)) (g := fun x => !(Txt.isdecimal x) || decide (3 < x.length)) (fun x hx => ?_) (by rw [List.length_map]; omega), bind_ok]
    · by_cases hany : List.any (((wds a).map S).map fun x => !(Txt.isdecimal x) || decide (3 < x.length)) id = true
      · rw [if_pos hany]
        exact .inl rfl
      · rw [if_neg hany]
        have hall : ∀ p ∈ wds a, Txt.isdecimal (S p) = true ∧ p.length ≤ 3 := fun p hp => by
          have h0 := Bool.not_eq_true _ ▸ hany
          have h1 := List.any_eq_false.mp h0 _ (List.mem_map.mpr ⟨S p, List.mem_map.mpr ⟨p, hp, rfl⟩, rfl⟩)
          have h2 : (!(Txt.isdecimal (S p)) || decide (3 < (S p).length)) = false := Bool.not_eq_true _ ▸ h1
          obtain ⟨h3, h5⟩ := Bool.or_eq_false_iff.mp h2
          have h6 := of_decide_eq_false h5
          rw [SX.S_len] at h6
          refine ⟨?_, by omega⟩
          cases q : Txt.isdecimal (S p) with
          | true => rfl
          | false =>
            rw [q] at h3
            cases h3
        have hnum : ∀ p ∈ wds a, PySem.intText? (S p) = some ((PySem.NumText.digitsVal p : Nat) : Int) := fun p hp => by
          obtain ⟨d1, d2⟩ := isdec_S (hall p hp).1 (hin p hp)
          exact num_S d2 d1 (by have := (hall p hp).2; omega)
        rw [mapA_pure0 (f := fun x => noEr (F__numbers_in_c2 x)) (g := numS) (fun x hx => ?_) (by rw [List.length_map]; omega), bind_ok]
        · refine .inr ⟨_, rfl, by rw [List.length_map, List.length_map]; omega, fun x hx => ?_, by rw [List.map_map]; rfl⟩
          obtain ⟨y, hy, rfl⟩ := List.mem_map.mp hx
          obtain ⟨p, hp, rfl⟩ := List.mem_map.mp hy
          unfold numS
          rw [hnum p hp]
          exact Int.natCast_nonneg _
        · obtain ⟨p, hp, rfl⟩ := List.mem_map.mp hx
          have := (hall p hp).2
          unfold F__numbers_in_c2
          rw [grd_pos ⟨by rw [hnum p hp]; rfl, by rw [SX.S_len]; omega⟩, noEr_ok]
    · obtain ⟨p, hp, rfl⟩ := List.mem_map.mp hx
      rw [c1_ok (by have := hlen p hp; omega), noEr_ok, SX.S_len]
  · rw [if_neg h4]
    exact .inl rfl
def Valid (w h d c : Nat) : Prop := (1 ≤ w ∧ w ≤ 256) ∧ (1 ≤ h ∧ h ≤ 256) ∧ (8 ≤ d ∧ d ≤ 12) ∧ c ≤ 2
theorem init_gv (w h d c : Int) : F_Format___init__ w h d c = .er 1 ∨ (F_Format___init__ w h d c = .ok ⟨w, h, d, c⟩ ∧ (1 ≤ w ∧ w ≤ 256) ∧ (1 ≤ h ∧ h ≤ 256) ∧ (8 ≤ d ∧ d ≤ 12) ∧ 0 ≤ c ∧ c ≤ 2) := by
  unfold F_Format___init__
  by_cases a : 1 ≤ w
  · by_cases b : w ≤ 256
    · by_cases e : 1 ≤ h
      · by_cases f : h ≤ 256
        · by_cases g : 8 ≤ d
          · by_cases i : d ≤ 12
            · by_cases j : 0 ≤ c
              · by_cases k : c ≤ 2
                · exact .inr ⟨by rw [if_pos a, if_pos b, if_pos e, if_pos f, if_pos g, if_pos i, if_pos j, if_pos k], ⟨a, b⟩, ⟨e, f⟩, ⟨g, i⟩, j, k⟩
                · exact .inl (by rw [if_pos a, if_pos b, if_pos e, if_pos f, if_pos g, if_pos i, if_pos j, if_neg k])
              · exact .inl (by rw [if_pos a, if_pos b, if_pos e, if_pos f, if_pos g, if_pos i, if_neg j])
            · exact .inl (by rw [if_pos a, if_pos b, if_pos e, if_pos f, if_pos g, if_neg i])
          · exact .inl (by rw [if_pos a, if_pos b, if_pos e, if_pos f, if_neg g])
        · exact .inl (by rw [if_pos a, if_pos b, if_pos e, if_neg f])
      · exact .inl (by rw [if_pos a, if_pos b, if_neg e])
    · exact .inl (by rw [if_pos a, if_neg b])
  · exact .inl (by rw [if_neg a])
theorem parse_gv {a : List Nat} (ha : ∀ c ∈ a, c < 128) (hl : a.length ≤ 10000) : F_Format_parse (S a) = .er 1 ∨ ∃ w h d c : Nat, Valid w h d c ∧ a = ct w h d c := by
  unfold F_Format_parse
  rcases numbers_gv ha hl with e | ⟨v, e, h4, h0, _⟩
  · rw [e, bind_er]
    exact .inl rfl
  · rw [e, bind_ok, grd_pos h4, bnd_eq, bnd_eq, bnd_eq, bnd_eq]
    rcases init_gv (itD v 0) (itD v 1) (itD v 2) (itD v 3) with e2 | ⟨e2, k1, k2, k3, k4, k5⟩
    · rw [e2, bind_er]
      exact .inl rfl
    · rw [e2, bind_ok, text_ok ⟨by show 0 ≤ itD v 0; omega, by show itD v 0 < _; omega⟩ ⟨by show 0 ≤ itD v 1; omega, by show itD v 1 < _; omega⟩ ⟨by show 0 ≤ itD v 2; omega, by show itD v 2 < _; omega⟩ ⟨by show 0 ≤ itD v 3; omega, by show itD v 3 < _; omega⟩, bind_ok]
      split
      · rename_i q
        refine .inr ⟨(itD v 0).toNat, (itD v 1).toNat, (itD v 2).toNat, (itD v 3).toNat, ⟨by omega, by omega, by omega, by omega⟩, ?_⟩
        have q1 := V.str.inj q
        exact (SX.S_inj q1).symm
      · exact .inl rfl
theorem parse_ok {w h d c : Nat} (hv : Valid w h d c) : F_Format_parse (S (ct w h d c)) = .ok ⟨w, h, d, c⟩ := by
  obtain ⟨k1, k2, k3, k4⟩ := id hv
  have n1 := nl3 (n := w) (by omega)
  have n2 := nl3 (n := h) (by omega)
  have n3 := nl3 (n := d) (by omega)
  have n4 := nl3 (n := c) (by omega)
  have ew : wds (ct w h d c) = [nl w, nl h, nl d, nl c] := by
    unfold wds
    rw [rp_x]
    exact TL.spl_join (s := 58) (S := []) (parts := [nl w, nl h, nl d, nl c]) (by simp) (fun p hp => by
      simp only [List.mem_cons, List.not_mem_nil, or_false] at hp
      rcases hp with rfl | rfl | rfl | rfl <;> exact nl_free _ (by decide))
  have num : F__numbers_in (S (ct w h d c)) = .ok [(w : Int), (h : Int), (d : Int), (c : Int)] := by
    have hl := ct_len (w := w) (h := h) (d := d) (c := c) (by omega) (by omega) (by omega) (by omega)
    unfold F__numbers_in
    have er : Txt.replace (S (ct w h d c)) ("x" : Str) (":" : Str) = S (rp1 120 [58] (ct w h d c)) := by rw [e_x, e_c, rep_S]
    rw [words_eq, er, SX.S_len, SX.S_len, rp1_len, grd_pos (by omega), grd_pos (by omega), ew]
    show (if (4 : Int) = 4 then _ else _) = _
    rw [if_pos rfl]
    have m1 : mapA ([nl w, nl h, nl d, nl c].map S) [] (fun x => noEr (F__numbers_in_c1 x)) = .ok [false, false, false, false] := by
      rw [mapA_pure0 (g := fun _ => false) (fun x hx => ?_) (by simp)]
      · rfl
      · obtain ⟨p, hp, rfl⟩ := List.mem_map.mp hx
        simp only [List.mem_cons, List.not_mem_nil, or_false] at hp
        rcases hp with rfl | rfl | rfl | rfl <;> rw [c1_ok (by omega), isdec_nl, noEr_ok] <;> (congr 1; simp; omega)
    have m2 : mapA ([nl w, nl h, nl d, nl c].map S) [] (fun x => noEr (F__numbers_in_c2 x)) = .ok [(w : Int), (h : Int), (d : Int), (c : Int)] := by
      rw [mapA_pure0 (g := numS) (fun x hx => ?_) (by simp)]
      · show Rx.ok [numS (S (nl w)), numS (S (nl h)), numS (S (nl d)), numS (S (nl c))] = _
        rw [num_nl (by omega), num_nl (by omega), num_nl (by omega), num_nl (by omega)]
      · obtain ⟨p, hp, rfl⟩ := List.mem_map.mp hx
        simp only [List.mem_cons, List.not_mem_nil, or_false] at hp
        unfold F__numbers_in_c2
        rcases hp with rfl | rfl | rfl | rfl <;> rw [grd_pos ⟨by rw [num_S (TL.numL_digits _) (TL.numL_ne _) (show (nl _).length ≤ 4000 by omega)]; rfl, by rw [SX.S_len]; omega⟩, noEr_ok]
    rw [m1, bind_ok, if_neg (by decide), m2, bind_ok]
  unfold F_Format_parse
  rw [num, bind_ok, grd_pos (show [(w : Int), (h : Int), (d : Int), (c : Int)].length = 4 from rfl), bnd_eq, bnd_eq, bnd_eq, bnd_eq]
  rw [show itD [(w : Int), (h : Int), (d : Int), (c : Int)] 0 = (w : Int) from rfl, show itD [(w : Int), (h : Int), (d : Int), (c : Int)] 1 = (h : Int) from rfl, show itD [(w : Int), (h : Int), (d : Int), (c : Int)] 2 = (d : Int) from rfl, show itD [(w : Int), (h : Int), (d : Int), (c : Int)] 3 = (c : Int) from rfl]
  rcases init_gv w h d c with e2 | ⟨e2, _⟩
  · exfalso
    unfold F_Format___init__ at e2
    rw [if_pos (by omega), if_pos (by omega), if_pos (by omega), if_pos (by omega), if_pos (by omega), if_pos (by omega), if_pos (by omega), if_pos (by omega)] at e2
    cases e2
  · rw [e2, bind_ok, text_ok ⟨by show 0 ≤ (w : Int); omega, by show (w : Int) < _; omega⟩ ⟨by show 0 ≤ (h : Int); omega, by show (h : Int) < _; omega⟩ ⟨by show 0 ≤ (d : Int); omega, by show (d : Int) < _; omega⟩ ⟨by show 0 ≤ (c : Int); omega, by show (c : Int) < _; omega⟩, bind_ok]
    show (if V.str (S (ct ((w : Nat) : Int).toNat ((h : Nat) : Int).toNat ((d : Nat) : Int).toNat ((c : Nat) : Int).toNat)) = _ then _ else _) = _
    rw [Int.toNat_natCast, Int.toNat_natCast, Int.toNat_natCast, Int.toNat_natCast, if_pos rfl]
/-! k02 three -/
/-- a text that is no written form -/
def Bad (t : Str) : Prop := ∃ a : List Nat, t = S a ∧ (∀ c ∈ a, c < 128) ∧ a.length ≤ 1000 ∧ ∀ w h d c : Nat, Valid w h d c → a ≠ ct w h d c
theorem refused_ok {t : Str} (b : Bad t) : F__law_refused t = .ok true := by
  obtain ⟨a, rfl, ha, hl, hn⟩ := b
  unfold F__law_refused
  rcases parse_gv ha (by omega) with e | ⟨w, h, d, c, hv, e⟩
  · rw [e]
    exact tryR_er (by decide) _ _
  · exact absurd e (hn w h d c hv)
def isD (c : Nat) : Bool := decide (48 ≤ c) && decide (c ≤ 57)
/-- the signs that are no digits -/
def nd (a : List Nat) : List Nat := a.filter fun c => !isD c
theorem nd_app (a b : List Nat) : nd (a ++ b) = nd a ++ nd b := List.filter_append ..
theorem nd_nl (n : Nat) : nd (nl n) = [] := by
  unfold nd
  refine List.filter_eq_nil_iff.mpr fun c hc => ?_
  have d := TL.numL_digits n c hc
  unfold isD
  rw [decide_eq_true d.1, decide_eq_true d.2]
  decide
theorem nd_out {c : Nat} (r : List Nat) (h : isD c = false) : nd (c :: r) = c :: nd r := by
  unfold nd
  rw [List.filter_cons_of_pos (by rw [h]; rfl)]
theorem nd_in {c : Nat} (r : List Nat) (h : isD c = true) : nd (c :: r) = nd r := by
  unfold nd
  rw [List.filter_cons_of_neg (by rw [h]; decide)]
theorem nd_ct (w h d c : Nat) : nd (ct w h d c) = [120, 58, 58] := by
  unfold ct
  rw [nd_app, nd_nl, nd_out _ rfl, nd_app, nd_nl, nd_out _ rfl, nd_app, nd_nl, nd_out _ rfl, nd_nl]
  rfl
theorem bad_nd {a : List Nat} (ha : ∀ c ∈ a, c < 128) (hl : a.length ≤ 1000) (h : nd a ≠ [120, 58, 58]) : Bad (S a) := ⟨a, rfl, ha, hl, fun w h1 d c _ e => h (by rw [e, nd_ct])⟩
theorem cut_uniq {s : Nat} : ∀ {A B R T : List Nat}, s ∉ A → s ∉ B → A ++ s :: R = B ++ s :: T → A = B ∧ R = T
  | [], [], _, _, _, _, e => ⟨rfl, (List.cons.inj e).2⟩
  | [], b :: B, _, _, _, hb, e => absurd (show s ∈ b :: B by rw [(List.cons.inj e).1]; exact List.mem_cons_self) hb
  | a :: A, [], _, _, ha, _, e => absurd (show s ∈ a :: A by rw [← (List.cons.inj e).1]; exact List.mem_cons_self) ha
  | a :: A, b :: B, R, T, ha, hb, e => by
    obtain ⟨e1, e2⟩ := List.cons.inj e
    obtain ⟨h1, h2⟩ := cut_uniq (fun z => ha (List.mem_cons_of_mem _ z)) (fun z => hb (List.mem_cons_of_mem _ z)) e2
    exact ⟨by rw [e1, h1], h2⟩
def Dg (A : List Nat) : Prop := ∀ c ∈ A, 48 ≤ c ∧ c ≤ 57
theorem Dg.free {A : List Nat} (h : Dg A) {s : Nat} (hs : s < 48 ∨ 57 < s) : s ∉ A := fun z => by
  have := h s z
  omega
theorem dg_nl (n : Nat) : Dg (nl n) := TL.numL_digits n
theorem dg_0 {A : List Nat} (h : Dg A) : Dg (48 :: A) := fun c hc => by
  rcases List.mem_cons.mp hc with e | e
  · omega
  · exact h c e
def four (A B C D : List Nat) : List Nat := A ++ 120 :: (B ++ 58 :: (C ++ 58 :: D))
theorem four_uniq {A B C D : List Nat} {w h d c : Nat} (a : Dg A) (b : Dg B) (e : Dg C) (h0 : four A B C D = ct w h d c) : A = nl w ∧ B = nl h ∧ C = nl d ∧ D = nl c := by
  unfold four ct at h0
  obtain ⟨h1, h2⟩ := cut_uniq (a.free (by decide)) (nl_free w (by decide)) h0
  obtain ⟨h3, h4⟩ := cut_uniq (b.free (by decide)) (nl_free h (by decide)) h2
  obtain ⟨h5, h6⟩ := cut_uniq (e.free (by decide)) (nl_free d (by decide)) h4
  exact ⟨h1, h3, h5, h6⟩
theorem four_lt {A B C D : List Nat} (a : Dg A) (b : Dg B) (e : Dg C) (f : Dg D) : ∀ x ∈ four A B C D, x < 128 := fun x hx => by
  unfold four at hx
  simp only [List.mem_append, List.mem_cons] at hx
  rcases hx with z | z | z | z | z | z | z
  · have := a x z; omega
  · omega
  · have := b x z; omega
  · omega
  · have := e x z; omega
  · omega
  · have := f x z; omega
theorem bad_four {A B C D : List Nat} (a : Dg A) (b : Dg B) (e : Dg C) (f : Dg D) (l : A.length + B.length + C.length + D.length ≤ 900) (n : ∀ w h d c : Nat, Valid w h d c → A = nl w → B = nl h → C = nl d → D = nl c → False) : Bad (S (four A B C D)) :=
  ⟨_, rfl, four_lt a b e f, by unfold four; simp only [List.length_append, List.length_cons]; omega, fun w h d c hv q => by
    obtain ⟨q1, q2, q3, q4⟩ := four_uniq a b e q
    exact n w h d c hv q1 q2 q3 q4⟩
theorem head_all : ∀ n : Fin 257, 1 ≤ n.val → (nl n.val).head? ≠ some 48 := by decide +kernel
theorem no_zero {n : Nat} {A : List Nat} (h1 : 1 ≤ n) (h2 : n ≤ 256) : 48 :: A ≠ nl n := fun e => head_all ⟨n, by omega⟩ h1 (by rw [← e]; rfl)
theorem one_sign {n : Nat} (h : n ≤ 2) : (nl n).length = 1 := by
  show (TL.numL n).length = 1
  rw [TL.numL_lt (by omega)]
  rfl
theorem lt_ct (w h d c : Nat) : ∀ x ∈ ct w h d c, x < 128 := four_lt (dg_nl w) (dg_nl h) (dg_nl d) (dg_nl c)
/-! k02 four -/
theorem sIx_p {n d : Nat} {v : Int} (h0 : 0 ≤ v) : HT.sIx n d (some v) = min v.toNat n := by
  show (if v < 0 then _ else _) = _
  rw [if_neg (by omega)]
theorem sIx_m {n d : Nat} {v : Int} (h0 : v < 0) : HT.sIx n d (some v) = (v + (n : Int)).toNat := by
  show (if v < 0 then _ else _) = _
  rw [if_pos h0]
theorem cutS_to {a : List Nat} {k : Int} (h0 : 0 ≤ k) : cutS (S a) none (some k) = S (a.take k.toNat) := TL.ext_tl (by
  show ((a.drop 0).take (HT.sIx (S a).length (S a).length (some k) - 0)) = a.take k.toNat
  rw [SX.S_len, sIx_p h0, List.drop_zero, Nat.sub_zero]
  by_cases c : k.toNat ≤ a.length
  · rw [Nat.min_eq_left c]
  · rw [Nat.min_eq_right (by omega), List.take_of_length_le (Nat.le_refl _), List.take_of_length_le (by omega)])
theorem cutS_from {a : List Nat} {k : Int} (h0 : 0 ≤ k) : cutS (S a) (some k) none = S (a.drop k.toNat) := TL.ext_tl (by
  show ((a.drop (HT.sIx (S a).length 0 (some k))).take ((S a).length - HT.sIx (S a).length 0 (some k))) = a.drop k.toNat
  rw [SX.S_len, sIx_p h0]
  by_cases c : k.toNat ≤ a.length
  · rw [Nat.min_eq_left c, List.take_of_length_le (by rw [List.length_drop]; omega)]
  · rw [Nat.min_eq_right (by omega), List.drop_of_length_le (Nat.le_refl _), List.drop_of_length_le (by omega), List.take_nil])
theorem cutS_last {a : List Nat} (h : a ≠ []) : cutS (S a) none (some (-1)) = S a.dropLast := TL.ext_tl (by
  have hl : 0 < a.length := List.length_pos_iff.mpr h
  show ((a.drop 0).take (HT.sIx (S a).length (S a).length (some (-1)) - 0)) = a.dropLast
  rw [SX.S_len, sIx_m (by decide), List.drop_zero, Nat.sub_zero, List.dropLast_eq_take, show (-1 + (a.length : Int)).toNat = a.length - 1 by omega])
/-- the signs that the law puts in -/
def sg : List Nat := [32, 33, 34, 35, 36, 38, 39, 40, 41, 42, 43, 44, 45, 46, 47, 58, 59, 60, 61, 62, 63, 64, 65, 66, 67, 68, 69, 70, 71, 72, 73, 74, 75, 76, 77, 78, 79, 80, 81, 82, 83, 84, 85, 86, 87, 88, 89, 90, 91, 92, 93, 94, 95, 96, 97, 98, 99, 100, 101, 102, 103, 104, 105, 106, 107, 108, 109, 110, 111, 112, 113, 114, 115, 116, 117, 118, 119, 120, 121, 122, 123, 124, 125, 126]
theorem e_sg : (" !\"#$&'()*+,-./:;<=>?@ABCDEFGHIJKLMNOPQRSTUVWXYZ[\\]^_`abcdefghijklmnopqrstuvwxyz{|}~" : Str) = S sg := TL.ext_tl (by decide +kernel)
theorem sg_ok : ∀ c ∈ sg, c < 128 ∧ isD c = false := by decide +kernel
theorem itN_at {xs : List Nat} {k : Int} (h0 : 0 ≤ k) (h1 : k < xs.length) : ∃ h : k.toNat < xs.length, itD xs k = xs[k.toNat] := by
  refine ⟨by omega, ?_⟩
  unfold itD atI ixN
  rw [if_pos (by omega), if_pos h1]
  show (xs[k.toNat]?).getD default = _
  rw [List.getElem?_eq_getElem (by omega)]
  rfl
theorem bad_put {w h d c k s : Nat} (hs : s < 128 ∧ isD s = false) (hl : (ct w h d c).length ≤ 900) : Bad (S ((ct w h d c).take k ++ ([s] ++ (ct w h d c).drop k))) := by
  have e := nd_ct w h d c
  generalize ha : ct w h d c = a at e hl
  have e2 : nd (a.take k) ++ nd (a.drop k) = [120, 58, 58] := by rw [← nd_app, List.take_append_drop, e]
  refine bad_nd (fun x hx => ?_) ?_ ?_
  · rcases List.mem_append.mp hx with z | z
    · exact lt_ct w h d c x (ha ▸ List.mem_of_mem_take z)
    · rcases List.mem_append.mp z with z | z
      · rw [List.mem_singleton.mp z]
        exact hs.1
      · exact lt_ct w h d c x (ha ▸ List.mem_of_mem_drop z)
  · rw [List.length_append, List.length_append, List.length_take, List.length_drop]
    show _ + (1 + _) ≤ _
    omega
  · rw [nd_app]
    show nd (a.take k) ++ nd (s :: a.drop k) ≠ _
    rw [nd_out _ hs.2]
    intro q
    have l1 := congrArg List.length e2
    have l2 := congrArg List.length q
    rw [List.length_append] at l1 l2
    rw [List.length_cons] at l2
    change _ = 3 at l1
    change _ = 3 at l2
    omega
theorem bad_swap {w h d c k s : Nat} (hs : s < 128 ∧ isD s = false) (hl : (ct w h d c).length ≤ 900) (hk : k < (ct w h d c).length) (hne : s ≠ (ct w h d c)[k]) : Bad (S ((ct w h d c).take k ++ ([s] ++ (ct w h d c).drop (k + 1)))) := by
  have e := nd_ct w h d c
  generalize ha : ct w h d c = a at e hl hk
  have hne2 : s ≠ a[k] := by
    subst ha
    exact hne
  have e2 : nd (a.take k) ++ nd (a[k] :: a.drop (k + 1)) = [120, 58, 58] := by rw [← nd_app, ← List.drop_eq_getElem_cons hk, List.take_append_drop, e]
  refine bad_nd (fun x hx => ?_) ?_ ?_
  · rcases List.mem_append.mp hx with z | z
    · exact lt_ct w h d c x (ha ▸ List.mem_of_mem_take z)
    · rcases List.mem_append.mp z with z | z
      · rw [List.mem_singleton.mp z]
        exact hs.1
      · exact lt_ct w h d c x (ha ▸ List.mem_of_mem_drop z)
  · rw [List.length_append, List.length_append, List.length_take, List.length_drop]
    show _ + (1 + _) ≤ _
    omega
  · rw [nd_app]
    show nd (a.take k) ++ nd (s :: a.drop (k + 1)) ≠ _
    rw [nd_out _ hs.2]
    intro q
    cases dx : isD a[k] with
    | true =>
      rw [nd_in _ dx] at e2
      have l1 := congrArg List.length e2
      have l2 := congrArg List.length q
      rw [List.length_append] at l1 l2
      rw [List.length_cons] at l2
      change _ = 3 at l1
      change _ = 3 at l2
      omega
    | false =>
      rw [nd_out _ dx] at e2
      have e3 := List.append_cancel_left (q.trans e2.symm)
      exact hne2 (List.cons.inj e3).1
theorem signs_gv {w h d c : Nat} (hv : Valid w h d c) (cells : List Int) : cells.length ≤ 100 → Gv (F__law_other_signs (S (ct w h d c)) cells) (fun L => (∀ t ∈ L, Bad t) ∧ L.length ≤ 2 * cells.length) := by
  intro hc
  obtain ⟨k1, k2, k3, k4⟩ := id hv
  have hl := ct_len (w := w) (h := h) (d := d) (c := c) (by omega) (by omega) (by omega) (by omega)
  have hp : 0 < (ct w h d c).length := by
    unfold ct
    simp only [List.length_append, List.length_cons]
    omega
  unfold F__law_other_signs
  rw [e_sg]
  refine Gv.bind (Gv.forS (P := fun i (L : List Str) => (∀ t ∈ L, Bad t) ∧ L.length ≤ 2 * i) ⟨fun t ht => absurd ht List.not_mem_nil, Nat.le_refl _⟩ fun i x L hx p => ?_) fun L p => .ok p
  have hi := get_len hx
  obtain ⟨p1, p2⟩ := p
  unfold F__law_other_signs_b1
  have sl : sg.length = 84 := by decide
  rw [SX.S_len, SX.S_len, sl]
  refine Gv.grd (by omega) (Gv.grd (by omega) (Gv.bind (draws_gv x [((84 : Nat) : Int), (((ct w h d c).length : Nat) : Int)] (fun l hl2 => by
    rcases List.mem_cons.mp hl2 with rfl | hl2
    · decide
    · rw [List.mem_singleton.mp hl2]; omega) (by simp)) fun v hv2 => ?_))
  obtain ⟨s0, r0, rfl, s1, s2, h2⟩ := hv2.cons
  obtain ⟨a0, r1, rfl, a1, a2, h3⟩ := h2.cons
  obtain rfl := h3.nil
  rw [show itD [s0, a0] 0 = s0 from rfl, show itD [s0, a0] 1 = a0 from rfl]
  obtain ⟨hs, es⟩ := itN_at (xs := sg) s1 (by rw [sl]; exact s2)
  obtain ⟨hk, ek⟩ := itN_at (xs := ct w h d c) a1 a2
  have so := sg_ok _ (List.getElem_mem hs)
  have e1 : sgnS (S sg) s0 = S [sg[s0.toNat]] := by
    show S [itD sg s0] = _
    rw [es]
  have e2 : sgnS (S (ct w h d c)) a0 = S [(ct w h d c)[a0.toNat]] := by
    show S [itD (ct w h d c) a0] = _
    rw [ek]
  have e3 := cutS_to (a := ct w h d c) a1
  have e4 := cutS_from (a := ct w h d c) a1
  have e5 := cutS_from (a := ct w h d c) (k := a0 + 1) (by omega)
  simp only [bnd_eq]
  rw [e1, e2, e3, e4, e5, show (a0 + 1).toNat = a0.toNat + 1 by omega]
  simp only [SX.S_cat, SX.S_len, List.append_assoc, List.length_append, List.length_cons, List.length_nil, List.length_take, List.length_drop]
  have b1 : Bad (S ((ct w h d c).take a0.toNat ++ ([sg[s0.toNat]] ++ (ct w h d c).drop a0.toNat))) := bad_put so (by omega)
  have q1 : ∀ t ∈ L ++ [S ((ct w h d c).take a0.toNat ++ ([sg[s0.toNat]] ++ (ct w h d c).drop a0.toNat))], Bad t := fun t ht => by
    rcases List.mem_append.mp ht with z | z
    · exact p1 t z
    · rw [List.mem_singleton.mp z]
      exact b1
  refine Gv.grd (by omega) (Gv.grd ⟨by omega, by omega, by show s0 < ((sg.length : Nat) : Int); rw [sl]; exact s2⟩ (Gv.grd (by omega) ?_))
  refine Gv.grd (by omega) (Gv.grd (by omega) (Gv.grd (by omega) (Gv.grd (by omega) (Gv.grd (by omega) ?_))))
  refine Gv.grd ⟨by omega, by omega, a2⟩ (Gv.ite (fun _ => .ok ⟨q1, by rw [List.length_append, List.length_singleton]; omega⟩) fun hne => ?_)
  have b2 := bad_swap (w := w) (h := h) (d := d) (c := c) (k := a0.toNat) so (by omega) hk (fun q => hne (by rw [q]))
  refine Gv.grd (by omega) (Gv.grd (by omega) (Gv.grd (by omega) (Gv.grd (by omega) (Gv.grd (by omega) (.ok ?_)))))
  refine ⟨fun t ht => ?_, by rw [List.length_append, List.length_append, List.length_singleton, List.length_singleton]; omega⟩
  rcases List.mem_append.mp ht with z | z
  · exact p1 t z
  · rcases List.mem_append.mp z with z | z
    · rw [List.mem_singleton.mp z]
      exact b1
    · rw [List.mem_singleton.mp z]
      exact b2
/-! k02 five -/
theorem e_s0 : ("0" : Str) = S [48] := TL.ext_tl (by decide +kernel)
theorem e_pl : ("+" : Str) = S [43] := TL.ext_tl (by decide +kernel)
theorem e_mi : ("-" : Str) = S [45] := TL.ext_tl (by decide +kernel)
theorem e_sp : (" " : Str) = S [32] := TL.ext_tl (by decide +kernel)
theorem e_lf : ("\n" : Str) = S [10] := TL.ext_tl (by decide +kernel)
theorem e_X : ("X" : Str) = S [88] := TL.ext_tl (by decide +kernel)
theorem e_sc : (";" : Str) = S [59] := TL.ext_tl (by decide +kernel)
theorem e_sx : (" x" : Str) = S [32, 120] := TL.ext_tl (by decide +kernel)
theorem e_cs : (": " : Str) = S [58, 32] := TL.ext_tl (by decide +kernel)
theorem e_cc : ("::" : Str) = S [58, 58] := TL.ext_tl (by decide +kernel)
theorem e_c0 : (":0" : Str) = S [58, 48] := TL.ext_tl (by decide +kernel)
theorem e_x0 : ("x0" : Str) = S [120, 48] := TL.ext_tl (by decide +kernel)
theorem e_e : ("" : Str) = S [] := TL.ext_tl (by decide +kernel)
theorem bads_cons {t : Str} {L : List Str} (h : Bad t) (r : ∀ u ∈ L, Bad u) : ∀ u ∈ t :: L, Bad u := fun u hu => by
  rcases List.mem_cons.mp hu with e | e
  · rw [e]
    exact h
  · exact r u e
theorem bads_nil : ∀ t ∈ ([] : List Str), Bad t := fun _ h => absurd h List.not_mem_nil
theorem bads_app {L M : List Str} (h : ∀ t ∈ L, Bad t) (r : ∀ t ∈ M, Bad t) : ∀ t ∈ L ++ M, Bad t := fun u hu => (List.mem_append.mp hu).elim (h u) (r u)
theorem nil_ne (n : Nat) : [] ≠ nl n := fun e => TL.numL_ne n e.symm
theorem dropLast_ct {w h d c : Nat} (hc : c ≤ 2) : (ct w h d c).dropLast = four (nl w) (nl h) (nl d) [] := by
  have e : nl c = [48 + c] := TL.numL_lt (by omega)
  unfold ct four
  rw [e]
  have z : nl w ++ 120 :: (nl h ++ 58 :: (nl d ++ 58 :: [48 + c])) = (nl w ++ 120 :: (nl h ++ 58 :: (nl d ++ 58 :: []))) ++ [48 + c] := by simp
  rw [z, List.dropLast_concat]
/-- the last sign is no digit of its own -/
theorem bad_last {w h d : Nat} {D : List Nat} (f : Dg D) (l : (nl w).length + (nl h).length + (nl d).length + D.length ≤ 900) (n : D.length ≠ 1) : Bad (S (four (nl w) (nl h) (nl d) D)) :=
  bad_four (dg_nl w) (dg_nl h) (dg_nl d) f l fun _ _ _ c2 hv _ _ _ q => n (by rw [q]; exact one_sign hv.2.2.2)
/-- a text whose signs are not those -/
theorem nds {a : List Nat} {k : List Nat} (ha : ∀ c ∈ a, c < 128) (hl : a.length ≤ 1000) (e : nd a = k) (h : k ≠ [120, 58, 58]) : Bad (S a) := bad_nd ha hl (by rw [e]; exact h)
theorem lt_app {a b : List Nat} (h : ∀ c ∈ a, c < 128) (r : ∀ c ∈ b, c < 128) : ∀ c ∈ a ++ b, c < 128 := fun c hc => (List.mem_append.mp hc).elim (h c) (r c)
theorem lt_cons {x : Nat} {b : List Nat} (h : x < 128) (r : ∀ c ∈ b, c < 128) : ∀ c ∈ x :: b, c < 128 := fun c hc => (List.mem_cons.mp hc).elim (fun e => by rw [e]; exact h) (r c)
theorem lt_nil : ∀ c ∈ ([] : List Nat), c < 128 := fun _ h => absurd h List.not_mem_nil
theorem lt_nl (n : Nat) : ∀ c ∈ nl n, c < 128 := fun c hc => by
  have := dg_nl n c hc
  omega
/-! k02 six -/
theorem bad_first {w h d c : Nat} (hv : Valid w h d c) : ∀ t ∈ ([S [], S (48 :: ct w h d c), S (43 :: ct w h d c), S (45 :: ct w h d c), S (32 :: ct w h d c), S (ct w h d c ++ [32]), S (ct w h d c ++ [10]), S (ct w h d c).dropLast, S (ct w h d c ++ [58]), S (120 :: ct w h d c)] : List Str), Bad t := by
  obtain ⟨k1, k2, k3, k4⟩ := id hv
  have hl := ct_len (w := w) (h := h) (d := d) (c := c) (by omega) (by omega) (by omega) (by omega)
  have n1 := nl3 (n := w) (by omega)
  have n2 := nl3 (n := h) (by omega)
  have n3 := nl3 (n := d) (by omega)
  have n4 := nl3 (n := c) (by omega)
  have L := lt_ct w h d c
  have N := nd_ct w h d c
  have pre : ∀ s : Nat, s < 128 → isD s = false → Bad (S (s :: ct w h d c)) := fun s h1 h2 => nds (lt_cons h1 L) (by rw [List.length_cons]; omega) (by rw [nd_out _ h2, N]) (fun e => by simpa using congrArg List.length e)
  have suf : ∀ s : Nat, s < 128 → isD s = false → Bad (S (ct w h d c ++ [s])) := fun s h1 h2 => nds (lt_app L (lt_cons h1 lt_nil)) (by rw [List.length_append, List.length_singleton]; omega) (by rw [nd_app, N, nd_out _ h2] <;> rfl) (fun e => by simpa [nd] using congrArg List.length e)
  refine bads_cons (nds lt_nil (by simp) rfl (by decide)) (bads_cons ?_ (bads_cons (pre 43 (by decide) rfl) (bads_cons (pre 45 (by decide) rfl) (bads_cons (pre 32 (by decide) rfl) (bads_cons (suf 32 (by decide) rfl) (bads_cons (suf 10 (by decide) rfl) (bads_cons ?_ (bads_cons (suf 58 (by decide) rfl) (bads_cons (pre 120 (by decide) rfl) bads_nil)))))))))
  · exact bad_four (A := 48 :: nl w) (dg_0 (dg_nl w)) (dg_nl h) (dg_nl d) (dg_nl c) (by rw [List.length_cons]; omega) fun w2 _ _ _ hv2 q _ _ _ => no_zero hv2.1.1 hv2.1.2 q
  · rw [dropLast_ct k4]
    exact bad_last (D := []) (fun _ h => absurd h List.not_mem_nil) (by simp; omega) (by simp)
theorem bad_repl {w h d c : Nat} (hv : Valid w h d c) : ∀ t ∈ ([S (rp1 120 [88] (ct w h d c)), S (rp1 58 [59] (ct w h d c)), S (rp1 58 [120] (ct w h d c)), S (rp1 120 [58] (ct w h d c)), S (rp1 120 [32, 120] (ct w h d c)), S (rp1 58 [58, 32] (ct w h d c)), S (rp1 58 [58, 58] (ct w h d c))] : List Str), Bad t := by
  obtain ⟨k1, k2, k3, k4⟩ := id hv
  have n1 := nl3 (n := w) (by omega)
  have n2 := nl3 (n := h) (by omega)
  have n3 := nl3 (n := d) (by omega)
  have n4 := nl3 (n := c) (by omega)
  have X : ∀ z : List Nat, (∀ x ∈ z, x < 128) → z.length ≤ 5 → nd z ++ [58, 58] ≠ [120, 58, 58] → Bad (S (rp1 120 z (ct w h d c))) := fun z h1 h2 h3 => nds (rp1_mem h1 (lt_ct w h d c)) (by rw [rp_x]; simp only [List.length_append, List.length_cons]; omega) (by rw [rp_x, nd_app, nd_nl, nd_app, nd_app, nd_nl, nd_out _ rfl, nd_app, nd_nl, nd_out _ rfl, nd_nl] <;> rfl) h3
  have C : ∀ z : List Nat, (∀ x ∈ z, x < 128) → z.length ≤ 5 → 120 :: (nd z ++ nd z) ≠ [120, 58, 58] → Bad (S (rp1 58 z (ct w h d c))) := fun z h1 h2 h3 => nds (rp1_mem h1 (lt_ct w h d c)) (by rw [rp_c]; simp only [List.length_append, List.length_cons]; omega) (by rw [rp_c, nd_app, nd_nl, nd_out _ rfl, nd_app, nd_nl, nd_app, nd_app, nd_nl, nd_app, nd_nl, List.append_nil] <;> rfl) h3
  exact (bads_cons (X [88] (by decide) (by decide) (by decide)) (bads_cons (C [59] (by decide) (by decide) (by decide)) (bads_cons (C [120] (by decide) (by decide) (by decide)) (bads_cons (X [58] (by decide) (by decide) (by decide)) (bads_cons (X [32, 120] (by decide) (by decide) (by decide)) (bads_cons (C [58, 32] (by decide) (by decide) (by decide)) (bads_cons (C [58, 58] (by decide) (by decide) (by decide)) bads_nil)))))))
theorem bad_parts {w h d c : Nat} (hv : Valid w h d c) : ∀ t ∈ ([S (nl w ++ 120 :: (nl h ++ 58 :: nl d)), S (nl w ++ 120 :: nl h), S (nl w), S (ct w h d c ++ 58 :: nl c), S (four (nl w) (48 :: nl h) (nl d) (nl c)), S (four (nl w) (nl h) (nl d) (48 :: nl c)), S (ct w h d c ++ [48]), S (ct w h d c ++ [120]), S (four (nl w) (nl h) (48 :: nl d) (48 :: nl c)), S (four (48 :: nl w) (nl h) (nl d) (nl c)), S (four (nl w) (nl h) (48 :: nl d) (nl c))] : List Str), Bad t := by
  obtain ⟨k1, k2, k3, k4⟩ := id hv
  have hl := ct_len (w := w) (h := h) (d := d) (c := c) (by omega) (by omega) (by omega) (by omega)
  have n1 := nl3 (n := w) (by omega)
  have n2 := nl3 (n := h) (by omega)
  have n3 := nl3 (n := d) (by omega)
  have n4 := nl3 (n := c) (by omega)
  have p4 : 1 ≤ (nl c).length := List.length_pos_iff.mpr (TL.numL_ne c)
  have L := lt_ct w h d c
  have N := nd_ct w h d c
  refine bads_cons ?_ (bads_cons ?_ (bads_cons ?_ (bads_cons ?_ (bads_cons ?_ (bads_cons ?_ (bads_cons ?_ (bads_cons ?_ (bads_cons ?_ (bads_cons ?_ (bads_cons ?_ bads_nil))))))))))
  · exact nds (lt_app (lt_nl w) (lt_cons (by decide) (lt_app (lt_nl h) (lt_cons (by decide) (lt_nl d))))) (by simp only [List.length_append, List.length_cons]; omega) (by rw [nd_app, nd_nl, nd_out _ rfl, nd_app, nd_nl, nd_out _ rfl, nd_nl] <;> rfl) (by decide)
  · exact nds (lt_app (lt_nl w) (lt_cons (by decide) (lt_nl h))) (by simp only [List.length_append, List.length_cons]; omega) (by rw [nd_app, nd_nl, nd_out _ rfl, nd_nl] <;> rfl) (by decide)
  · exact nds (lt_nl w) (by omega) (nd_nl w) (by decide)
  · exact nds (lt_app L (lt_cons (by decide) (lt_nl c))) (by simp only [List.length_append, List.length_cons]; omega) (by rw [nd_app, N, nd_out _ rfl, nd_nl] <;> rfl) (by decide)
  · exact bad_four (dg_nl w) (dg_0 (dg_nl h)) (dg_nl d) (dg_nl c) (by rw [List.length_cons]; omega) fun _ h2 _ _ hv2 _ q _ _ => no_zero hv2.2.1.1 hv2.2.1.2 q
  · exact bad_last (dg_0 (dg_nl c)) (by rw [List.length_cons]; omega) (by rw [List.length_cons]; omega)
  · have e : ct w h d c ++ [48] = four (nl w) (nl h) (nl d) (nl c ++ [48]) := by unfold ct four; simp
    rw [e]
    refine bad_last (fun x hx => ?_) (by rw [List.length_append, List.length_singleton]; omega) (by rw [List.length_append, List.length_singleton]; omega)
    rcases List.mem_append.mp hx with z | z
    · exact dg_nl c x z
    · have := List.mem_singleton.mp z
      omega
  · exact nds (lt_app L (lt_cons (by decide) lt_nil)) (by rw [List.length_append, List.length_singleton]; omega) (by rw [nd_app, N, nd_out _ rfl] <;> rfl) (by decide)
  · exact bad_four (dg_nl w) (dg_nl h) (dg_0 (dg_nl d)) (dg_0 (dg_nl c)) (by rw [List.length_cons, List.length_cons]; omega) fun _ _ d2 _ hv2 _ _ q _ => no_zero (by have := hv2.2.2.1.1; omega) (by have := hv2.2.2.1.2; omega) q
  · exact bad_four (dg_0 (dg_nl w)) (dg_nl h) (dg_nl d) (dg_nl c) (by rw [List.length_cons]; omega) fun _ _ _ _ hv2 q _ _ _ => no_zero hv2.1.1 hv2.1.2 q
  · exact bad_four (dg_nl w) (dg_nl h) (dg_0 (dg_nl d)) (dg_nl c) (by rw [List.length_cons]; omega) fun _ _ d2 _ hv2 _ _ q _ => no_zero (by have := hv2.2.2.1.1; omega) (by have := hv2.2.2.1.2; omega) q
/-- a number that is not of its range -/
theorem bad_num {w h d c : Nat} (hw : w < 1000000) (hh : h < 1000000) (hd : d < 1000000) (hc : c < 1000000) (n : ¬ Valid w h d c) : Bad (S (ct w h d c)) := by
  have a := nl_len hw
  have b := nl_len hh
  have e := nl_len hd
  have f := nl_len hc
  exact bad_four (A := nl w) (B := nl h) (C := nl d) (D := nl c) (dg_nl w) (dg_nl h) (dg_nl d) (dg_nl c) (by omega) fun w2 h2 d2 c2 hv q1 q2 q3 q4 => n (by
    have r1 := TL.numL_inj q1
    have r2 := TL.numL_inj q2
    have r3 := TL.numL_inj q3
    have r4 := TL.numL_inj q4
    rw [r1, r2, r3, r4]
    exact hv)
/-! k02 seven -/
section
variable {α : Type} [Inhabited α] (a b c d y : α)
theorem it4_0 : itD [a, b, c, d] 0 = a := rfl
theorem it4_1 : itD [a, b, c, d] 1 = b := rfl
theorem it4_2 : itD [a, b, c, d] 2 = c := rfl
theorem it4_3 : itD [a, b, c, d] 3 = d := rfl
theorem set4_0 : setL [a, b, c, d] 0 y = [y, b, c, d] := rfl
theorem set4_1 : setL [a, b, c, d] 1 y = [a, y, c, d] := rfl
theorem set4_2 : setL [a, b, c, d] 2 y = [a, b, y, d] := rfl
theorem set4_3 : setL [a, b, c, d] 3 y = [a, b, c, y] := rfl
end
theorem rp_c0 (w h d c : Nat) : rp1 58 [58, 48] (ct w h d c) = four (nl w) (nl h) (48 :: nl d) (48 :: nl c) := by
  rw [rp_c]
  rfl
theorem mem_bad {L : List Str} {t : Str} (h : ∀ u ∈ L, Bad u) (m : t ∈ L) : Bad t := h t m
theorem b2_gv {w h d c : Nat} (hv : Valid w h d c) {num : Int} (h0 : 0 ≤ num) (h1 : num < 100000) {L : List Str} (p : ∀ t ∈ L, Bad t) (hl : L.length ≤ 1000) {k : Int} (hk : k = 0 ∨ k = 1 ∨ k = 2 ∨ k = 3) :
    Gv (F__law_bad_b2 (S (ct w h d c)) [(w : Int), (h : Int), (d : Int), (c : Int)] num [S (nl w), S (nl h), S (nl d), S (nl c)] L k) (fun M => (∀ t ∈ M, Bad t) ∧ M.length = L.length + 4) := by
  obtain ⟨k1, k2, k3, k4⟩ := id hv
  have hc := ct_len (w := w) (h := h) (d := d) (c := c) (by omega) (by omega) (by omega) (by omega)
  have n1 := nl3 (n := w) (by omega)
  have n2 := nl3 (n := h) (by omega)
  have n3 := nl3 (n := d) (by omega)
  have n4 := nl3 (n := c) (by omega)
  have B := bad_parts hv
  have z0 : Bad (S (four (48 :: nl w) (nl h) (nl d) (nl c))) := mem_bad B (by simp)
  have z1 : Bad (S (four (nl w) (48 :: nl h) (nl d) (nl c))) := mem_bad B (by simp)
  have z2 : Bad (S (four (nl w) (nl h) (48 :: nl d) (nl c))) := mem_bad B (by simp)
  have z3 : Bad (S (four (nl w) (nl h) (nl d) (48 :: nl c))) := mem_bad B (by simp)
  have zr : Bad (S (four (nl w) (nl h) (48 :: nl d) (48 :: nl c))) := mem_bad B (by simp)
  unfold four at z0 z1 z2 z3 zr
  have fin : ∀ a b e f : Str, Bad a → Bad b → Bad e → Bad f → (∀ t ∈ ((L ++ [a, b]) ++ [e]) ++ [f], Bad t) ∧ (((L ++ [a, b]) ++ [e]) ++ [f]).length = L.length + 4 := fun a b e f ha hb he hf =>
    ⟨bads_app (bads_app (bads_app p (bads_cons ha (bads_cons hb bads_nil))) (bads_cons he bads_nil)) (bads_cons hf bads_nil), by simp⟩
  unfold F__law_bad_b2
  rcases hk with rfl | rfl | rfl | rfl
  · simp only [it4_0, it4_1, it4_2, it4_3, set4_0, set4_1, set4_2, set4_3, bnd_eq, e_s0, e_x, e_c, e_c0, rep_S, rp_c0, SX.S_cat, SX.S_len, List.append_assoc, List.singleton_append, List.cons_append, List.nil_append, List.length_append, List.length_cons, List.length_nil]
    repeat (refine Gv.grd (by omega) ?_)
    refine Gv.bind_eq (ltext_ok (by omega) (by omega) (by omega) (by omega)) ?_
    try simp only [List.length_append, List.length_cons, List.length_nil, List.append_assoc]
    repeat (refine Gv.grd (by omega) ?_)
    refine Gv.bind_eq (ltext_ok (by omega) (by omega) (by omega) (by omega)) ?_
    try simp only [List.length_append, List.length_cons, List.length_nil, List.append_assoc]
    repeat (refine Gv.grd (by omega) ?_)
    refine .ok ?_
    have f := fin _ _ _ _ z0 zr (bad_num (w := (257 + num).toNat) (h := h) (d := d) (c := c) (by omega) (by omega) (by omega) (by omega) (fun q => by have := q.1.2; omega)) (bad_num (w := 0) (h := h) (d := d) (c := c) (by omega) (by omega) (by omega) (by omega) (fun q => by have := q.1.1; omega))
    simpa [four] using f
  · simp only [it4_0, it4_1, it4_2, it4_3, set4_0, set4_1, set4_2, set4_3, bnd_eq, e_s0, e_x, e_c, e_c0, rep_S, rp_c0, SX.S_cat, SX.S_len, List.append_assoc, List.singleton_append, List.cons_append, List.nil_append, List.length_append, List.length_cons, List.length_nil]
    repeat (refine Gv.grd (by omega) ?_)
    refine Gv.bind_eq (ltext_ok (by omega) (by omega) (by omega) (by omega)) ?_
    try simp only [List.length_append, List.length_cons, List.length_nil, List.append_assoc]
    repeat (refine Gv.grd (by omega) ?_)
    refine Gv.bind_eq (ltext_ok (by omega) (by omega) (by omega) (by omega)) ?_
    try simp only [List.length_append, List.length_cons, List.length_nil, List.append_assoc]
    repeat (refine Gv.grd (by omega) ?_)
    refine .ok ?_
    have f := fin _ _ _ _ z1 zr (bad_num (w := w) (h := (257 + num).toNat) (d := d) (c := c) (by omega) (by omega) (by omega) (by omega) (fun q => by have := q.2.1.2; omega)) (bad_num (w := w) (h := 0) (d := d) (c := c) (by omega) (by omega) (by omega) (by omega) (fun q => by have := q.2.1.1; omega))
    simpa [four] using f
  · simp only [it4_0, it4_1, it4_2, it4_3, set4_0, set4_1, set4_2, set4_3, bnd_eq, e_s0, e_x, e_c, e_c0, rep_S, rp_c0, SX.S_cat, SX.S_len, List.append_assoc, List.singleton_append, List.cons_append, List.nil_append, List.length_append, List.length_cons, List.length_nil]
    repeat (refine Gv.grd (by omega) ?_)
    refine Gv.bind_eq (ltext_ok (by omega) (by omega) (by omega) (by omega)) ?_
    try simp only [List.length_append, List.length_cons, List.length_nil, List.append_assoc]
    repeat (refine Gv.grd (by omega) ?_)
    refine Gv.bind_eq (ltext_ok (by omega) (by omega) (by omega) (by omega)) ?_
    try simp only [List.length_append, List.length_cons, List.length_nil, List.append_assoc]
    repeat (refine Gv.grd (by omega) ?_)
    refine .ok ?_
    have f := fin _ _ _ _ z2 zr (bad_num (w := w) (h := h) (d := (13 + num).toNat) (c := c) (by omega) (by omega) (by omega) (by omega) (fun q => by have := q.2.2.1.2; omega)) (bad_num (w := w) (h := h) (d := 7) (c := c) (by omega) (by omega) (by omega) (by omega) (fun q => by have := q.2.2.1.1; omega))
    simpa [four] using f
  · simp only [it4_0, it4_1, it4_2, it4_3, set4_0, set4_1, set4_2, set4_3, bnd_eq, e_s0, e_x, e_c, e_c0, rep_S, rp_c0, SX.S_cat, SX.S_len, List.append_assoc, List.singleton_append, List.cons_append, List.nil_append, List.length_append, List.length_cons, List.length_nil]
    repeat (refine Gv.grd (by omega) ?_)
    refine Gv.bind_eq (ltext_ok (by omega) (by omega) (by omega) (by omega)) ?_
    try simp only [List.length_append, List.length_cons, List.length_nil, List.append_assoc]
    repeat (refine Gv.grd (by omega) ?_)
    refine Gv.bind_eq (ltext_ok (by omega) (by omega) (by omega) (by omega)) ?_
    try simp only [List.length_append, List.length_cons, List.length_nil, List.append_assoc]
    repeat (refine Gv.grd (by omega) ?_)
    refine .ok ?_
    have f := fin _ _ _ _ z3 zr (bad_num (w := w) (h := h) (d := d) (c := (3 + num).toNat) (by omega) (by omega) (by omega) (by omega) (fun q => by have := q.2.2.2; omega)) (bad_num (w := w) (h := h) (d := d) (c := 7) (by omega) (by omega) (by omega) (by omega) (fun q => by have := q.2.2.2; omega))
    simpa [four] using f
/-! k02 eight -/
theorem strs_ok {w h d c : Nat} (hv : Valid w h d c) : mapA [(w : Int), (h : Int), (d : Int), (c : Int)] [] (fun x => noEr (F__law_bad_c1 x)) = .ok [S (nl w), S (nl h), S (nl d), S (nl c)] := by
  obtain ⟨k1, k2, k3, k4⟩ := id hv
  rw [mapA_pure0 (g := strI) (fun x hx => ?_) (by simp)]
  · show Rx.ok [strI (w : Int), strI (h : Int), strI (d : Int), strI (c : Int)] = _
    rw [strI_S (by omega), strI_S (by omega), strI_S (by omega), strI_S (by omega)]
    rfl
  · simp only [List.mem_cons, List.not_mem_nil, or_false] at hx
    unfold F__law_bad_c1
    rw [grd_pos (log_ok (by omega) (by omega)), noEr_ok]
theorem bad_gv {w h d c : Nat} (hv : Valid w h d c) {num : Int} (h0 : 0 ≤ num) (h1 : num < 100000) : Gv (F__law_bad (S (ct w h d c)) [(w : Int), (h : Int), (d : Int), (c : Int)] num) (fun L => (∀ t ∈ L, Bad t) ∧ L.length ≤ 200) := by
  obtain ⟨k1, k2, k3, k4⟩ := id hv
  have hc := ct_len (w := w) (h := h) (d := d) (c := c) (by omega) (by omega) (by omega) (by omega)
  have n1 := nl3 (n := w) (by omega)
  have n2 := nl3 (n := h) (by omega)
  have n3 := nl3 (n := d) (by omega)
  have n4 := nl3 (n := c) (by omega)
  have hne : ct w h d c ≠ [] := fun e => by
    have := nd_ct w h d c
    rw [e] at this
    cases this
  have b1 := bad_first hv
  have b2 := bad_repl hv
  have b3 := bad_parts hv
  unfold F__law_bad
  refine Gv.bind_eq (strs_ok hv) ?_
  simp only [cutS_last hne, dropLast_ct k4, it4_0, it4_1, it4_2, it4_3, e_s0, e_pl, e_mi, e_sp, e_lf, e_X, e_sc, e_sx, e_cs, e_cc, e_x0, e_e, e_x, e_c, rep_S, SX.S_cat, SX.S_len, List.append_assoc, List.singleton_append, List.cons_append, List.nil_append, List.length_append, List.length_cons, List.length_nil]
  have f5 : (four (nl w) (nl h) (nl d) []).length ≤ 20 := by
    unfold four
    simp only [List.length_append, List.length_cons, List.length_nil]
    omega
  repeat (refine Gv.grd (by omega) ?_)
  refine Gv.bind (Gv.forS (P := fun i (L : List Str) => (∀ t ∈ L, Bad t) ∧ L.length = 25 + 4 * i) ⟨?_, ?_⟩ fun i x L hx p => ?_) fun L p => .ok ⟨p.1, by
    have e : (rng (0 : Int) (Int.toNat 4)).length = 4 := rng_len _ _
    have := p.2
    omega⟩
  · have q1 := b3
    have q2 := b2
    simp only [dropLast_ct k4] at b1
    intro t ht
    simp only [List.mem_cons, List.not_mem_nil, or_false] at ht
    unfold four at b3
    rcases ht with rfl | rfl | rfl | rfl | rfl | rfl | rfl | rfl | rfl | rfl | rfl | rfl | rfl | rfl | rfl | rfl | rfl | rfl | rfl | rfl | rfl | rfl | rfl | rfl | rfl
    all_goals first
      | (refine mem_bad b1 ?_; simp; done)
      | (refine mem_bad b2 ?_; simp; done)
      | (refine mem_bad b3 ?_; simp [four]; done)
  · rfl
  · obtain ⟨rfl, hi⟩ := rng_at hx
    have hi4 : i < 4 := hi
    exact (b2_gv hv h0 h1 p.1 (by have := p.2; omega) (by omega)).imp fun M q => ⟨q.1, by rw [q.2, p.2]; omega⟩
theorem law_true (s : List Int) (hs : s.length ≤ 63) : F_law s = .ok true := by
  refine Gv.get ?_
  unfold F_law
  refine Gv.bind (cell_gv s 0 (by decide)) fun c0 _ => Gv.bind (draws_gv c0 [6, 256, 6, 256, 6, 5, 6, 3, 100000] (by decide) (by decide)) fun v hv => ?_
  obtain ⟨d0, r0, rfl, p0, q0, i0⟩ := hv.cons
  obtain ⟨d1, r1, rfl, p1, q1, i1⟩ := i0.cons
  obtain ⟨d2, r2, rfl, p2, q2, i2⟩ := i1.cons
  obtain ⟨d3, r3, rfl, p3, q3, i3⟩ := i2.cons
  obtain ⟨d4, r4, rfl, p4, q4, i4⟩ := i3.cons
  obtain ⟨d5, r5, rfl, p5, q5, i5⟩ := i4.cons
  obtain ⟨d6, r6, rfl, p6, q6, i6⟩ := i5.cons
  obtain ⟨d7, r7, rfl, p7, q7, i7⟩ := i6.cons
  obtain ⟨d8, r8, rfl, p8, q8, i8⟩ := i7.cons
  obtain rfl := i8.nil
  refine Gv.bind (P := fun n : List Int => ∃ w h d c : Nat, Valid w h d c ∧ n = [(w : Int), (h : Int), (d : Int), (c : Int)]) ?_ fun n hn => ?_
  · obtain ⟨w, ew, hw⟩ := between_gv d0 d1 1 256 (by decide)
    obtain ⟨h, eh, hh⟩ := between_gv d2 d3 1 256 (by decide)
    obtain ⟨d, ed, hd⟩ := between_gv d4 d5 8 12 (by decide)
    obtain ⟨c, ec, hc⟩ := between_gv d6 d7 0 2 (by decide)
    have one : ∀ k : Int, ∀ v : Int, 0 ≤ k → k < 4 → F__law_between (itD [d0, d1, d2, d3, d4, d5, d6, d7, d8] (2 * k)) (itD [d0, d1, d2, d3, d4, d5, d6, d7, d8] (2 * k + 1)) (itD [1, 1, 8, 0] k) (itD [256, 256, 12, 2] k) = .ok v → noEr (F_law_c1 [1, 1, 8, 0] [256, 256, 12, 2] [d0, d1, d2, d3, d4, d5, d6, d7, d8] k) = .ok v := fun k v g0 g1 e => by
      unfold F_law_c1
      rw [grd_pos (by simp only [List.length_cons, List.length_nil]; omega), grd_pos (by simp only [List.length_cons, List.length_nil]; omega), grd_pos (by simp only [List.length_cons, List.length_nil]; omega), grd_pos (by simp only [List.length_cons, List.length_nil]; omega), e]
      rfl
    refine ⟨[w, h, d, c], ?_, w.toNat, h.toNat, d.toNat, c.toNat, ⟨by omega, by omega, by omega, by omega⟩, ?_⟩
    · rw [mapA_pure0 (f := fun x => noEr (F_law_c1 [1, 1, 8, 0] [256, 256, 12, 2] [d0, d1, d2, d3, d4, d5, d6, d7, d8] x)) (g := fun x : Int => if x = 0 then w else if x = 1 then h else if x = 2 then d else c) (fun x hx => ?_) (by rw [rng_len]; decide)]
      · rfl
      · have hm := rng_mem hx
        have h4 : x = 0 ∨ x = 1 ∨ x = 2 ∨ x = 3 := by
          have : (Int.toNat 4 : Int) = 4 := rfl
          omega
        rcases h4 with rfl | rfl | rfl | rfl
        · exact one 0 w (by decide) (by decide) ew
        · exact one 1 h (by decide) (by decide) eh
        · exact one 2 d (by decide) (by decide) ed
        · exact one 3 c (by decide) (by decide) ec
    · rw [Int.toNat_of_nonneg (by omega), Int.toNat_of_nonneg (by omega), Int.toNat_of_nonneg (by omega), Int.toNat_of_nonneg (by omega)]
  · obtain ⟨w, h, d, c, hv, rfl⟩ := hn
    obtain ⟨k1, k2, k3, k4⟩ := id hv
    have hlc := cutL_len s (some 1) (some 20)
    rw [it4_0, it4_1, it4_2, it4_3]
    have ini : F_Format___init__ (w : Int) (h : Int) (d : Int) (c : Int) = .ok ⟨w, h, d, c⟩ := by
      unfold F_Format___init__
      rw [if_pos (by omega), if_pos (by omega), if_pos (by omega), if_pos (by omega), if_pos (by omega), if_pos (by omega), if_pos (by omega), if_pos (by omega)]
    have txt : F_Format_text ⟨(w : Int), (h : Int), (d : Int), (c : Int)⟩ = .ok (S (ct w h d c)) := text_ok (f := ⟨(w : Int), (h : Int), (d : Int), (c : Int)⟩) ⟨by show 0 ≤ (w : Int); omega, by show (w : Int) < _; omega⟩ ⟨by show 0 ≤ (h : Int); omega, by show (h : Int) < _; omega⟩ ⟨by show 0 ≤ (d : Int); omega, by show (d : Int) < _; omega⟩ ⟨by show 0 ≤ (c : Int); omega, by show (c : Int) < _; omega⟩
    have ltx : F__law_text [(w : Int), (h : Int), (d : Int), (c : Int)] = .ok (S (ct w h d c)) := ltext_ok ⟨by omega, by omega⟩ ⟨by omega, by omega⟩ ⟨by omega, by omega⟩ ⟨by omega, by omega⟩
    have eqq : noEr (F_Format___eq__ ⟨(w : Int), (h : Int), (d : Int), (c : Int)⟩ ⟨(w : Int), (h : Int), (d : Int), (c : Int)⟩) = .ok true := by
      unfold F_Format___eq__
      rw [if_pos (decide_eq_true rfl), if_pos (decide_eq_true rfl), if_pos (decide_eq_true rfl)]
      simp [noEr]
    refine Gv.grd (by simp) (Gv.grd (by simp) (Gv.grd (by simp) (Gv.grd (by simp) (Gv.bind_eq ini (Gv.bind_eq txt (Gv.bind_eq ltx (Gv.pos rfl (Gv.bind_eq (parse_ok hv) (Gv.bind_eq eqq (Gv.neg (by decide) (Gv.pos rfl (Gv.grd (by simp) (Gv.bind (bad_gv hv (num := d8) p8 q8) fun L1 b1 => Gv.grd (by show 1 + _ ≤ _; omega) (Gv.bind (signs_gv hv ([7] ++ cutL s (some 1) (some 20)) (by rw [List.length_append]; show 1 + _ ≤ _; omega)) fun L2 b2 => ?_))))))))))))))
    have l2 := b2.2
    rw [List.length_append] at l2
    change L2.length ≤ 2 * (1 + _) at l2
    refine Gv.grd (by omega) (Gv.bind_eq (mapA_pure0 (f := fun x => noEr (F_law_c2 x)) (g := fun _ => true) (fun x hx => ?_) (by rw [List.length_append]; omega)) (.ok ?_))
    · unfold F_law_c2
      rw [refused_ok (bads_app b1.1 b2.1 x hx)]
      rfl
    · exact List.all_eq_true.mpr fun x hx => by
        obtain ⟨_, _, rfl⟩ := List.mem_map.mp hx
        rfl

end Vx
namespace Vx
open PySem PySem.Spec PyProof.Rows L2
def topS (i : Nat) : Stmt := PySem.Challenge.pw_thaumatrope_k02_texts_of_formats.main.body.getD i (.Pass ⟨0, 0, 0, 0⟩)
abbrev s__law_draws : Stmt := topS 10
abbrev s_Format___init__ : Stmt := inClass (topS 6) 0
abbrev s__law_cell : Stmt := topS 9
abbrev s__law_between : Stmt := topS 11
abbrev s_Format_text : Stmt := inClass (topS 6) 8
abbrev s__numbers_in : Stmt := topS 7
abbrev s_Format_parse : Stmt := inClass (topS 6) 9
abbrev s__law_text : Stmt := topS 12
abbrev s__law_bad : Stmt := topS 14
abbrev s__law_other_signs : Stmt := topS 15
abbrev s_Format___eq__ : Stmt := inClass (topS 6) 1
abbrev s__law_refused : Stmt := topS 13
abbrev s_law : Stmt := topS 16
structure Ads where
  c_Format : Addr
  x_CodecError : Addr
  x_BadFormat : Addr
  x_OutOfRange : Addr
  z0 : Addr
def excA (AD : Ads) : Nat → Addr
  | 0 => AD.x_CodecError
  | 1 => AD.x_BadFormat
  | 2 => AD.x_OutOfRange
  | _ => AD.z0
structure Txt (w : World) (K : PySem.W.Frag) (mg : Str → Option Value) (AD : Ads) : Prop where
  b_abs : mg "abs" = none
  b_int : mg "int" = none
  b_len : mg "len" = none
  b_min : mg "min" = none
  b_any : mg "any" = none
  b_str : mg "str" = none
  b_list : mg "list" = none
  b_range : mg "range" = none
  b_isinstance : mg "isinstance" = none
  b_all : mg "all" = none
  cl_Format : Cls K AD.c_Format
  cg_Format : mg "Format" = some (.ref AD.c_Format)
  ci_Format : IsiC K AD.c_Format
  n_Format_width : NoAttr K AD.c_Format "width"
  n_Format_height : NoAttr K AD.c_Format "height"
  n_Format_depth : NoAttr K AD.c_Format "depth"
  n_Format_chroma : NoAttr K AD.c_Format "chroma"
  xg_BadFormat : mg "BadFormat" = some (.ref AD.x_BadFormat)
  xx_BadFormat : PySem.W.excIn K AD.x_BadFormat [.type "ValueError", .type "Exception", .type "BaseException", .type "object"] "ValueError.__new__" = true
  xk_BadFormat : PySem.W.keepIn K (.ref AD.x_BadFormat) = true
  xb_BadFormat : PySem.W.subIn K (.ref AD.x_BadFormat) (.type "BaseException") = some true
  xt_BadFormat : PySem.W.typeIn K (.ref AD.x_BadFormat) = some (.type "type")
  xg_CodecError : mg "CodecError" = some (.ref AD.x_CodecError)
  xx_CodecError : PySem.W.excIn K AD.x_CodecError [.type "ValueError", .type "Exception", .type "BaseException", .type "object"] "ValueError.__new__" = true
  xk_CodecError : PySem.W.keepIn K (.ref AD.x_CodecError) = true
  xb_CodecError : PySem.W.subIn K (.ref AD.x_CodecError) (.type "BaseException") = some true
  xt_CodecError : PySem.W.typeIn K (.ref AD.x_CodecError) = some (.type "type")
  xm_BadFormat_BadFormat : PySem.W.exmOne K (.ref AD.x_BadFormat) (.ref AD.x_BadFormat) = some true
  xo_BadFormat_CodecError : PySem.W.kitOne K (.ref AD.x_BadFormat) (.ref AD.x_CodecError) = some true
  xc_BadFormat : ExcC K AD.x_BadFormat
abbrev pat__law_draws_0 : Pat := (2, [], fun vs _ => vs)
abbrev pats__law_draws : List Pat := [pat__law_draws_0]
abbrev pat_Format___init___0 : Pat := (3, ["depth", "chroma"], fun vs zs => match vs, zs with | [a0, a1, a2], [b0, b1] => [a0, a1, a2, b0, b1] | _, _ => [])
abbrev pats_Format___init__ : List Pat := [pat_Format___init___0]
abbrev pat__law_cell_0 : Pat := (2, [], fun vs _ => vs)
abbrev pats__law_cell : List Pat := [pat__law_cell_0]
abbrev pat__law_between_0 : Pat := (4, [], fun vs _ => vs)
abbrev pats__law_between : List Pat := [pat__law_between_0]
abbrev pat_Format_text_0 : Pat := (1, [], fun vs _ => vs)
abbrev pats_Format_text : List Pat := [pat_Format_text_0]
abbrev pat__numbers_in_0 : Pat := (1, [], fun vs _ => vs)
abbrev pats__numbers_in : List Pat := [pat__numbers_in_0]
abbrev pat_Format_parse_0 : Pat := (2, [], fun vs _ => vs)
abbrev pats_Format_parse : List Pat := [pat_Format_parse_0]
abbrev pat__law_text_0 : Pat := (1, [], fun vs _ => vs)
abbrev pats__law_text : List Pat := [pat__law_text_0]
abbrev pat__law_bad_0 : Pat := (3, [], fun vs _ => vs)
abbrev pats__law_bad : List Pat := [pat__law_bad_0]
abbrev pat__law_other_signs_0 : Pat := (2, [], fun vs _ => vs)
abbrev pats__law_other_signs : List Pat := [pat__law_other_signs_0]
abbrev pat_Format___eq___0 : Pat := (2, [], fun vs _ => vs)
abbrev pats_Format___eq__ : List Pat := [pat_Format___eq___0]
abbrev pat__law_refused_0 : Pat := (1, [], fun vs _ => vs)
abbrev pats__law_refused : List Pat := [pat__law_refused_0]
abbrev pats_law : List Pat := []
def sp__law_draws (K : PySem.W.Frag) (AD : Ads) : Sp := fun vs H Q E => ∃ (G : Hp) (cell' : Int) (a_limits : Addr) (limits' : List Int), vs = [.int cell', .ref a_limits] ∧ Same G H ∧ (hideL [] H) a_limits = some (.lst ((limits' : List Int).map V.int)) ∧ cW (F__law_draws cell' limits') (fun v => ∀ p H', H p = none → Same H H' → H' p = some (.lst (v.map V.int)) → Q (.ref p) H') (fun e => ∀ H', Same H H' → E (.ref (excA AD e)) none H')
def sp_Format___init__ (K : PySem.W.Frag) (AD : Ads) : Sp := fun vs H Q E => ∃ (G : Hp) (p_self dx_self : Addr) (width' : Int) (height' : Int) (depth' : Int) (chroma' : Int), vs = [.ref p_self, .int width', .int height', .int depth', .int chroma'] ∧ Same G H ∧ (∀ a ∈ [p_self], G a = none) ∧ H p_self = some (.ins AD.c_Format dx_self []) ∧ cW (F_Format___init__ width' height' depth' chroma') (fun v => ∀ (H' : Hp), SameX p_self H H' → H' p_self = some (.ins AD.c_Format dx_self [("width", V.int v.width), ("height", V.int v.height), ("depth", V.int v.depth), ("chroma", V.int v.chroma)]) → Q .non H') (fun e => ∀ H', SameX p_self H H' → E (.ref (excA AD e)) none H')
def sp__law_cell (K : PySem.W.Frag) (AD : Ads) : Sp := fun vs H Q E => ∃ (G : Hp) (a_script : Addr) (script' : List Int) (k' : Int), vs = [.ref a_script, .int k'] ∧ Same G H ∧ SqL K H a_script ((script' : List Int).map V.int) ∧ cW (F__law_cell script' k') (fun v => Q (.int v) H) (fun e => E (.ref (excA AD e)) none H)
def sp__law_between (K : PySem.W.Frag) (AD : Ads) : Sp := fun vs H Q E => ∃ (G : Hp) (first' : Int) (second' : Int) (low' : Int) (high' : Int), vs = [.int first', .int second', .int low', .int high'] ∧ Same G H ∧ cW (F__law_between first' second' low' high') (fun v => Q (.int v) H) (fun e => E (.ref (excA AD e)) none H)
def sp_Format_text (K : PySem.W.Frag) (AD : Ads) : Sp := fun vs H Q E => ∃ (G : Hp) (p_self dx_self : Addr) (self' : St_Format), vs = [.ref p_self] ∧ Same G H ∧ (hideL [] H) p_self = some (.ins AD.c_Format dx_self [("width", V.int self'.width), ("height", V.int self'.height), ("depth", V.int self'.depth), ("chroma", V.int self'.chroma)]) ∧ cW (F_Format_text self') (fun v => ∀ H', Same H H' → Q (.str v) H') (fun e => ∀ H', Same H H' → E (.ref (excA AD e)) none H')
def sp__numbers_in (K : PySem.W.Frag) (AD : Ads) : Sp := fun vs H Q E => ∃ (G : Hp) (text' : Str), vs = [.str text'] ∧ Same G H ∧ cW (F__numbers_in text') (fun v => ∀ p H', H p = none → Same H H' → H' p = some (.lst (v.map V.int)) → Q (.ref p) H') (fun e => ∀ H', Same H H' → E (.ref (excA AD e)) none H')
def sp_Format_parse (K : PySem.W.Frag) (AD : Ads) : Sp := fun vs H Q E => ∃ (G : Hp) (text' : Str), vs = [.ref AD.c_Format, .str text'] ∧ Same G H ∧ cW (F_Format_parse text') (fun v => ∀ (H' : Hp) (p_ret dx_ret : Addr), Same H H' → H p_ret = none → H' p_ret = some (.ins AD.c_Format dx_ret [("width", V.int v.width), ("height", V.int v.height), ("depth", V.int v.depth), ("chroma", V.int v.chroma)]) → Q (.ref p_ret) H') (fun e => ∀ H', Same H H' → E (.ref (excA AD e)) none H')
def sp__law_text (K : PySem.W.Frag) (AD : Ads) : Sp := fun vs H Q E => ∃ (G : Hp) (a_numbers : Addr) (numbers' : List Int), vs = [.ref a_numbers] ∧ Same G H ∧ (hideL [] H) a_numbers = some (.lst ((numbers' : List Int).map V.int)) ∧ cW (F__law_text numbers') (fun v => Q (.str v) H) (fun e => E (.ref (excA AD e)) none H)
def sp__law_bad (K : PySem.W.Frag) (AD : Ads) : Sp := fun vs H Q E => ∃ (G : Hp) (text' : Str) (a_numbers : Addr) (numbers' : List Int) (number' : Int), vs = [.str text', .ref a_numbers, .int number'] ∧ Same G H ∧ (hideL [] H) a_numbers = some (.lst ((numbers' : List Int).map V.int)) ∧ cW (F__law_bad text' numbers' number') (fun v => ∀ p H', H p = none → Same H H' → H' p = some (.lst (v.map V.str)) → Q (.ref p) H') (fun e => ∀ H', Same H H' → E (.ref (excA AD e)) none H')
def sp__law_other_signs (K : PySem.W.Frag) (AD : Ads) : Sp := fun vs H Q E => ∃ (G : Hp) (text' : Str) (a_cells : Addr) (cells' : List Int), vs = [.str text', .ref a_cells] ∧ Same G H ∧ (hideL [] H) a_cells = some (.lst ((cells' : List Int).map V.int)) ∧ cW (F__law_other_signs text' cells') (fun v => ∀ p H', H p = none → Same H H' → H' p = some (.lst (v.map V.str)) → Q (.ref p) H') (fun e => ∀ H', Same H H' → E (.ref (excA AD e)) none H')
def sp_Format___eq__ (K : PySem.W.Frag) (AD : Ads) : Sp := fun vs H Q E => ∃ (G : Hp) (p_self dx_self : Addr) (self' : St_Format) (p_other dx_other : Addr) (other' : St_Format), vs = [.ref p_self, .ref p_other] ∧ Same G H ∧ (hideL [] H) p_self = some (.ins AD.c_Format dx_self [("width", V.int self'.width), ("height", V.int self'.height), ("depth", V.int self'.depth), ("chroma", V.int self'.chroma)]) ∧ (hideL [] H) p_other = some (.ins AD.c_Format dx_other [("width", V.int other'.width), ("height", V.int other'.height), ("depth", V.int other'.depth), ("chroma", V.int other'.chroma)]) ∧ cW (F_Format___eq__ self' other') (fun v => ∀ H', Same H H' → Q (.bl v) H') (fun e => ∀ H', Same H H' → E (.ref (excA AD e)) none H')
def sp__law_refused (K : PySem.W.Frag) (AD : Ads) : Sp := fun vs H Q E => ∃ (G : Hp) (text' : Str), vs = [.str text'] ∧ Same G H ∧ cW (F__law_refused text') (fun v => ∀ H', Same H H' → Q (.bl v) H') (fun e => ∀ H', Same H H' → E (.ref (excA AD e)) none H')
def sp_law (K : PySem.W.Frag) (AD : Ads) : Sp := fun vs H Q E => ∃ (a_script : Addr) (script : List Int), vs = [.ref a_script] ∧ SqL K H a_script (script.map V.int) ∧ cW (F_law script) (fun v => v = true) (fun _ => False) ∧ ∀ H', Q (.bl true) H'
section
variable {P : Program} {w : World} {K : PySem.W.Frag} {mg : Str → Option Value} {base : Heap} {AD : Ads}
abbrev N__law_draws : List Str := ["cell", "limits", "found", "rest", "state", "free", "limit"]
theorem sc__law_draws : FnScope N__law_draws ["cell", "limits"] (defScope s__law_draws) := ⟨rfl, rfl, rfl, by decide +kernel, rfl, by decide +kernel, by decide +kernel⟩
theorem ok__law_draws (D : DefX K mg "_law_draws" s__law_draws ["cell", "limits"] pats__law_draws) (T : Txt w K mg AD)  : CalX P w K mg base 1 "_law_draws" (sp__law_draws K AD) pats__law_draws := by
  refine D.ok sc__law_draws (fun vs H Q E h => ?_) (fun f cdv A_ outer s H vs Q E hr h => ?_)
  · obtain ⟨G, cell', a_limits, limits', rfl, _⟩ := h
    rfl
  · obtain ⟨G, cell', a_limits, limits', rfl, sG, q_limits, hw⟩ := h
    refine ⟨_, (pss_cons (ps_set (i := 2) sc__law_draws.nd rfl (Or.inl rfl) (pe_lst pa_nil))
      (pss_cons (ps_set (i := 3) sc__law_draws.nd rfl (Or.inl rfl) (pe_callB call_abs (by rfl) T.b_abs (by decide +kernel) (pa_cons (pe_callTy call_int1 (by rfl) T.b_int (by decide +kernel) (pa_cons (pv 0) pa_nil)) pa_nil)))
      (pss_cons (ps_set (i := 4) sc__law_draws.nd rfl (Or.inl rfl) (pe_op op_mod (pe_callTy call_int1 (by rfl) T.b_int (by decide +kernel) (pa_cons (pv 3) pa_nil)) pe_int))
      (pss_cons (ps_set (i := 5) sc__law_draws.nd rfl (Or.inl rfl) (pe_or (pe_cmp (pc_lt (pv 0) pe_int)) (pe_one (pe_cmp (pc_ge (pv 0) (pe_op op_pow pe_int pe_int))))))
      (pss_cons (ps_for (passes_of rfl) rfl (pi_listK (K := K) (pv 1)) (pg_name (i := 6) sc__law_draws.nd rfl (Or.inl rfl)) (pss_one (ps_if (PW.pt (pw_and (pt_val (pv 5)) (pw_and1 (pt_cmp (pc_gt (pv 3) pe_int))))) (pss_cons (ps_expr (pe_bm PySem.F.plainAttrs_list PySem.F.slot_list_append PySem.F.type_list_append mt_append (pv 2) (pa_cons (pe_op op_mod (pe_callTy call_int1 (by rfl) T.b_int (by decide +kernel) (pa_cons (pv 3) pa_nil)) (pv 6)) pa_nil)))
      (pss_one (ps_set (i := 3) sc__law_draws.nd rfl (Or.inl rfl) (pe_op op_fdivW (pv 3) (pv 6))))) (pss_cons (ps_set (i := 4) sc__law_draws.nd rfl (Or.inl rfl) (pe_op op_mod (pe_callTy call_int1 (by rfl) T.b_int (by decide +kernel) (pa_cons (pe_op op_add (pe_op op_mul (pv 4) pe_int) pe_int) pa_nil)) pe_int))
      (pss_cons (ps_set (i := 4) sc__law_draws.nd rfl (Or.inl rfl) (pe_op op_mod (pe_callTy call_int1 (by rfl) T.b_int (by decide +kernel) (pa_cons (pe_op op_add (pe_op op_mul (pv 4) pe_int) pe_int) pa_nil)) pe_int))
      (pss_one (ps_expr (pe_bm PySem.F.plainAttrs_list PySem.F.slot_list_append PySem.F.type_list_append mt_append (pv 2) (pa_cons (pe_op op_mod (pe_callTy call_int1 (by rfl) T.b_int (by decide +kernel) (pa_cons (pe_op op_fdivW (pv 4) pe_int) pa_nil)) (pv 6)) pa_nil)))))))))
      (pss_one (ps_ret (pv 2)))))))), ?_⟩
    obtain ⟨KK, EE, hK0, hE, hw⟩ := cW_gen hw
    have S0 := Sep.startG sG
    unfold F__law_draws at hw
    refine ⟨(by show 0 ≤ sizeLine; decide), fun p1 n2 => ?_⟩
    generalize g3 : upd H p1 _ = H4
    obtain ⟨e5, h6⟩ := gen_new n2 g3
    have h7 : H4 p1 = some (.lst ((([] : (List Int)) : (List Int)).map V.int)) := h6
    have fr8 := S0.free n2
    have S9 := S0.new n2 e5 h7 fr8
    refine ⟨_, rfl, .inl ⟨_, rfl, ?_⟩⟩
    refine ⟨_, rfl, ?_⟩
    have hw := cW_bnd hw
    refine ⟨_, rfl, .inl ⟨_, rfl, ?_⟩⟩
    refine ⟨_, _, rfl, rfl, (show (0 : Int) < 2147483647 by decide), ?_⟩
    have hw := cW_bnd hw
    refine vv_or (ta := (tLt (tVar 0) (tC (V.int 0)))) (tb := (tGe (tVar 0) (tOp (rI CPow fun i j => V.int (i ^ j.toNat)) (tC (V.int 10)) (tC (V.int 18))))) (a := decide (cell' < 0)) (b := decide (((10 : Int) ^ Int.toNat 18) ≤ cell')) ?ha12 ?hb13 _ ?_
    case ha12 => exact (vv_cmp (val_var rfl) val_c (fun Q q => ⟨_, _, rfl, rfl, q⟩))
    case hb13 => exact (vv_cmp (val_var rfl) (val_op val_c val_c (fun Q q => ⟨_, _, rfl, rfl, ⟨by decide, by decide, by decide⟩, q⟩)) (fun Q q => ⟨_, _, rfl, rfl, q⟩))
    have hw := cW_bnd hw
    obtain ⟨K16, hK17, hw⟩ := cW_push hw
    refine ⟨_, rfl, _, rfl, ⟨_, (SqL.of (S9.bM _ _ q_limits))⟩, for_list (K := K) (a := a_limits) (xs := (limits' : List Int).map V.int) (fun i σ H' => ∃ (found_18 : (List Int)) (rest_19 : Int) (state_20 : Int) (u21 : Option V) (G' : Hp), σ = [some (V.int (cell')), some (V.ref a_limits), some (V.ref p1), some (V.int rest_19), some (V.int state_20), some (V.bl ((decide (cell' < 0) || decide (((10 : Int) ^ Int.toNat 18) ≤ cell')))), u21] ∧ Same G G' ∧ Sep [] H G G' H' [p1] ∧ H' p1 = some (.lst ((found_18 : (List Int)).map V.int)) ∧ cW (forS (List.drop i (limits')) (found_18, rest_19, state_20) (fun s x => F__law_draws_b1 ((decide (cell' < 0) || decide (((10 : Int) ^ Int.toNat 18) ≤ cell'))) (s.1) (s.2.1) (s.2.2) x)) K16 EE) ?_ ?_ ?_ ?_⟩
    · exact ⟨(([] : (List Int))), ((if cell' < 0 then -cell' else cell')), (((if cell' < 0 then -cell' else cell') % 2147483647)), _, _, rfl, (Same.refl _), S9, h7, hw⟩
    · intro i σ H22 _ hw
      obtain ⟨found_18, rest_19, state_20, u21, G25, rfl, eG26, S23, h24, hw⟩ := hw
      exact (SqL.of (S23.bM _ _ q_limits))
    · intro i x σ H27 hj hw
      obtain ⟨found_18, rest_19, state_20, u21, G30, rfl, eG31, S28, h29, hw⟩ := hw
      obtain ⟨x32, hx, rfl⟩ := map_get hj
      have hw := cW_forS hx hw
      have hw : cW (F__law_draws_b1 ((decide (cell' < 0) || decide (((10 : Int) ^ Int.toNat 18) ≤ cell'))) (found_18) (rest_19) (state_20) (x32)) _ EE := hw
      unfold F__law_draws_b1 at hw
      obtain ⟨K36, hK37, hw⟩ := cW_name hw
      refine ⟨_, rfl, _, rfl, ?_⟩
      refine iteB (fun c39 => ?_) (fun c39 => ?_)
      · have hw := cW_pos c39 hw
        refine ⟨_, rfl, _, _, rfl, rfl, _, rfl, ?_⟩
        refine iteD (fun c40 => ?_) (fun c40 => ?_)
        · have hw := cW_pos c40 hw
          refine ⟨_, rfl, (.inl ⟨rfl, _, SqL.of h29⟩), _, rfl, .inl ⟨_, rfl, ?_⟩⟩
          obtain ⟨g41, hw⟩ := cW_grd hw
          obtain ⟨g42, hw⟩ := cW_grd hw
          refine ⟨_, rfl, _, _, rfl, rfl, g41, _, _, _, rfl, rfl, h29, (app_lenM g42), ?_⟩
          generalize g43 : upd H27 p1 _ = H44
          obtain ⟨x45, h46⟩ := gen_mut g43
          have h47 : H44 p1 = some (.lst (((found_18) ++ [(rest_19 % x32)] : (List Int)).map V.int)) := snoc_map h46
          have S48 := S28.mut1 x45 (.head _) h47
          have hw := cW_bnd hw
          obtain ⟨g50, hw⟩ := cW_grd hw
          refine ⟨_, rfl, _, rfl, _, _, rfl, rfl, (divW_small g50.1 g50.2), ?_⟩
          have hw := cW_bnd hw
          have hw := cW_ok hw
          have hw := hK37 _ hw
          exact ⟨((found_18) ++ [(rest_19 % x32)]), ((rest_19 / x32)), (state_20), _, _, rfl, eG31, S48, h47, hw⟩
        · have hw := cW_neg c40 hw
          refine ⟨_, rfl, _, _, rfl, rfl, (.inr ⟨by decide, by decide⟩), _, _, rfl, rfl, .inl ⟨_, rfl, ?_⟩⟩
          refine ⟨_, _, rfl, rfl, (show (0 : Int) < 2147483647 by decide), ?_⟩
          have hw := cW_bnd hw
          refine ⟨_, rfl, _, _, rfl, rfl, (.inr ⟨by decide, by decide⟩), _, _, rfl, rfl, .inl ⟨_, rfl, ?_⟩⟩
          refine ⟨_, _, rfl, rfl, (show (0 : Int) < 2147483647 by decide), ?_⟩
          have hw := cW_bnd hw
          refine ⟨_, rfl, (.inl ⟨rfl, _, SqL.of h29⟩), _, rfl, _, _, rfl, rfl, (divW_lit (by decide) (by decide)), .inl ⟨_, rfl, ?_⟩⟩
          obtain ⟨g54, hw⟩ := cW_grd hw
          obtain ⟨g55, hw⟩ := cW_grd hw
          refine ⟨_, rfl, _, _, rfl, rfl, g54, _, _, _, rfl, rfl, h29, (app_lenM g55), ?_⟩
          generalize g56 : upd H27 p1 _ = H57
          obtain ⟨x58, h59⟩ := gen_mut g56
          have h60 : H57 p1 = some (.lst (((found_18) ++ [((((((((state_20 * 48271) + 11) % 2147483647) * 69621) + 7) % 2147483647) / 13) % x32)] : (List Int)).map V.int)) := snoc_map h59
          have S61 := S28.mut1 x58 (.head _) h60
          have hw := cW_bnd hw
          have hw := cW_ok hw
          have hw := hK37 _ hw
          exact ⟨((found_18) ++ [((((((((state_20 * 48271) + 11) % 2147483647) * 69621) + 7) % 2147483647) / 13) % x32)]), (rest_19), (((((((state_20 * 48271) + 11) % 2147483647) * 69621) + 7) % 2147483647)), _, _, rfl, eG31, S61, h60, hw⟩
      · have hw := cW_negB c39 hw
        refine iteF ?_
        refine ⟨_, rfl, _, _, rfl, rfl, (.inr ⟨by decide, by decide⟩), _, _, rfl, rfl, .inl ⟨_, rfl, ?_⟩⟩
        refine ⟨_, _, rfl, rfl, (show (0 : Int) < 2147483647 by decide), ?_⟩
        have hw := cW_bnd hw
        refine ⟨_, rfl, _, _, rfl, rfl, (.inr ⟨by decide, by decide⟩), _, _, rfl, rfl, .inl ⟨_, rfl, ?_⟩⟩
        refine ⟨_, _, rfl, rfl, (show (0 : Int) < 2147483647 by decide), ?_⟩
        have hw := cW_bnd hw
        refine ⟨_, rfl, (.inl ⟨rfl, _, SqL.of h29⟩), _, rfl, _, _, rfl, rfl, (divW_lit (by decide) (by decide)), .inl ⟨_, rfl, ?_⟩⟩
        obtain ⟨g65, hw⟩ := cW_grd hw
        obtain ⟨g66, hw⟩ := cW_grd hw
        refine ⟨_, rfl, _, _, rfl, rfl, g65, _, _, _, rfl, rfl, h29, (app_lenM g66), ?_⟩
        generalize g67 : upd H27 p1 _ = H68
        obtain ⟨x69, h70⟩ := gen_mut g67
        have h71 : H68 p1 = some (.lst (((found_18) ++ [((((((((state_20 * 48271) + 11) % 2147483647) * 69621) + 7) % 2147483647) / 13) % x32)] : (List Int)).map V.int)) := snoc_map h70
        have S72 := S28.mut1 x69 (.head _) h71
        have hw := cW_bnd hw
        have hw := cW_ok hw
        have hw := hK37 _ hw
        exact ⟨((found_18) ++ [((((((((state_20 * 48271) + 11) % 2147483647) * 69621) + 7) % 2147483647) / 13) % x32)]), (rest_19), (((((((state_20 * 48271) + 11) % 2147483647) * 69621) + 7) % 2147483647)), _, _, rfl, eG31, S72, h71, hw⟩
    · intro σ H74 hw
      obtain ⟨found_18, rest_19, state_20, u21, G77, rfl, eG78, S75, h76, hw⟩ := hw
      have hw := hK17 _ (cW_forS0 (by rw [List.length_map]) hw)
      have hw : cW (F__law_draws_r1  (found_18) (rest_19) (state_20)) _ EE := hw
      unfold F__law_draws_r1 at hw
      refine ⟨_, rfl, ?_⟩
      have hw := cW_ok hw
      exact hK0 _ hw _ _ fr8 S75.b0 h76

abbrev N_Format___init__ : List Str := ["self", "width", "height", "depth", "chroma"]
theorem sc_Format___init__ : FnScope N_Format___init__ ["self", "width", "height", "depth", "chroma"] (defScope s_Format___init__) := ⟨rfl, rfl, rfl, by decide +kernel, rfl, by decide +kernel, by decide +kernel⟩
theorem ok_Format___init__ (D : InitX K mg AD.c_Format "Format" "Format.__init__" s_Format___init__ ["self", "width", "height", "depth", "chroma"] pats_Format___init__) (T : Txt w K mg AD)  : MakX P w K mg base 1 "Format" AD.c_Format (sp_Format___init__ K AD) pats_Format___init__ := by
  refine D.ok sc_Format___init__ (fun vs H Q E h => ?_) (fun f cdv A_ outer s H vs Q E hr h => ?_)
  · obtain ⟨G, p_self, dx_self, width', height', depth', chroma', rfl, _⟩ := h
    rfl
  · obtain ⟨G, p_self, dx_self, width', height', depth', chroma', rfl, sG, gM, h_self, hw⟩ := h
    refine ⟨_, (pss_cons (ps_if (pt_not (PW.pt (pw_and (pt_chain op_le op_le pe_int (pv 1) pe_int) (pw_and1 (pt_chain op_le op_le pe_int (pv 2) pe_int))))) (pss_one (ps_raise rfl (takes_of rfl rfl rfl rfl) (pmk_own PySem.F.excBase_ValueError T.xx_BadFormat T.xg_BadFormat T.xk_BadFormat (raises_own T.xb_BadFormat T.xt_BadFormat) rfl))) pss_nil)
      (pss_cons (ps_if (pt_not (pt_chain op_le op_le pe_int (pv 3) pe_int)) (pss_one (ps_raise rfl (takes_of rfl rfl rfl rfl) (pmk_own PySem.F.excBase_ValueError T.xx_BadFormat T.xg_BadFormat T.xk_BadFormat (raises_own T.xb_BadFormat T.xt_BadFormat) rfl))) pss_nil)
      (pss_cons (ps_if (pt_not (pt_chain op_le op_le pe_int (pv 4) pe_int)) (pss_one (ps_raise rfl (takes_of rfl rfl rfl rfl) (pmk_own PySem.F.excBase_ValueError T.xx_BadFormat T.xg_BadFormat T.xk_BadFormat (raises_own T.xb_BadFormat T.xt_BadFormat) rfl))) pss_nil)
      (pss_cons (ps_fld (pv 0) (pv 1) rfl)
      (pss_cons (ps_fld (pv 0) (pv 2) rfl)
      (pss_cons (ps_fld (pv 0) (pv 3) rfl)
      (pss_one (ps_fld (pv 0) (pv 4) rfl)))))))), ?_⟩
    obtain ⟨KK, EE, hK0, hE, hw⟩ := cW_gen hw
    have S0 := Sep.startM (M := [p_self]) sG (all_cons (some_ne h_self) all_nil) gM
    unfold F_Format___init__ at hw
    refine ⟨_, rfl, _, _, rfl, rfl, _, rfl, ?_⟩
    refine iteD (fun c82 => ?_) (fun c82 => ?_)
    · have hw := cW_pos c82 hw
      refine ⟨_, _, rfl, rfl, _, rfl, ?_⟩
      refine iteD (fun c83 => ?_) (fun c83 => ?_)
      · have hw := cW_pos c83 hw
        refine ⟨_, rfl, _, _, rfl, rfl, _, rfl, ?_⟩
        refine iteD (fun c84 => ?_) (fun c84 => ?_)
        · have hw := cW_pos c84 hw
          refine ⟨_, _, rfl, rfl, _, rfl, ?_⟩
          refine iteN (fun c85 => ?_) (fun c85 => ?_)
          · have hw := cW_neg c85 hw
            exact hE 1 (cW_er hw) _ (sameX_of S0.base)
          · have hw := cW_pos c85 hw
            refine ⟨_, rfl, _, _, rfl, rfl, _, rfl, ?_⟩
            refine iteD (fun c86 => ?_) (fun c86 => ?_)
            · have hw := cW_pos c86 hw
              refine ⟨_, _, rfl, rfl, _, rfl, ?_⟩
              refine iteN (fun c87 => ?_) (fun c87 => ?_)
              · have hw := cW_neg c87 hw
                exact hE 1 (cW_er hw) _ (sameX_of S0.base)
              · have hw := cW_pos c87 hw
                refine ⟨_, rfl, _, _, rfl, rfl, _, rfl, ?_⟩
                refine iteD (fun c88 => ?_) (fun c88 => ?_)
                · have hw := cW_pos c88 hw
                  refine ⟨_, _, rfl, rfl, _, rfl, ?_⟩
                  refine iteN (fun c89 => ?_) (fun c89 => ?_)
                  · have hw := cW_neg c89 hw
                    exact hE 1 (cW_er hw) _ (sameX_of S0.base)
                  · have hw := cW_pos c89 hw
                    refine ⟨_, rfl, _, rfl, _, _, _, _, rfl, h_self, T.cl_Format, T.n_Format_width, (by show 0 < 1000; decide), ?_⟩
                    generalize g90 : upd H p_self _ = H91
                    obtain ⟨x92, h93⟩ := gen_mut g90
                    have h94 : H91 p_self = some (.ins AD.c_Format dx_self [("width", V.int (width'))]) := h93
                    have S95 := S0.mut1 x92 (.head _) h94
                    refine ⟨_, rfl, _, rfl, _, _, _, _, rfl, h94, T.cl_Format, T.n_Format_height, (by show 1 < 1000; decide), ?_⟩
                    generalize g96 : upd H91 p_self _ = H97
                    obtain ⟨x98, h99⟩ := gen_mut g96
                    have h100 : H97 p_self = some (.ins AD.c_Format dx_self [("width", V.int (width')), ("height", V.int (height'))]) := h99
                    have S101 := S95.mut1 x98 (.head _) h100
                    refine ⟨_, rfl, _, rfl, _, _, _, _, rfl, h100, T.cl_Format, T.n_Format_depth, (by show 2 < 1000; decide), ?_⟩
                    generalize g102 : upd H97 p_self _ = H103
                    obtain ⟨x104, h105⟩ := gen_mut g102
                    have h106 : H103 p_self = some (.ins AD.c_Format dx_self [("width", V.int (width')), ("height", V.int (height')), ("depth", V.int (depth'))]) := h105
                    have S107 := S101.mut1 x104 (.head _) h106
                    refine ⟨_, rfl, _, rfl, _, _, _, _, rfl, h106, T.cl_Format, T.n_Format_chroma, (by show 3 < 1000; decide), ?_⟩
                    generalize g108 : upd H103 p_self _ = H109
                    obtain ⟨x110, h111⟩ := gen_mut g108
                    have h112 : H109 p_self = some (.ins AD.c_Format dx_self [("width", V.int (width')), ("height", V.int (height')), ("depth", V.int (depth')), ("chroma", V.int (chroma'))]) := h111
                    have S113 := S107.mut1 x110 (.head _) h112
                    have hw := cW_ok hw
                    exact hK0 _ hw _ (sameX_of S113.base) h112
                · have hw := cW_neg c88 hw
                  refine ⟨_, rfl, ?_⟩
                  refine iteT ?_
                  exact hE 1 (cW_er hw) _ (sameX_of S0.base)
            · have hw := cW_neg c86 hw
              refine ⟨_, rfl, ?_⟩
              refine iteT ?_
              exact hE 1 (cW_er hw) _ (sameX_of S0.base)
        · have hw := cW_neg c84 hw
          refine ⟨_, rfl, ?_⟩
          refine iteT ?_
          exact hE 1 (cW_er hw) _ (sameX_of S0.base)
      · have hw := cW_neg c83 hw
        refine iteT ?_
        exact hE 1 (cW_er hw) _ (sameX_of S0.base)
    · have hw := cW_neg c82 hw
      refine ⟨_, rfl, ?_⟩
      refine iteF ?_
      refine iteT ?_
      exact hE 1 (cW_er hw) _ (sameX_of S0.base)

abbrev N__law_cell : List Str := ["script", "k"]
theorem sc__law_cell : FnScope N__law_cell ["script", "k"] (defScope s__law_cell) := ⟨rfl, rfl, rfl, by decide +kernel, rfl, by decide +kernel, by decide +kernel⟩
theorem ok__law_cell (D : DefX K mg "_law_cell" s__law_cell ["script", "k"] pats__law_cell) (T : Txt w K mg AD)  : CalX P w K mg base 1 "_law_cell" (sp__law_cell K AD) pats__law_cell := by
  refine D.ok sc__law_cell (fun vs H Q E h => ?_) (fun f cdv A_ outer s H vs Q E hr h => ?_)
  · obtain ⟨G, a_script, script', k', rfl, _⟩ := h
    rfl
  · obtain ⟨G, a_script, script', k', rfl, sG, q_script, hw⟩ := h
    refine ⟨_, (pss_cons (ps_if (pt_cmp (pc_lt (pv 1) (pe_callB (call_lenLiK (K := K)) (by rfl) T.b_len (by decide +kernel) (pa_cons (pv 0) pa_nil)))) (pss_one (ps_ret (pe_callTy call_int1 (by rfl) T.b_int (by decide +kernel) (pa_cons (pe_ix (ix_listK (K := K)) (pv 0) (pv 1) (fun _ _ => rfl)) pa_nil)))) pss_nil)
      (pss_one (ps_ret pe_int))), ?_⟩
    obtain ⟨KK, EE, hK0, hE, hw⟩ := cW_gen hw
    have S0 := Sep.startG sG
    unfold F__law_cell at hw
    refine ⟨_, rfl, _, rfl, _, _, rfl, (S0.b0.seq q_script), _, _, rfl, rfl, _, rfl, ?_⟩
    refine iteD (fun c114 => ?_) (fun c114 => ?_)
    · have hw := cW_pos c114 hw
      obtain ⟨g115, hw⟩ := cW_grd hw
      refine ⟨_, rfl, _, rfl, _, _, _, _, rfl, rfl, (S0.b0.seq q_script), (atI_map g115), .inl ⟨_, rfl, ?_⟩⟩
      have hw := cW_ok hw
      exact hK0 _ hw
    · have hw := cW_neg c114 hw
      have hw := cW_ok hw
      exact hK0 _ hw

abbrev N__law_between : List Str := ["first", "second", "low", "high"]
theorem sc__law_between : FnScope N__law_between ["first", "second", "low", "high"] (defScope s__law_between) := ⟨rfl, rfl, rfl, by decide +kernel, rfl, by decide +kernel, by decide +kernel⟩
theorem ok__law_between (D : DefX K mg "_law_between" s__law_between ["first", "second", "low", "high"] pats__law_between) (T : Txt w K mg AD)  : CalX P w K mg base 1 "_law_between" (sp__law_between K AD) pats__law_between := by
  refine D.ok sc__law_between (fun vs H Q E h => ?_) (fun f cdv A_ outer s H vs Q E hr h => ?_)
  · obtain ⟨G, first', second', low', high', rfl, _⟩ := h
    rfl
  · obtain ⟨G, first', second', low', high', rfl, sG, hw⟩ := h
    refine ⟨_, (pss_cons (ps_if (pt_cmp (pc_eqI (pv 0) pe_int)) (pss_one (ps_ret (pv 2))) pss_nil)
      (pss_cons (ps_if (pt_cmp (pc_eqI (pv 0) pe_int)) (pss_one (ps_ret (pv 3))) pss_nil)
      (pss_cons (ps_if (pt_cmp (pc_eqI (pv 0) pe_int)) (pss_one (ps_ret (pe_callB (call_min2 rfl) (by rfl) T.b_min (by decide +kernel) (pa_cons (pe_op op_add (pv 2) pe_int) (pa_cons (pv 3) pa_nil))))) pss_nil)
      (pss_one (ps_ret (pe_op op_add (pv 2) (pe_op op_mod (pe_callTy call_int1 (by rfl) T.b_int (by decide +kernel) (pa_cons (pv 1) pa_nil)) (pe_op op_add (pe_op op_sub (pv 3) (pv 2)) pe_int)))))))), ?_⟩
    obtain ⟨KK, EE, hK0, hE, hw⟩ := cW_gen hw
    have S0 := Sep.startG sG
    unfold F__law_between at hw
    refine ⟨_, rfl, _, _, rfl, rfl, _, rfl, ?_⟩
    refine iteD (fun c116 => ?_) (fun c116 => ?_)
    · have hw := cW_pos c116 hw
      refine ⟨_, rfl, ?_⟩
      have hw := cW_ok hw
      exact hK0 _ hw
    · have hw := cW_neg c116 hw
      refine ⟨_, rfl, _, _, rfl, rfl, _, rfl, ?_⟩
      refine iteD (fun c117 => ?_) (fun c117 => ?_)
      · have hw := cW_pos c117 hw
        refine ⟨_, rfl, ?_⟩
        have hw := cW_ok hw
        exact hK0 _ hw
      · have hw := cW_neg c117 hw
        refine ⟨_, rfl, _, _, rfl, rfl, _, rfl, ?_⟩
        refine iteD (fun c118 => ?_) (fun c118 => ?_)
        · have hw := cW_pos c118 hw
          refine ⟨_, rfl, _, _, rfl, rfl, _, rfl, _, _, rfl, ?_⟩
          have hw := cW_ok hw
          exact hK0 _ hw
        · have hw := cW_neg c118 hw
          refine ⟨_, rfl, _, rfl, .inl ⟨_, rfl, ?_⟩⟩
          obtain ⟨g119, hw⟩ := cW_grd hw
          refine ⟨_, rfl, _, rfl, _, _, rfl, rfl, _, _, rfl, rfl, _, _, rfl, rfl, g119, _, _, rfl, rfl, ?_⟩
          have hw := cW_ok hw
          exact hK0 _ hw

abbrev N_Format_text : List Str := ["self"]
theorem sc_Format_text : FnScope N_Format_text ["self"] (defScope s_Format_text) := ⟨rfl, rfl, rfl, by decide +kernel, rfl, by decide +kernel, by decide +kernel⟩
theorem ok_Format_text (D : MethX K AD.c_Format "Format.text" "text" s_Format_text ["self"] pats_Format_text) (T : Txt w K mg AD)  : MetX P w K mg base 1 AD.c_Format "text" (sp_Format_text K AD) pats_Format_text := by
  refine D.ok T.cl_Format sc_Format_text (fun vs H Q E h => ?_) (fun f cdv A_ outer s H vs Q E hr h => ?_)
  · obtain ⟨G, p_self, dx_self, self', rfl, _⟩ := h
    rfl
  · obtain ⟨G, p_self, dx_self, self', rfl, sG, h_p_self, hw⟩ := h
    refine ⟨_, (pss_one (ps_ret (pe_joined (PJ.cons (pe_fmtI (fldK (K := K) (pv 0))) (PJ.cons pe_str (PJ.cons (pe_fmtI (fldK (K := K) (pv 0))) (PJ.cons pe_str (PJ.cons (pe_fmtI (fldK (K := K) (pv 0))) (PJ.cons pe_str (PJ.cons (pe_fmtI (fldK (K := K) (pv 0))) PJ.nil)))))))))), ?_⟩
    obtain ⟨KK, EE, hK0, hE, hw⟩ := cW_gen hw
    have S0 := Sep.startG sG
    unfold F_Format_text at hw
    obtain ⟨g120, hw⟩ := cW_grd hw
    obtain ⟨g121, hw⟩ := cW_grd hw
    obtain ⟨g122, hw⟩ := cW_grd hw
    obtain ⟨g123, hw⟩ := cW_grd hw
    obtain ⟨g124, hw⟩ := cW_grd hw
    obtain ⟨g125, hw⟩ := cW_grd hw
    obtain ⟨g126, hw⟩ := cW_grd hw
    obtain ⟨g127, hw⟩ := cW_grd hw
    obtain ⟨g128, hw⟩ := cW_grd hw
    obtain ⟨g129, hw⟩ := cW_grd hw
    obtain ⟨g130, hw⟩ := cW_grd hw
    refine ⟨_, rfl, _, _, _, _, _, rfl, (S0.bM _ _ h_p_self), T.cl_Format, T.n_Format_width, rfl, _, rfl, g120, _, rfl, g121, _, rfl, g122, _, rfl, _, _, _, _, _, rfl, (S0.bM _ _ h_p_self), T.cl_Format, T.n_Format_height, rfl, _, rfl, g123, _, rfl, g124, _, rfl, g125, _, rfl, _, _, _, _, _, rfl, (S0.bM _ _ h_p_self), T.cl_Format, T.n_Format_depth, rfl, _, rfl, g126, _, rfl, g127, _, rfl, g128, _, rfl, _, _, _, _, _, rfl, (S0.bM _ _ h_p_self), T.cl_Format, T.n_Format_chroma, rfl, _, rfl, g129, _, rfl, g130, ?_⟩
    have hw := cW_ok hw
    exact hK0 _ hw _ S0.b0

abbrev N__numbers_in : List Str := ["text", "words", "word"]
theorem sc__numbers_in : FnScope N__numbers_in ["text"] (defScope s__numbers_in) := ⟨rfl, rfl, rfl, by decide +kernel, rfl, by decide +kernel, by decide +kernel⟩
theorem ok__numbers_in (D : DefX K mg "_numbers_in" s__numbers_in ["text"] pats__numbers_in) (T : Txt w K mg AD)  : CalT P w K mg base 1 "_numbers_in" (sp__numbers_in K AD) pats__numbers_in := by
  refine D.okT sc__numbers_in (fun vs H Q E h => ?_) (fun f cdv A_ outer s H vs Q E hr h => ?_)
  · obtain ⟨G, text', rfl, _⟩ := h
    rfl
  · obtain ⟨G, text', rfl, sG, hw⟩ := h
    refine ⟨_, (psst_cons (pst_set (i := 1) sc__numbers_in.nd rfl (Or.inl rfl) (pet_split (CwR.pet_replC (pv 0)) pe_str))
      (PSsT.of (pss_cons (ps_if (pt_cmp (pc_neI (pe_callB (call_lenLK (K := K)) (by rfl) T.b_len (by decide +kernel) (pa_cons (pv 1) pa_nil)) pe_int)) (pss_one (ps_raise rfl (takes_of rfl rfl rfl rfl) (pmk_own PySem.F.excBase_ValueError T.xx_BadFormat T.xg_BadFormat T.xk_BadFormat (raises_own T.xb_BadFormat T.xt_BadFormat) rfl))) pss_nil)
      (pss_cons (ps_if (pt_val (pe_callB (cr_anyK (K := K) rfl) (by rfl) T.b_any (by decide +kernel) (pa_cons (pe_lc (own := [("word", 2)]) (g := gName 2) (by rfl) sc__numbers_in.nd (pi_listK (K := K) (pv 1)) (blkOk_by (own := [("word", 2)]) (N := N__numbers_in) (sc := defScope s__numbers_in) (by decide +kernel)) (fun _ _ _ _ _ => (pg_name (i := 2) sc__numbers_in.nd rfl (Or.inl rfl))) (fun _ _ _ _ _ => pts_nil) (fun _ _ _ _ _ => (pe_or (pe_not (pe_isdec (pv 2))) (pe_one (pe_cmp (pc_gt (pe_callB call_len_str (by rfl) T.b_len (by decide +kernel) (pa_cons (pv 2) pa_nil)) pe_int)))))) pa_nil))) (pss_one (ps_raise rfl (takes_of rfl rfl rfl rfl) (pmk_own PySem.F.excBase_ValueError T.xx_BadFormat T.xg_BadFormat T.xk_BadFormat (raises_own T.xb_BadFormat T.xt_BadFormat) rfl))) pss_nil)
      (pss_one (ps_ret (pe_lc (own := [("word", 2)]) (g := gName 2) (by rfl) sc__numbers_in.nd (pi_listK (K := K) (pv 1)) (blkOk_by (own := [("word", 2)]) (N := N__numbers_in) (sc := defScope s__numbers_in) (by decide +kernel)) (fun _ _ _ _ _ => (pg_name (i := 2) sc__numbers_in.nd rfl (Or.inl rfl))) (fun _ _ _ _ _ => pts_nil) (fun _ _ _ _ _ => (pe_callTy call_int_str (by rfl) T.b_int (by decide +kernel) (pa_cons (pv 2) pa_nil)))))))))), ?_⟩
    obtain ⟨KK, EE, hK0, hE, hw⟩ := cW_gen hw
    have S0 := Sep.startG sG
    unfold F__numbers_in at hw
    obtain ⟨g131, hw⟩ := cW_grd hw
    obtain ⟨g132, hw⟩ := cW_grd hw
    refine ⟨_, rfl, _, rfl, g131, ⟨_, rfl⟩, _, _, rfl, rfl, (by decide), g132, fun p133 n134 => ?_⟩
    generalize g135 : upd H p133 _ = H136
    obtain ⟨e137, h138⟩ := gen_new n134 g135
    have h139 : H136 p133 = some (.lst (((Txt.split ((Txt.replace (text') "x" ":")) ":") : (List Str)).map V.str)) := h138
    have fr140 := S0.free n134
    have S141 := S0.new n134 e137 h139 fr140
    refine ⟨_, rfl, _, _, _, rfl, (SqL.of h139), (by rw [List.length_map]), _, _, rfl, rfl, _, rfl, ?_⟩
    refine iteN (fun c142 => ?_) (fun c142 => ?_)
    · have hw := cW_neg c142 hw
      exact hE 1 (cW_er hw) _ S141.b0
    · have hw := cW_pos c142 hw
      obtain ⟨K144, hK145, hw⟩ := cW_push hw
      refine ⟨_, rfl, _, rfl, ⟨_, (SqL.of h139)⟩, fun D146 n147 => lc_list (K := K) (a := p133) (xs := ((Txt.split ((Txt.replace (text') "x" ":")) ":") : (List Str)).map V.str) (fun i1 H' => ∃ (G' : Hp) (acc149 : (List Bool)), Same G G' ∧ Sep [] H G G' H' [D146, p133] ∧ H' p133 = some (.lst (((Txt.split ((Txt.replace (text') "x" ":")) ":") : (List Str)).map V.str)) ∧ H' D146 = some (.lst ((acc149 : (List Bool)).map V.bl)) ∧ Same H136 H' ∧ cW (mapA (List.drop i1 ((Txt.split ((Txt.replace (text') "x" ":")) ":"))) acc149 (fun x => noEr (F__numbers_in_c1  x))) K144 EE) ?_ ?_ ?_ ?_⟩
      · generalize g151 : upd H136 D146 _ = H152
        obtain ⟨e153, h154⟩ := gen_new n147 g151
        have fr155 := S141.free n147
        have S156 := S141.new n147 e153 h154 fr155
        have h157 := (e153 _ _ h139)
        exact ⟨_, [], Same.refl _, S156, h157, h154, e153, hw⟩
      · intro i1 H158 _ hw
        obtain ⟨G161, acc163, eG162, S159, h170, h160, eo169, hw⟩ := hw
        exact (SqL.of h170)
      · intro i1 x H171 hj hw
        obtain ⟨G174, acc176, eG175, S172, h183, h173, eo182, hw⟩ := hw
        obtain ⟨x184, hx, rfl⟩ := map_getF hj
        obtain ⟨z185, hw⟩ := cW_mapA hx hw
        have hw := cW_noEr hw
        have hw : cW (F__numbers_in_c1  (x184)) _ (fun _ => False) := hw
        unfold F__numbers_in_c1 at hw
        refine ⟨rfl, ?_⟩
        refine tyes_go ?_
        obtain ⟨g187, hw⟩ := cW_grd hw
        refine vv_or  (a := (!(Txt.isdecimal (x184)))) (b := decide (3 < (((x184 : Str).length : Nat) : Int))) ?ha188 ?hb189 _ ?_
        case ha188 => exact (vv_not (vv_m0 (val_var rfl) (fun Q q => ⟨_, rfl, rfl, trivial, q⟩)))
        case hb189 => exact (vv_cmp (vv_call1 (val_var rfl) (fun Q q => ⟨_, rfl, g187, q⟩)) val_c (fun Q q => ⟨_, _, rfl, rfl, q⟩))
        refine ⟨_, h173, (app_lenM z185), ?_⟩
        generalize g190 : upd H171 D146 _ = H191
        obtain ⟨x192, h193⟩ := gen_mut g190
        have S194 := S172.mut1 x192 (.head _) h193
        have hw := cW_ok hw
        have h195 := (x192 _ _ h183 (ne_of_none h139 n147))
        exact ⟨_, (acc176 ++ [((!(Txt.isdecimal (x184))) || decide (3 < (((x184 : Str).length : Nat) : Int)))]), eG175, S194, h195, (snoc_map h193), (same_mut eo182 x192 n147), hw⟩
      intro H196 hw
      obtain ⟨G199, acc201, eG200, S197, h208, h198, eo207, hw⟩ := hw
      have hw := hK145 _ (cW_mapA0 (by rw [List.length_map]) hw)
      have fr209 := S141.free n147
      refine ⟨_, _, rfl, (SqL.of h198), _, rfl, ?_⟩
      refine iteB (fun c210 => ?_) (fun c210 => ?_)
      · have hw := cW_pos c210 hw
        exact hE 1 (cW_er hw) _ S197.b0
      · have hw := cW_negB c210 hw
        obtain ⟨K212, hK213, hw⟩ := cW_push hw
        refine ⟨_, rfl, _, rfl, ⟨_, (SqL.of h208)⟩, fun D214 n215 => lc_list (K := K) (a := p133) (xs := ((Txt.split ((Txt.replace (text') "x" ":")) ":") : (List Str)).map V.str) (fun i1 H' => ∃ (G' : Hp) (acc217 : (List Int)), Same G199 G' ∧ Sep [] H G G' H' [D214, p133] ∧ H' p133 = some (.lst (((Txt.split ((Txt.replace (text') "x" ":")) ":") : (List Str)).map V.str)) ∧ H' D214 = some (.lst ((acc217 : (List Int)).map V.int)) ∧ Same H196 H' ∧ cW (mapA (List.drop i1 ((Txt.split ((Txt.replace (text') "x" ":")) ":"))) acc217 (fun x => noEr (F__numbers_in_c2  x))) K212 EE) ?_ ?_ ?_ ?_⟩
        · generalize g219 : upd H196 D214 _ = H220
          obtain ⟨e221, h222⟩ := gen_new n215 g219
          have fr223 := S197.free n215
          have S224 := S197.new n215 e221 h222 fr223
          have h225 := (e221 _ _ h208)
          exact ⟨_, [], Same.refl _, (S224.sub (all_cons (.head _) (all_cons (.tail _ (.tail _ (.head _))) all_nil))), h225, h222, e221, hw⟩
        · intro i1 H226 _ hw
          obtain ⟨G229, acc231, eG230, S227, h238, h228, eo237, hw⟩ := hw
          exact (SqL.of h238)
        · intro i1 x H239 hj hw
          obtain ⟨G242, acc244, eG243, S240, h251, h241, eo250, hw⟩ := hw
          obtain ⟨x252, hx, rfl⟩ := map_getF hj
          obtain ⟨z253, hw⟩ := cW_mapA hx hw
          have hw := cW_noEr hw
          have hw : cW (F__numbers_in_c2  (x252)) _ (fun _ => False) := hw
          unfold F__numbers_in_c2 at hw
          refine ⟨rfl, ?_⟩
          refine tyes_go ?_
          obtain ⟨g255, hw⟩ := cW_grd hw
          refine ⟨_, rfl, _, _, rfl, (numS_some g255.1), g255.2, _, h241, (app_lenM z253), ?_⟩
          generalize g256 : upd H239 D214 _ = H257
          obtain ⟨x258, h259⟩ := gen_mut g256
          have S260 := S240.mut1 x258 (.head _) h259
          have hw := cW_ok hw
          have h261 := (x258 _ _ h251 (ne_of_none h208 n215))
          exact ⟨_, (acc244 ++ [(numS (x252))]), eG243, S260, h261, (snoc_map h259), (same_mut eo250 x258 n215), hw⟩
        intro H262 hw
        obtain ⟨G265, acc267, eG266, S263, h274, h264, eo273, hw⟩ := hw
        have hw := hK213 _ (cW_mapA0 (by rw [List.length_map]) hw)
        have fr275 := S197.free n215
        have hw := cW_ok hw
        exact hK0 _ hw _ _ fr275 S263.b0 h264

abbrev N_Format_parse : List Str := ["cls", "text", "width", "height", "depth", "chroma", "made"]
theorem sc_Format_parse : FnScope N_Format_parse ["cls", "text"] (defScope s_Format_parse) := ⟨rfl, rfl, rfl, by decide +kernel, rfl, by decide +kernel, by decide +kernel⟩
theorem ok_Format_parse (D : ClmX K AD.c_Format "Format.parse" "parse" s_Format_parse ["cls", "text"] pats_Format_parse) (T : Txt w K mg AD) (c__numbers_in : CalT P w K mg base 1 "_numbers_in" (sp__numbers_in K AD) pats__numbers_in) (c_Format___init__ : MakX P w K mg base 1 "Format" AD.c_Format (sp_Format___init__ K AD) pats_Format___init__) (c_Format_text : MetX P w K mg base 1 AD.c_Format "text" (sp_Format_text K AD) pats_Format_text) : ClmT P w K mg base 3 AD.c_Format "parse" (sp_Format_parse K AD) pats_Format_parse := by
  refine D.okT sc_Format_parse (fun vs H Q E h => ?_) (fun f cdv A_ outer s H vs Q E hr h => ?_)
  · obtain ⟨G, text', rfl, _⟩ := h
    rfl
  · obtain ⟨G, text', rfl, sG, hw⟩ := h
    refine ⟨_, (psst_cons (pst_asg (vx_callT c__numbers_in pat__numbers_in_0 (.head _) hr (by decide) (takes_of rfl rfl rfl rfl) rfl (pa_cons (pv 1) pa_nil) pk_nil) (pg_seqK (K := K) (n := 4) (pgs_cons (pg_name (i := 2) sc_Format_parse.nd rfl (Or.inl rfl)) (pgs_cons (pg_name (i := 3) sc_Format_parse.nd rfl (Or.inl rfl)) (pgs_cons (pg_name (i := 4) sc_Format_parse.nd rfl (Or.inl rfl)) (pgs_cons (pg_name (i := 5) sc_Format_parse.nd rfl (Or.inl rfl)) pgs_nil))))))
      (PSsT.of (pss_cons (ps_set (i := 6) sc_Format_parse.nd rfl (Or.inl rfl) (vx_makeL c_Format___init__ pat_Format___init___0 (.head _) hr (by decide) (takes_of rfl rfl rfl rfl) (pv 0) (pa_cons (pv 2) (pa_cons (pv 3) pa_nil)) (pk_cons (pv 4) (pk_cons (pv 5) pk_nil))))
      (pss_cons (ps_if (pt_cmpR op_ne (vx_methX0 c_Format_text pat_Format_text_0 (.head _) hr (by decide) (takes_of rfl rfl rfl rfl) (pv 6)) (pv 1) (nomark _)) (pss_one (ps_raise rfl (takes_of rfl rfl rfl rfl) (pmk_own PySem.F.excBase_ValueError T.xx_BadFormat T.xg_BadFormat T.xk_BadFormat (raises_own T.xb_BadFormat T.xt_BadFormat) rfl))) pss_nil)
      (pss_one (ps_ret (pv 6))))))), ?_⟩
    obtain ⟨KK, EE, hK0, hE, hw⟩ := cW_gen hw
    have S0 := Sep.startG sG
    unfold F_Format_parse at hw
    refine ⟨_, rfl, rfl, rfl, G, _, rfl, S0.sG, cW_call hw (fun v276 hw p279 H277 n280 e278 h281 => ?_) (fun e he H2 e2 => hE e he H2 (Same.trans S0.b0 e2))⟩
    have h282 : H277 p279 = some (.lst ((v276 : (List Int)).map V.int)) := h281
    have fr283 := S0.free n280
    have S284 := S0.new n280 e278 h282 fr283
    obtain ⟨g285, hw⟩ := cW_grd hw
    refine ⟨_, [V.int ((itD (v276) 0)), V.int ((itD (v276) 1)), V.int ((itD (v276) 2)), V.int ((itD (v276) 3))], rfl, (SqL.cast (SqL.of h282) (unp4 g285)), rfl, _, _, rfl, _, _, rfl, _, _, rfl, _, _, rfl, rfl, ?_⟩
    have hw := cW_bnd hw
    have hw := cW_bnd hw
    have hw := cW_bnd hw
    have hw := cW_bnd hw
    refine ⟨rfl, _, rfl, _, rfl, _, rfl, _, rfl, rfl, rfl, fun x290 dx291 n292 n293 n294 => ?_⟩
    generalize g295 : upd (upd H277 dx291 _) x290 _ = H296
    obtain ⟨e297, h298⟩ := gen_obj n292 n293 n294 g295
    have fr299 := S284.free n292
    have S300 := S284.new n292 e297 h298 fr299
    refine ⟨G, _, _, _, _, _, _, rfl, S300.sG, (S300.gno (all_cons (.head _) all_nil)), h298, cW_call hw (fun v301 hw H302 x303 h304 => ⟨rfl, ?_⟩) (fun e he H2 e2 => hE e he H2 (Same.trans S284.b0 (same_mut e297 e2 n292)))⟩
    have S305 : Sep _ _ _ _ H302 [x290, p279] := Sep.init S300 x303 (.head _) h304 [] all_nil
    refine ⟨_, rfl, _, _, _, rfl, h304, rfl, rfl, rfl, G, _, _, v301, rfl, S305.sG, (hide_nil h304), cW_call hw (fun v306 hw H307 e308 => ?_) (fun e he H2 e2 => hE e he H2 (Same.trans S305.b0 e2))⟩
    have S309 := S305.same e308
    refine ⟨_, rfl, rfl, _, rfl, ?_⟩
    refine iteN (fun c310 => ?_) (fun c310 => ?_)
    · have hw := cW_neg c310 hw
      exact hE 1 (cW_er hw) _ S309.b0
    · have hw := cW_pos c310 hw
      refine ⟨_, rfl, ?_⟩
      have h311 := (e308 _ _ h304)
      have hw := cW_ok hw
      exact hK0 _ hw _ _ _ S309.b0 fr299 h311

abbrev N__law_text : List Str := ["numbers"]
theorem sc__law_text : FnScope N__law_text ["numbers"] (defScope s__law_text) := ⟨rfl, rfl, rfl, by decide +kernel, rfl, by decide +kernel, by decide +kernel⟩
theorem ok__law_text (D : DefX K mg "_law_text" s__law_text ["numbers"] pats__law_text) (T : Txt w K mg AD)  : CalX P w K mg base 1 "_law_text" (sp__law_text K AD) pats__law_text := by
  refine D.ok sc__law_text (fun vs H Q E h => ?_) (fun f cdv A_ outer s H vs Q E hr h => ?_)
  · obtain ⟨G, a_numbers, numbers', rfl, _⟩ := h
    rfl
  · obtain ⟨G, a_numbers, numbers', rfl, sG, q_numbers, hw⟩ := h
    refine ⟨_, (pss_one (ps_ret (pe_op op_add_str (pe_op op_add_str (pe_op op_add_str (pe_op op_add_str (pe_op op_add_str (pe_op op_add_str (pe_callTy call_str_int (by rfl) T.b_str (by decide +kernel) (pa_cons (pe_ix (ix_listK (K := K)) (pv 0) pe_int (fun _ _ => rfl)) pa_nil)) pe_str) (pe_callTy call_str_int (by rfl) T.b_str (by decide +kernel) (pa_cons (pe_ix (ix_listK (K := K)) (pv 0) pe_int (fun _ _ => rfl)) pa_nil))) pe_str) (pe_callTy call_str_int (by rfl) T.b_str (by decide +kernel) (pa_cons (pe_ix (ix_listK (K := K)) (pv 0) pe_int (fun _ _ => rfl)) pa_nil))) pe_str) (pe_callTy call_str_int (by rfl) T.b_str (by decide +kernel) (pa_cons (pe_ix (ix_listK (K := K)) (pv 0) pe_int (fun _ _ => rfl)) pa_nil))))), ?_⟩
    obtain ⟨KK, EE, hK0, hE, hw⟩ := cW_gen hw
    have S0 := Sep.startG sG
    unfold F__law_text at hw
    obtain ⟨g312, hw⟩ := cW_grd hw
    obtain ⟨g313, hw⟩ := cW_grd hw
    obtain ⟨g314, hw⟩ := cW_grd hw
    obtain ⟨g315, hw⟩ := cW_grd hw
    obtain ⟨g316, hw⟩ := cW_grd hw
    obtain ⟨g317, hw⟩ := cW_grd hw
    obtain ⟨g318, hw⟩ := cW_grd hw
    obtain ⟨g319, hw⟩ := cW_grd hw
    obtain ⟨g320, hw⟩ := cW_grd hw
    obtain ⟨g321, hw⟩ := cW_grd hw
    obtain ⟨g322, hw⟩ := cW_grd hw
    obtain ⟨g323, hw⟩ := cW_grd hw
    obtain ⟨g324, hw⟩ := cW_grd hw
    obtain ⟨g325, hw⟩ := cW_grd hw
    refine ⟨_, rfl, _, _, _, _, rfl, rfl, (SqL.of (S0.bM _ _ q_numbers)), (atI_map g312), _, rfl, g313, _, _, rfl, rfl, g314, _, rfl, _, _, _, _, rfl, rfl, (SqL.of (S0.bM _ _ q_numbers)), (atI_map g315), _, rfl, g316, _, _, rfl, rfl, g317, _, _, rfl, rfl, g318, _, rfl, _, _, _, _, rfl, rfl, (SqL.of (S0.bM _ _ q_numbers)), (atI_map g319), _, rfl, g320, _, _, rfl, rfl, g321, _, _, rfl, rfl, g322, _, rfl, _, _, _, _, rfl, rfl, (SqL.of (S0.bM _ _ q_numbers)), (atI_map g323), _, rfl, g324, _, _, rfl, rfl, g325, ?_⟩
    have hw := cW_ok hw
    exact hK0 _ hw

abbrev N__law_bad : List Str := ["text", "numbers", "number", "parts", "texts", "k", "zeros", "worse"]
theorem sc__law_bad : FnScope N__law_bad ["text", "numbers", "number"] (defScope s__law_bad) := ⟨rfl, rfl, rfl, by decide +kernel, rfl, by decide +kernel, by decide +kernel⟩
theorem ok__law_bad (D : DefX K mg "_law_bad" s__law_bad ["text", "numbers", "number"] pats__law_bad) (T : Txt w K mg AD) (c__law_text : CalX P w K mg base 1 "_law_text" (sp__law_text K AD) pats__law_text) : CalX P w K mg base 2 "_law_bad" (sp__law_bad K AD) pats__law_bad := by
  refine D.ok sc__law_bad (fun vs H Q E h => ?_) (fun f cdv A_ outer s H vs Q E hr h => ?_)
  · obtain ⟨G, text', a_numbers, numbers', number', rfl, _⟩ := h
    rfl
  · obtain ⟨G, text', a_numbers, numbers', number', rfl, sG, q_numbers, hw⟩ := h
    refine ⟨_, (pss_cons (ps_setLc (i := 3) (y := "parts") rfl sc__law_bad.nd rfl rfl (sw_true rfl rfl rfl (by decide +kernel)) (own := [("number", 2)]) (g := gName 2) (pi_listK (K := K) (pv 1)) (blkOk_by (own := [("number", 2)]) (N := N__law_bad) (sc := defScope s__law_bad) (by decide +kernel)) (fun _ _ _ _ _ => (pg_name (i := 2) sc__law_bad.nd rfl (Or.inl rfl))) (fun _ _ _ _ _ => pts_nil) (fun _ _ _ _ _ => (pe_callTy call_str_int (by rfl) T.b_str (by decide +kernel) (pa_cons (pv 2) pa_nil))))
      (pss_consO (pso_set (i := 4) sc__law_bad.nd rfl (Or.inl rfl) (peo_lst peo_str (pat_cons (CwR.PET.of (pe_op op_add_str pe_str (pv 0))) (pat_cons (CwR.PET.of (pe_op op_add_str pe_str (pv 0))) (pat_cons (CwR.PET.of (pe_op op_add_str pe_str (pv 0))) (pat_cons (CwR.PET.of (pe_op op_add_str pe_str (pv 0))) (pat_cons (CwR.PET.of (pe_op op_add_str (pv 0) pe_str)) (pat_cons (CwR.PET.of (pe_op op_add_str (pv 0) pe_str)) (pat_cons (CwR.PET.of (pe_slice sl_str (pv 0) po_none (po_some (pe_un un_neg pe_int)))) (pat_cons (CwR.PET.of (pe_op op_add_str (pv 0) pe_str)) (pat_cons (CwR.PET.of (pe_op op_add_str pe_str (pv 0))) pat_nil)))))))))))
      (psst_cons (pst_set (i := 4) sc__law_bad.nd rfl (Or.inl rfl) (CwR.pet_op op_cat (CwR.PET.of (pv 4)) (pet_lst (pat_cons (CwR.pet_replC (pv 0)) (pat_cons (CwR.pet_replC (pv 0)) (pat_cons (CwR.pet_replC (pv 0)) (pat_cons (CwR.pet_replC (pv 0)) pat_nil)))))))
      (PSsT.of (pss_cons (ps_set (i := 4) sc__law_bad.nd rfl (Or.inl rfl) (pe_op op_cat (pv 4) (pe_lst (pa_cons (pe_op op_add_str (pe_op op_add_str (pe_op op_add_str (pe_op op_add_str (pe_ix (ix_listK (K := K)) (pv 3) pe_int (fun _ _ => rfl)) pe_str) (pe_ix (ix_listK (K := K)) (pv 3) pe_int (fun _ _ => rfl))) pe_str) (pe_ix (ix_listK (K := K)) (pv 3) pe_int (fun _ _ => rfl))) (pa_cons (pe_op op_add_str (pe_op op_add_str (pe_ix (ix_listK (K := K)) (pv 3) pe_int (fun _ _ => rfl)) pe_str) (pe_ix (ix_listK (K := K)) (pv 3) pe_int (fun _ _ => rfl))) (pa_cons (pe_ix (ix_listK (K := K)) (pv 3) pe_int (fun _ _ => rfl)) (pa_cons (pe_op op_add_str (pe_op op_add_str (pv 0) pe_str) (pe_ix (ix_listK (K := K)) (pv 3) pe_int (fun _ _ => rfl))) pa_nil)))))))
      (pss_cons (ps_set (i := 4) sc__law_bad.nd rfl (Or.inl rfl) (pe_op op_cat (pv 4) (pe_lst (pa_cons (pe_op op_add_str (pe_op op_add_str (pe_op op_add_str (pe_op op_add_str (pe_op op_add_str (pe_op op_add_str (pe_ix (ix_listK (K := K)) (pv 3) pe_int (fun _ _ => rfl)) pe_str) (pe_ix (ix_listK (K := K)) (pv 3) pe_int (fun _ _ => rfl))) pe_str) (pe_ix (ix_listK (K := K)) (pv 3) pe_int (fun _ _ => rfl))) pe_str) (pe_ix (ix_listK (K := K)) (pv 3) pe_int (fun _ _ => rfl))) (pa_cons (pe_op op_add_str (pe_op op_add_str (pe_slice sl_str (pv 0) po_none (po_some (pe_un un_neg pe_int))) pe_str) (pe_ix (ix_listK (K := K)) (pv 3) pe_int (fun _ _ => rfl))) pa_nil)))))
      (pss_cons (ps_set (i := 4) sc__law_bad.nd rfl (Or.inl rfl) (pe_op op_cat (pv 4) (PEO.pe (peo_lst (peo_right op_add_str (pv 0) peo_str) (pat_cons (CwR.pet_replC (pv 0)) (pat_cons (CwR.pet_replC (pv 0)) (pat_cons (CwR.PET.of (pe_op op_add_str (pv 0) pe_str)) (pat_cons (CwR.pet_replC (pv 0)) pat_nil))))))))
      (pss_cons (ps_for (passes_of rfl) rfl (pi_range1 rfl T.b_range (pa_cons pe_int pa_nil)) (pg_name (i := 5) sc__law_bad.nd rfl (Or.inl rfl)) (pss_cons (ps_set (i := 6) sc__law_bad.nd rfl (Or.inl rfl) (pe_callTy (call_listLK (K := K)) (by rfl) T.b_list (by decide +kernel) (pa_cons (pv 3) pa_nil)))
      (pss_cons (ps_asg (pe_op op_add_str pe_str (pe_ix (ix_listK (K := K)) (pv 3) (pv 5) (fun _ _ => rfl))) (pg_sub (pv 6) (pv 5) set_list))
      (pss_cons (ps_set (i := 4) sc__law_bad.nd rfl (Or.inl rfl) (pe_op op_cat (pv 4) (PEO.pe (peo_lst (peo_left op_add_str (peo_left op_add_str (peo_left op_add_str (peo_left op_add_str (peo_left op_add_str (peo_right op_add_str (pe_ix (ix_listK (K := K)) (pv 6) pe_int (fun _ _ => rfl)) peo_str) (pe_ix (ix_listK (K := K)) (pv 6) pe_int (fun _ _ => rfl))) pe_str) (pe_ix (ix_listK (K := K)) (pv 6) pe_int (fun _ _ => rfl))) pe_str) (pe_ix (ix_listK (K := K)) (pv 6) pe_int (fun _ _ => rfl))) (pat_cons (CwR.pet_replC (pv 0)) pat_nil)))))
      (pss_cons (ps_set (i := 7) sc__law_bad.nd rfl (Or.inl rfl) (pe_callTy (call_listLK (K := K)) (by rfl) T.b_list (by decide +kernel) (pa_cons (pv 1) pa_nil)))
      (pss_cons (ps_asg (pe_op op_add (pe_ix (ix_listK (K := K)) (pe_lst (pa_cons pe_int (pa_cons pe_int (pa_cons pe_int (pa_cons pe_int pa_nil))))) (pv 5) (fun _ _ => rfl)) (pv 2)) (pg_sub (pv 7) (pv 5) set_list))
      (pss_cons (ps_expr (pe_bm PySem.F.plainAttrs_list PySem.F.slot_list_append PySem.F.type_list_append mt_append (pv 4) (pa_cons (vx_callX c__law_text pat__law_text_0 (.head _) hr (by decide) (takes_of rfl rfl rfl rfl) rfl (pa_cons (pv 7) pa_nil) pk_nil) pa_nil)))
      (pss_cons (ps_asg (pe_ix (ix_listK (K := K)) (pe_lst (pa_cons pe_int (pa_cons pe_int (pa_cons pe_int (pa_cons pe_int pa_nil))))) (pv 5) (fun _ _ => rfl)) (pg_sub (pv 7) (pv 5) set_list))
      (pss_one (ps_expr (pe_bm PySem.F.plainAttrs_list PySem.F.slot_list_append PySem.F.type_list_append mt_append (pv 4) (pa_cons (vx_callX c__law_text pat__law_text_0 (.head _) hr (by decide) (takes_of rfl rfl rfl rfl) rfl (pa_cons (pv 7) pa_nil) pk_nil) pa_nil))))))))))))
      (pss_one (ps_ret (pv 4))))))))))), ?_⟩
    obtain ⟨KK, EE, hK0, hE, hw⟩ := cW_gen hw
    have S0 := Sep.startG sG
    unfold F__law_bad at hw
    obtain ⟨K327, hK328, hw⟩ := cW_push hw
    refine ⟨_, rfl, _, rfl, ⟨_, (SqL.of (S0.bM _ _ q_numbers))⟩, fun D329 n330 => lc_list (K := K) (a := a_numbers) (xs := (numbers' : List Int).map V.int) (fun i1 H' => ∃ (G' : Hp) (acc332 : (List Str)), Same G G' ∧ Sep [] H G G' H' [D329] ∧ H' D329 = some (.lst ((acc332 : (List Str)).map V.str)) ∧ Same H H' ∧ cW (mapA (List.drop i1 (numbers')) acc332 (fun x => noEr (F__law_bad_c1  x))) K327 EE) ?_ ?_ ?_ ?_⟩
    · generalize g334 : upd H D329 _ = H335
      obtain ⟨e336, h337⟩ := gen_new n330 g334
      have fr338 := S0.free n330
      have S339 := S0.new n330 e336 h337 fr338
      exact ⟨_, [], Same.refl _, S339, h337, e336, hw⟩
    · intro i1 H340 _ hw
      obtain ⟨G343, acc345, eG344, S341, h342, eo351, hw⟩ := hw
      exact (SqL.of (S341.bM _ _ q_numbers))
    · intro i1 x H352 hj hw
      obtain ⟨G355, acc357, eG356, S353, h354, eo363, hw⟩ := hw
      obtain ⟨x364, hx, rfl⟩ := map_get hj
      obtain ⟨z365, hw⟩ := cW_mapA hx hw
      have hw := cW_noEr hw
      have hw : cW (F__law_bad_c1  (x364)) _ (fun _ => False) := hw
      unfold F__law_bad_c1 at hw
      refine ⟨rfl, ?_⟩
      refine tyes_go ?_
      obtain ⟨g367, hw⟩ := cW_grd hw
      refine ⟨_, rfl, _, rfl, g367, _, h354, (app_lenM z365), ?_⟩
      generalize g368 : upd H352 D329 _ = H369
      obtain ⟨x370, h371⟩ := gen_mut g368
      have S372 := S353.mut1 x370 (.head _) h371
      have hw := cW_ok hw
      exact ⟨_, (acc357 ++ [(strI (x364))]), eG356, S372, (snoc_map h371), (same_mut eo363 x370 n330), hw⟩
    intro H373 hw
    obtain ⟨G376, acc378, eG377, S374, h375, eo384, hw⟩ := hw
    have hw := hK328 _ (cW_mapA0 (by rw [List.length_map]) hw)
    have fr385 := S0.free n330
    obtain ⟨g386, hw⟩ := cW_grd hw
    obtain ⟨g387, hw⟩ := cW_grd hw
    obtain ⟨g388, hw⟩ := cW_grd hw
    obtain ⟨g389, hw⟩ := cW_grd hw
    obtain ⟨g390, hw⟩ := cW_grd hw
    obtain ⟨g391, hw⟩ := cW_grd hw
    obtain ⟨g392, hw⟩ := cW_grd hw
    obtain ⟨g393, hw⟩ := cW_grd hw
    obtain ⟨g394, hw⟩ := cW_grd hw
    refine ⟨_, rfl, _, _, rfl, rfl, g386, _, rfl, _, _, rfl, rfl, g387, _, rfl, _, _, rfl, rfl, g388, _, rfl, _, _, rfl, rfl, g389, _, rfl, _, _, rfl, rfl, g390, _, rfl, _, _, rfl, rfl, g391, _, rfl, _, rfl, _, rfl, _, rfl, g392, _, rfl, _, _, rfl, rfl, g393, _, rfl, _, _, rfl, rfl, g394, (by show 10 ≤ sizeLine; decide), fun p395 n396 => ?_⟩
    generalize g397 : upd H373 p395 _ = H398
    obtain ⟨e399, h400⟩ := gen_new n396 g397
    have h401 : H398 p395 = some (.lst (([("" : Str), ((("0" : Str) : Str) ++ (text' : Str)), ((("+" : Str) : Str) ++ (text' : Str)), ((("-" : Str) : Str) ++ (text' : Str)), (((" " : Str) : Str) ++ (text' : Str)), ((text' : Str) ++ ((" " : Str) : Str)), ((text' : Str) ++ (("\n" : Str) : Str)), (cutS (text') none (some ((-1)))), ((text' : Str) ++ ((":" : Str) : Str)), ((("x" : Str) : Str) ++ (text' : Str))] : (List Str)).map V.str)) := h400
    have fr402 := S374.free n396
    have S403 := S374.new n396 e399 h401 fr402
    obtain ⟨g404, hw⟩ := cW_grd hw
    obtain ⟨g405, hw⟩ := cW_grd hw
    obtain ⟨g406, hw⟩ := cW_grd hw
    obtain ⟨g407, hw⟩ := cW_grd hw
    refine ⟨_, rfl, _, rfl, _, rfl, g404, _, rfl, _, rfl, g405, _, rfl, _, rfl, g406, _, rfl, _, rfl, g407, (by show 4 ≤ sizeLine; decide), fun p408 n409 => ?_⟩
    generalize g410 : upd H398 p408 _ = H411
    obtain ⟨e412, h413⟩ := gen_new n409 g410
    have h414 : H411 p408 = some (.lst (([(Txt.replace (text') "x" "X"), (Txt.replace (text') ":" ";"), (Txt.replace (text') ":" "x"), (Txt.replace (text') "x" ":")] : (List Str)).map V.str)) := h413
    have fr415 := S403.free n409
    have S416 := S403.new n409 e412 h414 fr415
    obtain ⟨g417, hw⟩ := cW_grd hw
    have h418 := (e412 _ _ h401)
    refine ⟨_, _, _, _, rfl, rfl, h418, h414, (cat_lenM g417), fun p419 n420 => ?_⟩
    generalize g421 : upd H411 p419 _ = H422
    obtain ⟨e423, h424⟩ := gen_new n420 g421
    have h425 : H422 p419 = some (.lst ((([("" : Str), ((("0" : Str) : Str) ++ (text' : Str)), ((("+" : Str) : Str) ++ (text' : Str)), ((("-" : Str) : Str) ++ (text' : Str)), (((" " : Str) : Str) ++ (text' : Str)), ((text' : Str) ++ ((" " : Str) : Str)), ((text' : Str) ++ (("\n" : Str) : Str)), (cutS (text') none (some ((-1)))), ((text' : Str) ++ ((":" : Str) : Str)), ((("x" : Str) : Str) ++ (text' : Str))]) ++ ([(Txt.replace (text') "x" "X"), (Txt.replace (text') ":" ";"), (Txt.replace (text') ":" "x"), (Txt.replace (text') "x" ":")]) : (List Str)).map V.str)) := cat_map h424
    have fr426 := S416.free n420
    have S427 := S416.new n420 e423 h425 fr426
    obtain ⟨g428, hw⟩ := cW_grd hw
    have h429 := (e423 _ _ (e412 _ _ (e399 _ _ h375)))
    obtain ⟨g430, hw⟩ := cW_grd hw
    obtain ⟨g431, hw⟩ := cW_grd hw
    obtain ⟨g432, hw⟩ := cW_grd hw
    obtain ⟨g433, hw⟩ := cW_grd hw
    obtain ⟨g434, hw⟩ := cW_grd hw
    obtain ⟨g435, hw⟩ := cW_grd hw
    obtain ⟨g436, hw⟩ := cW_grd hw
    obtain ⟨g437, hw⟩ := cW_grd hw
    obtain ⟨g438, hw⟩ := cW_grd hw
    obtain ⟨g439, hw⟩ := cW_grd hw
    obtain ⟨g440, hw⟩ := cW_grd hw
    obtain ⟨g441, hw⟩ := cW_grd hw
    obtain ⟨g442, hw⟩ := cW_grd hw
    obtain ⟨g443, hw⟩ := cW_grd hw
    refine ⟨_, rfl, _, rfl, _, _, _, _, rfl, rfl, (SqL.of h429), (atI_map g428), _, _, rfl, rfl, g430, _, rfl, _, _, _, _, rfl, rfl, (SqL.of h429), (atI_map g431), _, _, rfl, rfl, g432, _, _, rfl, rfl, g433, _, rfl, _, _, _, _, rfl, rfl, (SqL.of h429), (atI_map g434), _, _, rfl, rfl, g435, _, rfl, _, _, _, _, rfl, rfl, (SqL.of h429), (atI_map g436), _, _, rfl, rfl, g437, _, rfl, _, _, _, _, rfl, rfl, (SqL.of h429), (atI_map g438), _, _, rfl, rfl, g439, _, rfl, _, _, _, _, rfl, rfl, (SqL.of h429), (atI_map g440), _, rfl, _, _, rfl, rfl, g441, _, rfl, _, _, _, _, rfl, rfl, (SqL.of h429), (atI_map g442), _, _, rfl, rfl, g443, (by show 4 ≤ sizeLine; decide), fun p444 n445 => ?_⟩
    generalize g446 : upd H422 p444 _ = H447
    obtain ⟨e448, h449⟩ := gen_new n445 g446
    have h450 : H447 p444 = some (.lst (([(((((((((itD (acc378) (0)) : Str) ++ (("x" : Str) : Str)) : Str) ++ ((itD (acc378) (1)) : Str)) : Str) ++ ((":" : Str) : Str)) : Str) ++ ((itD (acc378) (2)) : Str)), (((((itD (acc378) (0)) : Str) ++ (("x" : Str) : Str)) : Str) ++ ((itD (acc378) (1)) : Str)), (itD (acc378) (0)), ((((text' : Str) ++ ((":" : Str) : Str)) : Str) ++ ((itD (acc378) (3)) : Str))] : (List Str)).map V.str)) := h449
    have fr451 := S427.free n445
    have S452 := S427.new n445 e448 h450 fr451
    obtain ⟨g453, hw⟩ := cW_grd hw
    have h454 := (e448 _ _ h425)
    refine ⟨_, _, _, _, rfl, rfl, h454, h450, (cat_lenM g453), fun p455 n456 => ?_⟩
    generalize g457 : upd H447 p455 _ = H458
    obtain ⟨e459, h460⟩ := gen_new n456 g457
    have h461 : H458 p455 = some (.lst (((([("" : Str), ((("0" : Str) : Str) ++ (text' : Str)), ((("+" : Str) : Str) ++ (text' : Str)), ((("-" : Str) : Str) ++ (text' : Str)), (((" " : Str) : Str) ++ (text' : Str)), ((text' : Str) ++ ((" " : Str) : Str)), ((text' : Str) ++ (("\n" : Str) : Str)), (cutS (text') none (some ((-1)))), ((text' : Str) ++ ((":" : Str) : Str)), ((("x" : Str) : Str) ++ (text' : Str))]) ++ ([(Txt.replace (text') "x" "X"), (Txt.replace (text') ":" ";"), (Txt.replace (text') ":" "x"), (Txt.replace (text') "x" ":")])) ++ ([(((((((((itD (acc378) (0)) : Str) ++ (("x" : Str) : Str)) : Str) ++ ((itD (acc378) (1)) : Str)) : Str) ++ ((":" : Str) : Str)) : Str) ++ ((itD (acc378) (2)) : Str)), (((((itD (acc378) (0)) : Str) ++ (("x" : Str) : Str)) : Str) ++ ((itD (acc378) (1)) : Str)), (itD (acc378) (0)), ((((text' : Str) ++ ((":" : Str) : Str)) : Str) ++ ((itD (acc378) (3)) : Str))]) : (List Str)).map V.str)) := cat_map h460
    have fr462 := S452.free n456
    have S463 := S452.new n456 e459 h461 fr462
    obtain ⟨g464, hw⟩ := cW_grd hw
    have h465 := (e459 _ _ (e448 _ _ h429))
    obtain ⟨g466, hw⟩ := cW_grd hw
    obtain ⟨g467, hw⟩ := cW_grd hw
    obtain ⟨g468, hw⟩ := cW_grd hw
    obtain ⟨g469, hw⟩ := cW_grd hw
    obtain ⟨g470, hw⟩ := cW_grd hw
    obtain ⟨g471, hw⟩ := cW_grd hw
    obtain ⟨g472, hw⟩ := cW_grd hw
    obtain ⟨g473, hw⟩ := cW_grd hw
    obtain ⟨g474, hw⟩ := cW_grd hw
    obtain ⟨g475, hw⟩ := cW_grd hw
    obtain ⟨g476, hw⟩ := cW_grd hw
    obtain ⟨g477, hw⟩ := cW_grd hw
    obtain ⟨g478, hw⟩ := cW_grd hw
    refine ⟨_, rfl, _, rfl, _, _, _, _, rfl, rfl, (SqL.of h465), (atI_map g464), _, _, rfl, rfl, g466, _, rfl, _, _, _, _, rfl, rfl, (SqL.of h465), (atI_map g467), _, _, rfl, rfl, g468, _, _, rfl, rfl, g469, _, rfl, _, _, _, _, rfl, rfl, (SqL.of h465), (atI_map g470), _, _, rfl, rfl, g471, _, _, rfl, rfl, g472, _, rfl, _, _, _, _, rfl, rfl, (SqL.of h465), (atI_map g473), _, _, rfl, rfl, g474, _, rfl, _, rfl, _, rfl, _, rfl, g475, _, _, rfl, rfl, g476, _, rfl, _, _, _, _, rfl, rfl, (SqL.of h465), (atI_map g477), _, _, rfl, rfl, g478, (by show 2 ≤ sizeLine; decide), fun p479 n480 => ?_⟩
    generalize g481 : upd H458 p479 _ = H482
    obtain ⟨e483, h484⟩ := gen_new n480 g481
    have h485 : H482 p479 = some (.lst (([(((((((((((((itD (acc378) (0)) : Str) ++ (("x0" : Str) : Str)) : Str) ++ ((itD (acc378) (1)) : Str)) : Str) ++ ((":" : Str) : Str)) : Str) ++ ((itD (acc378) (2)) : Str)) : Str) ++ ((":" : Str) : Str)) : Str) ++ ((itD (acc378) (3)) : Str)), (((((cutS (text') none (some ((-1)))) : Str) ++ (("0" : Str) : Str)) : Str) ++ ((itD (acc378) (3)) : Str))] : (List Str)).map V.str)) := h484
    have fr486 := S463.free n480
    have S487 := S463.new n480 e483 h485 fr486
    obtain ⟨g488, hw⟩ := cW_grd hw
    have h489 := (e483 _ _ h461)
    refine ⟨_, _, _, _, rfl, rfl, h489, h485, (cat_lenM g488), fun p490 n491 => ?_⟩
    generalize g492 : upd H482 p490 _ = H493
    obtain ⟨e494, h495⟩ := gen_new n491 g492
    have h496 : H493 p490 = some (.lst ((((([("" : Str), ((("0" : Str) : Str) ++ (text' : Str)), ((("+" : Str) : Str) ++ (text' : Str)), ((("-" : Str) : Str) ++ (text' : Str)), (((" " : Str) : Str) ++ (text' : Str)), ((text' : Str) ++ ((" " : Str) : Str)), ((text' : Str) ++ (("\n" : Str) : Str)), (cutS (text') none (some ((-1)))), ((text' : Str) ++ ((":" : Str) : Str)), ((("x" : Str) : Str) ++ (text' : Str))]) ++ ([(Txt.replace (text') "x" "X"), (Txt.replace (text') ":" ";"), (Txt.replace (text') ":" "x"), (Txt.replace (text') "x" ":")])) ++ ([(((((((((itD (acc378) (0)) : Str) ++ (("x" : Str) : Str)) : Str) ++ ((itD (acc378) (1)) : Str)) : Str) ++ ((":" : Str) : Str)) : Str) ++ ((itD (acc378) (2)) : Str)), (((((itD (acc378) (0)) : Str) ++ (("x" : Str) : Str)) : Str) ++ ((itD (acc378) (1)) : Str)), (itD (acc378) (0)), ((((text' : Str) ++ ((":" : Str) : Str)) : Str) ++ ((itD (acc378) (3)) : Str))])) ++ ([(((((((((((((itD (acc378) (0)) : Str) ++ (("x0" : Str) : Str)) : Str) ++ ((itD (acc378) (1)) : Str)) : Str) ++ ((":" : Str) : Str)) : Str) ++ ((itD (acc378) (2)) : Str)) : Str) ++ ((":" : Str) : Str)) : Str) ++ ((itD (acc378) (3)) : Str)), (((((cutS (text') none (some ((-1)))) : Str) ++ (("0" : Str) : Str)) : Str) ++ ((itD (acc378) (3)) : Str))]) : (List Str)).map V.str)) := cat_map h495
    have fr497 := S487.free n491
    have S498 := S487.new n491 e494 h496 fr497
    obtain ⟨g499, hw⟩ := cW_grd hw
    obtain ⟨g500, hw⟩ := cW_grd hw
    obtain ⟨g501, hw⟩ := cW_grd hw
    obtain ⟨g502, hw⟩ := cW_grd hw
    obtain ⟨g503, hw⟩ := cW_grd hw
    refine ⟨_, rfl, _, rfl, _, _, rfl, rfl, g499, _, rfl, _, rfl, g500, _, rfl, _, rfl, g501, _, rfl, _, _, rfl, rfl, g502, _, rfl, _, rfl, g503, (by show 5 ≤ sizeLine; decide), fun p504 n505 => ?_⟩
    generalize g506 : upd H493 p504 _ = H507
    obtain ⟨e508, h509⟩ := gen_new n505 g506
    have h510 : H507 p504 = some (.lst (([((text' : Str) ++ (("0" : Str) : Str)), (Txt.replace (text') "x" " x"), (Txt.replace (text') ":" ": "), ((text' : Str) ++ (("x" : Str) : Str)), (Txt.replace (text') ":" "::")] : (List Str)).map V.str)) := h509
    have fr511 := S498.free n505
    have S512 := S498.new n505 e508 h510 fr511
    obtain ⟨g513, hw⟩ := cW_grd hw
    have h514 := (e508 _ _ h496)
    refine ⟨_, _, _, _, rfl, rfl, h514, h510, (cat_lenM g513), fun p515 n516 => ?_⟩
    generalize g517 : upd H507 p515 _ = H518
    obtain ⟨e519, h520⟩ := gen_new n516 g517
    have h521 : H518 p515 = some (.lst (((((([("" : Str), ((("0" : Str) : Str) ++ (text' : Str)), ((("+" : Str) : Str) ++ (text' : Str)), ((("-" : Str) : Str) ++ (text' : Str)), (((" " : Str) : Str) ++ (text' : Str)), ((text' : Str) ++ ((" " : Str) : Str)), ((text' : Str) ++ (("\n" : Str) : Str)), (cutS (text') none (some ((-1)))), ((text' : Str) ++ ((":" : Str) : Str)), ((("x" : Str) : Str) ++ (text' : Str))]) ++ ([(Txt.replace (text') "x" "X"), (Txt.replace (text') ":" ";"), (Txt.replace (text') ":" "x"), (Txt.replace (text') "x" ":")])) ++ ([(((((((((itD (acc378) (0)) : Str) ++ (("x" : Str) : Str)) : Str) ++ ((itD (acc378) (1)) : Str)) : Str) ++ ((":" : Str) : Str)) : Str) ++ ((itD (acc378) (2)) : Str)), (((((itD (acc378) (0)) : Str) ++ (("x" : Str) : Str)) : Str) ++ ((itD (acc378) (1)) : Str)), (itD (acc378) (0)), ((((text' : Str) ++ ((":" : Str) : Str)) : Str) ++ ((itD (acc378) (3)) : Str))])) ++ ([(((((((((((((itD (acc378) (0)) : Str) ++ (("x0" : Str) : Str)) : Str) ++ ((itD (acc378) (1)) : Str)) : Str) ++ ((":" : Str) : Str)) : Str) ++ ((itD (acc378) (2)) : Str)) : Str) ++ ((":" : Str) : Str)) : Str) ++ ((itD (acc378) (3)) : Str)), (((((cutS (text') none (some ((-1)))) : Str) ++ (("0" : Str) : Str)) : Str) ++ ((itD (acc378) (3)) : Str))])) ++ ([((text' : Str) ++ (("0" : Str) : Str)), (Txt.replace (text') "x" " x"), (Txt.replace (text') ":" ": "), ((text' : Str) ++ (("x" : Str) : Str)), (Txt.replace (text') ":" "::")]) : (List Str)).map V.str)) := cat_map h520
    have fr522 := S512.free n516
    have S523 := S512.new n516 e519 h521 fr522
    obtain ⟨K528, hK529, hw⟩ := cW_push hw
    refine ⟨_, rfl, (by decide), (by decide), for_range (lo := 0) (n := Int.toNat (4)) (fun i σ H' => ∃ (p531 : Addr) (texts_530 : (List Str)) (u532 : Option V) (u533 : Option V) (u534 : Option V) (G' : Hp), σ = [some (V.str (text')), some (V.ref a_numbers), some (V.int (number')), some (V.ref D329), some (V.ref p531), u532, u533, u534] ∧ Same G376 G' ∧ Sep [] H G G' H' [D329, p531] ∧ H' D329 = some (.lst ((acc378 : (List Str)).map V.str)) ∧ H' p531 = some (.lst ((texts_530 : (List Str)).map V.str)) ∧ H p531 = none ∧ p531 ≠ D329 ∧ cW (forS (List.drop i (rng (0) (Int.toNat (4)))) texts_530 (fun s x => F__law_bad_b2 (text') (numbers') (number') (acc378) s x)) K528 EE) ?_ ?_ ?_⟩
    · have h535 := (e519 _ _ (e508 _ _ (e494 _ _ (e483 _ _ h465))))
      exact ⟨_, ((((([("" : Str), ((("0" : Str) : Str) ++ (text' : Str)), ((("+" : Str) : Str) ++ (text' : Str)), ((("-" : Str) : Str) ++ (text' : Str)), (((" " : Str) : Str) ++ (text' : Str)), ((text' : Str) ++ ((" " : Str) : Str)), ((text' : Str) ++ (("\n" : Str) : Str)), (cutS (text') none (some ((-1)))), ((text' : Str) ++ ((":" : Str) : Str)), ((("x" : Str) : Str) ++ (text' : Str))]) ++ ([(Txt.replace (text') "x" "X"), (Txt.replace (text') ":" ";"), (Txt.replace (text') ":" "x"), (Txt.replace (text') "x" ":")])) ++ ([(((((((((itD (acc378) (0)) : Str) ++ (("x" : Str) : Str)) : Str) ++ ((itD (acc378) (1)) : Str)) : Str) ++ ((":" : Str) : Str)) : Str) ++ ((itD (acc378) (2)) : Str)), (((((itD (acc378) (0)) : Str) ++ (("x" : Str) : Str)) : Str) ++ ((itD (acc378) (1)) : Str)), (itD (acc378) (0)), ((((text' : Str) ++ ((":" : Str) : Str)) : Str) ++ ((itD (acc378) (3)) : Str))])) ++ ([(((((((((((((itD (acc378) (0)) : Str) ++ (("x0" : Str) : Str)) : Str) ++ ((itD (acc378) (1)) : Str)) : Str) ++ ((":" : Str) : Str)) : Str) ++ ((itD (acc378) (2)) : Str)) : Str) ++ ((":" : Str) : Str)) : Str) ++ ((itD (acc378) (3)) : Str)), (((((cutS (text') none (some ((-1)))) : Str) ++ (("0" : Str) : Str)) : Str) ++ ((itD (acc378) (3)) : Str))])) ++ ([((text' : Str) ++ (("0" : Str) : Str)), (Txt.replace (text') "x" " x"), (Txt.replace (text') ":" ": "), ((text' : Str) ++ (("x" : Str) : Str)), (Txt.replace (text') ":" "::")])), _, _, _, _, rfl, (Same.refl _), (S523.sub (all_cons (.tail _ (.tail _ (.tail _ (.tail _ (.tail _ (.tail _ (.tail _ (.tail _ (.tail _ (.head _)))))))))) (all_cons (.head _) all_nil))), h535, h521, fr522, (ne_of_none (e508 _ _ (e494 _ _ (e483 _ _ h465))) n516).symm, hw⟩
    · intro i σ H536 hi hw
      obtain ⟨p531, texts_530, u532, u533, u534, G542, rfl, eG543, hw⟩ := hw
      obtain ⟨S537, h538, h539, fr540, ne541, hw⟩ := hw
      have hw := cW_forS (rng_get hi) hw
      generalize (0 + (i : Int)) = x544 at hw ⊢
      have hw : cW (F__law_bad_b2 (text') (numbers') (number') (acc378) (texts_530) (x544)) _ EE := hw
      unfold F__law_bad_b2 at hw
      obtain ⟨K546, hK547, hw⟩ := cW_name hw
      refine ⟨_, rfl, _, _, rfl, (SqL.of h538), fun p549 n550 => ?_⟩
      generalize g551 : upd H536 p549 _ = H552
      obtain ⟨e553, h554⟩ := gen_new n550 g551
      have h555 : H552 p549 = some (.lst ((acc378 : (List Str)).map V.str)) := h554
      have fr556 := S537.free n550
      have S557 := S537.new n550 e553 h555 fr556
      obtain ⟨g558, hw⟩ := cW_grd hw
      have h559 := (e553 _ _ h538)
      obtain ⟨g560, hw⟩ := cW_grd hw
      obtain ⟨g561, hw⟩ := cW_grd hw
      refine ⟨_, rfl, _, rfl, _, _, _, _, rfl, rfl, (SqL.of h559), (atI_map g558), _, _, rfl, rfl, g560, _, rfl, _, rfl, _, _, _, _, rfl, rfl, h555, (ixN_map g561), ?_⟩
      generalize g562 : upd H552 p549 _ = H563
      obtain ⟨x564, h565⟩ := gen_mut g562
      have h566 : H563 p549 = some (.lst ((setL (acc378) (x544) (((("0" : Str) : Str) ++ ((itD (acc378) (x544)) : Str))) : (List Str)).map V.str)) := set_map h565
      have S567 := S557.mut1 x564 (.head _) h566
      have hw := cW_bnd hw
      obtain ⟨g569, hw⟩ := cW_grd hw
      obtain ⟨g570, hw⟩ := cW_grd hw
      obtain ⟨g571, hw⟩ := cW_grd hw
      obtain ⟨g572, hw⟩ := cW_grd hw
      obtain ⟨g573, hw⟩ := cW_grd hw
      obtain ⟨g574, hw⟩ := cW_grd hw
      obtain ⟨g575, hw⟩ := cW_grd hw
      obtain ⟨g576, hw⟩ := cW_grd hw
      obtain ⟨g577, hw⟩ := cW_grd hw
      obtain ⟨g578, hw⟩ := cW_grd hw
      obtain ⟨g579, hw⟩ := cW_grd hw
      refine ⟨_, rfl, _, rfl, _, _, _, _, rfl, rfl, (SqL.of h566), (atI_map g569), _, _, rfl, rfl, g570, _, rfl, _, _, _, _, rfl, rfl, (SqL.of h566), (atI_map g571), _, _, rfl, rfl, g572, _, _, rfl, rfl, g573, _, rfl, _, _, _, _, rfl, rfl, (SqL.of h566), (atI_map g574), _, _, rfl, rfl, g575, _, _, rfl, rfl, g576, _, rfl, _, _, _, _, rfl, rfl, (SqL.of h566), (atI_map g577), _, _, rfl, rfl, g578, _, rfl, _, rfl, g579, (by show 2 ≤ sizeLine; decide), fun p580 n581 => ?_⟩
      generalize g582 : upd H563 p580 _ = H583
      obtain ⟨e584, h585⟩ := gen_new n581 g582
      have h586 : H583 p580 = some (.lst (([(((((((((((((itD (setL (acc378) (x544) (((("0" : Str) : Str) ++ ((itD (acc378) (x544)) : Str)))) (0)) : Str) ++ (("x" : Str) : Str)) : Str) ++ ((itD (setL (acc378) (x544) (((("0" : Str) : Str) ++ ((itD (acc378) (x544)) : Str)))) (1)) : Str)) : Str) ++ ((":" : Str) : Str)) : Str) ++ ((itD (setL (acc378) (x544) (((("0" : Str) : Str) ++ ((itD (acc378) (x544)) : Str)))) (2)) : Str)) : Str) ++ ((":" : Str) : Str)) : Str) ++ ((itD (setL (acc378) (x544) (((("0" : Str) : Str) ++ ((itD (acc378) (x544)) : Str)))) (3)) : Str)), (Txt.replace (text') ":" ":0")] : (List Str)).map V.str)) := h585
      have fr587 := S567.free n581
      have S588 := S567.new n581 e584 h586 fr587
      obtain ⟨g589, hw⟩ := cW_grd hw
      have h590 := (e584 _ _ (x564 _ _ (e553 _ _ h539) (ne_of_none h539 n550)))
      refine ⟨_, _, _, _, rfl, rfl, h590, h586, (cat_lenM g589), fun p591 n592 => ?_⟩
      generalize g593 : upd H583 p591 _ = H594
      obtain ⟨e595, h596⟩ := gen_new n592 g593
      have h597 : H594 p591 = some (.lst (((texts_530) ++ ([(((((((((((((itD (setL (acc378) (x544) (((("0" : Str) : Str) ++ ((itD (acc378) (x544)) : Str)))) (0)) : Str) ++ (("x" : Str) : Str)) : Str) ++ ((itD (setL (acc378) (x544) (((("0" : Str) : Str) ++ ((itD (acc378) (x544)) : Str)))) (1)) : Str)) : Str) ++ ((":" : Str) : Str)) : Str) ++ ((itD (setL (acc378) (x544) (((("0" : Str) : Str) ++ ((itD (acc378) (x544)) : Str)))) (2)) : Str)) : Str) ++ ((":" : Str) : Str)) : Str) ++ ((itD (setL (acc378) (x544) (((("0" : Str) : Str) ++ ((itD (acc378) (x544)) : Str)))) (3)) : Str)), (Txt.replace (text') ":" ":0")]) : (List Str)).map V.str)) := cat_map h596
      have fr598 := S588.free n592
      have S599 := S588.new n592 e595 h597 fr598
      refine ⟨_, rfl, _, _, rfl, (SqL.of (S599.bM _ _ q_numbers)), fun p600 n601 => ?_⟩
      generalize g602 : upd H594 p600 _ = H603
      obtain ⟨e604, h605⟩ := gen_new n601 g602
      have h606 : H603 p600 = some (.lst ((numbers' : (List Int)).map V.int)) := h605
      have fr607 := S599.free n601
      have S608 := S599.new n601 e604 h606 fr607
      refine ⟨(by show 4 ≤ sizeLine; decide), fun p609 n610 => ?_⟩
      generalize g611 : upd H603 p609 _ = H612
      obtain ⟨e613, h614⟩ := gen_new n610 g611
      have h615 : H612 p609 = some (.lst (([257, 257, 13, 3] : (List Int)).map V.int)) := h614
      have fr616 := S608.free n610
      have S617 := S608.new n610 e613 h615 fr616
      obtain ⟨g618, hw⟩ := cW_grd hw
      obtain ⟨g619, hw⟩ := cW_grd hw
      have h620 := (e613 _ _ h606)
      refine ⟨_, rfl, _, _, _, _, rfl, rfl, (SqL.of h615), (atI_map g618), _, rfl, _, _, rfl, rfl, _, rfl, _, rfl, _, _, _, _, rfl, rfl, h620, (ixN_map g619), ?_⟩
      generalize g621 : upd H612 p600 _ = H622
      obtain ⟨x623, h624⟩ := gen_mut g621
      have h625 : H622 p600 = some (.lst ((setL (numbers') (x544) (((itD ([257, 257, 13, 3]) (x544)) + number')) : (List Int)).map V.int)) := set_map h624
      have S626 := S617.mut1 x623 (.tail _ (.head _)) h625
      have hw := cW_bnd hw
      have h628 := (x623 _ _ (e613 _ _ (e604 _ _ h597)) (ne_of_none h597 n601))
      refine ⟨_, rfl, (.inl ⟨rfl, _, SqL.of h628⟩), _, rfl, rfl, rfl, G542, _, _, rfl, S626.sG, (hide_nil h625), cW_call hw (fun v629 hw => ?_) (fun e he => hE e he _ S626.b0)⟩
      obtain ⟨g630, hw⟩ := cW_grd hw
      refine ⟨_, _, _, rfl, rfl, h628, (app_lenM g630), ?_⟩
      generalize g631 : upd H622 p591 _ = H632
      obtain ⟨x633, h634⟩ := gen_mut g631
      have h635 : H632 p591 = some (.lst ((((texts_530) ++ ([(((((((((((((itD (setL (acc378) (x544) (((("0" : Str) : Str) ++ ((itD (acc378) (x544)) : Str)))) (0)) : Str) ++ (("x" : Str) : Str)) : Str) ++ ((itD (setL (acc378) (x544) (((("0" : Str) : Str) ++ ((itD (acc378) (x544)) : Str)))) (1)) : Str)) : Str) ++ ((":" : Str) : Str)) : Str) ++ ((itD (setL (acc378) (x544) (((("0" : Str) : Str) ++ ((itD (acc378) (x544)) : Str)))) (2)) : Str)) : Str) ++ ((":" : Str) : Str)) : Str) ++ ((itD (setL (acc378) (x544) (((("0" : Str) : Str) ++ ((itD (acc378) (x544)) : Str)))) (3)) : Str)), (Txt.replace (text') ":" ":0")])) ++ [v629] : (List Str)).map V.str)) := snoc_map h634
      have S636 := S626.mut1 x633 (.tail _ (.tail _ (.head _))) h635
      have hw := cW_bnd hw
      refine ⟨(by show 4 ≤ sizeLine; decide), fun p638 n639 => ?_⟩
      generalize g640 : upd H632 p638 _ = H641
      obtain ⟨e642, h643⟩ := gen_new n639 g640
      have h644 : H641 p638 = some (.lst (([0, 0, 7, 7] : (List Int)).map V.int)) := h643
      have fr645 := S636.free n639
      have S646 := S636.new n639 e642 h644 fr645
      obtain ⟨g647, hw⟩ := cW_grd hw
      obtain ⟨g648, hw⟩ := cW_grd hw
      have h649 := (e642 _ _ (x633 _ _ h625 (ne_of_none h597 n601).symm))
      refine ⟨_, rfl, _, _, _, _, rfl, rfl, (SqL.of h644), (atI_map g647), _, rfl, _, rfl, _, _, _, _, rfl, rfl, h649, (ixN_map g648), ?_⟩
      generalize g650 : upd H641 p600 _ = H651
      obtain ⟨x652, h653⟩ := gen_mut g650
      have h654 : H651 p600 = some (.lst ((setL (setL (numbers') (x544) (((itD ([257, 257, 13, 3]) (x544)) + number'))) (x544) ((itD ([0, 0, 7, 7]) (x544))) : (List Int)).map V.int)) := set_map h653
      have S655 := S646.mut1 x652 (.tail _ (.tail _ (.head _))) h654
      have hw := cW_bnd hw
      have h657 := (x652 _ _ (e642 _ _ h635) (ne_of_none h597 n601))
      refine ⟨_, rfl, (.inl ⟨rfl, _, SqL.of h657⟩), _, rfl, rfl, rfl, G542, _, _, rfl, S655.sG, (hide_nil h654), cW_call hw (fun v658 hw => ?_) (fun e he => hE e he _ S655.b0)⟩
      obtain ⟨g659, hw⟩ := cW_grd hw
      refine ⟨_, _, _, rfl, rfl, h657, (app_lenM g659), ?_⟩
      generalize g660 : upd H651 p591 _ = H661
      obtain ⟨x662, h663⟩ := gen_mut g660
      have h664 : H661 p591 = some (.lst (((((texts_530) ++ ([(((((((((((((itD (setL (acc378) (x544) (((("0" : Str) : Str) ++ ((itD (acc378) (x544)) : Str)))) (0)) : Str) ++ (("x" : Str) : Str)) : Str) ++ ((itD (setL (acc378) (x544) (((("0" : Str) : Str) ++ ((itD (acc378) (x544)) : Str)))) (1)) : Str)) : Str) ++ ((":" : Str) : Str)) : Str) ++ ((itD (setL (acc378) (x544) (((("0" : Str) : Str) ++ ((itD (acc378) (x544)) : Str)))) (2)) : Str)) : Str) ++ ((":" : Str) : Str)) : Str) ++ ((itD (setL (acc378) (x544) (((("0" : Str) : Str) ++ ((itD (acc378) (x544)) : Str)))) (3)) : Str)), (Txt.replace (text') ":" ":0")])) ++ [v629]) ++ [v658] : (List Str)).map V.str)) := snoc_map h663
      have S665 := S655.mut1 x662 (.tail _ (.tail _ (.tail _ (.head _)))) h664
      have hw := cW_bnd hw
      have hw := cW_ok hw
      have hw := hK547 _ hw
      have h667 := (x662 _ _ (x652 _ _ (e642 _ _ (x633 _ _ (x623 _ _ (e613 _ _ (e604 _ _ (e595 _ _ (e584 _ _ (x564 _ _ h559 (ne_of_none h538 n550)))))) (ne_of_none (e595 _ _ (e584 _ _ (x564 _ _ h559 (ne_of_none h538 n550)))) n601)) (ne_of_none (e584 _ _ (x564 _ _ h559 (ne_of_none h538 n550))) n592))) (ne_of_none (e595 _ _ (e584 _ _ (x564 _ _ h559 (ne_of_none h538 n550)))) n601)) (ne_of_none (e584 _ _ (x564 _ _ h559 (ne_of_none h538 n550))) n592))
      exact ⟨_, ((((texts_530) ++ ([(((((((((((((itD (setL (acc378) (x544) (((("0" : Str) : Str) ++ ((itD (acc378) (x544)) : Str)))) (0)) : Str) ++ (("x" : Str) : Str)) : Str) ++ ((itD (setL (acc378) (x544) (((("0" : Str) : Str) ++ ((itD (acc378) (x544)) : Str)))) (1)) : Str)) : Str) ++ ((":" : Str) : Str)) : Str) ++ ((itD (setL (acc378) (x544) (((("0" : Str) : Str) ++ ((itD (acc378) (x544)) : Str)))) (2)) : Str)) : Str) ++ ((":" : Str) : Str)) : Str) ++ ((itD (setL (acc378) (x544) (((("0" : Str) : Str) ++ ((itD (acc378) (x544)) : Str)))) (3)) : Str)), (Txt.replace (text') ":" ":0")])) ++ [v629]) ++ [v658]), _, _, _, _, rfl, eG543, (S665.sub (all_cons (.tail _ (.tail _ (.tail _ (.tail _ (.tail _ (.tail _ (.head _))))))) (all_cons (.tail _ (.tail _ (.tail _ (.head _)))) all_nil))), h667, h664, fr598, (ne_of_none (e584 _ _ (x564 _ _ h559 (ne_of_none h538 n550))) n592).symm, hw⟩
    · intro σ H668 hw
      obtain ⟨p531, texts_530, u532, u533, u534, G674, rfl, eG675, hw⟩ := hw
      obtain ⟨S669, h670, h671, fr672, ne673, hw⟩ := hw
      have hw := hK529 _ (cW_forS0 (rng_len _ _).symm hw)
      have hw : cW (F__law_bad_r2  (texts_530)) _ EE := hw
      unfold F__law_bad_r2 at hw
      refine ⟨_, rfl, ?_⟩
      have hw := cW_ok hw
      exact hK0 _ hw _ _ fr672 S669.b0 h671

abbrev N__law_other_signs : List Str := ["text", "cells", "signs", "texts", "cell", "draws", "sign", "at"]
theorem sc__law_other_signs : FnScope N__law_other_signs ["text", "cells"] (defScope s__law_other_signs) := ⟨rfl, rfl, rfl, by decide +kernel, rfl, by decide +kernel, by decide +kernel⟩
theorem ok__law_other_signs (D : DefX K mg "_law_other_signs" s__law_other_signs ["text", "cells"] pats__law_other_signs) (T : Txt w K mg AD) (c__law_draws : CalX P w K mg base 1 "_law_draws" (sp__law_draws K AD) pats__law_draws) : CalX P w K mg base 2 "_law_other_signs" (sp__law_other_signs K AD) pats__law_other_signs := by
  refine D.ok sc__law_other_signs (fun vs H Q E h => ?_) (fun f cdv A_ outer s H vs Q E hr h => ?_)
  · obtain ⟨G, text', a_cells, cells', rfl, _⟩ := h
    rfl
  · obtain ⟨G, text', a_cells, cells', rfl, sG, q_cells, hw⟩ := h
    refine ⟨_, (pss_cons (ps_set (i := 2) sc__law_other_signs.nd rfl (Or.inl rfl) pe_str)
      (pss_cons (ps_set (i := 3) sc__law_other_signs.nd rfl (Or.inl rfl) (pe_lst pa_nil))
      (pss_cons (ps_for (passes_of rfl) rfl (pi_listK (K := K) (pv 1)) (pg_name (i := 4) sc__law_other_signs.nd rfl (Or.inl rfl)) (pss_cons (ps_set (i := 5) sc__law_other_signs.nd rfl (Or.inl rfl) (vx_callX c__law_draws pat__law_draws_0 (.head _) hr (by decide) (takes_of rfl rfl rfl rfl) rfl (pa_cons (pv 4) (pa_cons (pe_lst (pa_cons (pe_callB call_len_str (by rfl) T.b_len (by decide +kernel) (pa_cons (pv 2) pa_nil)) (pa_cons (pe_callB call_len_str (by rfl) T.b_len (by decide +kernel) (pa_cons (pv 0) pa_nil)) pa_nil))) pa_nil)) pk_nil))
      (pss_cons (ps_set (i := 6) sc__law_other_signs.nd rfl (Or.inl rfl) (pe_ix ix_str (pv 2) (pe_ix (ix_listK (K := K)) (pv 5) pe_int (fun _ _ => rfl)) (fun _ _ => rfl)))
      (pss_cons (ps_set (i := 7) sc__law_other_signs.nd rfl (Or.inl rfl) (pe_ix (ix_listK (K := K)) (pv 5) pe_int (fun _ _ => rfl)))
      (pss_cons (ps_expr (pe_bm PySem.F.plainAttrs_list PySem.F.slot_list_append PySem.F.type_list_append mt_append (pv 3) (pa_cons (pe_op op_add_str (pe_op op_add_str (pe_slice sl_str (pv 0) po_none (po_some (pv 7))) (pv 6)) (pe_slice sl_str (pv 0) (po_some (pv 7)) po_none)) pa_nil)))
      (pss_one (ps_if (pt_cmpR op_ne (pv 6) (pe_ix ix_str (pv 0) (pv 7) (fun _ _ => rfl)) (nomark _)) (pss_one (ps_expr (pe_bm PySem.F.plainAttrs_list PySem.F.slot_list_append PySem.F.type_list_append mt_append (pv 3) (pa_cons (pe_op op_add_str (pe_op op_add_str (pe_slice sl_str (pv 0) po_none (po_some (pv 7))) (pv 6)) (pe_slice sl_str (pv 0) (po_some (pe_op op_add (pv 7) pe_int)) po_none)) pa_nil)))) pss_nil)))))))
      (pss_one (ps_ret (pv 3)))))), ?_⟩
    obtain ⟨KK, EE, hK0, hE, hw⟩ := cW_gen hw
    have S0 := Sep.startG sG
    unfold F__law_other_signs at hw
    refine ⟨(by show 0 ≤ sizeLine; decide), fun p677 n678 => ?_⟩
    generalize g679 : upd H p677 _ = H680
    obtain ⟨e681, h682⟩ := gen_new n678 g679
    have h683 : H680 p677 = some (.lst ((([] : (List Str)) : (List Str)).map V.str)) := h682
    have fr684 := S0.free n678
    have S685 := S0.new n678 e681 h683 fr684
    obtain ⟨K688, hK689, hw⟩ := cW_push hw
    refine ⟨_, rfl, _, rfl, ⟨_, (SqL.of (S685.bM _ _ q_cells))⟩, for_list (K := K) (a := a_cells) (xs := (cells' : List Int).map V.int) (fun i σ H' => ∃ (texts_690 : (List Str)) (u691 : Option V) (u692 : Option V) (u693 : Option V) (u694 : Option V) (G' : Hp), σ = [some (V.str (text')), some (V.ref a_cells), some (V.str ((" !\"#$&'()*+,-./:;<=>?@ABCDEFGHIJKLMNOPQRSTUVWXYZ[\\]^_`abcdefghijklmnopqrstuvwxyz{|}~" : Str))), some (V.ref p677), u691, u692, u693, u694] ∧ Same G G' ∧ Sep [] H G G' H' [p677] ∧ H' p677 = some (.lst ((texts_690 : (List Str)).map V.str)) ∧ cW (forS (List.drop i (cells')) texts_690 (fun s x => F__law_other_signs_b1 (text') ((" !\"#$&'()*+,-./:;<=>?@ABCDEFGHIJKLMNOPQRSTUVWXYZ[\\]^_`abcdefghijklmnopqrstuvwxyz{|}~" : Str)) s x)) K688 EE) ?_ ?_ ?_ ?_⟩
    · exact ⟨(([] : (List Str))), _, _, _, _, _, rfl, (Same.refl _), S685, h683, hw⟩
    · intro i σ H695 _ hw
      obtain ⟨texts_690, u691, u692, u693, u694, G698, rfl, eG699, S696, h697, hw⟩ := hw
      exact (SqL.of (S696.bM _ _ q_cells))
    · intro i x σ H700 hj hw
      obtain ⟨texts_690, u691, u692, u693, u694, G703, rfl, eG704, S701, h702, hw⟩ := hw
      obtain ⟨x705, hx, rfl⟩ := map_get hj
      have hw := cW_forS hx hw
      have hw : cW (F__law_other_signs_b1 (text') ((" !\"#$&'()*+,-./:;<=>?@ABCDEFGHIJKLMNOPQRSTUVWXYZ[\\]^_`abcdefghijklmnopqrstuvwxyz{|}~" : Str)) (texts_690) (x705)) _ EE := hw
      unfold F__law_other_signs_b1 at hw
      obtain ⟨K707, hK708, hw⟩ := cW_name hw
      obtain ⟨g710, hw⟩ := cW_grd hw
      obtain ⟨g711, hw⟩ := cW_grd hw
      refine ⟨_, rfl, _, rfl, _, rfl, g710, _, rfl, _, rfl, g711, (by show 2 ≤ sizeLine; decide), fun p712 n713 => ?_⟩
      generalize g714 : upd H700 p712 _ = H715
      obtain ⟨e716, h717⟩ := gen_new n713 g714
      have h718 : H715 p712 = some (.lst (([((((" !\"#$&'()*+,-./:;<=>?@ABCDEFGHIJKLMNOPQRSTUVWXYZ[\\]^_`abcdefghijklmnopqrstuvwxyz{|}~" : Str) : Str).length : Nat) : Int), (((text' : Str).length : Nat) : Int)] : (List Int)).map V.int)) := h717
      have fr719 := S701.free n713
      have S720 := S701.new n713 e716 h718 fr719
      refine ⟨rfl, rfl, G703, _, _, _, rfl, S720.sG, (hide_nil h718), cW_call hw (fun v721 hw p724 H722 n725 e723 h726 => ?_) (fun e he H2 e2 => hE e he H2 (Same.trans S720.b0 e2))⟩
      have h727 : H722 p724 = some (.lst ((v721 : (List Int)).map V.int)) := h726
      have fr728 := S720.free n725
      have S729 := S720.new n725 e723 h727 fr728
      obtain ⟨g730, hw⟩ := cW_grd hw
      obtain ⟨g731, hw⟩ := cW_grd hw
      obtain ⟨g732, hw⟩ := cW_grd hw
      refine ⟨_, rfl, _, rfl, _, _, _, _, rfl, rfl, (SqL.of h727), (atI_map g730), _, _, _, rfl, rfl, g731.1, (atI_in g731.2), _, rfl, _, _, _, _, rfl, rfl, (SqL.of h727), (atI_map g732), ?_⟩
      have hw := cW_bnd hw
      have h734 := (e723 _ _ (e716 _ _ h702))
      obtain ⟨g735, hw⟩ := cW_grd hw
      obtain ⟨g736, hw⟩ := cW_grd hw
      obtain ⟨g737, hw⟩ := cW_grd hw
      obtain ⟨g738, hw⟩ := cW_grd hw
      obtain ⟨g739, hw⟩ := cW_grd hw
      refine ⟨_, rfl, (.inl ⟨rfl, _, SqL.of h734⟩), _, rfl, _, rfl, _, rfl, _, rfl, g735, _, rfl, _, _, rfl, rfl, g736, _, rfl, _, rfl, _, rfl, _, rfl, g737, _, _, rfl, rfl, g738, _, _, _, rfl, rfl, h734, (app_lenM g739), ?_⟩
      generalize g740 : upd H722 p677 _ = H741
      obtain ⟨x742, h743⟩ := gen_mut g740
      have h744 : H741 p677 = some (.lst (((texts_690) ++ [(((((cutS (text') none (some ((itD (v721) (1))))) : Str) ++ ((sgnS ((" !\"#$&'()*+,-./:;<=>?@ABCDEFGHIJKLMNOPQRSTUVWXYZ[\\]^_`abcdefghijklmnopqrstuvwxyz{|}~" : Str)) ((itD (v721) (0)))) : Str)) : Str) ++ ((cutS (text') (some ((itD (v721) (1)))) none) : Str))] : (List Str)).map V.str)) := snoc_map h743
      have S745 := S729.mut1 x742 (.tail _ (.tail _ (.head _))) h744
      have hw := cW_bnd hw
      obtain ⟨g747, hw⟩ := cW_grd hw
      refine ⟨_, rfl, _, rfl, _, rfl, _, _, _, rfl, rfl, g747.1, (atI_in g747.2), rfl, _, rfl, ?_⟩
      refine iteN (fun c748 => ?_) (fun c748 => ?_)
      · have hw := cW_neg c748 hw
        obtain ⟨g749, hw⟩ := cW_grd hw
        obtain ⟨g750, hw⟩ := cW_grd hw
        obtain ⟨g751, hw⟩ := cW_grd hw
        obtain ⟨g752, hw⟩ := cW_grd hw
        obtain ⟨g753, hw⟩ := cW_grd hw
        refine ⟨_, rfl, (.inl ⟨rfl, _, SqL.of h744⟩), _, rfl, _, rfl, _, rfl, _, rfl, g749, _, rfl, _, _, rfl, rfl, g750, _, rfl, _, rfl, _, _, rfl, rfl, _, rfl, _, rfl, g751, _, _, rfl, rfl, g752, _, _, _, rfl, rfl, h744, (app_lenM g753), ?_⟩
        generalize g754 : upd H741 p677 _ = H755
        obtain ⟨x756, h757⟩ := gen_mut g754
        have h758 : H755 p677 = some (.lst ((((texts_690) ++ [(((((cutS (text') none (some ((itD (v721) (1))))) : Str) ++ ((sgnS ((" !\"#$&'()*+,-./:;<=>?@ABCDEFGHIJKLMNOPQRSTUVWXYZ[\\]^_`abcdefghijklmnopqrstuvwxyz{|}~" : Str)) ((itD (v721) (0)))) : Str)) : Str) ++ ((cutS (text') (some ((itD (v721) (1)))) none) : Str))]) ++ [(((((cutS (text') none (some ((itD (v721) (1))))) : Str) ++ ((sgnS ((" !\"#$&'()*+,-./:;<=>?@ABCDEFGHIJKLMNOPQRSTUVWXYZ[\\]^_`abcdefghijklmnopqrstuvwxyz{|}~" : Str)) ((itD (v721) (0)))) : Str)) : Str) ++ ((cutS (text') (some (((itD (v721) (1)) + 1))) none) : Str))] : (List Str)).map V.str)) := snoc_map h757
        have S759 := S745.mut1 x756 (.tail _ (.tail _ (.head _))) h758
        have hw := cW_bnd hw
        have hw := cW_ok hw
        have hw := hK708 _ hw
        exact ⟨(((texts_690) ++ [(((((cutS (text') none (some ((itD (v721) (1))))) : Str) ++ ((sgnS ((" !\"#$&'()*+,-./:;<=>?@ABCDEFGHIJKLMNOPQRSTUVWXYZ[\\]^_`abcdefghijklmnopqrstuvwxyz{|}~" : Str)) ((itD (v721) (0)))) : Str)) : Str) ++ ((cutS (text') (some ((itD (v721) (1)))) none) : Str))]) ++ [(((((cutS (text') none (some ((itD (v721) (1))))) : Str) ++ ((sgnS ((" !\"#$&'()*+,-./:;<=>?@ABCDEFGHIJKLMNOPQRSTUVWXYZ[\\]^_`abcdefghijklmnopqrstuvwxyz{|}~" : Str)) ((itD (v721) (0)))) : Str)) : Str) ++ ((cutS (text') (some (((itD (v721) (1)) + 1))) none) : Str))]), _, _, _, _, _, rfl, eG704, (S759.sub (all_cons (.tail _ (.tail _ (.head _))) all_nil)), h758, hw⟩
      · have hw := cW_pos c748 hw
        have hw := cW_ok hw
        have hw := hK708 _ hw
        exact ⟨((texts_690) ++ [(((((cutS (text') none (some ((itD (v721) (1))))) : Str) ++ ((sgnS ((" !\"#$&'()*+,-./:;<=>?@ABCDEFGHIJKLMNOPQRSTUVWXYZ[\\]^_`abcdefghijklmnopqrstuvwxyz{|}~" : Str)) ((itD (v721) (0)))) : Str)) : Str) ++ ((cutS (text') (some ((itD (v721) (1)))) none) : Str))]), _, _, _, _, _, rfl, eG704, (S745.sub (all_cons (.tail _ (.tail _ (.head _))) all_nil)), h744, hw⟩
    · intro σ H761 hw
      obtain ⟨texts_690, u691, u692, u693, u694, G764, rfl, eG765, S762, h763, hw⟩ := hw
      have hw := hK689 _ (cW_forS0 (by rw [List.length_map]) hw)
      have hw : cW (F__law_other_signs_r1  (texts_690)) _ EE := hw
      unfold F__law_other_signs_r1 at hw
      refine ⟨_, rfl, ?_⟩
      have hw := cW_ok hw
      exact hK0 _ hw _ _ fr684 S762.b0 h763

abbrev N_Format___eq__ : List Str := ["self", "other"]
theorem sc_Format___eq__ : FnScope N_Format___eq__ ["self", "other"] (defScope s_Format___eq__) := ⟨rfl, rfl, rfl, by decide +kernel, rfl, by decide +kernel, by decide +kernel⟩
theorem ok_Format___eq__ (D : MethX K AD.c_Format "Format.__eq__" "__eq__" s_Format___eq__ ["self", "other"] pats_Format___eq__) (T : Txt w K mg AD)  : MetX P w K mg base 1 AD.c_Format "__eq__" (sp_Format___eq__ K AD) pats_Format___eq__ := by
  refine D.ok T.cl_Format sc_Format___eq__ (fun vs H Q E h => ?_) (fun f cdv A_ outer s H vs Q E hr h => ?_)
  · obtain ⟨G, p_self, dx_self, self', p_other, dx_other, other', rfl, _⟩ := h
    rfl
  · obtain ⟨G, p_self, dx_self, self', p_other, dx_other, other', rfl, sG, h_p_self, h_p_other, hw⟩ := h
    refine ⟨_, (pss_one (ps_ret (pe_and (pe_callB call_isi (by rfl) T.b_isinstance (by decide +kernel) (pa_cons (pv 1) (pa_cons (C8.pe_gc (v := V.ref AD.c_Format) rfl ⟨_, T.cg_Format, rfl⟩) pa_nil))) (pe_and (pe_cmp (pc_eqI (fldK (K := K) (pv 0)) (fldK (K := K) (pv 1)))) (pe_and (pe_cmp (pc_eqI (fldK (K := K) (pv 0)) (fldK (K := K) (pv 1)))) (pe_and (pe_cmp (pc_eqI (fldK (K := K) (pv 0)) (fldK (K := K) (pv 1)))) (pe_one (pe_cmp (pc_eqI (fldK (K := K) (pv 0)) (fldK (K := K) (pv 1))))))))))), ?_⟩
    obtain ⟨KK, EE, hK0, hE, hw⟩ := cW_gen hw
    have S0 := Sep.startG sG
    unfold F_Format___eq__ at hw
    refine ⟨_, rfl, _, _, _, _, _, rfl, (.own _), (tyX_ins (S0.bM _ _ h_p_other) T.cl_Format T.ci_Format), kit_self, _, rfl, ?_⟩
    refine iteT ?_
    refine ⟨_, rfl, _, _, _, _, _, rfl, (S0.bM _ _ h_p_self), T.cl_Format, T.n_Format_width, rfl, _, rfl, _, _, _, _, _, rfl, (S0.bM _ _ h_p_other), T.cl_Format, T.n_Format_width, rfl, _, _, rfl, rfl, _, rfl, ?_⟩
    refine iteB (fun c767 => ?_) (fun c767 => ?_)
    · have hw := cW_pos c767 hw
      refine ⟨_, rfl, _, _, _, _, _, rfl, (S0.bM _ _ h_p_self), T.cl_Format, T.n_Format_height, rfl, _, rfl, _, _, _, _, _, rfl, (S0.bM _ _ h_p_other), T.cl_Format, T.n_Format_height, rfl, _, _, rfl, rfl, _, rfl, ?_⟩
      refine iteB (fun c768 => ?_) (fun c768 => ?_)
      · have hw := cW_pos c768 hw
        refine ⟨_, rfl, _, _, _, _, _, rfl, (S0.bM _ _ h_p_self), T.cl_Format, T.n_Format_depth, rfl, _, rfl, _, _, _, _, _, rfl, (S0.bM _ _ h_p_other), T.cl_Format, T.n_Format_depth, rfl, _, _, rfl, rfl, _, rfl, ?_⟩
        refine iteB (fun c769 => ?_) (fun c769 => ?_)
        · have hw := cW_pos c769 hw
          refine ⟨_, rfl, _, _, _, _, _, rfl, (S0.bM _ _ h_p_self), T.cl_Format, T.n_Format_chroma, rfl, _, rfl, _, _, _, _, _, rfl, (S0.bM _ _ h_p_other), T.cl_Format, T.n_Format_chroma, rfl, _, _, rfl, rfl, ?_⟩
          have hw := cW_ok hw
          exact hK0 _ hw _ S0.b0
        · have hw := cW_negB c769 hw
          have hw := cW_ok hw
          exact hK0 _ hw _ S0.b0
      · have hw := cW_negB c768 hw
        have hw := cW_ok hw
        exact hK0 _ hw _ S0.b0
    · have hw := cW_negB c767 hw
      have hw := cW_ok hw
      exact hK0 _ hw _ S0.b0

abbrev N__law_refused : List Str := ["text", "e"]
theorem sc__law_refused : FnScope N__law_refused ["text"] (defScope s__law_refused) := ⟨rfl, rfl, rfl, by decide +kernel, rfl, by decide +kernel, by decide +kernel⟩
theorem ok__law_refused (D : DefX K mg "_law_refused" s__law_refused ["text"] pats__law_refused) (T : Txt w K mg AD) (c_Format_parse : ClmT P w K mg base 3 AD.c_Format "parse" (sp_Format_parse K AD) pats_Format_parse) : CalX P w K mg base 4 "_law_refused" (sp__law_refused K AD) pats__law_refused := by
  refine D.ok sc__law_refused (fun vs H Q E h => ?_) (fun f cdv A_ outer s H vs Q E hr h => ?_)
  · obtain ⟨G, text', rfl, _⟩ := h
    rfl
  · obtain ⟨G, text', rfl, sG, hw⟩ := h
    refine ⟨_, (pss_cons (ps_try_as (i := 1) rfl rfl sc__law_refused.nd rfl rfl ⟨rfl, by decide, .inl T.xg_BadFormat⟩ (takes_of rfl rfl rfl rfl) (fun W pn xe tk pse => (pss_one (ps_expr (vx_clsT c_Format_parse pat_Format_parse_0 (.head _) hr (by decide) tk (C8.pe_gc (v := V.ref AD.c_Format) rfl ⟨_, T.cg_Format, rfl⟩) (pa_cons (pv 0) pa_nil))))) (fun a oe cls d pn hz hf => (pss_one (ps_ret (pe_callB (call_isX (K := K) hz hf) (by rfl) T.b_isinstance (by decide +kernel) (pa_cons (pv 1) (pa_cons (C8.pe_gc (v := V.ref AD.x_CodecError) rfl ⟨_, T.xg_CodecError, rfl⟩) pa_nil)))))))
      (pss_one (ps_ret pe_bl))), ?_⟩
    obtain ⟨KK, EE, hK0, hE, hw⟩ := cW_gen hw
    have S0 := Sep.startG sG
    unfold F__law_refused at hw
    refine ⟨rfl, _, rfl, rfl, G, _, rfl, S0.sG, cW_try hw (fun v770 hw H771 p773 dx774 e772 n775 h776 => ?_) ?_⟩
    · have fr777 := S0.free n775
      have S778 : Sep _ _ _ _ H771 [p773] := Sep.news S0 e772 [p773] (all_cons ⟨n775, some_ne h776, fr777⟩ all_nil)
      have hw := cW_ok hw
      exact hK0 _ hw _ S778.b0
    · intro e hm hw H779 e780
      have S781 := S0.same e780
      obtain rfl := mem_one hm
      refine ⟨true, T.xm_BadFormat_BadFormat, fun _ a782 na783 => ?_, fun q => nomatch q⟩
      refine ⟨_, rfl, _, _, _, rfl, rfl, T.xc_BadFormat, rfl, T.xo_BadFormat_CodecError, ?_⟩
      have hw := cW_ok hw
      exact hK0 _ hw _ S781.b0

abbrev N_law : List Str := ["script", "lows", "highs", "draws", "numbers", "fmt", "text", "back", "texts", "k", "bad"]
theorem sc_law : FnScope N_law ["script"] (defScope s_law) := ⟨rfl, rfl, rfl, by decide +kernel, rfl, by decide +kernel, by decide +kernel⟩
theorem ok_law {f : Addr} {fd : FuncData} (F : FunD K "law" "law" (defArgs s_law) (defBody s_law) (defScope s_law) [] [] f fd) (T : Txt w K mg AD) (c__law_draws : CalX P w K mg base 1 "_law_draws" (sp__law_draws K AD) pats__law_draws) (c__law_cell : CalX P w K mg base 1 "_law_cell" (sp__law_cell K AD) pats__law_cell) (c__law_between : CalX P w K mg base 1 "_law_between" (sp__law_between K AD) pats__law_between) (c_Format___init__ : MakX P w K mg base 1 "Format" AD.c_Format (sp_Format___init__ K AD) pats_Format___init__) (c_Format_text : MetX P w K mg base 1 AD.c_Format "text" (sp_Format_text K AD) pats_Format_text) (c__law_text : CalX P w K mg base 1 "_law_text" (sp__law_text K AD) pats__law_text) (c_Format_parse : ClmT P w K mg base 3 AD.c_Format "parse" (sp_Format_parse K AD) pats_Format_parse) (c_Format___eq__ : MetX P w K mg base 1 AD.c_Format "__eq__" (sp_Format___eq__ K AD) pats_Format___eq__) (c__law_bad : CalX P w K mg base 2 "_law_bad" (sp__law_bad K AD) pats__law_bad) (c__law_other_signs : CalX P w K mg base 2 "_law_other_signs" (sp__law_other_signs K AD) pats__law_other_signs) (c__law_refused : CalX P w K mg base 4 "_law_refused" (sp__law_refused K AD) pats__law_refused) : FnG P w K mg base CX0 5 f fd ["script"] (sp_law K AD) := by
  refine FnG.bodyN F sc_law (fun vs H Q E h => ?_) (fun cdv A_ outer s H vs Q E hr h => ?_)
  · obtain ⟨a_script, script, rfl, _⟩ := h
    rfl
  · obtain ⟨a_script, script', rfl, q_script, hw, k⟩ := h
    refine ⟨_, (pss_cons (ps_set (i := 1) sc_law.nd rfl (Or.inr rfl) (pe_lst (pa_cons pe_int (pa_cons pe_int (pa_cons pe_int (pa_cons pe_int pa_nil))))))
      (pss_cons (ps_set (i := 2) sc_law.nd rfl (Or.inr rfl) (pe_lst (pa_cons pe_int (pa_cons pe_int (pa_cons pe_int (pa_cons pe_int pa_nil))))))
      (pss_cons (ps_set (i := 3) sc_law.nd rfl (Or.inr rfl) (vx_callX c__law_draws pat__law_draws_0 (.head _) hr (by decide) takes0 rfl (pa_cons (vx_callX c__law_cell pat__law_cell_0 (.head _) hr (by decide) takes0 rfl (pa_cons (pv 0) (pa_cons pe_int pa_nil)) pk_nil) (pa_cons (pe_lst (pa_cons pe_int (pa_cons pe_int (pa_cons pe_int (pa_cons pe_int (pa_cons pe_int (pa_cons pe_int (pa_cons pe_int (pa_cons pe_int (pa_cons pe_int pa_nil)))))))))) pa_nil)) pk_nil))
      (pss_cons (ps_setLc (i := 4) (y := "numbers") rfl sc_law.nd rfl rfl (sw_true rfl rfl rfl (by decide +kernel)) (own := [("k", 9)]) (g := gName 9) (pi_range1 rfl T.b_range (pa_cons pe_int pa_nil)) (blkOk_by (own := [("k", 9)]) (N := N_law) (sc := defScope s_law) (by decide +kernel)) (fun _ _ _ _ _ => (pg_name (i := 9) sc_law.nd rfl (Or.inl rfl))) (fun _ _ _ _ _ => pts_nil) (fun _ _ _ _ _ => (vx_callX c__law_between pat__law_between_0 (.head _) hr (by decide) takes0 rfl (pa_cons (pe_ix (ix_listK (K := K)) (pv 3) (pe_op op_mul pe_int (pv 9)) (fun _ _ => rfl)) (pa_cons (pe_ix (ix_listK (K := K)) (pv 3) (pe_op op_add (pe_op op_mul pe_int (pv 9)) pe_int) (fun _ _ => rfl)) (pa_cons (pe_ix (ix_listK (K := K)) (pv 1) (pv 9) (fun _ _ => rfl)) (pa_cons (pe_ix (ix_listK (K := K)) (pv 2) (pv 9) (fun _ _ => rfl)) pa_nil)))) pk_nil)))
      (pss_cons (ps_set (i := 5) sc_law.nd rfl (Or.inl rfl) (vx_makeX c_Format___init__ pat_Format___init___0 (.head _) hr (by decide) takes0 rfl (pa_cons (pe_ix (ix_listK (K := K)) (pv 4) pe_int (fun _ _ => rfl)) (pa_cons (pe_ix (ix_listK (K := K)) (pv 4) pe_int (fun _ _ => rfl)) pa_nil)) (pk_cons (pe_ix (ix_listK (K := K)) (pv 4) pe_int (fun _ _ => rfl)) (pk_cons (pe_ix (ix_listK (K := K)) (pv 4) pe_int (fun _ _ => rfl)) pk_nil))))
      (pss_cons (ps_set (i := 6) sc_law.nd rfl (Or.inl rfl) (vx_methX0 c_Format_text pat_Format_text_0 (.head _) hr (by decide) takes0 (pv 5)))
      (pss_cons (ps_if (PW.pt (pw_or (pt_not (pt_val (pe_callB call_isi (by rfl) T.b_isinstance (by decide +kernel) (pa_cons (pv 6) (pa_cons (pe_bltn (v := V.ty "str") (u := Value.type "str") (by rfl) T.b_str (by decide +kernel) rfl) pa_nil))))) (pw_or1 (pt_cmpR op_ne (pv 6) (vx_callX c__law_text pat__law_text_0 (.head _) hr (by decide) takes0 rfl (pa_cons (pv 4) pa_nil) pk_nil) (nomark _))))) (pss_one (ps_ret pe_bl)) pss_nil)
      (pss_cons (ps_set (i := 7) sc_law.nd rfl (Or.inl rfl) (vx_clsT c_Format_parse pat_Format_parse_0 (.head _) hr (by decide) takes0 (C8.pe_gc (v := V.ref AD.c_Format) rfl ⟨_, T.cg_Format, rfl⟩) (pa_cons (pv 6) pa_nil)))
      (pss_cons (ps_if (PW.pt (pw_or (pt_not (pt_val (pe_callB call_isi (by rfl) T.b_isinstance (by decide +kernel) (pa_cons (pv 7) (pa_cons (C8.pe_gc (v := V.ref AD.c_Format) rfl ⟨_, T.cg_Format, rfl⟩) pa_nil))))) (pw_or1 (pt_cmpR op_notTrue (pe_cmpR (op_eqX c_Format___eq__ pat_Format___eq___0 (.head _) hr (by decide)) (pv 7) (pv 5) (nomark _)) pe_bl (nomark _))))) (pss_one (ps_ret pe_bl)) pss_nil)
      (pss_cons (ps_if (pt_cmpR (op_neT (encOk_L encOk_int) hr.units) (pe_lst (pa_cons (fldK (K := K) (pv 7)) (pa_cons (fldK (K := K) (pv 7)) (pa_cons (fldK (K := K) (pv 7)) (pa_cons (fldK (K := K) (pv 7)) pa_nil))))) (pv 4) (nomark _)) (pss_one (ps_ret pe_bl)) pss_nil)
      (pss_cons (ps_set (i := 8) sc_law.nd rfl (Or.inl rfl) (pe_op op_cat (vx_callX c__law_bad pat__law_bad_0 (.head _) hr (by decide) takes0 rfl (pa_cons (pv 6) (pa_cons (pv 4) (pa_cons (pe_ix (ix_listK (K := K)) (pv 3) pe_int (fun _ _ => rfl)) pa_nil))) pk_nil) (vx_callX c__law_other_signs pat__law_other_signs_0 (.head _) hr (by decide) takes0 rfl (pa_cons (pv 6) (pa_cons (pe_op op_cat (pe_lst (pa_cons pe_int pa_nil)) (pe_slice (sl_listK (K := K)) (pv 0) (po_some pe_int) (po_some pe_int))) pa_nil)) pk_nil)))
      (pss_one (ps_ret (pe_callB (cr_allK (K := K) rfl) (by rfl) T.b_all (by decide +kernel) (pa_cons (pe_lc (own := [("bad", 10)]) (g := gName 10) (by rfl) sc_law.nd (pi_listK (K := K) (pv 8)) (blkOk_by (own := [("bad", 10)]) (N := N_law) (sc := defScope s_law) (by decide +kernel)) (fun _ _ _ _ _ => (pg_name (i := 10) sc_law.nd rfl (Or.inl rfl))) (fun _ _ _ _ _ => pts_nil) (fun _ _ _ _ _ => (vx_callX c__law_refused pat__law_refused_0 (.head _) hr (by decide) takes0 rfl (pa_cons (pv 10) pa_nil) pk_nil))) pa_nil))))))))))))))), ?_⟩
    obtain ⟨KK, EE, hK0, hE, hw⟩ := cW_gen hw
    have S0 := Sep.start0 H
    unfold F_law at hw
    refine ⟨(by show 4 ≤ sizeLine; decide), fun p784 n785 => ?_⟩
    generalize g786 : upd H p784 _ = H787
    obtain ⟨e788, h789⟩ := gen_new n785 g786
    have h790 : H787 p784 = some (.lst (([1, 1, 8, 0] : (List Int)).map V.int)) := h789
    have fr791 := S0.free n785
    have S792 := S0.new n785 e788 h790 fr791
    refine ⟨(by show 4 ≤ sizeLine; decide), fun p793 n794 => ?_⟩
    generalize g795 : upd H787 p793 _ = H796
    obtain ⟨e797, h798⟩ := gen_new n794 g795
    have h799 : H796 p793 = some (.lst (([256, 256, 12, 2] : (List Int)).map V.int)) := h798
    have fr800 := S792.free n794
    have S801 := S792.new n794 e797 h799 fr800
    refine ⟨_, rfl, rfl, rfl, H, _, _, _, rfl, S801.sG, (S801.b0.seq q_script), cW_call hw (fun v802 hw => ?_) (fun e he => (hE e he).elim)⟩
    refine ⟨(by show 9 ≤ sizeLine; decide), fun p803 n804 => ?_⟩
    generalize g805 : upd H796 p803 _ = H806
    obtain ⟨e807, h808⟩ := gen_new n804 g805
    have h809 : H806 p803 = some (.lst (([6, 256, 6, 256, 6, 5, 6, 3, 100000] : (List Int)).map V.int)) := h808
    have fr810 := S801.free n804
    have S811 := S801.new n804 e807 h809 fr810
    refine ⟨rfl, rfl, H, _, _, _, rfl, S811.sG, (hide_nil h809), cW_call hw (fun v812 hw p815 H813 n816 e814 h817 => ?_) (fun e he => (hE e he).elim)⟩
    have h818 : H813 p815 = some (.lst ((v812 : (List Int)).map V.int)) := h817
    have fr819 := S811.free n816
    have S820 := S811.new n816 e814 h818 fr819
    obtain ⟨K825, hK826, hw⟩ := cW_push hw
    refine ⟨_, rfl, (by decide), (by decide), fun D827 n828 => lc_range (lo := 0) (n := Int.toNat (4)) (fun i1 H' => ∃ (G' : Hp) (acc830 : (List Int)), Same H G' ∧ Sep [] H H G' H' [D827, p784, p793, p815] ∧ H' p784 = some (.lst (([1, 1, 8, 0] : (List Int)).map V.int)) ∧ H' p793 = some (.lst (([256, 256, 12, 2] : (List Int)).map V.int)) ∧ H' p815 = some (.lst ((v812 : (List Int)).map V.int)) ∧ H' D827 = some (.lst ((acc830 : (List Int)).map V.int)) ∧ Same H813 H' ∧ cW (mapA (List.drop i1 (rng (0) (Int.toNat (4)))) acc830 (fun x => noEr (F_law_c1 ([1, 1, 8, 0]) ([256, 256, 12, 2]) (v812) x))) K825 EE) ?_ ?_ ?_⟩
    · generalize g832 : upd H813 D827 _ = H833
      obtain ⟨e834, h835⟩ := gen_new n828 g832
      have fr836 := S820.free n828
      have S837 := S820.new n828 e834 h835 fr836
      have h838 := (e834 _ _ (e814 _ _ (e807 _ _ (e797 _ _ h790))))
      have h839 := (e834 _ _ (e814 _ _ (e807 _ _ h799)))
      have h840 := (e834 _ _ h818)
      exact ⟨_, [], Same.refl _, (S837.sub (all_cons (.head _) (all_cons (.tail _ (.tail _ (.tail _ (.tail _ (.head _))))) (all_cons (.tail _ (.tail _ (.tail _ (.head _)))) (all_cons (.tail _ (.head _)) all_nil))))), h838, h839, h840, h835, e834, hw⟩
    · intro i1 H841 hi hw
      obtain ⟨G844, acc846, eG845, S842, h853, h854, h855, h843, eo852, hw⟩ := hw
      obtain ⟨z856, hw⟩ := cW_mapA (rng_get hi) hw
      generalize (0 + (i1 : Int)) = x857 at hw ⊢
      have hw := cW_noEr hw
      have hw : cW (F_law_c1 ([1, 1, 8, 0]) ([256, 256, 12, 2]) (v812) (x857)) _ (fun _ => False) := hw
      unfold F_law_c1 at hw
      refine ⟨rfl, ?_⟩
      refine tyes_go ?_
      obtain ⟨g859, hw⟩ := cW_grd hw
      obtain ⟨g860, hw⟩ := cW_grd hw
      obtain ⟨g861, hw⟩ := cW_grd hw
      obtain ⟨g862, hw⟩ := cW_grd hw
      refine ⟨_, rfl, _, rfl, _, _, rfl, rfl, (.inl ⟨by decide, by decide⟩), _, _, _, _, rfl, rfl, (SqL.of h855), (atI_map g859), _, rfl, _, rfl, _, _, rfl, rfl, (.inl ⟨by decide, by decide⟩), _, _, rfl, rfl, _, _, _, _, rfl, rfl, (SqL.of h855), (atI_map g860), _, rfl, _, rfl, _, _, _, _, rfl, rfl, (SqL.of h853), (atI_map g861), _, rfl, _, rfl, _, _, _, _, rfl, rfl, (SqL.of h854), (atI_map g862), rfl, rfl, G844, _, _, _, _, rfl, S842.sG, cW_call hw (fun v863 hw => ?_) (fun e he => he.elim)⟩
      refine ⟨_, h843, (app_lenM z856), ?_⟩
      generalize g864 : upd H841 D827 _ = H865
      obtain ⟨x866, h867⟩ := gen_mut g864
      have S868 := S842.mut1 x866 (.head _) h867
      have hw := cW_ok hw
      have h869 := (x866 _ _ h853 (ne_of_none (e814 _ _ (e807 _ _ (e797 _ _ h790))) n828))
      have h870 := (x866 _ _ h854 (ne_of_none (e814 _ _ (e807 _ _ h799)) n828))
      have h871 := (x866 _ _ h855 (ne_of_none h818 n828))
      exact ⟨_, (acc846 ++ [v863]), eG845, S868, h869, h870, h871, (snoc_map h867), (same_mut eo852 x866 n828), hw⟩
    intro H872 hw
    obtain ⟨G875, acc877, eG876, S873, h884, h885, h886, h874, eo883, hw⟩ := hw
    have hw := hK826 _ (cW_mapA0 (rng_len _ _).symm hw)
    have fr887 := S820.free n828
    obtain ⟨g888, hw⟩ := cW_grd hw
    obtain ⟨g889, hw⟩ := cW_grd hw
    obtain ⟨g890, hw⟩ := cW_grd hw
    obtain ⟨g891, hw⟩ := cW_grd hw
    refine ⟨_, rfl, _, _, _, _, rfl, rfl, (SqL.of h874), (atI_map g888), _, rfl, _, _, _, _, rfl, rfl, (SqL.of h874), (atI_map g889), _, rfl, _, _, _, _, rfl, rfl, (SqL.of h874), (atI_map g890), _, rfl, _, _, _, _, rfl, rfl, (SqL.of h874), (atI_map g891), rfl, rfl, fun x892 dx893 n894 n895 n896 => ?_⟩
    generalize g897 : upd (upd H872 dx893 _) x892 _ = H898
    obtain ⟨e899, h900⟩ := gen_obj n894 n895 n896 g897
    have fr901 := S873.free n894
    have S902 := S873.new n894 e899 h900 fr901
    refine ⟨G875, _, _, _, _, _, _, rfl, S902.sG, (S902.gno (all_cons (.head _) all_nil)), h900, cW_call hw (fun v903 hw H904 x905 h906 => ⟨rfl, ?_⟩) (fun e he => (hE e he).elim)⟩
    have S907 : Sep _ _ _ _ H904 [x892, D827, p784, p793, p815] := Sep.init S902 x905 (.head _) h906 [] all_nil
    refine ⟨_, rfl, _, _, _, rfl, h906, rfl, rfl, rfl, G875, _, _, v903, rfl, S907.sG, (hide_nil h906), cW_call hw (fun v908 hw H909 e910 => ?_) (fun e he => (hE e he).elim)⟩
    have S911 := S907.same e910
    refine ⟨_, rfl, _, _, _, _, _, rfl, (.ty _), (.base (.str _)), rfl, _, rfl, ?_⟩
    refine iteF ?_
    have h912 := (e910 _ _ ((SameXs.of x905) _ _ (e899 _ _ h874) (ni1 (ne_of_none h874 n894))))
    refine ⟨_, rfl, _, rfl, rfl, rfl, G875, _, _, rfl, S911.sG, (hide_nil h912), cW_call hw (fun v913 hw => ?_) (fun e he => (hE e he).elim)⟩
    refine ⟨rfl, _, rfl, ?_⟩
    refine iteN (fun c914 => ?_) (fun c914 => ?_)
    · have hw := cW_neg c914 hw
      have hw := cW_ok hw
      exact eq_bl (k _) (hK0 _ hw).symm
    · have hw := cW_pos c914 hw
      refine ⟨rfl, _, rfl, rfl, G875, _, rfl, S911.sG, cW_call hw (fun v915 hw H916 p918 dx919 e917 n920 h921 => ?_) (fun e he => (hE e he).elim)⟩
      have fr922 := S911.free n920
      have S923 : Sep _ _ _ _ H916 [p918, x892, D827, p784, p793, p815] := Sep.news S911 e917 [p918] (all_cons ⟨n920, some_ne h921, fr922⟩ all_nil)
      refine ⟨_, rfl, _, _, _, _, _, rfl, (.own _), (tyX_ins h921 T.cl_Format T.ci_Format), kit_self, _, rfl, ?_⟩
      refine iteF ?_
      have h924 := (e917 _ _ (e910 _ _ h906))
      refine ⟨_, rfl, _, rfl, _, _, _, _, _, _, rfl, rfl, h921, h924, rfl, rfl, G875, _, _, v915, _, _, v903, rfl, S923.sG, (hide_nil h921), (hide_nil h924), cW_callN hw (fun v925 hw H926 e927 => ?_) trivial⟩
      have S928 := S923.same e927
      refine ⟨⟨_, rfl⟩, _, rfl, rfl, _, rfl, ?_⟩
      refine iteB (fun c929 => ?_) (fun c929 => ?_)
      · have hw := cW_pos c929 hw
        have hw := cW_ok hw
        exact eq_bl (k _) (hK0 _ hw).symm
      · have hw := cW_negB c929 hw
        have h930 := (e927 _ _ h921)
        refine ⟨_, rfl, _, _, _, _, _, rfl, h930, T.cl_Format, T.n_Format_width, rfl, _, rfl, _, _, _, _, _, rfl, h930, T.cl_Format, T.n_Format_height, rfl, _, rfl, _, _, _, _, _, rfl, h930, T.cl_Format, T.n_Format_depth, rfl, _, rfl, _, _, _, _, _, rfl, h930, T.cl_Format, T.n_Format_chroma, rfl, (by show 4 ≤ sizeLine; decide), fun p931 n932 => ?_⟩
        generalize g933 : upd H926 p931 _ = H934
        obtain ⟨e935, h936⟩ := gen_new n932 g933
        have h937 : H934 p931 = some (.lst (([v915.width, v915.height, v915.depth, v915.chroma] : (List Int)).map V.int)) := h936
        have fr938 := S928.free n932
        have S939 := S928.new n932 e935 h937 fr938
        have h940 := (e935 _ _ (e927 _ _ (e917 _ _ h912)))
        refine ⟨_, rfl, _, _, (rp_mk_ints h937), (rp_mk_ints h940), _, rfl, ?_⟩
        refine iteN (fun c941 => ?_) (fun c941 => ?_)
        · have hw := cW_neg c941 hw
          have hw := cW_ok hw
          exact eq_bl (k _) (hK0 _ hw).symm
        · have hw := cW_pos c941 hw
          obtain ⟨g942, hw⟩ := cW_grd hw
          have h943 := (e935 _ _ (e927 _ _ (e917 _ _ (e910 _ _ ((SameXs.of x905) _ _ (e899 _ _ h886) (ni1 (ne_of_none h886 n894)))))))
          refine ⟨_, rfl, _, rfl, _, rfl, _, _, _, _, rfl, rfl, (SqL.of h943), (atI_map g942), rfl, rfl, G875, _, _, _, _, rfl, S939.sG, (hide_nil h940), cW_call hw (fun v944 hw p947 H945 n948 e946 h949 => ?_) (fun e he => (hE e he).elim)⟩
          have h950 : H945 p947 = some (.lst ((v944 : (List Str)).map V.str)) := h949
          have fr951 := S939.free n948
          have S952 := S939.new n948 e946 h950 fr951
          refine ⟨_, rfl, (by show 1 ≤ sizeLine; decide), fun p953 n954 => ?_⟩
          generalize g955 : upd H945 p953 _ = H956
          obtain ⟨e957, h958⟩ := gen_new n954 g955
          have h959 : H956 p953 = some (.lst (([7] : (List Int)).map V.int)) := h958
          have fr960 := S952.free n954
          have S961 := S952.new n954 e957 h959 fr960
          refine ⟨_, rfl, _, rfl, _, rfl, _, _, rfl, (S961.b0.seq q_script), fun p962 n963 => ?_⟩
          generalize g964 : upd H956 p962 _ = H965
          obtain ⟨e966, h967⟩ := gen_new n963 g964
          have h968 : H965 p962 = some (.lst ((cutL (script') (some (1)) (some (20)) : (List Int)).map V.int)) := cut_map h967
          have fr969 := S961.free n963
          have S970 := S961.new n963 e966 h968 fr969
          obtain ⟨g971, hw⟩ := cW_grd hw
          have h972 := (e966 _ _ h959)
          refine ⟨_, _, _, _, rfl, rfl, h972, h968, (cat_lenM g971), fun p973 n974 => ?_⟩
          generalize g975 : upd H965 p973 _ = H976
          obtain ⟨e977, h978⟩ := gen_new n974 g975
          have h979 : H976 p973 = some (.lst ((([7]) ++ (cutL (script') (some (1)) (some (20))) : (List Int)).map V.int)) := cat_map h978
          have fr980 := S970.free n974
          have S981 := S970.new n974 e977 h979 fr980
          refine ⟨rfl, rfl, G875, _, _, _, rfl, S981.sG, (hide_nil h979), cW_call hw (fun v982 hw p985 H983 n986 e984 h987 => ?_) (fun e he => (hE e he).elim)⟩
          have h988 : H983 p985 = some (.lst ((v982 : (List Str)).map V.str)) := h987
          have fr989 := S981.free n986
          have S990 := S981.new n986 e984 h988 fr989
          obtain ⟨g991, hw⟩ := cW_grd hw
          have h992 := (e984 _ _ (e977 _ _ (e966 _ _ (e957 _ _ h950))))
          refine ⟨_, _, _, _, rfl, rfl, h992, h988, (cat_lenM g991), fun p993 n994 => ?_⟩
          generalize g995 : upd H983 p993 _ = H996
          obtain ⟨e997, h998⟩ := gen_new n994 g995
          have h999 : H996 p993 = some (.lst (((v944) ++ (v982) : (List Str)).map V.str)) := cat_map h998
          have fr1000 := S990.free n994
          have S1001 := S990.new n994 e997 h999 fr1000
          obtain ⟨K1003, hK1004, hw⟩ := cW_push hw
          refine ⟨_, rfl, _, rfl, ⟨_, (SqL.of h999)⟩, fun D1005 n1006 => lc_list (K := K) (a := p993) (xs := ((v944) ++ (v982) : (List Str)).map V.str) (fun i1 H' => ∃ (G' : Hp) (acc1008 : (List Bool)), Same G875 G' ∧ Sep [] H H G' H' [D1005, p784, p793, p815, D827, x892, p918, p993] ∧ H' p784 = some (.lst (([1, 1, 8, 0] : (List Int)).map V.int)) ∧ H' p793 = some (.lst (([256, 256, 12, 2] : (List Int)).map V.int)) ∧ H' p815 = some (.lst ((v812 : (List Int)).map V.int)) ∧ H' D827 = some (.lst ((acc877 : (List Int)).map V.int)) ∧ H' x892 = some (.ins AD.c_Format dx893 [("width", V.int (v903.width)), ("height", V.int (v903.height)), ("depth", V.int (v903.depth)), ("chroma", V.int (v903.chroma))]) ∧ H' p918 = some (.ins AD.c_Format dx919 [("width", V.int (v915.width)), ("height", V.int (v915.height)), ("depth", V.int (v915.depth)), ("chroma", V.int (v915.chroma))]) ∧ H' p993 = some (.lst (((v944) ++ (v982) : (List Str)).map V.str)) ∧ H' D1005 = some (.lst ((acc1008 : (List Bool)).map V.bl)) ∧ Same H996 H' ∧ cW (mapA (List.drop i1 ((v944) ++ (v982))) acc1008 (fun x => noEr (F_law_c2  x))) K1003 EE) ?_ ?_ ?_ ?_⟩
          · generalize g1010 : upd H996 D1005 _ = H1011
            obtain ⟨e1012, h1013⟩ := gen_new n1006 g1010
            have fr1014 := S1001.free n1006
            have S1015 := S1001.new n1006 e1012 h1013 fr1014
            have h1016 := (e1012 _ _ (e997 _ _ (e984 _ _ (e977 _ _ (e966 _ _ (e957 _ _ (e946 _ _ (e935 _ _ (e927 _ _ (e917 _ _ (e910 _ _ ((SameXs.of x905) _ _ (e899 _ _ h884) (ni1 (ne_of_none h884 n894))))))))))))))
            have h1017 := (e1012 _ _ (e997 _ _ (e984 _ _ (e977 _ _ (e966 _ _ (e957 _ _ (e946 _ _ (e935 _ _ (e927 _ _ (e917 _ _ (e910 _ _ ((SameXs.of x905) _ _ (e899 _ _ h885) (ni1 (ne_of_none h885 n894))))))))))))))
            have h1018 := (e1012 _ _ (e997 _ _ (e984 _ _ (e977 _ _ (e966 _ _ (e957 _ _ (e946 _ _ h943)))))))
            have h1019 := (e1012 _ _ (e997 _ _ (e984 _ _ (e977 _ _ (e966 _ _ (e957 _ _ (e946 _ _ h940)))))))
            have h1020 := (e1012 _ _ (e997 _ _ (e984 _ _ (e977 _ _ (e966 _ _ (e957 _ _ (e946 _ _ (e935 _ _ (e927 _ _ h924)))))))))
            have h1021 := (e1012 _ _ (e997 _ _ (e984 _ _ (e977 _ _ (e966 _ _ (e957 _ _ (e946 _ _ (e935 _ _ h930))))))))
            have h1022 := (e1012 _ _ h999)
            exact ⟨_, [], Same.refl _, (S1015.sub (all_cons (.head _) (all_cons (.tail _ (.tail _ (.tail _ (.tail _ (.tail _ (.tail _ (.tail _ (.tail _ (.tail _ (.tail _ (.tail _ (.head _)))))))))))) (all_cons (.tail _ (.tail _ (.tail _ (.tail _ (.tail _ (.tail _ (.tail _ (.tail _ (.tail _ (.tail _ (.tail _ (.tail _ (.head _))))))))))))) (all_cons (.tail _ (.tail _ (.tail _ (.tail _ (.tail _ (.tail _ (.tail _ (.tail _ (.tail _ (.tail _ (.tail _ (.tail _ (.tail _ (.head _)))))))))))))) (all_cons (.tail _ (.tail _ (.tail _ (.tail _ (.tail _ (.tail _ (.tail _ (.tail _ (.tail _ (.tail _ (.head _))))))))))) (all_cons (.tail _ (.tail _ (.tail _ (.tail _ (.tail _ (.tail _ (.tail _ (.tail _ (.tail _ (.head _)))))))))) (all_cons (.tail _ (.tail _ (.tail _ (.tail _ (.tail _ (.tail _ (.tail _ (.tail _ (.head _))))))))) (all_cons (.tail _ (.head _)) all_nil))))))))), h1016, h1017, h1018, h1019, h1020, h1021, h1022, h1013, e1012, hw⟩
          · intro i1 H1023 _ hw
            obtain ⟨G1026, acc1028, eG1027, S1024, h1035, h1036, h1037, h1038, hw⟩ := hw
            obtain ⟨h1039, h1040, h1041, h1025, eo1034, hw⟩ := hw
            exact (SqL.of h1041)
          · intro i1 x H1042 hj hw
            obtain ⟨G1045, acc1047, eG1046, S1043, h1054, h1055, h1056, h1057, hw⟩ := hw
            obtain ⟨h1058, h1059, h1060, h1044, eo1053, hw⟩ := hw
            obtain ⟨x1061, hx, rfl⟩ := map_getF hj
            obtain ⟨z1062, hw⟩ := cW_mapA hx hw
            have hw := cW_noEr hw
            have hw : cW (F_law_c2  (x1061)) _ (fun _ => False) := hw
            unfold F_law_c2 at hw
            refine ⟨rfl, ?_⟩
            refine tyes_go ?_
            refine ⟨_, rfl, rfl, rfl, G1045, _, rfl, S1043.sG, cW_call hw (fun v1064 hw H1065 e1066 => ?_) (fun e he => he.elim)⟩
            have S1067 := S1043.same e1066
            have h1068 := (e1066 _ _ h1044)
            refine ⟨_, h1068, (app_lenM z1062), ?_⟩
            generalize g1069 : upd H1065 D1005 _ = H1070
            obtain ⟨x1071, h1072⟩ := gen_mut g1069
            have S1073 := S1067.mut1 x1071 (.head _) h1072
            have hw := cW_ok hw
            have h1074 := (x1071 _ _ (e1066 _ _ h1054) (ne_of_none (e997 _ _ (e984 _ _ (e977 _ _ (e966 _ _ (e957 _ _ (e946 _ _ (e935 _ _ (e927 _ _ (e917 _ _ (e910 _ _ ((SameXs.of x905) _ _ (e899 _ _ h884) (ni1 (ne_of_none h884 n894))))))))))))) n1006))
            have h1075 := (x1071 _ _ (e1066 _ _ h1055) (ne_of_none (e997 _ _ (e984 _ _ (e977 _ _ (e966 _ _ (e957 _ _ (e946 _ _ (e935 _ _ (e927 _ _ (e917 _ _ (e910 _ _ ((SameXs.of x905) _ _ (e899 _ _ h885) (ni1 (ne_of_none h885 n894))))))))))))) n1006))
            have h1076 := (x1071 _ _ (e1066 _ _ h1056) (ne_of_none (e997 _ _ (e984 _ _ (e977 _ _ (e966 _ _ (e957 _ _ (e946 _ _ h943)))))) n1006))
            have h1077 := (x1071 _ _ (e1066 _ _ h1057) (ne_of_none (e997 _ _ (e984 _ _ (e977 _ _ (e966 _ _ (e957 _ _ (e946 _ _ h940)))))) n1006))
            have h1078 := (x1071 _ _ (e1066 _ _ h1058) (ne_of_none (e997 _ _ (e984 _ _ (e977 _ _ (e966 _ _ (e957 _ _ (e946 _ _ (e935 _ _ (e927 _ _ h924)))))))) n1006))
            have h1079 := (x1071 _ _ (e1066 _ _ h1059) (ne_of_none (e997 _ _ (e984 _ _ (e977 _ _ (e966 _ _ (e957 _ _ (e946 _ _ (e935 _ _ h930))))))) n1006))
            have h1080 := (x1071 _ _ (e1066 _ _ h1060) (ne_of_none h999 n1006))
            exact ⟨_, (acc1047 ++ [v1064]), eG1046, S1073, h1074, h1075, h1076, h1077, h1078, h1079, h1080, (snoc_map h1072), (same_mut (Same.trans eo1053 e1066) x1071 n1006), hw⟩
          intro H1081 hw
          obtain ⟨G1084, acc1086, eG1085, S1082, h1093, h1094, h1095, h1096, hw⟩ := hw
          obtain ⟨h1097, h1098, h1099, h1083, eo1092, hw⟩ := hw
          have hw := hK1004 _ (cW_mapA0 (by rw [List.length_map]) hw)
          have fr1100 := S1001.free n1006
          refine ⟨_, _, rfl, (SqL.of h1083), ?_⟩
          have hw := cW_ok hw
          exact eq_bl (k _) (hK0 _ hw).symm
end
def spL (K : PySem.W.Frag) : Sp := fun vs H Q _ => ∃ (a_script : Addr) (script : List Int), vs = [.ref a_script] ∧ SqL K H a_script (script.map V.int) ∧ script.length ≤ 63 ∧ ∀ H', Q (.bl true) H'
def adK (K : PySem.W.Frag) : Ads := ⟨He.ga K "Format", He.ga K "CodecError", He.ga K "BadFormat", He.ga K "OutOfRange", 0⟩
abbrev dk0 : He5.DefA := ⟨fun K => He.ga K "_law_draws", "_law_draws", "_law_draws", defArgs s__law_draws, defBody s__law_draws, defScope s__law_draws, [], []⟩
abbrev dk1 : He5.DefA := ⟨fun K => He.ma K (He.ga K "Format") "__init__", "__init__", "Format.__init__", defArgs s_Format___init__, defBody s_Format___init__, defScope s_Format___init__, [], [("depth", .int 8), ("chroma", .int 0)]⟩
abbrev dk2 : He5.DefA := ⟨fun K => He.ga K "_law_cell", "_law_cell", "_law_cell", defArgs s__law_cell, defBody s__law_cell, defScope s__law_cell, [], []⟩
abbrev dk3 : He5.DefA := ⟨fun K => He.ga K "_law_between", "_law_between", "_law_between", defArgs s__law_between, defBody s__law_between, defScope s__law_between, [], []⟩
abbrev dk4 : He5.DefA := ⟨fun K => He.ma K (He.ga K "Format") "text", "text", "Format.text", defArgs s_Format_text, defBody s_Format_text, defScope s_Format_text, [], []⟩
abbrev dk5 : He5.DefA := ⟨fun K => He.ga K "_numbers_in", "_numbers_in", "_numbers_in", defArgs s__numbers_in, defBody s__numbers_in, defScope s__numbers_in, [], []⟩
abbrev dk6 : He5.DefA := ⟨fun K => clA "Format" "parse" K, "parse", "Format.parse", defArgs s_Format_parse, defBody s_Format_parse, defScope s_Format_parse, [], []⟩
abbrev dk7 : He5.DefA := ⟨fun K => He.ga K "_law_text", "_law_text", "_law_text", defArgs s__law_text, defBody s__law_text, defScope s__law_text, [], []⟩
abbrev dk8 : He5.DefA := ⟨fun K => He.ga K "_law_bad", "_law_bad", "_law_bad", defArgs s__law_bad, defBody s__law_bad, defScope s__law_bad, [], []⟩
abbrev dk9 : He5.DefA := ⟨fun K => He.ga K "_law_other_signs", "_law_other_signs", "_law_other_signs", defArgs s__law_other_signs, defBody s__law_other_signs, defScope s__law_other_signs, [], []⟩
abbrev dk10 : He5.DefA := ⟨fun K => He.ma K (He.ga K "Format") "__eq__", "__eq__", "Format.__eq__", defArgs s_Format___eq__, defBody s_Format___eq__, defScope s_Format___eq__, [], []⟩
abbrev dk11 : He5.DefA := ⟨fun K => He.ga K "_law_refused", "_law_refused", "_law_refused", defArgs s__law_refused, defBody s__law_refused, defScope s__law_refused, [], []⟩
abbrev dk12 : He5.DefA := ⟨fun K => He.ga K "law", "law", "law", defArgs s_law, defBody s_law, defScope s_law, [], []⟩
def fa0 : List FaK := [(fun K => (He.Fa.free "abs").ok K), (fun K => (He.Fa.free "int").ok K), (fun K => (He.Fa.free "len").ok K), (fun K => (He.Fa.free "min").ok K), (fun K => (He.Fa.free "any").ok K), (fun K => (He.Fa.free "str").ok K), (fun K => (He.Fa.free "list").ok K), (fun K => (He.Fa.free "range").ok K), (fun K => (He.Fa.free "isinstance").ok K), (fun K => (He.Fa.free "all").ok K), (fun K => (He.Fa.cls "Format").ok K), (fun K => (He.Fa.glo "Format").ok K), (isiB "Format"), (fun K => (He.Fa.noat "Format" "width").ok K), (fun K => (He.Fa.noat "Format" "height").ok K), (fun K => (He.Fa.noat "Format" "depth").ok K), (fun K => (He.Fa.noat "Format" "chroma").ok K), (fun K => (He.Fa.exc "BadFormat").ok K), (fun K => (He.Fa.glo "BadFormat").ok K), (fun K => (He.Fa.exc "CodecError").ok K), (fun K => (He.Fa.glo "CodecError").ok K), (fun K => (He.Fa.exm "BadFormat" "BadFormat" true).ok K), (kitFB "BadFormat" (fun K => .ref (He.ga K "CodecError")) true), (excCB "BadFormat"), (fun K => (He.Fa.glo "_law_draws").ok K), (fun K => (He.Fa.mkr "Format").ok K), (fun K => (He.Fa.glo "_law_cell").ok K), (fun K => (He.Fa.glo "_law_between").ok K), (fun K => (He.Fa.meth "Format" "text").ok K), (fun K => (He.Fa.glo "_numbers_in").ok K)]
def fa1 : List FaK := [(clB "Format" "parse"), (fun K => (He.Fa.glo "_law_text").ok K), (fun K => (He.Fa.glo "_law_bad").ok K), (fun K => (He.Fa.glo "_law_other_signs").ok K), (fun K => (He.Fa.meth "Format" "__eq__").ok K), (fun K => (He.Fa.glo "_law_refused").ok K), (fun K => (He.Fa.glo "law").ok K)]
def fas : List (List FaK) := [fa0, fa1]
def fn0 : List He5.DefA := [dk0, dk1, dk2, dk3, dk4, dk5, dk6, dk7, dk8, dk9, dk10, dk11, dk12]
def fns : List He5.DefA := fn0
def tbs : List He.Tab := []
def nms0 : List Str := ["_wall", "__name__", "CodecError", "BadFormat", "OutOfRange", "Format", "_numbers_in", "_law_cell", "_law_draws", "_law_between", "_law_text", "_law_refused", "_law_bad", "_law_other_signs"]
def nms : List Str := nms0
abbrev RowK : PySem.W.OpenRow := PySem.W.OpenLaw.row PySem.Challenge.rw_thaumatrope_k02_texts_of_formats
abbrev hkK : PySem.W.Hook := hookKC 6 fas fns tbs
def obK (s : PySem.W.SharedT) : AlK := obsKC 6 fas fns tbs (HandSHeadRun.getT s)
theorem obK_eq (s : PySem.W.SharedT) : obK s = hkK.obs s.abs := obsKC_eq (HandSHeadRun.getT_eq s)
theorem runK0 (w : World) : HandSHeadRun.RunEq RowK (PySem.W.view RowK.prog [16]) hkK obK 20000 nms (w.withFollow "special-get-raises" false) := by
  intro os
  kernel_rfl
theorem runK1 (w : World) : HandSHeadRun.RunEq RowK (PySem.W.view RowK.prog [16]) hkK obK 20000 nms (w.withFollow "special-get-raises" true) := by
  intro os
  kernel_rfl
theorem runK (w : World) : HandSHeadRun.RunEq RowK (PySem.W.view RowK.prog [16]) hkK obK 20000 nms w := PySem.W.byRow2 "special-get-raises" runK0 runK1 w
section
variable {P : Program} {w : World} {K : PySem.W.Frag} {h : Heap} {mg : Str → Option Value} (X : K.In h) (G : h.Ns mainGlobals mg) (c : SaysK fas fns tbs w K)
include X G c
theorem T_ : Txt w K mg (adK K) := ⟨He.free_ok X G (c.fact 0 0 (l := fa0) (f := (fun K => (He.Fa.free "abs").ok K)) rfl rfl), He.free_ok X G (c.fact 0 1 (l := fa0) (f := (fun K => (He.Fa.free "int").ok K)) rfl rfl), He.free_ok X G (c.fact 0 2 (l := fa0) (f := (fun K => (He.Fa.free "len").ok K)) rfl rfl), He.free_ok X G (c.fact 0 3 (l := fa0) (f := (fun K => (He.Fa.free "min").ok K)) rfl rfl), He.free_ok X G (c.fact 0 4 (l := fa0) (f := (fun K => (He.Fa.free "any").ok K)) rfl rfl), He.free_ok X G (c.fact 0 5 (l := fa0) (f := (fun K => (He.Fa.free "str").ok K)) rfl rfl), He.free_ok X G (c.fact 0 6 (l := fa0) (f := (fun K => (He.Fa.free "list").ok K)) rfl rfl), He.free_ok X G (c.fact 0 7 (l := fa0) (f := (fun K => (He.Fa.free "range").ok K)) rfl rfl), He.free_ok X G (c.fact 0 8 (l := fa0) (f := (fun K => (He.Fa.free "isinstance").ok K)) rfl rfl), He.free_ok X G (c.fact 0 9 (l := fa0) (f := (fun K => (He.Fa.free "all").ok K)) rfl rfl), He.cls_ok (c.fact 0 10 (l := fa0) (f := (fun K => (He.Fa.cls "Format").ok K)) rfl rfl), (He.glo_ok X G (c.fact 0 11 (l := fa0) (f := (fun K => (He.Fa.glo "Format").ok K)) rfl rfl)), isiB_ok (c.fact 0 12 (l := fa0) (f := (isiB "Format")) rfl rfl), He.noat_ok (c.fact 0 13 (l := fa0) (f := (fun K => (He.Fa.noat "Format" "width").ok K)) rfl rfl), He.noat_ok (c.fact 0 14 (l := fa0) (f := (fun K => (He.Fa.noat "Format" "height").ok K)) rfl rfl), He.noat_ok (c.fact 0 15 (l := fa0) (f := (fun K => (He.Fa.noat "Format" "depth").ok K)) rfl rfl), He.noat_ok (c.fact 0 16 (l := fa0) (f := (fun K => (He.Fa.noat "Format" "chroma").ok K)) rfl rfl), (He.glo_ok X G (c.fact 0 18 (l := fa0) (f := (fun K => (He.Fa.glo "BadFormat").ok K)) rfl rfl)), (He.exc_ok (c.fact 0 17 (l := fa0) (f := (fun K => (He.Fa.exc "BadFormat").ok K)) rfl rfl)).1, (He.exc_ok (c.fact 0 17 (l := fa0) (f := (fun K => (He.Fa.exc "BadFormat").ok K)) rfl rfl)).2.1, (He.exc_ok (c.fact 0 17 (l := fa0) (f := (fun K => (He.Fa.exc "BadFormat").ok K)) rfl rfl)).2.2.1, (He.exc_ok (c.fact 0 17 (l := fa0) (f := (fun K => (He.Fa.exc "BadFormat").ok K)) rfl rfl)).2.2.2, (He.glo_ok X G (c.fact 0 20 (l := fa0) (f := (fun K => (He.Fa.glo "CodecError").ok K)) rfl rfl)), (He.exc_ok (c.fact 0 19 (l := fa0) (f := (fun K => (He.Fa.exc "CodecError").ok K)) rfl rfl)).1, (He.exc_ok (c.fact 0 19 (l := fa0) (f := (fun K => (He.Fa.exc "CodecError").ok K)) rfl rfl)).2.1, (He.exc_ok (c.fact 0 19 (l := fa0) (f := (fun K => (He.Fa.exc "CodecError").ok K)) rfl rfl)).2.2.1, (He.exc_ok (c.fact 0 19 (l := fa0) (f := (fun K => (He.Fa.exc "CodecError").ok K)) rfl rfl)).2.2.2, He.exm_ok (c.fact 0 21 (l := fa0) (f := (fun K => (He.Fa.exm "BadFormat" "BadFormat" true).ok K)) rfl rfl), kitFB_ok (c.fact 0 22 (l := fa0) (f := (kitFB "BadFormat" (fun K => .ref (He.ga K "CodecError")) true)) rfl rfl), excCB_ok (c.fact 0 23 (l := fa0) (f := (excCB "BadFormat")) rfl rfl)⟩
theorem D_0 : DefX K mg "_law_draws" s__law_draws ["cell", "limits"] pats__law_draws := by
  obtain ⟨fd0, F0⟩ : ∃ fd, FunD K "_law_draws" "_law_draws" (defArgs s__law_draws) (defBody s__law_draws) (defScope s__law_draws) [] [] (He.ga K "_law_draws") fd := c.def_ 0 (d := dk0) rfl
  obtain ⟨kV, dc, pm, an, cd, ct, rfl⟩ := fnD_ex F0
  exact ⟨_, _, _, _, F0, (He.glo_ok X G (c.fact 0 24 (l := fa0) (f := (fun K => (He.Fa.glo "_law_draws").ok K)) rfl rfl)), (all_consQ (Bnd.all fun us ws vs zs l1 l2 r rz => by
      obtain ⟨u0, u1, rfl⟩ := len2 (r.length.symm.trans l1)
      obtain rfl := len0 (rz.length.symm.trans l2)
      cases r with | cons r0 r =>
        cases r with | cons r1 r =>
          cases r
          cases rz
          exact ⟨[u0, u1], rfl, (.cons r0 (.cons r1 .nil))⟩) all_nilQ)⟩
theorem D_1 : InitX K mg (He.ga K "Format") "Format" "Format.__init__" s_Format___init__ ["self", "width", "height", "depth", "chroma"] pats_Format___init__ := by
  obtain ⟨fd0, F1⟩ : ∃ fd, FunD K "__init__" "Format.__init__" (defArgs s_Format___init__) (defBody s_Format___init__) (defScope s_Format___init__) [] [("depth", V.int 8), ("chroma", V.int 0)] (He.ma K (He.ga K "Format") "__init__") fd := c.def_ 1 (d := dk1) rfl
  obtain ⟨kV, dc, pm, an, cd, ct, rfl⟩ := fnD_ex F1
  exact ⟨_, _, _, _, F1, He.mkr_ok (c.fact 0 25 (l := fa0) (f := (fun K => (He.Fa.mkr "Format").ok K)) rfl rfl), (He.glo_ok X G (c.fact 0 11 (l := fa0) (f := (fun K => (He.Fa.glo "Format").ok K)) rfl rfl)), (all_consQ (Bnd.all fun us ws vs zs l1 l2 r rz => by
      obtain ⟨u0, u1, u2, rfl⟩ := len3 (r.length.symm.trans l1)
      obtain ⟨w0, w1, rfl⟩ := len2 (rz.length.symm.trans l2)
      cases r with | cons r0 r =>
        cases r with | cons r1 r =>
          cases r with | cons r2 r =>
            cases r
            cases rz with | cons q0 rz =>
              cases rz with | cons q1 rz =>
                cases rz
                exact ⟨[u0, u1, u2, w0, w1], rfl, (.cons r0 (.cons r1 (.cons r2 (.cons q0 (.cons q1 .nil)))))⟩) all_nilQ)⟩
theorem D_2 : DefX K mg "_law_cell" s__law_cell ["script", "k"] pats__law_cell := by
  obtain ⟨fd0, F2⟩ : ∃ fd, FunD K "_law_cell" "_law_cell" (defArgs s__law_cell) (defBody s__law_cell) (defScope s__law_cell) [] [] (He.ga K "_law_cell") fd := c.def_ 2 (d := dk2) rfl
  obtain ⟨kV, dc, pm, an, cd, ct, rfl⟩ := fnD_ex F2
  exact ⟨_, _, _, _, F2, (He.glo_ok X G (c.fact 0 26 (l := fa0) (f := (fun K => (He.Fa.glo "_law_cell").ok K)) rfl rfl)), (all_consQ (Bnd.all fun us ws vs zs l1 l2 r rz => by
      obtain ⟨u0, u1, rfl⟩ := len2 (r.length.symm.trans l1)
      obtain rfl := len0 (rz.length.symm.trans l2)
      cases r with | cons r0 r =>
        cases r with | cons r1 r =>
          cases r
          cases rz
          exact ⟨[u0, u1], rfl, (.cons r0 (.cons r1 .nil))⟩) all_nilQ)⟩
theorem D_3 : DefX K mg "_law_between" s__law_between ["first", "second", "low", "high"] pats__law_between := by
  obtain ⟨fd0, F3⟩ : ∃ fd, FunD K "_law_between" "_law_between" (defArgs s__law_between) (defBody s__law_between) (defScope s__law_between) [] [] (He.ga K "_law_between") fd := c.def_ 3 (d := dk3) rfl
  obtain ⟨kV, dc, pm, an, cd, ct, rfl⟩ := fnD_ex F3
  exact ⟨_, _, _, _, F3, (He.glo_ok X G (c.fact 0 27 (l := fa0) (f := (fun K => (He.Fa.glo "_law_between").ok K)) rfl rfl)), (all_consQ (Bnd.all fun us ws vs zs l1 l2 r rz => by
      obtain ⟨u0, u1, u2, u3, rfl⟩ := len4 (r.length.symm.trans l1)
      obtain rfl := len0 (rz.length.symm.trans l2)
      cases r with | cons r0 r =>
        cases r with | cons r1 r =>
          cases r with | cons r2 r =>
            cases r with | cons r3 r =>
              cases r
              cases rz
              exact ⟨[u0, u1, u2, u3], rfl, (.cons r0 (.cons r1 (.cons r2 (.cons r3 .nil))))⟩) all_nilQ)⟩
theorem D_4 : MethX K (He.ga K "Format") "Format.text" "text" s_Format_text ["self"] pats_Format_text := by
  obtain ⟨fd0, F4⟩ : ∃ fd, FunD K "text" "Format.text" (defArgs s_Format_text) (defBody s_Format_text) (defScope s_Format_text) [] [] (He.ma K (He.ga K "Format") "text") fd := c.def_ 4 (d := dk4) rfl
  obtain ⟨kV, dc, pm, an, cd, ct, rfl⟩ := fnD_ex F4
  exact ⟨_, _, _, _, F4, He.meth_ok (c.fact 0 28 (l := fa0) (f := (fun K => (He.Fa.meth "Format" "text").ok K)) rfl rfl), (all_consQ (Bnd.all fun us ws vs zs l1 l2 r rz => by
      obtain ⟨u0, rfl⟩ := len1 (r.length.symm.trans l1)
      obtain rfl := len0 (rz.length.symm.trans l2)
      cases r with | cons r0 r =>
        cases r
        cases rz
        exact ⟨[u0], rfl, (.cons r0 .nil)⟩) all_nilQ)⟩
theorem D_5 : DefX K mg "_numbers_in" s__numbers_in ["text"] pats__numbers_in := by
  obtain ⟨fd0, F5⟩ : ∃ fd, FunD K "_numbers_in" "_numbers_in" (defArgs s__numbers_in) (defBody s__numbers_in) (defScope s__numbers_in) [] [] (He.ga K "_numbers_in") fd := c.def_ 5 (d := dk5) rfl
  obtain ⟨kV, dc, pm, an, cd, ct, rfl⟩ := fnD_ex F5
  exact ⟨_, _, _, _, F5, (He.glo_ok X G (c.fact 0 29 (l := fa0) (f := (fun K => (He.Fa.glo "_numbers_in").ok K)) rfl rfl)), (all_consQ (Bnd.all fun us ws vs zs l1 l2 r rz => by
      obtain ⟨u0, rfl⟩ := len1 (r.length.symm.trans l1)
      obtain rfl := len0 (rz.length.symm.trans l2)
      cases r with | cons r0 r =>
        cases r
        cases rz
        exact ⟨[u0], rfl, (.cons r0 .nil)⟩) all_nilQ)⟩
theorem D_6 : ClmX K (He.ga K "Format") "Format.parse" "parse" s_Format_parse ["cls", "text"] pats_Format_parse := by
  obtain ⟨fd0, F6⟩ : ∃ fd, FunD K "parse" "Format.parse" (defArgs s_Format_parse) (defBody s_Format_parse) (defScope s_Format_parse) [] [] (clA "Format" "parse" K) fd := c.def_ 6 (d := dk6) rfl
  obtain ⟨kV, dc, pm, an, cd, ct, rfl⟩ := fnD_ex F6
  exact ⟨_, _, _, _, _, F6, (clB_ok (c.fact 1 0 (l := fa1) (f := (clB "Format" "parse")) rfl rfl)).1, (clB_ok (c.fact 1 0 (l := fa1) (f := (clB "Format" "parse")) rfl rfl)).2, (all_consQ (Bnd.all fun us ws vs zs l1 l2 r rz => by
      obtain ⟨u0, u1, rfl⟩ := len2 (r.length.symm.trans l1)
      obtain rfl := len0 (rz.length.symm.trans l2)
      cases r with | cons r0 r =>
        cases r with | cons r1 r =>
          cases r
          cases rz
          exact ⟨[u0, u1], rfl, (.cons r0 (.cons r1 .nil))⟩) all_nilQ)⟩
theorem D_7 : DefX K mg "_law_text" s__law_text ["numbers"] pats__law_text := by
  obtain ⟨fd0, F7⟩ : ∃ fd, FunD K "_law_text" "_law_text" (defArgs s__law_text) (defBody s__law_text) (defScope s__law_text) [] [] (He.ga K "_law_text") fd := c.def_ 7 (d := dk7) rfl
  obtain ⟨kV, dc, pm, an, cd, ct, rfl⟩ := fnD_ex F7
  exact ⟨_, _, _, _, F7, (He.glo_ok X G (c.fact 1 1 (l := fa1) (f := (fun K => (He.Fa.glo "_law_text").ok K)) rfl rfl)), (all_consQ (Bnd.all fun us ws vs zs l1 l2 r rz => by
      obtain ⟨u0, rfl⟩ := len1 (r.length.symm.trans l1)
      obtain rfl := len0 (rz.length.symm.trans l2)
      cases r with | cons r0 r =>
        cases r
        cases rz
        exact ⟨[u0], rfl, (.cons r0 .nil)⟩) all_nilQ)⟩
theorem D_8 : DefX K mg "_law_bad" s__law_bad ["text", "numbers", "number"] pats__law_bad := by
  obtain ⟨fd0, F8⟩ : ∃ fd, FunD K "_law_bad" "_law_bad" (defArgs s__law_bad) (defBody s__law_bad) (defScope s__law_bad) [] [] (He.ga K "_law_bad") fd := c.def_ 8 (d := dk8) rfl
  obtain ⟨kV, dc, pm, an, cd, ct, rfl⟩ := fnD_ex F8
  exact ⟨_, _, _, _, F8, (He.glo_ok X G (c.fact 1 2 (l := fa1) (f := (fun K => (He.Fa.glo "_law_bad").ok K)) rfl rfl)), (all_consQ (Bnd.all fun us ws vs zs l1 l2 r rz => by
      obtain ⟨u0, u1, u2, rfl⟩ := len3 (r.length.symm.trans l1)
      obtain rfl := len0 (rz.length.symm.trans l2)
      cases r with | cons r0 r =>
        cases r with | cons r1 r =>
          cases r with | cons r2 r =>
            cases r
            cases rz
            exact ⟨[u0, u1, u2], rfl, (.cons r0 (.cons r1 (.cons r2 .nil)))⟩) all_nilQ)⟩
theorem D_9 : DefX K mg "_law_other_signs" s__law_other_signs ["text", "cells"] pats__law_other_signs := by
  obtain ⟨fd0, F9⟩ : ∃ fd, FunD K "_law_other_signs" "_law_other_signs" (defArgs s__law_other_signs) (defBody s__law_other_signs) (defScope s__law_other_signs) [] [] (He.ga K "_law_other_signs") fd := c.def_ 9 (d := dk9) rfl
  obtain ⟨kV, dc, pm, an, cd, ct, rfl⟩ := fnD_ex F9
  exact ⟨_, _, _, _, F9, (He.glo_ok X G (c.fact 1 3 (l := fa1) (f := (fun K => (He.Fa.glo "_law_other_signs").ok K)) rfl rfl)), (all_consQ (Bnd.all fun us ws vs zs l1 l2 r rz => by
      obtain ⟨u0, u1, rfl⟩ := len2 (r.length.symm.trans l1)
      obtain rfl := len0 (rz.length.symm.trans l2)
      cases r with | cons r0 r =>
        cases r with | cons r1 r =>
          cases r
          cases rz
          exact ⟨[u0, u1], rfl, (.cons r0 (.cons r1 .nil))⟩) all_nilQ)⟩
theorem D_10 : MethX K (He.ga K "Format") "Format.__eq__" "__eq__" s_Format___eq__ ["self", "other"] pats_Format___eq__ := by
  obtain ⟨fd0, F10⟩ : ∃ fd, FunD K "__eq__" "Format.__eq__" (defArgs s_Format___eq__) (defBody s_Format___eq__) (defScope s_Format___eq__) [] [] (He.ma K (He.ga K "Format") "__eq__") fd := c.def_ 10 (d := dk10) rfl
  obtain ⟨kV, dc, pm, an, cd, ct, rfl⟩ := fnD_ex F10
  exact ⟨_, _, _, _, F10, He.meth_ok (c.fact 1 4 (l := fa1) (f := (fun K => (He.Fa.meth "Format" "__eq__").ok K)) rfl rfl), (all_consQ (Bnd.all fun us ws vs zs l1 l2 r rz => by
      obtain ⟨u0, u1, rfl⟩ := len2 (r.length.symm.trans l1)
      obtain rfl := len0 (rz.length.symm.trans l2)
      cases r with | cons r0 r =>
        cases r with | cons r1 r =>
          cases r
          cases rz
          exact ⟨[u0, u1], rfl, (.cons r0 (.cons r1 .nil))⟩) all_nilQ)⟩
theorem D_11 : DefX K mg "_law_refused" s__law_refused ["text"] pats__law_refused := by
  obtain ⟨fd0, F11⟩ : ∃ fd, FunD K "_law_refused" "_law_refused" (defArgs s__law_refused) (defBody s__law_refused) (defScope s__law_refused) [] [] (He.ga K "_law_refused") fd := c.def_ 11 (d := dk11) rfl
  obtain ⟨kV, dc, pm, an, cd, ct, rfl⟩ := fnD_ex F11
  exact ⟨_, _, _, _, F11, (He.glo_ok X G (c.fact 1 5 (l := fa1) (f := (fun K => (He.Fa.glo "_law_refused").ok K)) rfl rfl)), (all_consQ (Bnd.all fun us ws vs zs l1 l2 r rz => by
      obtain ⟨u0, rfl⟩ := len1 (r.length.symm.trans l1)
      obtain rfl := len0 (rz.length.symm.trans l2)
      cases r with | cons r0 r =>
        cases r
        cases rz
        exact ⟨[u0], rfl, (.cons r0 .nil)⟩) all_nilQ)⟩
theorem R__law_draws (base : Heap) : CalX P w K mg base 1 "_law_draws" (sp__law_draws K (adK K)) pats__law_draws := ok__law_draws (AD := adK K) (D_0 X G c) (T_ X G c) 
theorem R_Format___init__ (base : Heap) : MakX P w K mg base 1 "Format" (adK K).c_Format (sp_Format___init__ K (adK K)) pats_Format___init__ := ok_Format___init__ (AD := adK K) (D_1 X G c) (T_ X G c) 
theorem R__law_cell (base : Heap) : CalX P w K mg base 1 "_law_cell" (sp__law_cell K (adK K)) pats__law_cell := ok__law_cell (AD := adK K) (D_2 X G c) (T_ X G c) 
theorem R__law_between (base : Heap) : CalX P w K mg base 1 "_law_between" (sp__law_between K (adK K)) pats__law_between := ok__law_between (AD := adK K) (D_3 X G c) (T_ X G c) 
theorem R_Format_text (base : Heap) : MetX P w K mg base 1 (adK K).c_Format "text" (sp_Format_text K (adK K)) pats_Format_text := ok_Format_text (AD := adK K) (D_4 X G c) (T_ X G c) 
theorem R__numbers_in (base : Heap) : CalT P w K mg base 1 "_numbers_in" (sp__numbers_in K (adK K)) pats__numbers_in := ok__numbers_in (AD := adK K) (D_5 X G c) (T_ X G c) 
theorem R_Format_parse (base : Heap) : ClmT P w K mg base 3 (adK K).c_Format "parse" (sp_Format_parse K (adK K)) pats_Format_parse := ok_Format_parse (AD := adK K) (D_6 X G c) (T_ X G c) (R__numbers_in X G c base) (R_Format___init__ X G c base) (R_Format_text X G c base)
theorem R__law_text (base : Heap) : CalX P w K mg base 1 "_law_text" (sp__law_text K (adK K)) pats__law_text := ok__law_text (AD := adK K) (D_7 X G c) (T_ X G c) 
theorem R__law_bad (base : Heap) : CalX P w K mg base 2 "_law_bad" (sp__law_bad K (adK K)) pats__law_bad := ok__law_bad (AD := adK K) (D_8 X G c) (T_ X G c) (R__law_text X G c base)
theorem R__law_other_signs (base : Heap) : CalX P w K mg base 2 "_law_other_signs" (sp__law_other_signs K (adK K)) pats__law_other_signs := ok__law_other_signs (AD := adK K) (D_9 X G c) (T_ X G c) (R__law_draws X G c base)
theorem R_Format___eq__ (base : Heap) : MetX P w K mg base 1 (adK K).c_Format "__eq__" (sp_Format___eq__ K (adK K)) pats_Format___eq__ := ok_Format___eq__ (AD := adK K) (D_10 X G c) (T_ X G c) 
theorem R__law_refused (base : Heap) : CalX P w K mg base 4 "_law_refused" (sp__law_refused K (adK K)) pats__law_refused := ok__law_refused (AD := adK K) (D_11 X G c) (T_ X G c) (R_Format_parse X G c base)
theorem law_fact {fa : Addr} (hfa : mg "law" = some (.ref fa)) :
    ∃ fd : FuncData, (∀ (s : Shared) (v : Value), BindsTo s fd ⟨[v], []⟩ [("script", v)]) ∧ ∀ base : Heap, K.In base → base.Ns mainGlobals mg → FnG P w K mg base CX0 5 fa fd ["script"] (spL K) := by
  have e := hfa.symm.trans (He.glo_ok X G (c.fact 1 6 (l := fa1) (f := (fun K => (He.Fa.glo "law").ok K)) rfl rfl))
  cases e
  obtain ⟨fd0, F12⟩ : ∃ fd, FunD K "law" "law" (defArgs s_law) (defBody s_law) (defScope s_law) [] [] (He.ga K "law") fd := c.def_ 12 (d := dk12) rfl
  have b := FunD.bindsA (ps := ["script"]) F12 fun _ _ _ _ _ _ us hl => match us, hl with | [_], _ => rfl
  refine ⟨fd0, fun s v => b s [v] rfl, fun base _ _ => (ok_law (AD := adK K) F12 (T_ X G c) (R__law_draws X G c base) (R__law_cell X G c base) (R__law_between X G c base) (R_Format___init__ X G c base) (R_Format_text X G c base) (R__law_text X G c base) (R_Format_parse X G c base) (R_Format___eq__ X G c base) (R__law_bad X G c base) (R__law_other_signs X G c base) (R__law_refused X G c base)).imp ?_⟩
  rintro vs H Q E ⟨a, xs, rfl, hs, hl, q⟩
  exact ⟨a, xs, rfl, hs, by rw [law_true xs hl]; exact cW_mk rfl, q⟩
end
end Vx
open PySem PySem.W PySem.Calls PyProof.Rows
set_option maxRecDepth 100000 in
set_option maxHeartbeats 0 in
theorem PySem.Challenge.cw_thaumatrope_k02_texts_of_formats_holds : PySem.Challenge.rw_thaumatrope_k02_texts_of_formats.Holds := by
  w_on; o_law
  refine HandSHeadRun.head_any (r := (PySem.W.OpenLaw.row PySem.Challenge.rw_thaumatrope_k02_texts_of_formats)) (q := view (PySem.W.OpenLaw.row PySem.Challenge.rw_thaumatrope_k02_texts_of_formats).prog [16]) (H := Vx.hkK) (ob := Vx.obK) (M := 20000) (loose := Vx.nms) (d := HandSHeadRun.topDef (PySem.W.OpenLaw.row PySem.Challenge.rw_thaumatrope_k02_texts_of_formats).prog 16) (kwd := []) Vx.obK_eq
    (by kernel_rfl) (fun s => by kernel_rfl) Vx.runK (by kernel_rfl) (by kernel_rfl) (by kernel_rfl) (by rfl) (by first | assumption | decide +kernel) (by decide +kernel) ⟨rfl, rfl, rfl, rfl, rfl, by decide +kernel⟩ ?hw ?hc
  case hw => w_witness2
  case hc =>
    refine Vx.walkK (l := PySem.Challenge.rw_thaumatrope_k02_texts_of_formats) (n := 63) (k := 5) (x := "script") rfl (by decide) (by kernel_rfl) ⟨rfl, by decide, by decide⟩ ?F
    intro w mg fa h Y G hmg0
    obtain ⟨K, KX, c⟩ := Y
    have hmg : mg ("law" : PySem.Str) = some (.ref fa) := by
      have e : (HandSHeadRun.topDef (PySem.W.OpenLaw.row PySem.Challenge.rw_thaumatrope_k02_texts_of_formats).prog 16).name = ("law" : PySem.Str) := by kernel_rfl
      rw [← e]
      exact hmg0
    obtain ⟨fd, hb, hF⟩ := Vx.law_fact (P := (PySem.W.OpenLaw.row PySem.Challenge.rw_thaumatrope_k02_texts_of_formats).prog) KX G c hmg
    exact ⟨K, fd, KX, hb, hF⟩
