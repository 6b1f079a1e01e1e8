import PyProof.Rows.All
import Wide.All
import OpenK.AllK
import Wide.FinOn
import HandS.ForMost
import HandS.ForExc
import HandS.Steps
import HandS.Style
import HandS.Wide
import HandS.Gcd
import HandS.IsInst
import HandS.ExcInit
import HandS.Defaults
import HandS.Star
import HandS.Evl
import HandS.ExcField
import HandS.ExcIs
import HandS.ExcOwn
import HandS.TryOnly
import HandS.MakeKwOnly
import HandS.RevRange
import KE.KExcIs
import HandS.Slots
import HandS.SlotsOwn
import HandS.Property
import HandS.ClsMeth
import KE.KOpsOwn
import PyProof.InstNe
import HandS.TupAny
import HandS.FStr
import HandS.Text
import HandS.Codes
import KE.BitLaws
import KE.GoesMore
import KE.KMathGC
import PySem.Challenge.RW_lookstop_k52_rings_accepted_or_refused
set_option Elab.async false
set_option linter.all false
set_option maxRecDepth 100000
set_option maxHeartbeats 4000000
/-! Lk: short words for values (Val, Ans of HandS.Steps), own rules for great numbers, the laws' box of draws. -/
namespace Lk
open PySem L2
def ValA (ta : TA) (σ : L2.St) (H : Hp) (vs : List V) : Prop := ∀ Q : List V → Hp → Prop, Q vs H → ta σ H Q
def ifs (C : Prop) (D : Decidable C) : Bool := @decide C D
section
variable {σ : L2.St} {H : Hp} {i : Nat} {v x y z : V} {ta tb tc te tv : TE} {a b c : Bool} {K : PySem.W.Frag} {t u : TT} {k l m n : Int}
theorem val_op0 {g : Int → Int → V} (ha : Val ta σ H (.int k)) (hb : Val tb σ H (.int l)) : Val (tOp (rI0 g) ta tb) σ H (g k l) := fun Q q => ha _ (hb _ ⟨k, l, rfl, rfl, q⟩)
theorem val_opC {C : Int → Int → Prop} {g : Int → Int → V} (ha : Val ta σ H (.int k)) (hb : Val tb σ H (.int l)) (hc : C k l) : Val (tOp (rI C g) ta tb) σ H (g k l) := fun Q q => ha _ (hb _ ⟨k, l, rfl, rfl, hc, q⟩)
theorem val_un {g : Int → V} (ha : Val ta σ H (.int k)) : Val (tUn (rU g) ta) σ H (g k) := fun Q q => ha _ ⟨k, rfl, q⟩
theorem val_eq (ha : Val ta σ H x) (hb : Val tb σ H y) (hs : scal x y = true) : Val (tOp rEq ta tb) σ H (.bl (decide (x = y))) := fun Q q => ha _ (hb _ ⟨hs, q⟩)
theorem val_ne (ha : Val ta σ H x) (hb : Val tb σ H y) (hs : scal x y = true) : Val (tOp rNe ta tb) σ H (.bl (!decide (x = y))) := fun Q q => ha _ (hb _ ⟨hs, q⟩)
theorem val_isB (ha : Val ta σ H (.bl a)) (hb : Val tb σ H (.bl b)) : Val (tOp rIsB ta tb) σ H (.bl (decide (a = b))) := fun Q q => ha _ (hb _ ⟨a, b, rfl, rfl, q⟩)
theorem val_notB (ha : Val ta σ H (.bl a)) (hb : Val tb σ H (.bl b)) : Val (tOp rNotB ta tb) σ H (.bl (!decide (a = b))) := fun Q q => ha _ (hb _ ⟨a, b, rfl, rfl, q⟩)
theorem val_andV (ha : Val ta σ H (.bl a)) (hb : a = true → Val tb σ H (.bl b)) : Val (tAndV ta tb) σ H (.bl (a && b)) := fun Q q => ha _ ⟨a, rfl, by
  cases a with
  | true => exact hb rfl Q q
  | false => exact q⟩
theorem val_orV (ha : Val ta σ H (.bl a)) (hb : a = false → Val tb σ H (.bl b)) : Val (tOrV ta tb) σ H (.bl (a || b)) := fun Q q => ha _ ⟨a, rfl, by
  cases a with
  | true => exact q
  | false => exact hb rfl Q q⟩
theorem val_notV (ha : Val ta σ H (.bl a)) : Val (tNotV ta) σ H (.bl (!a)) := fun Q q => ha _ ⟨a, rfl, q⟩
theorem val_chain {p q : Int → Int → Bool} (ha : Val ta σ H (.int k)) (hb : Val tb σ H (.int l)) (hc : Val tc σ H (.int m)) : Val (tChain (rI0 fun i j => .bl (p i j)) (rI0 fun i j => .bl (q i j)) ta tb tc) σ H (.bl (p k l && q l m)) := fun Q h => ha _ (hb _ ⟨k, l, rfl, rfl, p k l, rfl, by
  cases hp : p k l with
  | true => exact hc _ ⟨l, m, rfl, rfl, by rw [hp] at h; exact h⟩
  | false => rw [hp] at h; exact h⟩)
theorem val_if (ht : Ans t σ H b) (h1 : b = true → Val ta σ H v) (h2 : b = false → Val tb σ H v) : Val (tIf t ta tb) σ H v := fun Q q => ht _ (by
  cases b with
  | true => exact h1 rfl Q q
  | false => exact h2 rfl Q q)
theorem va_nil : ValA tNil σ H [] := fun _ q => q
theorem va_cons {tr : TA} {vs : List V} (ha : Val ta σ H x) (hr : ValA tr σ H vs) : ValA (tCons ta tr) σ H (x :: vs) := fun _ q => ha _ (hr _ q)
theorem val_cb {r : List V → Hp → VK → Prop} {tr : TA} {vs : List V} (h : ValA tr σ H vs) (hr : ∀ Q : VK, Q z H → r vs H Q) : Val (tCB r tr) σ H z := fun Q q => h _ (hr Q q)
theorem val_call {sp : Sp} {dvs vs : List V} {E : XK} {tr : TA} (h : ValA tr σ H vs) (hr : ∀ Q : VK, Q z H → sp (vs ++ dvs) H Q E) : Val (tCall sp dvs E tr) σ H z := fun Q q => h _ (hr Q q)
theorem val_gcd (ha : Val ta σ H (.int k)) (hb : Val tb σ H (.int l)) : Val (tCB rGcd (tCons ta (tCons tb tNil))) σ H (.int ((Nat.gcd k.natAbs l.natAbs : Nat) : Int)) := fun Q q => ha _ (hb _ ⟨k, l, rfl, q⟩)
theorem iabs (k : Int) : (if k < 0 then -k else k) = ((k.natAbs : Nat) : Int) := by
  by_cases h : k < 0
  · rw [if_pos h]; omega
  · rw [if_neg h]; omega
theorem val_abs (ha : Val ta σ H (.int k)) : Val (tCB (fun xs H Q => ∃ i, xs = [V.int i] ∧ Q (V.int (if i < 0 then -i else i)) H) (tCons ta tNil)) σ H (.int ((k.natAbs : Nat) : Int)) := fun Q q => ha _ ⟨k, rfl, by rw [iabs]; exact q⟩
theorem val_int (ha : Val ta σ H (.int k)) : Val (tCB (fun xs H Q => (∃ i, xs = [V.int i] ∧ Q (V.int i) H) ∨ ∃ k, xs = [V.bl k] ∧ Q (V.int (if k then 1 else 0)) H) (tCons ta tNil)) σ H (.int k) := fun Q q => ha _ (.inl ⟨k, rfl, q⟩)
theorem val_ixL {p : Addr} {xs : List V} (ha : Val ta σ H (.ref p)) (hb : Val tb σ H (.int k)) (hs : SqL K H p xs) (hx : atI xs k = some v) : Val (tOp (rIxL K) ta tb) σ H v := fun Q q => ha _ (hb _ ⟨p, xs, k, v, rfl, rfl, hs, hx, q⟩)
theorem val_ixT {p : Addr} {xs : List V} (ha : Val ta σ H (.ref p)) (hb : Val tb σ H (.int k)) (hs : SqT K H p xs) (hx : atI xs k = some v) : Val (tOp (rIxT K) ta tb) σ H v := fun Q q => ha _ (hb _ ⟨p, xs, k, v, rfl, rfl, hs, hx, q⟩)
theorem val_to {w : V} (h : Val te σ H w) (e : w = v) : Val te σ H v := e ▸ h
theorem atI_nat {xs : List V} {j : Nat} (h : xs[j]? = some v) : atI xs (j : Int) = some v := by
  have hj : j < xs.length := (List.getElem?_eq_some_iff.mp h).1
  unfold atI ixN
  rw [if_pos (Int.natCast_nonneg j), if_pos (by omega)]
  exact h
theorem atI_of {xs : List V} (h0 : 0 ≤ k) (h : xs[k.toNat]? = some v) : atI xs k = some v := by
  have e : ((k.toNat : Nat) : Int) = k := Int.toNat_of_nonneg h0
  rw [← e]
  exact atI_nat h

theorem ans_of (ha : Val te σ H (.bl a)) : Ans (tTest te) σ H a := fun Q q => ha _ ⟨a, rfl, q⟩
theorem ans_B (ha : Val te σ H (.bl a)) : Ans (tB te) σ H a := fun Q q => ha _ ⟨a, rfl, q⟩
theorem ans_and' (ha : Ans t σ H a) (hb : a = true → Ans u σ H b) : Ans (tAnd t u) σ H (a && b) := fun Q q => ha _ (by
  cases a with
  | true => exact hb rfl Q q
  | false => exact q)
theorem ans_or' (ha : Ans t σ H a) (hb : a = false → Ans u σ H b) : Ans (tOr t u) σ H (a || b) := fun Q q => ha _ (by
  cases a with
  | true => exact q
  | false => exact hb rfl Q q)

variable {D : Ends} {t1 t2 t3 : TS}
theorem q_set (h : Val te σ H v) (q : t2 D (σ.set i (some v)) H) : tSeq (tAsg te (gName i)) t2 D σ H := h _ q
theorem s_set (h : Val te σ H v) (q : D.nx (σ.set i (some v)) H) : tAsg te (gName i) D σ H := h _ q
theorem s_ret (h : Val te σ H v) (q : D.rt v H) : tRet te D σ H := h _ q
theorem q_if (h : Ans t σ H b) (h1 : b = true → t1 { D with nx := t3 D } σ H) (h2 : b = false → t2 { D with nx := t3 D } σ H) : tSeq (tIfS t t1 t2) t3 D σ H := h _ (by
  cases b with
  | true => exact h1 rfl
  | false => exact h2 rfl)
theorem s_if (h : Ans t σ H b) (h1 : b = true → t1 D σ H) (h2 : b = false → t2 D σ H) : tIfS t t1 t2 D σ H := h _ (by
  cases b with
  | true => exact h1 rfl
  | false => exact h2 rfl)
/-- an if without else -/
theorem q_when (h : Ans t σ H b) (h1 : b = true → t1 { D with nx := t3 D } σ H) (h2 : b = false → t3 D σ H) : tSeq (tIfS t t1 tNext) t3 D σ H := q_if h h1 h2
theorem s_when (h : Ans t σ H b) (h1 : b = true → t1 D σ H) (h2 : b = false → D.nx σ H) : tIfS t t1 tNext D σ H := s_if h h1 h2
theorem q_whileA (W : Nat → L2.St → Hp → Prop) (m0 : Nat) (h0 : W m0 σ H)
    (hs : ∀ m σ' H', W m σ' H' → ∃ b, Ans t σ' H' b ∧ (b = true → ∀ N : L2.St → Hp → Prop, (∀ σ2 H2 m', m' < m → W m' σ2 H2 → N σ2 H2) → t1 { D with nx := N, ct := N, bk := t2 D } σ' H') ∧ (b = false → t2 D σ' H')) : tSeq (tWhile t t1) t2 D σ H :=
  ⟨W, ⟨m0, h0⟩, fun m σ' H' w => by
    obtain ⟨b, hb, h1, h2⟩ := hs m σ' H' w
    refine hb _ ?_
    cases b with
    | true => exact ⟨fun σ2 H2 => ∃ m', m' < m ∧ W m' σ2 H2, fun _ _ n => n, h1 rfl _ fun σ2 H2 m' l w' => ⟨m', l, w'⟩⟩
    | false => exact h2 rfl⟩
/-! the same by the reading itself -/
theorem qS {te : TE} (h : te σ H fun x H1 => t2 D (σ.set i (some x)) H1) : tSeq (tAsg te (gName i)) t2 D σ H := h
theorem sS {te : TE} (h : te σ H fun x H1 => D.nx (σ.set i (some x)) H1) : tAsg te (gName i) D σ H := h
theorem qB {te to ti : TE} {r : TSet} (h : te σ H fun x H1 => to σ H1 fun o H2 => ti σ H2 fun j H3 => r o j x H3 fun H4 => t2 D σ H4) : tSeq (tAsg te (gSub to ti r)) t2 D σ H := h
theorem sB {te to ti : TE} {r : TSet} (h : te σ H fun x H1 => to σ H1 fun o H2 => ti σ H2 fun j H3 => r o j x H3 fun H4 => D.nx σ H4) : tAsg te (gSub to ti r) D σ H := h
theorem qI (h : t σ H fun b H1 => if b = true then t1 { D with nx := t3 D } σ H1 else t2 { D with nx := t3 D } σ H1) : tSeq (tIfS t t1 t2) t3 D σ H := h
theorem sI (h : t σ H fun b H1 => if b = true then t1 D σ H1 else t2 D σ H1) : tIfS t t1 t2 D σ H := h
theorem qW (h : t σ H fun b H1 => if b = true then t1 { D with nx := t3 D } σ H1 else t3 D σ H1) : tSeq (tIfS t t1 tNext) t3 D σ H := h
theorem sW (h : t σ H fun b H1 => if b = true then t1 D σ H1 else D.nx σ H1) : tIfS t t1 tNext D σ H := h
theorem qD {te : TE} (h : te σ H fun _ H1 => t2 D σ H1) : tSeq (tDrop te) t2 D σ H := h
theorem sD {te : TE} (h : te σ H fun _ H1 => D.nx σ H1) : tDrop te D σ H := h
theorem sR {te : TE} (h : te σ H D.rt) : tRet te D σ H := h
theorem qU2 {te : TE} {i j : Nat} {p : Addr} {x y : V} (h : Val te σ H (.ref p)) (ht : SqT K H p [x, y]) (q : t2 D ((σ.set i (some x)).set j (some y)) H) : tSeq (tAsg te (gTup K 2 (gCons (gName i) (gCons (gName j) gNil)))) t2 D σ H :=
  h _ ⟨p, _, rfl, ht, rfl, x, [y], rfl, y, [], rfl, rfl, q⟩
theorem call_of {sp : Sp} {dvs vs : List V} {E : XK} {tr : TA} {Q : VK} (h : ValA tr σ H vs) (hr : sp (vs ++ dvs) H Q E) : tCall sp dvs E tr σ H Q := h _ hr
theorem q_call {sp : Sp} {dvs vs : List V} {E : XK} {tr : TA} (h : ValA tr σ H vs) (hr : sp (vs ++ dvs) H (fun x H1 => t2 D (σ.set i (some x)) H1) E) : tSeq (tAsg (tCall sp dvs E tr) (gName i)) t2 D σ H := h _ hr
theorem s_rcall {sp : Sp} {dvs vs : List V} {E : XK} {tr : TA} (h : ValA tr σ H vs) (hr : sp (vs ++ dvs) H D.rt E) : tRet (tCall sp dvs E tr) D σ H := h _ hr
theorem va_at {ta : TA} {vs : List V} {Q : List V → Hp → Prop} (h : ValA ta σ H vs) (q : Q vs H) : ta σ H Q := h Q q
theorem va_atC {ta : TE} {tr : TA} {vs : List V} {Q : List V → Hp → Prop} (h : ValA (tCons ta tr) σ H vs) (q : Q vs H) : tCons ta tr σ H Q := h Q q
theorem s_par {i j : Nat} {tr : TA} {v w : V} (h : ValA tr σ H [v, w]) (q : D.nx ((σ.set i (some v)).set j (some w)) H) : tPar i j tr D σ H := h _ ⟨v, w, rfl, q⟩
theorem q_par {i j : Nat} {tr : TA} {v w : V} (h : ValA tr σ H [v, w]) (q : t2 D ((σ.set i (some v)).set j (some w)) H) : tSeq (tPar i j tr) t2 D σ H := h _ ⟨v, w, rfl, q⟩
end

theorem _root_.L2.Val.at {te : TE} {σ : L2.St} {H : Hp} {v : V} {Q : VK} (h : Val te σ H v) (q : Q v H) : te σ H Q := h Q q
/-! ### == of pairs of ints -/
theorem eqv_pair {a b c d : Int} : PyData.eqv (.tuple [.int a, .int b]) (.tuple [.int c, .int d]) = (a == c && b == d) := by
  simp [PyData.eqv, PyData.eqvAll]
theorem rEq2 {K : PySem.W.Frag} {H : Hp} {p q : Addr} {a b c d : Int} {Q : VK} (hp : H p = some (.tup [.int a, .int b])) (hq : H q = some (.tup [.int c, .int d])) (k : Q (.bl (a == c && b == d)) H) : rEqD K (.ref p) (.ref q) H Q :=
  ⟨.tuple [.int a, .int b], .tuple [.int c, .int d], .tup (SqT.of hp) (.cons (.int a) (.cons (.int b) .nil)), .tup (SqT.of hq) (.cons (.int c) (.cons (.int d) .nil)), rfl, rfl, by rw [eqv_pair]; exact k⟩
theorem rNe2 {K : PySem.W.Frag} {H : Hp} {p q : Addr} {a b c d : Int} {Q : VK} (hp : H p = some (.tup [.int a, .int b])) (hq : H q = some (.tup [.int c, .int d])) (k : Q (.bl (!(a == c && b == d))) H) : rNeD K (.ref p) (.ref q) H Q :=
  ⟨.tuple [.int a, .int b], .tuple [.int c, .int d], .tup (SqT.of hp) (.cons (.int a) (.cons (.int b) .nil)), .tup (SqT.of hq) (.cons (.int c) (.cons (.int d) .nil)), rfl, rfl, by rw [eqv_pair]; exact k⟩

/-! ### // of great ints by a divisor of either sign -/
section
variable {X : Cx}
def CDivZ (_ j : Int) : Prop := j ≠ 0 ∧ j.natAbs.log2 < 9000
theorem op_fdivZ : OpR X (binaryOp .FloorDiv) (rI CDivZ fun i j => .int (i.fdiv j)) := opI fun i j _ _ _ _ _ hc q => PyProof.Rows.floordiv_int hc.1 q (.inl (PyProof.noPylong_of_log2 hc.2))
end
/-- a def with defaults, called with keywords (no keyword-only parameters) -/
theorem kbinds1 {K : PySem.W.Frag} {x qual : Str} {params : Arguments} {body : List Stmt} {scope : Scope} {dvs : List V} {kws : List (Str × V)} {f : Addr} {fd : FuncData} {ps : List Str} (F : FunD K x qual params body scope dvs kws f fd) (n : Nat) (ks : List Str)
    (g : {α : Type} → List α → List α → List α → List α) (hd : dvs ≠ []) (hrel : ∀ {vs ds zs : List V} {us its ws : List Value}, Vals vs us → Vals ds its → Vals zs ws → Vals (g vs ds zs) (g us its ws))
    (h : ∀ (T : Addr) (kV doc pm : Value) (an : Option Addr) (cdv ct : Value) (us its ws : List Value), us.length = n → its.length = dvs.length → ws.length = ks.length →
      ∃ k, bindArgs (PySem.W.fnOf x qual params body scope (.ref T) kV doc pm an cdv ct) ⟨us, ks.zip ws⟩ = seqItems? (.ref T) >>= k ∧ k (some its.toArray) = pure (ps.zip (g us its ws))) :
    ∃ its : List Value, KBn K fd ps n ks (fun us ws => g us its ws) (fun vs zs => g vs dvs zs) := by
  obtain ⟨oc, od, dV, kV, doc, pm, an, cdv, ct, osl, rfl, lk, hcd, hD, hK⟩ := F.ex
  rcases hD with ⟨e, _⟩ | ⟨_, T, o, its, m, rfl, lT, oT, rT⟩
  · exact absurd e hd
  · refine ⟨its, ⟨fun s us ws X l1 l2 => ?_, fun r1 r2 => hrel r1 rT r2⟩⟩
    obtain ⟨k, e1, e2⟩ := h T kV doc pm an cdv ct us its ws l1 rT.length.symm l2
    refine BindsTo.of_looks fun M => ?_
    rw [e1]
    exact looks_items X lT oT (.of_pure e2)
theorem vals_nil {us : List Value} (h : Vals [] us) : us = [] := by
  cases h
  rfl
/-- a new object leaves the elder ones as they are -/
theorem kept {H : Hp} {p q : Addr} {o u : HO} (h : H p = some u) (hq : H q = none) : (upd H q o) p = some u := (upd_ne (ne_of_none h hq)).trans h
theorem passF {X : Cx} : Passes CX0 X (fun _ _ _ => False) := fun _ _ _ _ _ _ _ h => h.elim
theorem log2_lt {n b : Nat} (h0 : 0 < b) (h : n < 2 ^ b) : n.log2 < b := PySem.Flt.log2_lt_of h0 h

theorem lgp {x : Int} {n : Nat} (h : x.natAbs < 2 ^ n) (h0 : 0 < n := by decide) (h9 : n ≤ 9000 := by decide) : x.natAbs.log2 < 9000 := Nat.lt_of_lt_of_le (log2_lt h0 h) h9

/-! ### lists of a few written ints, asked by a draw -/
theorem pick (xs : List Int) (lo hi : Int) (hb : ∀ x ∈ xs, lo ≤ x ∧ x ≤ hi) {d : Int} (h0 : 0 ≤ d) (h1 : d < (xs.length : Int)) : ∃ s, atI (xs.map V.int) d = some (V.int s) ∧ lo ≤ s ∧ s ≤ hi := by
  have hd : d.toNat < xs.length := by omega
  have hm : xs[d.toNat] ∈ xs := List.getElem_mem hd
  obtain ⟨h2, h3⟩ := hb _ hm
  exact ⟨xs[d.toNat], atI_of h0 (by rw [List.getElem?_map, List.getElem?_eq_getElem hd]; rfl), h2, h3⟩

theorem pickP (xs : List Int) (P : Int → Prop) (hb : ∀ x ∈ xs, P x) {d : Int} (h0 : 0 ≤ d) (h1 : d < (xs.length : Int)) : ∃ s, atI (xs.map V.int) d = some (V.int s) ∧ P s ∧ ixN xs.length d = some d.toNat := by
  have hd : d.toNat < xs.length := by omega
  refine ⟨xs[d.toNat], atI_of h0 (by rw [List.getElem?_map, List.getElem?_eq_getElem hd]; rfl), hb _ (List.getElem_mem hd), ?_⟩
  unfold ixN
  rw [if_pos h0, if_pos h1]

/-! ### the laws' box: a list of cells, a place, a state -/
/-- the box stands at b, its cells at c -/
def BoxAt (H : Hp) (b c : Addr) : Prop := ∃ (ns : List Int) (k s : Int), H b = some (.lst [.ref c, .int k, .int s]) ∧ H c = some (.lst (ns.map V.int)) ∧ ns.length ≤ 63 ∧ (∀ x ∈ ns, 0 ≤ x) ∧ 0 ≤ k ∧ 0 ≤ s ∧ s < 2147483647
/-- all else stands as it stood -/
def Ext (b c : Addr) (H H' : Hp) : Prop := ∀ a o, a ≠ b → a ≠ c → H a = some o → H' a = some o
theorem BoxAt.ne {H : Hp} {b c : Addr} (h : BoxAt H b c) : b ≠ c := by
  obtain ⟨ns, k, s, h1, h2, _⟩ := h
  intro e
  rw [← e, h1] at h2
  cases ns with
  | nil => cases h2
  | cons n ns => cases h2
theorem BoxAt.same {H H' : Hp} {b c : Addr} (h : BoxAt H b c) (e : Same H H') : BoxAt H' b c := by
  obtain ⟨ns, k, s, h1, h2, r⟩ := h
  exact ⟨ns, k, s, e _ _ h1, e _ _ h2, r⟩
theorem BoxAt.neb {H : Hp} {b c p : Addr} (h : BoxAt H b c) (hp : H p = none) : p ≠ b ∧ p ≠ c := by
  obtain ⟨ns, k, s, h1, h2, r⟩ := h
  exact ⟨fun e => (by rw [e, h1] at hp; cases hp), fun e => (by rw [e, h2] at hp; cases hp)⟩
theorem Ext.refl {b c : Addr} {H : Hp} : Ext b c H H := fun _ _ _ _ h => h
theorem Ext.trans {b c : Addr} {H H1 H2 : Hp} (e : Ext b c H H1) (f : Ext b c H1 H2) : Ext b c H H2 := fun a o x y h => f a o x y (e a o x y h)
theorem Ext.of {b c : Addr} {H H1 : Hp} (e : Same H H1) : Ext b c H H1 := fun a o _ _ h => e a o h
theorem same_upd {H : Hp} {p : Addr} {o : HO} (hp : H p = none) : Same H (upd H p o) := fun b u e => by
  rw [upd_ne (ne_of_none e hp)]
  exact e

def spBox (K : PySem.W.Frag) : Sp := fun vs H Q _ => ∃ (a : Addr) (ns : List Int), vs = [.ref a] ∧ SqL K H a (ns.map V.int) ∧ ns.length ≤ 63 ∧ ∀ b c H', Same H H' → H b = none → H c = none → BoxAt H' b c → Q (.ref b) H'
def spTake : Sp := fun vs H Q _ => ∃ (b c : Addr) (n : Int), vs = [.ref b, .int n] ∧ BoxAt H b c ∧ 0 < n ∧ n.natAbs.log2 < 9000 ∧ ∀ (d : Int) H', 0 ≤ d → d < n → BoxAt H' b c → (∀ a, a ≠ b → a ≠ c → H' a = H a) → Q (.int d) H'
def spGcd : Sp := fun vs H Q _ => ∃ (m n : Int), vs = [.int m, .int n] ∧ Q (.int ((Nat.gcd m.natAbs n.natAbs : Nat) : Int)) H
theorem val_gcdc {σ : L2.St} {H : Hp} {ta tb : TE} {k l : Int} {E : XK} (ha : Val ta σ H (.int k)) (hb : Val tb σ H (.int l)) : Val (tCall spGcd [] E (tCons ta (tCons tb tNil))) σ H (.int ((Nat.gcd k.natAbs l.natAbs : Nat) : Int)) := fun Q q => ha _ (hb _ ⟨k, l, rfl, q⟩)
end Lk
/-! own exceptions with a field, caught: what the class must say, isinstance of the caught one -/
namespace Lk
open PySem L2
structure ExcK (K : PySem.W.Frag) (D : Addr) : Prop where
  cl : (PySem.W.clsIn K D).isSome = true
  ga : PySem.W.findIn K (.ref D) "__getattribute__" = some (some (.builtin "BaseException.__getattribute__"))
  gg : PySem.W.findIn K (.ref D) "__getattr__" = some none
  ex : PySem.W.subIn K (.ref D) (.type "BaseException") = some true
  ha : PySem.W.findIn K (.ref D) "__class__" = some (some (.builtin "object.__class__"))
  hn : PySem.W.specialIn K (.builtin "object.__class__") "__get__" = some (some (.builtin "getset_descriptor.__get__"))
  ht : PySem.W.takesIn K (.builtin "object.__class__") = some true
  hm : PySem.W.mroIn K D (.type "object") = some true
def rIsX (K : PySem.W.Frag) (a : Addr) (cls : Value) (d : Option Addr) : List V → Hp → VK → Prop := fun xs H Q => ∃ (c : V) (cv : Value) (b : Bool) (D dd : Addr) (fs : List (Str × V)),
  xs = [.ref a, c] ∧ cls = .ref D ∧ d = some dd ∧ ExcK K D ∧ H dd = some (.xd fs) ∧ (∀ u, RelV c u → u = cv) ∧ PySem.W.kitOne K (.ref D) cv = some b ∧ Q (.bl b) H
theorem call_isX {X : Cx} {a : Addr} {cls : Value} {d : Option Addr} {oe : Obj} {pn : List (Addr × Obj)} (hz : Zc cls d oe) (hf : ∃ vs, oe.data = .fields vs) : CallR (X.suite a ((a, oe) :: pn)) (.builtin "isinstance") (rIsX X.K a cls d) := by
  intro pins s σ H xs us Q I r h
  obtain ⟨c, cv, b, D, dd, fs, rfl, rfl, rfl, T, ea, hcv, e, q⟩ := h
  cases r with
  | cons rx rr =>
    cases rr with
    | cons rt rr =>
      cases rr
      cases rx
      have ec := hcv _ rt
      subst ec
      obtain ⟨hget, _⟩ := I.pin (a, oe) (List.mem_append.mpr (.inl List.mem_cons_self))
      obtain ⟨vs, hv⟩ := hf
      have hx : ObjOk X.prog X.w H s.heap dd (.xd fs) := I.hok dd _ ea
      obtain ⟨mA, hns, hr⟩ := hx
      obtain ⟨od, ho, hl⟩ := lookIn_ns hns
      have J : PySem.W.InstAt s.heap a oe D (some od) := ⟨hget, hz.1, by unfold PySem.W.notCls; rw [hv] <;> rfl, by rw [hz.2]; exact ho⟩
      exact PySem.W.kia_one (PySem.W.kitx_exc T.cl T.ga T.gg T.ex T.ha T.hn T.ht T.hm) I.kIn J e (fun z => nomatch z) fun tk => ⟨.bl b, H, I.tok tk, rfl, q⟩
/-- __init__(self, v): self.f = v, of an exception's class -/
def spExcInit (C : Addr) (f : Str) : Sp := fun vs H Q _ => ∃ (a : Addr) (v : V), vs = [.ref a, v] ∧ H a = some (exo a C none) ∧ ∀ dx, H dx = none → dx ≠ a → Q .non (upd (upd H dx (exd dx [(f, v)])) a (exo a C (some dx)))
/-- what is raised: an error of the class C whose field f is v -/
def Raised (C : Addr) (f : Str) (v : V) (H : Hp) (E : XK) : Prop := ∀ d H', Same H H' → H d = none → H' d = some (.xd [(f, v)]) → E (.ref C) (some d) H'
theorem raised_end {C a d : Addr} {f : Str} {v : V} {H : Hp} {E : XK} (ha : H a = none) (hd : H d = none) (hda : d ≠ a) (k : Raised C f v H E) : E (.ref C) (some d) (upd (del (upd (upd (upd H a (exo a C none)) d (exd d [(f, v)])) a (exo a C (some d))) a) d (.xd [(f, v)])) := by
  refine k d _ (fun b o e => ?_) hd upd_same
  have hb : b ≠ a := ne_of_none e ha
  have hbd : b ≠ d := ne_of_none e hd
  rw [upd_ne hbd, del_ne hb, upd_ne hb, upd_ne hbd, upd_ne hb]
  exact e
end Lk
/-! ratios: the mathematics -/
namespace Lk
/-- the signed greatest common divisor that ratio divides by -/
def rdiv (n d : Int) : Int := if d < 0 then -((Nat.gcd n.natAbs d.natAbs : Nat) : Int) else ((Nat.gcd n.natAbs d.natAbs : Nat) : Int)
def ratN (n d : Int) : Int := n.fdiv (rdiv n d)
def ratD (n d : Int) : Int := d.fdiv (rdiv n d)
/-- a/b is in lowest terms -/
def Low (a b : Int) : Prop := 1 ≤ b ∧ Nat.gcd a.natAbs b.natAbs = 1
theorem rdiv_ne {n d : Int} (hd : d ≠ 0) : rdiv n d ≠ 0 := by
  have hg : 0 < Nat.gcd n.natAbs d.natAbs := Nat.gcd_pos_of_pos_right _ (by omega)
  unfold rdiv
  split <;> omega
theorem rdiv_natAbs (n d : Int) : (rdiv n d).natAbs = Nat.gcd n.natAbs d.natAbs := by
  unfold rdiv
  split <;> omega
theorem fdiv_of_mul {a b c : Int} (hb : b ≠ 0) (h : a = c * b) : a.fdiv b = c := by
  rw [h]
  exact Int.mul_fdiv_cancel _ hb
theorem dvd_rdiv_left (n d : Int) : rdiv n d ∣ n := Int.natAbs_dvd_natAbs.mp (by rw [rdiv_natAbs]; exact Nat.gcd_dvd_left _ _)
theorem dvd_rdiv_right (n d : Int) : rdiv n d ∣ d := Int.natAbs_dvd_natAbs.mp (by rw [rdiv_natAbs]; exact Nat.gcd_dvd_right _ _)
theorem ratN_mul {n d : Int} (hd : d ≠ 0) : ratN n d * rdiv n d = n := by
  obtain ⟨c, hc⟩ := dvd_rdiv_left n d
  have : ratN n d = c := fdiv_of_mul (rdiv_ne hd) (by rw [Int.mul_comm]; exact hc)
  rw [this, Int.mul_comm]
  exact hc.symm
theorem ratD_mul {n d : Int} (hd : d ≠ 0) : ratD n d * rdiv n d = d := by
  obtain ⟨c, hc⟩ := dvd_rdiv_right n d
  have : ratD n d = c := fdiv_of_mul (rdiv_ne hd) (by rw [Int.mul_comm]; exact hc)
  rw [this, Int.mul_comm]
  exact hc.symm
theorem rat_low {n d : Int} (hd : d ≠ 0) : Low (ratN n d) (ratD n d) := by
  have h1 := ratN_mul (n := n) hd
  have h2 := ratD_mul (n := n) hd
  have h3 := rdiv_ne (n := n) hd
  have hg := rdiv_natAbs n d
  have gpos : 0 < Nat.gcd n.natAbs d.natAbs := Nat.gcd_pos_of_pos_right _ (by omega)
  constructor
  · by_cases hneg : d < 0
    · have hr : rdiv n d < 0 := by
        unfold rdiv
        rw [if_pos hneg]
        omega
      by_cases hb : 1 ≤ ratD n d
      · exact hb
      · have : 0 ≤ ratD n d * rdiv n d := Int.mul_nonneg_of_nonpos_of_nonpos (by omega) (by omega)
        omega
    · have hr : 0 < rdiv n d := by
        unfold rdiv
        rw [if_neg hneg]
        omega
      by_cases hb : 1 ≤ ratD n d
      · exact hb
      · have : ratD n d * rdiv n d ≤ 0 := Int.mul_nonpos_of_nonpos_of_nonneg (by omega) (by omega)
        omega
  · have e1 : (ratN n d).natAbs * Nat.gcd n.natAbs d.natAbs = n.natAbs := by rw [← hg, ← Int.natAbs_mul, h1]
    have e2 : (ratD n d).natAbs * Nat.gcd n.natAbs d.natAbs = d.natAbs := by rw [← hg, ← Int.natAbs_mul, h2]
    have e3 : Nat.gcd ((ratN n d).natAbs * Nat.gcd n.natAbs d.natAbs) ((ratD n d).natAbs * Nat.gcd n.natAbs d.natAbs) = Nat.gcd n.natAbs d.natAbs := by rw [e1, e2]
    rw [Nat.gcd_mul_right] at e3
    exact Nat.eq_of_mul_eq_mul_right gpos (by rw [Nat.one_mul]; exact e3)
theorem rat_cross {n d : Int} (hd : d ≠ 0) : ratN n d * d = n * ratD n d := by
  have h1 := ratN_mul (n := n) hd
  have h2 := ratD_mul (n := n) hd
  have e : ratN n d * (ratD n d * rdiv n d) = ratN n d * rdiv n d * ratD n d := by
    rw [Int.mul_assoc, Int.mul_comm (rdiv n d)]
  rw [h2, h1] at e
  exact e
theorem low_unique {a b c d : Int} (h1 : Low a b) (h2 : Low c d) (h : a * d = c * b) : a = c ∧ b = d := by
  obtain ⟨b1, g1⟩ := h1
  obtain ⟨d1, g2⟩ := h2
  have hN : a.natAbs * d.natAbs = c.natAbs * b.natAbs := by rw [← Int.natAbs_mul, h, Int.natAbs_mul]
  have x1 : b.natAbs ∣ d.natAbs := Nat.Coprime.dvd_of_dvd_mul_left (show Nat.Coprime b.natAbs a.natAbs from (Nat.gcd_comm _ _).trans g1) ⟨c.natAbs, by rw [hN, Nat.mul_comm]⟩
  have x2 : d.natAbs ∣ b.natAbs := Nat.Coprime.dvd_of_dvd_mul_left (show Nat.Coprime d.natAbs c.natAbs from (Nat.gcd_comm _ _).trans g2) ⟨a.natAbs, by rw [← hN, Nat.mul_comm]⟩
  have e : b.natAbs = d.natAbs := Nat.dvd_antisymm x1 x2
  have e2 : b = d := by omega
  subst e2
  exact ⟨Int.eq_of_mul_eq_mul_right (by omega) h, rfl⟩
theorem low_rat {a b : Int} (h : Low a b) : ratN a b = a ∧ ratD a b = b := by
  have hb : b ≠ 0 := by
    have := h.1
    omega
  have e := low_unique (rat_low (n := a) hb) h (rat_cross hb)
  exact e
theorem rat_neg {n d : Int} (hd : d ≠ 0) : ratN (-n) (-d) = ratN n d ∧ ratD (-n) (-d) = ratD n d := by
  have hd' : -d ≠ 0 := by omega
  refine low_unique (rat_low hd') (rat_low hd) ?_
  have h1 := rat_cross (n := n) hd
  have h2 := rat_cross (n := -n) hd'
  have e1 : ratN (-n) (-d) * d = n * ratD (-n) (-d) := by
    rw [Int.mul_neg, Int.neg_mul] at h2
    omega
  -- multiply by d
  have e2 : (ratN (-n) (-d) * ratD n d) * d = (ratN n d * ratD (-n) (-d)) * d := by
    rw [Int.mul_right_comm, e1, Int.mul_right_comm (ratN n d), h1, Int.mul_right_comm]
  exact Int.eq_of_mul_eq_mul_right hd e2
theorem rat_one (n : Int) : ratN n 1 = n ∧ ratD n 1 = 1 := low_rat ⟨by omega, by simp⟩
theorem rdiv_log {n d : Int} (hd : d ≠ 0) (h : d.natAbs.log2 < 9000) : (rdiv n d).natAbs.log2 < 9000 := by
  rw [rdiv_natAbs]
  have hle : Nat.gcd n.natAbs d.natAbs ≤ d.natAbs := Nat.gcd_le_right _ (by omega)
  have hlt : d.natAbs < 2 ^ 9000 := (Nat.log2_lt (by omega)).mp h
  by_cases h0 : Nat.gcd n.natAbs d.natAbs = 0
  · rw [h0]
    decide
  · exact (Nat.log2_lt h0).mpr (Nat.lt_of_le_of_lt hle hlt)
theorem ratN_le {n d : Int} (hd : d ≠ 0) : (ratN n d).natAbs ≤ n.natAbs := by
  have h1 := ratN_mul (n := n) hd
  have e : (ratN n d).natAbs * (rdiv n d).natAbs = n.natAbs := by rw [← Int.natAbs_mul, h1]
  have h3 := rdiv_ne (n := n) hd
  rw [← e]
  exact Nat.le_mul_of_pos_right _ (by omega)
theorem ratD_le {n d : Int} (hd : d ≠ 0) : (ratD n d).natAbs ≤ d.natAbs := by
  have h1 := ratD_mul (n := n) hd
  have e : (ratD n d).natAbs * (rdiv n d).natAbs = d.natAbs := by rw [← Int.natAbs_mul, h1]
  have h3 := rdiv_ne (n := n) hd
  have h4 : (ratD n d).natAbs ≤ (ratD n d).natAbs * (rdiv n d).natAbs := Nat.le_mul_of_pos_right _ (by omega)
  omega
end Lk
/-! defs with a star parameter, called with plain arguments -/
namespace Lk
open PySem L2
def starSp (n : Nat) (sp : Sp) : Sp := fun vs H Q E => ∃ ws rest, vs = ws ++ rest ∧ ws.length = n ∧ rest.length ≤ sizeLine ∧ ∀ p, H p = Option.none → sp (ws ++ [V.ref p]) (upd H p (.tup rest)) Q E
section
variable {P : Program} {w : World} {K : PySem.W.Frag} {mg : Str → Option Value} {base : Heap}
theorem okStar {CX : CXT} {x qual pv : Str} {st : Stmt} {f : Addr} {fd : FuncData} {N ps : List Str} {k : Nat} {sp : Sp} (F : Fun K x qual st f fd) (S : FnScope N (ps ++ [pv]) (defScope st)) (hCX : StX.CXUp CX)
    (hb : ∀ (kV doc pm : Value) (an : Option Addr) (cdv ct : Value) (us rest : List Value), us.length = ps.length → bindArgs (PySem.W.fnOf x qual (defArgs st) (defBody st) (defScope st) .none kV doc pm an cdv ct) ⟨us ++ rest, []⟩ = (newTuple rest >>= fun t => pure (ps.zip us ++ [(pv, t)])))
    (hbody : ∀ (cdv : Value) (A : Around) (outer : List Env) (s : Shared) (H : Hp) (vs : List V) (Q : VK) (E : XK), Room k (A.deeper (PyProof.Rows.envOfC qual (defScope st) s.heap.objs.size f cdv)) → sp vs H Q E →
      ∃ t, PSs (cxOf CX P w K mg base N qual (defScope st) f cdv A outer s H E) (defBody st) t ∧ t { nx := fun _ H' => Q .non H', rt := Q } (L2.start N vs) H) : FnR P w K mg base CX (k + 1) f (starSp ps.length sp) := by
  obtain ⟨oc, od, kV, doc, pm, an, cdv, ct, osl, rfl, lk, hcd⟩ := F.ex
  exact StX.fn_star lk hcd S hCX (hb kV doc pm an cdv ct) fun A outer s H vs Q E hr hsp => hbody cdv A outer s H vs Q E hr hsp
end
section
variable {X : Cx} {CX : CXT} {k : Nat} {f : Addr} {sp : Sp} {E : XK} {x : Str} {e : Expr} {es : List Expr} {t : TA} {p pos : Pos}
def tCallR (sp : Sp) (E : XK) (t : TA) : TE := fun σ H Q => t σ H fun vs H1 => sp vs H1 Q E
theorem pe_callR (F : FnR X.prog X.w X.K X.mg X.base CX k f sp) (hr : Room k X.A) (hg : Gl X x) (hm : X.mg x = some (.ref f)) (hk : PySem.W.keepIn X.K (.ref f) = true) (hx : Passes CX X E) (ha : PA X (e :: es) t) (hdb : (x == ("__debug__" : Str)) = false := by decide)
    (he : starEach (e :: es) X.env = (false, eval e X.env) :: starEach es X.env := by rfl) (hpl : (backTo pos (starEach es X.env)).any (·.1) = false := by rfl) :
    PE X (.Call (.Name x p) (e :: es) [] pos) (tCallR sp E t) := by
  refine ⟨fun pins s σ H Q I h => ?_⟩
  refine wpAny_Call_Name_kw (ld_glob I hg hm ?_ hdb)
  refine PySem.W.callWith_K (h₀ := X.base) I.ok.mod.kin hk (thn (ha.run pos pins s σ H _ I h) fun us s1 ⟨vs, H1, I1, r, q⟩ => ⟨I1.kIn, ?_⟩) he hpl
  exact wpAny_call (run_fnR F hr hx I1 r q)
theorem pe_callR0 (F : FnR X.prog X.w X.K X.mg X.base CX k f sp) (hr : Room k X.A) (hg : Gl X x) (hm : X.mg x = some (.ref f)) (hk : PySem.W.keepIn X.K (.ref f) = true) (hx : Passes CX X E) (hdb : (x == ("__debug__" : Str)) = false := by decide) :
    PE X (.Call (.Name x p) [] [] pos) (tCallR sp E tNil) := by
  refine ⟨fun pins s σ H Q I h => ?_⟩
  refine wpAny_Call_Name_kw (ld_glob I hg hm ?_ hdb)
  exact PySem.W.callWith_K0 I.kIn hk (wpAny_call (run_fnR F hr hx I .nil h))
theorem callR_of {σ : L2.St} {H : Hp} {vs : List V} {Q : VK} (h : ValA t σ H vs) (hr : sp vs H Q E) : tCallR sp E t σ H Q := h _ hr
end
end Lk
/-! own classes with a dict: made by star arguments, their operators, len, repr, [], unary minus -/
namespace Lk
open PySem L2
section
variable {X : Cx} {pins : List (Addr × Obj)} {σ : L2.St} {H : Hp} {s : Shared}
theorem inst_at {a C dx : Addr} {fs : List (Str × V)} (I : Inv X pins σ H s) (ea : H a = some (.ins C dx fs)) : ∃ ox od, PySem.W.InstAt s.heap a ox C (some od) := by
  obtain ⟨mA, O, _⟩ := ins_get I.hok ea
  obtain ⟨od, J, _⟩ := O.look
  exact ⟨_, od, J⟩
end
section
variable {X : Cx} {CX : CXT} {n k i : Nat} {C g f : Addr} {sp : Sp} {E : XK} {e : Expr} {te : TE} {x : Str} {p sp_ pos : Pos}
/-- C(*e), C a class of the module -/
def tMakeS (K : PySem.W.Frag) (C : Addr) (sp : Sp) (E : XK) (te : TE) : TE := fun σ H Q => te σ H fun y H1 => ∃ a xs, y = V.ref a ∧ (SqT K H1 a xs ∨ SqL K H1 a xs) ∧ ∀ o dx, H1 o = Option.none → H1 dx = Option.none → dx ≠ o →
  sp (V.ref o :: xs) (upd (upd H1 dx (.own o)) o (.ins C dx [])) (fun v H2 => v = .non ∧ Q (.ref o) H2) E
theorem pe_makeS (M : Mk X.K C f) (F : FnR X.prog X.w X.K X.mg X.base CX k f sp) (hr : Room (k + 1) X.A) (hg : Gl X x) (hm : X.mg x = some (.ref C)) (hx : Passes CX X E) (he : PE X e te) (hd : (x == ("__debug__" : Str)) = false := by decide)
    (hst : starEach [.Starred e sp_] X.env = [(true, eval e X.env)] := by rfl) : PE X (.Call (.Name x p) [.Starred e sp_] [] pos) (tMakeS X.K C sp E te) := by
  refine ⟨fun pins s σ H Q I h => ?_⟩
  refine wpAny_Call_Name_kw (ld_glob I hg hm ?_ hd)
  refine PySem.W.callWith_S (h₀ := X.base) I.ok.mod.kin M.kp (thn (he.run pins s σ H _ I h) fun v s1 ⟨y, H1, I1, ry, a, xs, ey, hxs, q⟩ => ?_) hst
  subst ey
  obtain rfl : v = Value.ref a := ry
  exact StX.star_any I1 hxs fun us s2 I2 rv => ⟨I2.kIn, StX.run_makeR M F hr hx I2 rv q⟩
/-- c(*e), c a name of the def that holds the class C -/
def tMakeLS (K : PySem.W.Frag) (i : Nat) (C : Addr) (sp : Sp) (E : XK) (te : TE) : TE := fun σ H Q => σ[i]? = some (some (.ref C)) ∧ tMakeS K C sp E te σ H Q
theorem pe_makeLS (M : Mk X.K C f) (F : FnR X.prog X.w X.K X.mg X.base CX k f sp) (hr : Room (k + 1) X.A) (hx : Passes CX X E) (hN : X.N[i]? = some x) (hv : Vis X.env.scope x) (he : PE X e te) (hd : (x == ("__debug__" : Str)) = false := by decide)
    (hcd : (x == ("__classdict__" : Str)) = false := by decide) (hst : starEach [.Starred e sp_] X.env = [(true, eval e X.env)] := by rfl) : PE X (.Call (.Name x p) [.Starred e sp_] [] pos) (tMakeLS X.K i C sp E te) := by
  refine ⟨fun pins s σ H Q I h => ?_⟩
  obtain ⟨hs, h⟩ := h
  refine wpAny_Call_Name_kw (thn ((pe_var (pos := p) (i := i) hN hv hd hcd).run pins s σ H (fun v H1 => v = .ref C ∧ H1 = H) I ⟨.ref C, hs, rfl, rfl⟩) fun u s1 ⟨v, H1, I1, r1, ev, eH⟩ => ?_)
  subst ev
  rw [eH] at I1
  cases r1
  refine PySem.W.callWith_S (h₀ := X.base) I.ok.mod.kin M.kp (thn (he.run pins s1 σ H _ I1 h) fun v s1 ⟨y, H1, I1, ry, a, xs, ey, hxs, q⟩ => ?_) hst
  subst ey
  obtain rfl : v = Value.ref a := ry
  exact StX.star_any I1 hxs fun us s2 I2 rv => ⟨I2.kIn, StX.run_makeR M F hr hx I2 rv q⟩
/-- C(), without arguments -/
theorem pe_makeR0 (M : Mk X.K C f) (F : FnR X.prog X.w X.K X.mg X.base CX k f sp) (hr : Room (k + 1) X.A) (hg : Gl X x) (hm : X.mg x = some (.ref C)) (hx : Passes CX X E) (hdb : (x == ("__debug__" : Str)) = false := by decide) :
    PE X (.Call (.Name x p) [] [] pos) (StX.tMakeR C sp E tNil) := by
  refine ⟨fun pins s σ H Q I h => ?_⟩
  refine wpAny_Call_Name_kw (ld_glob I hg hm ?_ hdb)
  exact PySem.W.callWith_K0 I.kIn M.kp (StX.run_makeR M F hr hx I .nil h)

/-! ### operators -/
/-- x op y, both instances of C -/
def rBin (C : Addr) (sp : Sp) (E : XK) : R2 := fun x y H Q => ∃ a dx fs b dy gs, x = .ref a ∧ y = .ref b ∧ H a = some (.ins C dx fs) ∧ H b = some (.ins C dy gs) ∧ sp [x, y] H Q E
/-- x op k, k an int -/
def rBinI (C : Addr) (sp : Sp) (E : XK) : R2 := fun x y H Q => ∃ a dx fs j, x = .ref a ∧ y = .int j ∧ H a = some (.ins C dx fs) ∧ sp [x, y] H Q E
def rUnO (C : Addr) (sp : Sp) (E : XK) : V → Hp → VK → Prop := fun x H Q => ∃ a dx fs, x = .ref a ∧ H a = some (.ins C dx fs) ∧ sp [x] H Q E
/-- what the class must say of op, with an int on the other side -/
structure OpOk (K : PySem.W.Frag) (C g : Addr) (nm : String) : Prop where
  self : PySem.W.selfFirst K C = true
  at_ : PySem.W.findIn K (.ref C) (PySem.dunder nm) = some (some (.ref g))
  fn : PySem.W.isFn K (.ref g) = true
structure OpOkI (K : PySem.W.Frag) (C : Addr) (nm : String) : Prop where
  r : ∃ rc, PySem.W.findIn K (.ref C) (dunderR nm) = some rc ∧ (rc = none ∨ ∃ g : Addr, rc = some (.ref g))
  i1 : ∃ fo, PySem.W.findIn K (.type "int") (PySem.dunder nm) = some fo
  i2 : ∃ ro, PySem.W.findIn K (.type "int") (dunderR nm) = some ro
  sub : PySem.W.subIn K (.type "int") (.ref C) = some false
theorem op_bin {op : Operator} (O : OpOk X.K C g op.info.2) (F : FnR X.prog X.w X.K X.mg X.base CX n g sp) (hr : Room n X.A) (hx : Passes CX X E) : OpR X (binaryOp op) (rBin C sp E) := by
  intro pins s σ H x y v u Q I rx ry h
  obtain ⟨a, dx, fs, b, dy, gs, rfl, rfl, ha, hb, q⟩ := h
  cases (show v = Value.ref a from rx)
  cases (show u = Value.ref b from ry)
  obtain ⟨_, _, J⟩ := inst_at I ha
  obtain ⟨_, _, J'⟩ := inst_at I hb
  obtain ⟨m, hF⟩ := I.fr
  refine PySem.W.binop_K hF I.ok.mod.kin J J'.type O.self O.at_ O.fn ?_
  refine wpAny_mono (wpAny_call (run_fnR (us := [.ref a, .ref b]) (vs := [.ref a, .ref b]) F hr hx I (.cons rfl (.cons rfl .nil)) q)) (fun w s' z => ?_) fun _ _ x => x
  obtain ⟨z', H', I', rz, qz⟩ := z
  exact SlX.cmpback rz ⟨z', H', I', rz, qz⟩
theorem op_binI {op : Operator} (O : OpOk X.K C g op.info.2) (O2 : OpOkI X.K C op.info.2) (F : FnR X.prog X.w X.K X.mg X.base CX n g sp) (hr : Room n X.A) (hx : Passes CX X E) : OpR X (binaryOp op) (rBinI C sp E) := by
  intro pins s σ H x y v u Q I rx ry h
  obtain ⟨a, dx, fs, j, rfl, rfl, ha, q⟩ := h
  cases (show v = Value.ref a from rx)
  obtain ⟨t, ej⟩ := (show ∃ t, u = Value.int j t from ry)
  subst ej
  obtain ⟨_, _, J⟩ := inst_at I ha
  obtain ⟨m, hF⟩ := I.fr
  obtain ⟨rc, r1, r2⟩ := O2.r
  obtain ⟨fo, i1⟩ := O2.i1
  obtain ⟨ro, i2⟩ := O2.i2
  refine PySem.W.ksp_binT (T := "int") hF I.ok.mod.kin J rfl O.self O.at_ O.fn r1 r2 i1 i2 O2.sub ?_
  refine wpAny_mono (wpAny_call (run_fnR (us := [.ref a, .int j t]) (vs := [.ref a, .int j]) F hr hx I (.cons rfl (.cons ⟨t, rfl⟩ .nil)) q)) (fun w s' z => ?_) fun _ _ x => x
  obtain ⟨z', H', I', rz, qz⟩ := z
  exact SlX.cmpback rz ⟨z', H', I', rz, qz⟩
theorem un_own (hs : PySem.W.findIn X.K (.ref C) "__neg__" = some (some (.ref g))) (hf : PySem.W.isFn X.K (.ref g) = true) (F : FnR X.prog X.w X.K X.mg X.base CX n g sp) (hr : Room n X.A) (hx : Passes CX X E) : UnR X (unaryOp .USub) (rUnO C sp E) := by
  intro pins s σ H x v Q I rx h
  obtain ⟨a, dx, fs, rfl, ha, q⟩ := h
  cases (show v = Value.ref a from rx)
  obtain ⟨_, _, J⟩ := inst_at I ha
  obtain ⟨m, hF⟩ := I.fr
  refine PySem.W.ksp_neg hF I.ok.mod.kin J hs hf ?_
  exact wpAny_call (run_fnR (us := [.ref a]) (vs := [.ref a]) F hr hx I (.cons rfl .nil) q)
/-- len(x) by an own __len__ -/
def rLenO (C : Addr) (sp : Sp) (E : XK) : List V → Hp → VK → Prop := fun xs H Q => ∃ a dx fs, xs = [.ref a] ∧ H a = some (.ins C dx fs) ∧ sp [.ref a] H (fun v H' => ∃ j : Int, v = .int j ∧ 0 ≤ j ∧ j < 2 ^ 63 ∧ Q (.int j) H') E
theorem call_lenO (hs : PySem.W.findIn X.K (.ref C) "__len__" = some (some (.ref g))) (hf : PySem.W.isFn X.K (.ref g) = true) (F : FnR X.prog X.w X.K X.mg X.base CX n g sp) (hr : Room (n + 1) X.A) (hx : ∀ (H : Hp) (s : Shared) (e : Value) (s' : Shared), CX X.stack H s E e s' → False) : CallR X (.builtin "len") (rLenO C sp E) := by
  intro pins s σ H xs us Q I r h
  obtain ⟨a, dx, fs, rfl, ha, q⟩ := h
  obtain ⟨u, rfl, ru⟩ := vals1 r
  cases (show u = Value.ref a from ru)
  obtain ⟨_, _, J⟩ := inst_at I ha
  obtain ⟨m, hF⟩ := I.fr
  refine PySem.W.len_K hF I.ok.mod.kin J hs hf (wpAny_call ?_)
  refine codeAny_mono (F X.A.in1 X.stack s H [.ref a] [.ref a] _ E hr.in1 I.env0.in1 (.cons rfl .nil) q) fun r s' hq => ?_
  cases r with
  | error e => exact (hx _ _ _ _ hq).elim
  | ok fl =>
    cases fl with
    | ret u =>
      obtain ⟨v, H', I2, rv, j, ev, j0, j1, q⟩ := I.after hq
      subst ev
      obtain ⟨t, et⟩ := (show ∃ t, u = Value.int j t from rv)
      subst et
      exact ⟨⟨j0, j1⟩, .int j, H', I2.tok _, ⟨_, rfl⟩, q⟩
    | next => exact False.elim hq
    | brk => exact False.elim hq
    | cont => exact False.elim hq
/-- x == y by an own __eq__, y of any type that is not below C -/
def rEqO (K : PySem.W.Frag) (C : Addr) (sp : Sp) (E : XK) : R2 := fun x y H Q => ∃ a dx fs t, x = .ref a ∧ H a = some (.ins C dx fs) ∧ TyX K H y t ∧ PySem.W.notFirst K C t = true ∧ sp [x, y] H Q E
theorem op_eqO (hs : PySem.W.findIn X.K (.ref C) "__eq__" = some (some (.ref g))) (hf : PySem.W.isFn X.K (.ref g) = true) (F : FnR X.prog X.w X.K X.mg X.base CX n g sp) (hr : Room n X.A) (hx : Passes CX X E) : OpR X (compareOp .Eq) (rEqO X.K C sp E) := by
  intro pins s σ H x y v u Q I rx ry h
  obtain ⟨a, dx, fs, t, rfl, ha, ty, hn, q⟩ := h
  cases (show v = Value.ref a from rx)
  obtain ⟨_, _, J⟩ := inst_at I ha
  obtain ⟨P, Z, p, _⟩ := kit_of I ry ty
  obtain ⟨m, hF⟩ := I.fr
  refine PySem.W.cmp_ofEq ?_
  refine PySem.W.cmp_K (op := .Eq) (tb := t) hr.units0 hF I.ok.mod.kin J (Z.ty _ _ I.kIn p) hn hs hf ?_
  refine wpAny_mono (wpAny_call (run_fnR (us := [.ref a, u]) (vs := [.ref a, y]) F hr hx I (.cons rfl (.cons ry .nil)) q)) (fun w s' z => ?_) fun _ _ x => x
  obtain ⟨z', H', I', rz, qz⟩ := z
  exact SlX.cmpback rz ⟨z', H', I', rz, qz⟩
/-- x[k] by an own __getitem__ -/
def rIxO (C : Addr) (sp : Sp) (E : XK) : R2 := fun x y H Q => ∃ a dx fs j, x = .ref a ∧ y = .int j ∧ H a = some (.ins C dx fs) ∧ sp [x, y] H Q E
end
end Lk

/-! ### an int on the left, an instance on the right: the reflected def -/
namespace PySem
theorem lk_int_add (a : Int) (t : Tok) (l : Addr) (cls : Value) (d : Option Addr) (sl : Array (Option Value)) :
    Meets (Builtin.«int.__add__» ⟨[.int a t, .ref l], []⟩) (fun _ R s => s.heap.get? l = some { cls := cls, dict := d, data := .plain, slots := sl } ∧ R (.ok (.ret Value.notImplemented)) s) :=
  .of_wp fun prog w A R s h => by obtain ⟨hp, g, d, tk, os⟩ := s; obtain ⟨hl, h⟩ := h; wp_walk; exact ⟨_, rfl, h⟩
theorem lk_int_sub (a : Int) (t : Tok) (l : Addr) (cls : Value) (d : Option Addr) (sl : Array (Option Value)) :
    Meets (Builtin.«int.__sub__» ⟨[.int a t, .ref l], []⟩) (fun _ R s => s.heap.get? l = some { cls := cls, dict := d, data := .plain, slots := sl } ∧ R (.ok (.ret Value.notImplemented)) s) :=
  .of_wp fun prog w A R s h => by obtain ⟨hp, g, d, tk, os⟩ := s; obtain ⟨hl, h⟩ := h; wp_walk; exact ⟨_, rfl, h⟩
theorem lk_int_mul (a : Int) (t : Tok) (l : Addr) (cls : Value) (d : Option Addr) (sl : Array (Option Value)) :
    Meets (Builtin.«int.__mul__» ⟨[.int a t, .ref l], []⟩) (fun _ R s => s.heap.get? l = some { cls := cls, dict := d, data := .plain, slots := sl } ∧ R (.ok (.ret Value.notImplemented)) s) :=
  .of_wp fun prog w A R s h => by obtain ⟨hp, g, d, tk, os⟩ := s; obtain ⟨hl, h⟩ := h; wp_walk; exact ⟨_, rfl, h⟩
end PySem
namespace PySem.W
open PySem PySem.Calls PyProof.Rows
section
variable {prog : Program} {w : World} {A : Around} {E : Value → Shared → Prop} {s : Shared} {K : Frag} {x C L f : Addr} {h₀ : Heap} {m : Str → Option Value} {ox : Obj} {od : Option Obj}
theorem lk_binR {op : Operator} {id : String} {fd : Addr} {j : Int} {t : Tok} {Q : Value → Shared → Prop} (F : Fr h₀ L s.heap m) (X₀ : K.In h₀) (I : InstAt s.heap x ox C od) (hc : selfFirst K C = true)
    (hd : findIn K (.ref C) (PySem.dunder op.info.2) = some (some (.ref fd))) (hs : findIn K (.ref C) (dunderR op.info.2) = some (some (.ref f))) (hf : isFn K (.ref f) = true)
    (hfi : fillsNumberSlot (.type "int") op.info.2 = pure true) (hsl : Slot "int" (PySem.dunder op.info.2) id) (hsub : subIn K (.ref C) (.type "int") = some false)
    (hn : ∀ P : Shared → Prop, P s → wpAny (model prog w) A (call (.builtin id) [.int j t, .ref x]) (fun v s' => v = .notImplemented ∧ P s') E s)
    (h : wpAny (model prog w) A (call (.ref f) [.ref x, .int j t]) (CmpBack Q) E s) : wpAny (model prog w) A (binaryOp op (.int j t) (.ref x)) Q E s := by
  have X := X₀.keeps F.keep
  obtain ⟨cd, rest, hcd, hm⟩ := ksp_first hc
  have one := ksp_try X I hs hf h
  rcases hi : op.info with ⟨sym, nm'⟩
  rw [hi] at hd hs hfi hsl one
  dsimp only at hd hs hfi hsl one
  have L1 : Looks (model prog w) s.heap (typeOf (.ref x)) (.ref C) := I.type
  have L3 : Looks (model prog w) s.heap (fillsNumberSlot (.ref C) nm') true := fills_K X hcd hm hd
  have L5 : Looks (model prog w) s.heap (isSubtype (.ref C) (.type "int")) false := looks_subIn X hsub
  have hne : (Value.type "int" == Value.ref C) = false := Bool.eq_false_iff.mpr fun q => by cases beq_iff_eq.mp q
  have hpy : numberSlotInPython (.type "int") nm' = pure false := rfl
  simp only [binaryOp, hi]
  refine wpAny_holding (wpAny_bind ?_)
  unfold binaryOp1
  refine wpAny_bind (wpAny_typeOf (typeIs_int s j t) (wpAny_bind (L1.here (wpAny_bind (wpAny_of_eq hfi ?_)))))
  simp only [hne, Bool.false_eq_true, if_false]
  refine wpAny_bind (L3.here ?_)
  simp only [Bool.and_self, if_true]
  refine wpAny_bind (L5.here ?_)
  simp only [Bool.false_eq_true, if_false, pure_bind, Bool.not_false, Bool.and_self, if_true, hpy]
  refine wpAny_bind (wpAny_tryMethod_declines (typeIs_int s j t) hsl (hn (fun s' => wpAny _ _ _ _ _ s') ?_))
  refine wpAny_bind (wpAny_mono one (fun r s' hr' => ?_) fun _ _ e => e)
  obtain ⟨v, rfl, hq⟩ := hr'
  exact wpAny_bind (wpAny_rule (wpAny_pure (wpAny_pure hq)))
end
end PySem.W
namespace Lk
open PySem L2
section
variable {X : Cx} {CX : CXT} {n : Nat} {C g gd : Addr} {sp : Sp} {E : XK}
/-- k op x, k an int, x an instance of C with the reflected def at g -/
def rBinR (C : Addr) (sp : Sp) (E : XK) : R2 := fun x y H Q => ∃ b dy gs j, x = .int j ∧ y = .ref b ∧ H b = some (.ins C dy gs) ∧ sp [y, x] H Q E
structure OpOkR (K : PySem.W.Frag) (C gd g : Addr) (nm : String) : Prop where
  self : PySem.W.selfFirst K C = true
  fwd : PySem.W.findIn K (.ref C) (PySem.dunder nm) = some (some (.ref gd))
  at_ : PySem.W.findIn K (.ref C) (dunderR nm) = some (some (.ref g))
  fn : PySem.W.isFn K (.ref g) = true
  sub : PySem.W.subIn K (.ref C) (.type "int") = some false
theorem op_binR {op : Operator} {id : String} {B : Builtin} (O : OpOkR X.K C gd g op.info.2) (hfi : fillsNumberSlot (.type "int") op.info.2 = pure true) (hsl : Slot "int" (PySem.dunder op.info.2) id) (entry : entryFor table id = some B) (args : ∀ a b, argsOk id ⟨[a, b], []⟩)
    (meets : ∀ (a : Int) (t : Tok) (l : Addr) (cls : Value) (d : Option Addr) (sl : Array (Option Value)), Meets (B ⟨[.int a t, .ref l], []⟩) (fun _ R s => s.heap.get? l = some { cls := cls, dict := d, data := .plain, slots := sl } ∧ R (.ok (.ret Value.notImplemented)) s))
    (F : FnR X.prog X.w X.K X.mg X.base CX n g sp) (hr : Room n X.A) (hx : Passes CX X E) : OpR X (binaryOp op) (rBinR C sp E) := by
  intro pins s σ H x y v u Q I rx ry h
  obtain ⟨b, dy, gs, j, rfl, rfl, hb, q⟩ := h
  obtain ⟨t, ej⟩ := (show ∃ t, v = Value.int j t from rx)
  subst ej
  cases (show u = Value.ref b from ry)
  obtain ⟨ox, od, J, hpl⟩ := StX.insC_at I (.inr ⟨dy, gs, hb⟩)
  obtain ⟨m, hF⟩ := I.fr
  have hget := J.at_
  obtain ⟨oc, odd, oda, osl⟩ := ox
  dsimp only at hpl
  subst hpl
  refine PySem.W.lk_binR hF I.ok.mod.kin J O.self O.fwd O.at_ O.fn hfi hsl O.sub (fun P hP => ?_) ?_
  · exact call_meets hsl (typeIs_int s j t) entry (args _ _) (meets j t b oc odd osl) ⟨hget, rfl, hP⟩
  · refine wpAny_mono (wpAny_call (run_fnR (us := [.ref b, .int j t]) (vs := [.ref b, .int j]) F hr hx I (.cons rfl (.cons ⟨t, rfl⟩ .nil)) q)) (fun w s' z => ?_) fun _ _ x => x
    obtain ⟨z', H', I', rz, qz⟩ := z
    exact SlX.cmpback rz ⟨z', H', I', rz, qz⟩
theorem op_addR (O : OpOkR X.K C gd g "add") (F : FnR X.prog X.w X.K X.mg X.base CX n g sp) (hr : Room n X.A) (hx : Passes CX X E) : OpR X (binaryOp .Add) (rBinR C sp E) := op_binR (op := .Add) O PySem.F.fills_int_add PySem.F.slot_int_add PySem.F.entry_int_add (fun a b => PySem.F.args_int_add_2 a b) PySem.lk_int_add F hr hx
theorem op_subR (O : OpOkR X.K C gd g "sub") (F : FnR X.prog X.w X.K X.mg X.base CX n g sp) (hr : Room n X.A) (hx : Passes CX X E) : OpR X (binaryOp .Sub) (rBinR C sp E) := op_binR (op := .Sub) O PySem.F.fills_int_sub PySem.F.slot_int_sub PySem.F.entry_int_sub (fun a b => PySem.F.args_int_sub_2 a b) PySem.lk_int_sub F hr hx
theorem op_mulR (O : OpOkR X.K C gd g "mul") (F : FnR X.prog X.w X.K X.mg X.base CX n g sp) (hr : Room n X.A) (hx : Passes CX X E) : OpR X (binaryOp .Mult) (rBinR C sp E) := op_binR (op := .Mult) O PySem.F.fills_int_mul PySem.F.slot_int_mul PySem.F.entry_int_mul (fun a b => PySem.F.args_int_mul_2 a b) PySem.lk_int_mul F hr hx
end
end Lk
/-! ### != by an own __eq__ (object.__ne__), repr and [] by own defs -/
namespace PySem.W
open PySem PySem.Calls PyProof.Rows
section
variable {prog : Program} {w : World} {A : Around} {E : Value → Shared → Prop} {s : Shared} {K : Frag} {x C L f : Addr} {h₀ : Heap} {m : Str → Option Value} {ox : Obj} {od : Option Obj}
theorem lk_ifBound_obj {M : Model} {id : String} {name : Str} {args : List Value} {Q : Option Value → Shared → Prop} (X : K.In s.heap) (I : InstAt s.heap x ox C od) (hs : findIn K (.ref C) name = some (some (.builtin id))) (S : Slot "object" name id)
    (h : wpAny M A (call (.builtin id) (.ref x :: args)) (fun v => Q (some v)) E s) : wpAny M A (callSpecialIfBound? (.ref x) name args) Q E s := by
  simp only [callSpecialIfBound?, bindSpecialIfBound?]
  refine wpAny_holding (wpAny_bind (wpAny_bind (wpAny_bind (I.type.here ((looks_findIn X hs).here ?_)))))
  simp only [S.bind]
  refine wpAny_bind (wpAny_askSetting (wpAny_ite ?_))
  have fin : wpAny M A (call (.builtin id) ([.ref x] ++ args) >>= fun v => pure (some v)) Q E s := wpAny_bind (wpAny_mono h (fun v s' h' => wpAny_pure h') fun _ _ h' => h')
  split
  · exact wpAny_bind (wpAny_pure (wpAny_pure fin))
  · exact wpAny_tryCatch (wpAny_bind (wpAny_pure (wpAny_pure fin)))
theorem lk_check_obj {M : Model} {id n : String} {rest : List Value} {Q : Unit → Shared → Prop} (X : K.In s.heap) (I : InstAt s.heap x ox C od) (hk : builtinKind id = some .slot) (hs : splitId id = some ("object", n))
    (ha : argsOk id ⟨.ref x :: rest, []⟩) (hob : subIn K (.ref C) (.type "object") = some true) (hq : Q () s) : wpAny M A (checkBuiltinCall id ⟨.ref x :: rest, []⟩) Q E s := by
  simp only [checkBuiltinCall, hk, hs]
  have L : Looks M s.heap (isInstance (.ref x) (.type "object")) true := I.type.andThen (looks_subIn X hob)
  refine wpAny_bind (L.here ?_)
  cases hsig : Manifest.signature? id with
  | none => exact wpAny_pure hq
  | some sig =>
    simp only [argsOk, hsig] at ha
    have h2 : Bind.checkArgs id sig ⟨.ref x :: rest, []⟩ = pure () := ha
    show wpAny M A (Bind.checkArgs id sig ⟨.ref x :: rest, []⟩) Q E _
    rw [h2]; exact wpAny_pure hq
theorem lk_ne {b tb : Value} {Q : Value → Shared → Prop} (hu : A.units + 1 < cLine) (Fh : Fr h₀ L s.heap m) (X₀ : K.In h₀) (I : InstAt s.heap x ox C od) (hb : Looks (model prog w) s.heap (typeOf b) tb) (hn : notFirst K C tb = true)
    (hne : findIn K (.ref C) "__ne__" = some (some (.builtin "object.__ne__"))) (hob : subIn K (.ref C) (.type "object") = some true) (hs : findIn K (.ref C) "__eq__" = some (some (.ref f))) (hf : isFn K (.ref f) = true)
    (h : wpAny (model prog w) A.in1 (call (.ref f) [.ref x, b]) (fun v s' => ∃ b, v = .bool b ∧ Q (.bool (!b)) s') E s) : wpAny (model prog w) A (richCompare .NotEq (.ref x) b) Q E s := by
  have X := X₀.keeps Fh.keep
  have one : wpAny (model prog w) A (tryCompare (.ref x) "__ne__" b) (fun r s' => ∃ v, r = some v ∧ Q v s') E s := by
    unfold tryCompare
    refine wpAny_bind (lk_ifBound_obj X I hne PySem.F.cmp_object.ne ?_)
    refine wpAny_call (codeAny_call_builtin PySem.F.cmp_object.ne.plain PySem.F.cmpEntry_ne (lk_check_obj X I PySem.F.cmpKind_ne PySem.F.cmpSplit_ne (PySem.F.cmpArgs_ne _ _) hob ?_))
    unfold Builtin.«object.__ne__»
    refine wpAny_bind (m := slotArgs _ _ _) (wpAny_pure ?_)
    refine wpAny_bind (wpAny_cRoomFor hu ?_)
    refine wpAny_bind (ifBound_K X I hs hf (wpAny_mono h (fun r s' hr => ?_) fun _ _ e => e))
    obtain ⟨b, rfl, hq⟩ := hr
    refine wpAny_bind (m := truthy (.bool _)) (wpAny_truthy_bool ?_)
    exact wpAny_pure (wpAny_pure ⟨_, rfl, hq⟩)
  unfold richCompare
  simp only [oneThing_ref]
  refine wpAny_holding (wpAny_bind (wpAny_cRoomFor (Nat.lt_of_succ_lt hu) ?_))
  refine wpAny_bind (I.type.here (wpAny_bind (hb.here ?_)))
  rw [cmpInfo_NotEq]
  dsimp only
  split
  · rename_i q
    have e : subIn K tb (.ref C) = some false := by
      rcases Bool.or_eq_true_iff.mp hn with e | e
      · rw [beq_iff_eq.mp e] at q; simp at q
      · exact beq_iff_eq.mp e
    refine wpAny_bind ((looks_subIn X e).here ?_)
    simp only [Bool.false_eq_true, if_false]
    refine wpAny_bind (wpAny_mono one (fun r s' z => ?_) fun _ _ e => e)
    obtain ⟨v, rfl, hq⟩ := z
    exact wpAny_pure hq
  · refine wpAny_bind (wpAny_pure ?_)
    simp only [Bool.false_eq_true, if_false]
    refine wpAny_bind (wpAny_mono one (fun r s' z => ?_) fun _ _ e => e)
    obtain ⟨v, rfl, hq⟩ := z
    exact wpAny_pure hq
end
end PySem.W
namespace Lk
open PySem L2
section
variable {X : Cx} {CX : CXT} {n : Nat} {C g : Addr} {sp : Sp} {E : XK} {a b : Expr} {ta tb : TE} {pos : Pos}
structure NeOk (K : PySem.W.Frag) (C g : Addr) : Prop where
  ne : PySem.W.findIn K (.ref C) "__ne__" = some (some (.builtin "object.__ne__"))
  ob : PySem.W.subIn K (.ref C) (.type "object") = some true
  eq : PySem.W.findIn K (.ref C) "__eq__" = some (some (.ref g))
  fn : PySem.W.isFn K (.ref g) = true
/-- x != y by an own __eq__ that answers a bool -/
def rNeO (K : PySem.W.Frag) (C : Addr) (sp : Sp) (E : XK) : R2 := fun x y H Q => ∃ a dx fs t, x = .ref a ∧ H a = some (.ins C dx fs) ∧ TyX K H y t ∧ PySem.W.notFirst K C t = true ∧ sp [x, y] H (fun v H' => ∃ z, v = .bl z ∧ Q (.bl (!z)) H') E
theorem op_neO (O : NeOk X.K C g) (F : FnR X.prog X.w X.K X.mg X.base CX n g sp) (hr : Room (n + 1) X.A) (hx : ∀ (H : Hp) (s : Shared) (e : Value) (s' : Shared), CX X.stack H s E e s' → False) : OpR X (compareOp .NotEq) (rNeO X.K C sp E) := by
  intro pins s σ H x y v u Q I rx ry h
  obtain ⟨a, dx, fs, t, rfl, ha, ty, hn, q⟩ := h
  cases (show v = Value.ref a from rx)
  obtain ⟨_, _, J⟩ := inst_at I ha
  obtain ⟨P, Z, p, _⟩ := kit_of I ry ty
  obtain ⟨m, hF⟩ := I.fr
  refine PySem.W.cmp_ofNotEq ?_
  refine PySem.W.lk_ne (tb := t) (by have := hr.units; omega) hF I.ok.mod.kin J (Z.ty _ _ I.kIn p) hn O.ne O.ob O.eq O.fn (wpAny_call ?_)
  refine codeAny_mono (F X.A.in1 X.stack s H [.ref a, u] [.ref a, y] _ E hr.in1 I.env0.in1 (.cons rfl (.cons ry .nil)) q) fun r s' hq => ?_
  cases r with
  | error e => exact (hx _ _ _ _ hq).elim
  | ok fl =>
    cases fl with
    | ret u =>
      obtain ⟨v, H', I2, rv, z, ev, q⟩ := I.after hq
      subst ev
      cases (show u = Value.bool z from rv)
      exact ⟨z, rfl, .bl (!z), H', I2, rfl, q⟩
    | next => exact False.elim hq
    | brk => exact False.elim hq
    | cont => exact False.elim hq
/-- repr(x) by an own __repr__ that answers a str -/
def rReprO (C : Addr) (sp : Sp) (E : XK) : List V → Hp → VK → Prop := fun xs H Q => ∃ a dx fs, xs = [.ref a] ∧ H a = some (.ins C dx fs) ∧ sp [.ref a] H (fun v H' => ∃ y : Str, v = .str y ∧ Q (.str y) H') E
theorem call_reprO (hs : PySem.W.findIn X.K (.ref C) "__repr__" = some (some (.ref g))) (hf : PySem.W.isFn X.K (.ref g) = true) (F : FnR X.prog X.w X.K X.mg X.base CX n g sp) (hr : Room (n + 1) X.A) (hx : ∀ (H : Hp) (s : Shared) (e : Value) (s' : Shared), CX X.stack H s E e s' → False) : CallR X (.builtin "repr") (rReprO C sp E) := by
  intro pins s σ H xs us Q I r h
  obtain ⟨a, dx, fs, rfl, ha, q⟩ := h
  obtain ⟨u, rfl, ru⟩ := vals1 r
  cases (show u = Value.ref a from ru)
  obtain ⟨_, _, J⟩ := inst_at I ha
  obtain ⟨m, hF⟩ := I.fr
  refine PySem.W.repr_K hr.in1.units0 hF I.ok.mod.kin J hs hf (wpAny_call ?_)
  refine codeAny_mono (F X.A.in1 X.stack s H [.ref a] [.ref a] _ E hr.in1 I.env0.in1 (.cons rfl .nil) q) fun r s' hq => ?_
  cases r with
  | error e => exact (hx _ _ _ _ hq).elim
  | ok fl =>
    cases fl with
    | ret u =>
      obtain ⟨v, H', I2, rv, y, ev, q⟩ := I.after hq
      subst ev
      obtain ⟨t, et⟩ := (show ∃ t, u = Value.str y t from rv)
      subst et
      exact ⟨.str y, H', I2.tok _, ⟨_, rfl⟩, q⟩
    | next => exact False.elim hq
    | brk => exact False.elim hq
    | cont => exact False.elim hq
/-- x[k] by an own __getitem__ -/
structure GetOk (K : PySem.W.Frag) (C g : Addr) : Prop where
  at_ : PySem.W.findIn K (.ref C) "__getitem__" = some (some (.ref g))
  fn : PySem.W.isFn K (.ref g) = true
  fi : PySem.W.fnIn K g = true
theorem pe_ixO (O : GetOk X.K C g) (F : FnR X.prog X.w X.K X.mg X.base CX n g sp) (hr : Room (n + 1) X.A) (hx : Passes CX X.nox E) (ha : PE X a ta) (hb : PE X b tb)
    (hsl : ∀ v u, subscripted b true v u = runValue (.builtin "lifetime.subscript" ⟨[v, u], []⟩) := by intro v u; with_unfolding_all rfl) : PE X (.Subscript a b pos) (tOp (rIxO C sp E) ta tb) := by
  refine ⟨fun pins s σ H Q I h => ?_⟩
  refine PyProof.Rows.Subscript_ (binT ha hb I h fun v u s2 x y H2 I2 rx ry q => ?_)
  obtain ⟨c, dx, fs, j, rfl, rfl, hc, q⟩ := q
  cases (show v = Value.ref c from rx)
  obtain ⟨t, ej⟩ := (show ∃ t, u = Value.int j t from ry)
  subst ej
  obtain ⟨_, _, J⟩ := inst_at I2 hc
  obtain ⟨m, hF⟩ := I2.fr
  refine PySem.W.sub_K hF I2.ok.mod.kin J O.at_ O.fi O.fn (wpAny_call ?_) (hsl _ _)
  refine codeAny_mono (F X.A.in1 X.stack s2 H2 [.ref c, .int j t] [.ref c, .int j] _ E hr.in1 I2.env0.in1 (.cons rfl (.cons ⟨t, rfl⟩ .nil)) q) fun r s' hq => ?_
  cases r with
  | error er => exact False.elim (hx pins σ H2 s2 er s' (I2.wish _) hq)
  | ok fl =>
    cases fl with
    | ret u =>
      obtain ⟨v, H', I3, rv, q3⟩ := I2.after hq
      exact ⟨v, H', I3, rv, q3⟩
    | next => exact False.elim hq
    | brk => exact False.elim hq
    | cont => exact False.elim hq
end
end Lk
namespace Lk
open PySem L2
/-- a def without defaults, by its promise as it stands -/
theorem fnr0 {P : Program} {w : World} {K : PySem.W.Frag} {mg : Str → Option Value} {base : Heap} {CX : CXT} {k : Nat} {f : Addr} {fd : FuncData} {ps : List Str} {sp : Sp} (F : FnOk P w K mg base CX k f fd ps sp) (hb : Binds K fd ps []) : FnR P w K mg base CX k f sp :=
  (F.raw hb .nil).imp fun vs H Q E h => by rw [List.append_nil]; exact h
end Lk
/-! ### x += y where the class has no def of its own for it -/
namespace PySem.W
open PySem PySem.Calls PyProof.Rows
section
variable {prog : Program} {w : World} {A : Around} {E : Value → Shared → Prop} {s : Shared} {K : Frag} {x C L f : Addr} {h₀ : Heap} {m : Str → Option Value} {ox : Obj} {od : Option Obj} {T : String}
theorem lk_bin1 {nm : String} {b : Value} {Q : Value → Shared → Prop} (F : Fr h₀ L s.heap m) (X₀ : K.In h₀) (I : InstAt s.heap x ox C od) (hb : Looks (model prog w) s.heap (typeOf b) (.ref C)) (hc : selfFirst K C = true)
    (hs : findIn K (.ref C) (PySem.dunder nm) = some (some (.ref f))) (hf : isFn K (.ref f) = true)
    (h : wpAny (model prog w) A (call (.ref f) [.ref x, b]) (CmpBack Q) E s) : wpAny (model prog w) A (binaryOp1 nm (.ref x) b) (fun r s' => ∃ v, r = some v ∧ Q v s') E s := by
  have X := X₀.keeps F.keep
  obtain ⟨cd, rest, hcd, hm⟩ := ksp_first hc
  unfold binaryOp1
  refine wpAny_bind (I.type.here (wpAny_bind (hb.here (wpAny_bind ((fills_K X hcd hm hs).here ?_)))))
  simp only [beq_self_eq_true, if_true]
  refine wpAny_bind (wpAny_pure ?_)
  simp only [Bool.and_false, Bool.false_eq_true, if_false, Bool.false_and]
  refine wpAny_bind (wpAny_pure ?_)
  simp only [Bool.false_eq_true, if_false]
  refine wpAny_bind (m := tryMethod (.ref x) _ b) ?_
  unfold tryMethod
  refine wpAny_bind (special_fn X I hs (beq_iff_eq.mp hf) (wpAny_mono h (fun v s' hv => ?_) fun _ _ e => e))
  cases v <;> first | exact hv.elim | exact wpAny_pure (wpAny_pure ⟨_, rfl, hv⟩)
theorem lk_bin1T {nm' : String} {b : Value} {fo ro rc : Option Value} {Q : Value → Shared → Prop} (F : Fr h₀ L s.heap m) (X₀ : K.In h₀) (I : InstAt s.heap x ox C od) (hb : typeOf b = pure (.type T)) (hc : selfFirst K C = true)
    (hs : findIn K (.ref C) (PySem.dunder nm') = some (some (.ref f))) (hf : isFn K (.ref f) = true) (hr : findIn K (.ref C) (dunderR nm') = some rc) (hp : rc = none ∨ ∃ g : Addr, rc = some (.ref g))
    (h1 : findIn K (.type T) (PySem.dunder nm') = some fo) (h2 : findIn K (.type T) (dunderR nm') = some ro) (hsub : subIn K (.type T) (.ref C) = some false)
    (h : wpAny (model prog w) A (call (.ref f) [.ref x, b]) (CmpBack Q) E s) : wpAny (model prog w) A (binaryOp1 nm' (.ref x) b) (fun r s' => ∃ v, r = some v ∧ Q v s') E s := by
  have X := X₀.keeps F.keep
  obtain ⟨cd, rest, hcd, hm⟩ := ksp_first hc
  have one := ksp_try X I hs hf h
  obtain ⟨hh, g, d, tt, os⟩ := s
  have L1 : Looks (model prog w) hh (typeOf (.ref x)) (.ref C) := I.type
  have L2 : Looks (model prog w) hh (typeOf b) (.type T) := Looks.of_pure hb
  have L3 : Looks (model prog w) hh (fillsNumberSlot (.ref C) nm') true := fills_K X hcd hm hs
  have L4 : Looks (model prog w) hh (fillsNumberSlot (.type T) nm') ((fo.isSome && !isSeqSlot fo) || (ro.isSome && !isSeqSlot ro)) := ksp_fillsT X h1 h2
  have L5 : Looks (model prog w) hh (isSubtype (.type T) (.ref C)) false := looks_subIn X hsub
  have L6 : Looks (model prog w) hh (numberSlotInPython (.ref C) nm') true := ksp_inPy X hs hr hp
  have L7 : Looks (model prog w) hh (numberSlotInPython (.type T) nm') false := Looks.of_pure rfl
  have L8 : Looks (model prog w) hh (typeLookup (.type T) (dunderR nm')) ro := looks_findIn X h2
  generalize ((fo.isSome && !isSeqSlot fo) || (ro.isSome && !isSeqSlot ro)) = right at L4
  have hne : (Value.ref C == Value.type T) = false := Bool.eq_false_iff.mpr fun q => by cases beq_iff_eq.mp q
  unfold binaryOp1
  refine wpAny_bind (L1.at (wpAny_bind (L2.at (wpAny_bind (L3.at ?_)))))
  simp only [hne, Bool.false_eq_true, if_false]
  cases right with
  | false =>
    ksp_lk
    refine wpAny_mono one (fun r s' hr' => ?_) fun _ _ e => e
    obtain ⟨v, rfl, hq⟩ := hr'
    ksp_lk
    exact ⟨_, rfl, hq⟩
  | true =>
    ksp_lk
    refine wpAny_mono one (fun r s' hr' => ?_) fun _ _ e => e
    obtain ⟨v, rfl, hq⟩ := hr'
    ksp_lk
    exact ⟨_, rfl, hq⟩
theorem lk_noI {M : Model} {h : Heap} {nm : String} {add : Bool} (X : K.In h) (hc : (clsIn K C).map (·.mro) = some [.ref C, .type "object"]) (h1 : findIn K (.ref C) (dunderI nm) = some none) (h2 : findIn K (.type "object") (dunderI nm) = some none) : Looks M h (fillsInplaceSlot (.ref C) nm add) false := by
  obtain ⟨cd, hcd, hm⟩ := Option.map_eq_some_iff.mp hc
  intro A Q E s k q
  have Lm : Looks M h (mroOf (.ref C)) cd.mro := (looks_clsIn X hcd).andThen (f := fun cd => pure cd.mro) .now
  have Lm' := Lm.keeps k
  obtain ⟨hh, g, d, tt, os⟩ := s
  have X' : K.In hh := X.keeps k
  have L1 : Looks M hh (typeLookup (.ref C) (dunderI nm)) none := looks_findIn X' h1
  have L2 : Looks M hh (typeLookup (.type "object") (dunderI nm)) none := looks_findIn X' h2
  unfold fillsInplaceSlot
  refine wpAny_bind (Lm'.at ?_)
  rw [hm, List.anyM_cons]
  refine wpAny_bind (wpAny_bind (L1.at ?_))
  refine wpAny_pure ?_
  simp only [Bool.false_eq_true, if_false]
  rw [List.anyM_cons]
  refine wpAny_bind (wpAny_bind (L2.at ?_))
  refine wpAny_pure ?_
  simp only [Bool.false_eq_true, if_false, List.anyM_nil]
  exact wpAny_pure q
theorem lk_inplace {op : Operator} {b : Value} {Q : Value → Shared → Prop} (F : Fr h₀ L s.heap m) (X₀ : K.In h₀) (I : InstAt s.heap x ox C od) (hc : (clsIn K C).map (·.mro) = some [.ref C, .type "object"]) (h1 : findIn K (.ref C) (dunderI op.info.2) = some none) (h2 : findIn K (.type "object") (dunderI op.info.2) = some none)
    (h : wpAny (model prog w) A (binaryOp1 op.info.2 (.ref x) b) (fun r s' => ∃ v, r = some v ∧ Q v s') E s) : wpAny (model prog w) A (inplaceOp op (.ref x) b) Q E s := by
  have X := X₀.keeps F.keep
  unfold inplaceOp
  refine wpAny_holding ?_
  refine wpAny_bind (I.type.here ?_)
  refine wpAny_bind ((lk_noI X hc h1 h2).here ?_)
  simp only [Bool.false_eq_true, if_false]
  refine wpAny_bind (wpAny_mono h (fun r s' hr' => ?_) fun _ _ e => e)
  obtain ⟨v, rfl, hq⟩ := hr'
  exact wpAny_pure hq
end
end PySem.W
namespace Lk
open PySem L2
section
variable {X : Cx} {CX : CXT} {n : Nat} {C g : Addr} {sp : Sp} {E : XK} {op : Operator}
structure InOk (K : PySem.W.Frag) (C : Addr) (nm : String) : Prop where
  mro : (PySem.W.clsIn K C).map (·.mro) = some [.ref C, .type "object"]
  own : PySem.W.findIn K (.ref C) (dunderI nm) = some none
  obj : PySem.W.findIn K (.type "object") (dunderI nm) = some none
theorem ip_bin (J : InOk X.K C op.info.2) (O : OpOk X.K C g op.info.2) (F : FnR X.prog X.w X.K X.mg X.base CX n g sp) (hr : Room n X.A) (hx : Passes CX X E) : PIp X op (rBin C sp E) := by
  intro pins s σ H x y v u Q I rx ry h
  obtain ⟨a, dx, fs, b, dy, gs, rfl, rfl, ha, hb, q⟩ := h
  cases (show v = Value.ref a from rx)
  cases (show u = Value.ref b from ry)
  obtain ⟨_, _, J1⟩ := inst_at I ha
  obtain ⟨_, _, J2⟩ := inst_at I hb
  obtain ⟨m, hF⟩ := I.fr
  refine PySem.W.lk_inplace hF I.ok.mod.kin J1 J.mro J.own J.obj (PySem.W.lk_bin1 hF I.ok.mod.kin J1 J2.type O.self O.at_ O.fn ?_)
  refine wpAny_mono (wpAny_call (run_fnR (us := [.ref a, .ref b]) (vs := [.ref a, .ref b]) F hr hx I (.cons rfl (.cons rfl .nil)) q)) (fun w s' z => ?_) fun _ _ x => x
  obtain ⟨z', H', I', rz, qz⟩ := z
  exact SlX.cmpback rz ⟨z', H', I', rz, qz⟩
theorem ip_binI (J : InOk X.K C op.info.2) (O : OpOk X.K C g op.info.2) (O2 : OpOkI X.K C op.info.2) (F : FnR X.prog X.w X.K X.mg X.base CX n g sp) (hr : Room n X.A) (hx : Passes CX X E) : PIp X op (rBinI C sp E) := by
  intro pins s σ H x y v u Q I rx ry h
  obtain ⟨a, dx, fs, j, rfl, rfl, ha, q⟩ := h
  cases (show v = Value.ref a from rx)
  obtain ⟨t, ej⟩ := (show ∃ t, u = Value.int j t from ry)
  subst ej
  obtain ⟨_, _, J1⟩ := inst_at I ha
  obtain ⟨m, hF⟩ := I.fr
  obtain ⟨rc, r1, r2⟩ := O2.r
  obtain ⟨fo, i1⟩ := O2.i1
  obtain ⟨ro, i2⟩ := O2.i2
  refine PySem.W.lk_inplace hF I.ok.mod.kin J1 J.mro J.own J.obj (PySem.W.lk_bin1T (T := "int") hF I.ok.mod.kin J1 rfl O.self O.at_ O.fn r1 r2 i1 i2 O2.sub ?_)
  refine wpAny_mono (wpAny_call (run_fnR (us := [.ref a, .int j t]) (vs := [.ref a, .int j]) F hr hx I (.cons rfl (.cons ⟨t, rfl⟩ .nil)) q)) (fun w s' z => ?_) fun _ _ x => x
  obtain ⟨z', H', I', rz, qz⟩ := z
  exact SlX.cmpback rz ⟨z', H', I', rz, qz⟩
end
end Lk
/-! rows of ints without zeros at the end; what stands at a place of a row -/
namespace Lk
def trimI (xs : List Int) : List Int := (xs.reverse.dropWhile (· == 0)).reverse
/-- the coefficient at a place, 0 behind the end -/
def co (xs : List Int) (k : Nat) : Int := xs.getD k 0
theorem dropWhile_all {α : Type} {p : α → Bool} : ∀ (l m : List α), (∀ x ∈ l, p x = true) → (l ++ m).dropWhile p = m.dropWhile p
  | [], m, _ => rfl
  | a :: l, m, h => by
    rw [List.cons_append, List.dropWhile_cons, if_pos (h a List.mem_cons_self)]
    exact dropWhile_all l m fun x hx => h x (List.mem_cons_of_mem _ hx)
theorem co_lt {xs : List Int} {k : Nat} (h : k < xs.length) : co xs k = xs[k] := by
  unfold co
  rw [List.getD_eq_getElem?_getD, List.getElem?_eq_getElem h]
  rfl
theorem co_ge {xs : List Int} {k : Nat} (h : xs.length ≤ k) : co xs k = 0 := by
  unfold co
  rw [List.getD_eq_getElem?_getD, List.getElem?_eq_none h]
  rfl
theorem co_get {xs : List Int} {k : Nat} {x : Int} (h : xs[k]? = some x) : co xs k = x := by
  unfold co
  rw [List.getD_eq_getElem?_getD, h]
  rfl
theorem trimI_of {xs : List Int} {n : Nat} (h : n ≤ xs.length) (hz : ∀ j, n ≤ j → j < xs.length → co xs j = 0) (hl : n = 0 ∨ co xs (n - 1) ≠ 0) : xs.take n = trimI xs := by
  have e : xs.reverse = (xs.drop n).reverse ++ (xs.take n).reverse := by
    rw [← List.reverse_append, List.take_append_drop]
  unfold trimI
  rw [e, dropWhile_all]
  · rcases hl with h0 | hl
    · subst h0
      rfl
    · have hn : 0 < n := by
        rcases Nat.eq_zero_or_pos n with h0 | h0
        · subst h0
          by_cases hx : 0 < xs.length
          · exact absurd (hz 0 (Nat.le_refl _) hx) hl
          · exact absurd (co_ge (by omega)) hl
        · exact h0
      have hlt : n - 1 < xs.length := by omega
      have e2 : xs.take n = xs.take (n - 1) ++ [xs[n - 1]] := by
        have := List.take_succ_eq_append_getElem hlt
        rw [show n - 1 + 1 = n by omega] at this
        exact this
      rw [co_lt hlt] at hl
      rw [e2, List.reverse_append, List.reverse_singleton, List.singleton_append, List.dropWhile_cons, if_neg (by simpa using hl), List.reverse_cons, List.reverse_reverse]
  · intro x hx
    obtain ⟨j, hj⟩ := List.getElem?_of_mem (List.mem_reverse.mp hx)
    rw [List.getElem?_drop] at hj
    have h2 := hz (n + j) (Nat.le_add_right _ _) (List.getElem?_eq_some_iff.mp hj).1
    rw [co_get hj] at h2
    rw [h2]
    rfl
/-- what is trimmed ends in no zero -/
theorem trimI_ex (xs : List Int) : ∃ n, n ≤ xs.length ∧ trimI xs = xs.take n ∧ (∀ j, n ≤ j → co xs j = 0) ∧ (n = 0 ∨ co xs (n - 1) ≠ 0) := by
  suffices h : ∀ m, m ≤ xs.length → (∀ j, m ≤ j → co xs j = 0) → ∃ n, n ≤ xs.length ∧ (∀ j, n ≤ j → co xs j = 0) ∧ (n = 0 ∨ co xs (n - 1) ≠ 0) by
    obtain ⟨n, h1, h2, h3⟩ := h xs.length (Nat.le_refl _) fun j hj => co_ge hj
    exact ⟨n, h1, (trimI_of h1 (fun j hj _ => h2 j hj) h3).symm, h2, h3⟩
  intro m
  induction m with
  | zero => exact fun _ h => ⟨0, Nat.zero_le _, h, .inl rfl⟩
  | succ m ih =>
    intro hm hz
    by_cases h0 : co xs m = 0
    · exact ih (by omega) fun j hj => by
        rcases Nat.eq_or_lt_of_le hj with e | e
        · exact e ▸ h0
        · exact hz j e
    · exact ⟨m + 1, hm, hz, .inr h0⟩
theorem co_take (xs : List Int) (n k : Nat) : co (xs.take n) k = if k < n then co xs k else 0 := by
  unfold co
  rw [List.getD_eq_getElem?_getD, List.getD_eq_getElem?_getD, List.getElem?_take]
  split <;> rfl
theorem co_trim (xs : List Int) (k : Nat) : co (trimI xs) k = co xs k := by
  obtain ⟨n, h1, h2, h3, _⟩ := trimI_ex xs
  rw [h2, co_take]
  split
  · rfl
  · exact (h3 k (by omega)).symm
theorem trim_last (xs : List Int) : (trimI xs).length = 0 ∨ co (trimI xs) ((trimI xs).length - 1) ≠ 0 := by
  obtain ⟨n, h1, h2, h3, h4⟩ := trimI_ex xs
  have hl : (trimI xs).length = n := by
    rw [h2, List.length_take]
    omega
  rw [hl, co_trim]
  exact h4
theorem trim_len (xs : List Int) : (trimI xs).length ≤ xs.length := by
  obtain ⟨n, h1, h2, _⟩ := trimI_ex xs
  rw [h2, List.length_take]
  omega
theorem ext_co {xs ys : List Int} (hl : xs.length = ys.length) (h : ∀ k, co xs k = co ys k) : xs = ys := by
  refine List.ext_getElem hl fun i h1 h2 => ?_
  rw [← co_lt h1, ← co_lt h2]
  exact h i
/-- rows with the same coefficients are the same when trimmed -/
theorem trim_ext {xs ys : List Int} (h : ∀ k, co xs k = co ys k) : trimI xs = trimI ys := by
  have hc : ∀ k, co (trimI xs) k = co (trimI ys) k := fun k => by rw [co_trim, co_trim, h]
  refine ext_co ?_ hc
  rcases Nat.lt_trichotomy (trimI xs).length (trimI ys).length with l | l | l
  · rcases trim_last ys with e | e
    · omega
    · exact absurd ((hc _).symm.trans (co_ge (by omega))) e
  · exact l
  · rcases trim_last xs with e | e
    · omega
    · exact absurd ((hc _).trans (co_ge (by omega))) e
theorem trim_id {xs : List Int} (h : xs.length = 0 ∨ co xs (xs.length - 1) ≠ 0) : trimI xs = xs := by
  rw [← trimI_of (Nat.le_refl _) (fun j h1 h2 => by omega) h, List.take_length]
theorem trim_trim (xs : List Int) : trimI (trimI xs) = trimI xs := trim_id (trim_last xs)
end Lk
/-! sequences of ints, instances of Poly as rows -/
namespace Lk
open PySem L2
def iVs (xs : List Int) : List V := xs.map V.int
theorem iVs_len (xs : List Int) : (iVs xs).length = xs.length := List.length_map ..
theorem iVs_get {xs : List Int} {j : Nat} (h : j < xs.length) : (iVs xs)[j]? = some (.int (co xs j)) := by
  unfold iVs
  rw [List.getElem?_map, List.getElem?_eq_getElem h, co_lt h]
  rfl
theorem iVs_cut (xs : List Int) (n : Nat) (h : n ≤ xs.length) : cutV (iVs xs) none (some (n : Int)) = iVs (xs.take n) := by
  unfold cutV iVs
  rw [show HT.sIx (xs.map V.int).length 0 none = 0 from rfl, HT.sIx_nat, List.length_map, List.drop_zero, List.map_take, Nat.min_eq_left h, Nat.sub_zero]
/-- a list or a tuple of ints -/
def SqI (K : PySem.W.Frag) (H : Hp) (a : Addr) (xs : List Int) : Prop := SqL K H a (iVs xs) ∨ SqT K H a (iVs xs)
section
variable {K : PySem.W.Frag} {H H' : Hp} {a p C : Addr} {xs row : List Int} {σ : L2.St} {ta tb tv : TE} {k : Int} {vs : List V}
theorem _root_.L2.Same.tup (e : Same H H') (h : SqT K H a vs) : SqT K H' a vs :=
  h.elim (fun h => .inl (h.elim (fun h => .inl (e _ _ h)) fun ⟨o, h⟩ => .inr ⟨o, e _ _ h⟩)) fun h => .inr h
theorem SqI.same (h : SqI K H a xs) (e : Same H H') : SqI K H' a xs := h.elim (fun h => .inl (e.seq h)) fun h => .inr (e.tup h)
theorem SqI.lst (h : H a = some (.lst (iVs xs))) : SqI K H a xs := .inl (.of h)
theorem SqI.tup (h : H a = some (.tup (iVs xs))) : SqI K H a xs := .inr (.of h)
theorem atI_iVs (h0 : 0 ≤ k) (h1 : k < xs.length) : atI (iVs xs) k = some (.int (co xs k.toNat)) := atI_of h0 (iVs_get (by omega))
theorem rix_I {Q : VK} (hs : SqI K H a xs) (h0 : 0 ≤ k) (h1 : k < xs.length) (q : Q (.int (co xs k.toNat)) H) : rIx K (.ref a) (.int k) H Q :=
  hs.elim (fun h => .inl ⟨a, _, k, _, rfl, rfl, h, atI_iVs h0 h1, q⟩) fun h => .inr (.inl ⟨a, _, k, _, rfl, rfl, h, atI_iVs h0 h1, q⟩)
theorem val_ixI (ha : Val ta σ H (.ref a)) (hb : Val tb σ H (.int k)) (hs : SqI K H a xs) (h0 : 0 ≤ k) (h1 : k < xs.length) : Val (tOp (rIx K) ta tb) σ H (.int (co xs k.toNat)) := fun Q q => ha _ (hb _ (rix_I hs h0 h1 q))
theorem val_ixLi (ha : Val ta σ H (.ref a)) (hb : Val tb σ H (.int k)) (hs : SqL K H a (iVs xs)) (h0 : 0 ≤ k) (h1 : k < xs.length) : Val (tOp (rIxL K) ta tb) σ H (.int (co xs k.toNat)) := val_ixL ha hb hs (atI_iVs h0 h1)
/-- an instance of the class C whose coefs is a tuple of ints -/
def PolyAt (K : PySem.W.Frag) (C : Addr) (H : Hp) (p : Addr) (row : List Int) : Prop := ∃ dx t, H p = some (.ins C dx [("coefs", .ref t)]) ∧ SqT K H t (iVs row)
theorem PolyAt.same (h : PolyAt K C H p row) (e : Same H H') : PolyAt K C H' p row := by
  obtain ⟨dx, t, h1, h2⟩ := h
  exact ⟨dx, t, e _ _ h1, e.tup h2⟩
/-- a comprehension over a range whose elements are ints, reckoned without heap change -/
theorem lcI {lo : Int} {n : Nat} {te : TE} {i : Nat} {H1 : Hp} {D : Addr} {Qd : Hp → Prop} (f : Nat → Int) (hD : H1 D = none) (hn : n ≤ sizeLine)
    (he : ∀ j H, j < n → Same H1 H → Val te ((wipe σ [i]).set i (some (.int (lo + j)))) H (.int (f j))) (hd : ∀ H, Same H1 H → H D = some (.lst (iVs ((List.range n).map f))) → Qd H) :
    ∃ W : Nat → Nat → Hp → Prop, (∃ m, W 0 m (upd H1 D (.lst []))) ∧ ∀ i' m H, W i' m H →
      ((Itr lo n).stop i' H ∧ Qd H) ∨ ((Itr lo n).go i' H ∧ ∃ Nx : Hp → Prop, (∀ H', Nx H' → ∃ m', m' < m ∧ W (i' + 1) m' H') ∧ ∀ x H', (Itr lo n).yld i' H x H' → gName i x (wipe σ [i]) H' fun σ2 H2 => wipe σ2 [i] = wipe σ [i] ∧ tYes σ2 H2 fun b H3 =>
        if b = true then te σ2 H3 fun y H4 => ∃ acc, H4 D = some (.lst acc) ∧ acc.length < sizeLine ∧ Nx (upd H4 D (.lst (acc ++ [y]))) else Nx H3) := by
  refine lc_range (fun j H => Same H1 H ∧ H D = some (.lst (iVs ((List.range j).map f)))) ⟨same_upd hD, upd_same⟩ ?_ ?_
  · rintro j H hj ⟨s1, h1⟩
    refine ⟨?_, ?_⟩
    · show wipe ((wipe σ [i]).set i _) [i] = wipe σ [i]
      show ((σ.set i none).set i _).set i none = σ.set i none
      rw [List.set_set, List.set_set]
    · refine he j H hj s1 (fun y H4 => ∃ acc, H4 D = some (.lst acc) ∧ acc.length < sizeLine ∧ Same H1 (upd H4 D (.lst (acc ++ [y]))) ∧ (upd H4 D (.lst (acc ++ [y]))) D = some (.lst (iVs ((List.range (j + 1)).map f)))) ⟨_, h1, ?_, ?_, ?_⟩
      · rw [iVs_len, List.length_map, List.length_range]
        omega
      · exact fun b o e => by rw [upd_ne (ne_of_none e hD)]; exact s1 b o e
      · rw [upd_same, List.range_succ, List.map_append]
        unfold iVs
        rw [List.map_append]
        rfl
  · rintro H ⟨s1, h1⟩
    exact hd H s1 h1
end
end Lk
namespace Lk
open PySem L2
section
variable {K : PySem.W.Frag} {H H' : Hp} {a o p t C dx : Addr} {xs ys row : List Int} {vs : List V} {fs : List (Str × V)} {σ : L2.St} {ta tb tv : TE} {k : Int} {E : XK}
theorem SqT.past (h : SqT K H t vs) (ho : H o = some (.ins C dx fs)) {u : HO} : SqT K (upd H o u) t vs := by
  rcases h with (h | ⟨w, h⟩) | h
  · exact .inl (.inl (by rw [upd_ne (fun e => by rw [e, ho] at h; cases h)]; exact h))
  · exact .inl (.inr ⟨w, by rw [upd_ne (fun e => by rw [e, ho] at h; cases h)]; exact h⟩)
  · exact .inr h
theorem SqT.ty (h : SqT K H t vs) : TyX K H (.ref t) (.type "tuple") := by
  rcases h with (h | ⟨w, h⟩) | ⟨w, its, n, h, hc, _⟩
  · exact .base (.tup h)
  · exact .fTuple h
  · exact .kTuple h hc
/-- Poly.__init__ -/
def spInit (K : PySem.W.Frag) (C : Addr) : Sp := fun vs H Q _ => ∃ (o p dx : Addr) (row : List Int), vs = [.ref o, .ref p] ∧ H o = some (.ins C dx []) ∧ SqT K H p (iVs row) ∧
  ∀ t H', (∀ b u, b ≠ o → H b = some u → H' b = some u) → H' o = some (.ins C dx [("coefs", .ref t)]) → SqT K H' t (iVs (trimI row)) → Q .non H'
/-- what the making of a Poly out of a row leaves -/
def Made (K : PySem.W.Frag) (C : Addr) (H : Hp) (row : List Int) (Q : VK) : Prop := ∀ p H', Same H H' → H p = none → PolyAt K C H' p row → Q (.ref p) H'
theorem make_row {Q : VK} (hl : row.length ≤ sizeLine) (k : Made K C H (trimI row) Q) (o dx : Addr) (ho : H o = none) (hd : H dx = none) (hne : dx ≠ o) :
    starSp 1 (spInit K C) (V.ref o :: iVs row) (upd (upd H dx (.own o)) o (.ins C dx [])) (fun v H2 => v = .non ∧ Q (.ref o) H2) E := by
  refine ⟨[.ref o], iVs row, rfl, rfl, by rw [iVs_len]; exact hl, fun p hp => ?_⟩
  have hpo : p ≠ o := fun e => by rw [e, upd_same] at hp; cases hp
  refine ⟨o, p, dx, row, rfl, ?_, SqT.of upd_same, fun t H' hk ho' ht => ⟨rfl, k o H' (fun b u e => ?_) ho ⟨dx, t, ho', ht⟩⟩⟩
  · rw [upd_ne hpo.symm]
    exact upd_same
  · have hbo := ne_of_none e ho
    have hbd := ne_of_none e hd
    have e2 : (upd (upd H dx (.own o)) o (.ins C dx [])) b = some u := by rw [upd_ne hbo, upd_ne hbd]; exact e
    exact hk b u hbo (kept e2 hp)
structure PolyC (K : PySem.W.Frag) (C : Addr) : Prop where
  cls : Cls K C
  na : NoAttr K C "coefs"
theorem val_coefs (P : PolyC K C) (ha : Val ta σ H (.ref o)) (hp : H o = some (.ins C dx [("coefs", .ref t)])) : Val (tFld K ta "coefs") σ H (.ref t) := fun Q q => ha _ ⟨o, C, dx, _, _, rfl, hp, P.cls, P.na, rfl, q⟩
theorem val_lenI (ha : Val ta σ H (.ref t)) (h : SqI K H t xs) : Val (tCB (fun xs H Q => ∃ p ys, xs = [V.ref p] ∧ (SqL K H p ys ∨ SqT K H p ys) ∧ Q (V.int ys.length) H) (tCons ta tNil)) σ H (.int xs.length) := fun Q q => ha _ ⟨t, _, rfl, h, by rw [iVs_len]; exact q⟩
/-- x[k] of a Poly -/
def coZ (row : List Int) (k : Int) : Int := if 0 ≤ k then co row k.toNat else 0
end
/-! ### == of rows -/
theorem dp_ints {K : PySem.W.Frag} {H : Hp} : ∀ xs : List Int, DpAll K H (iVs xs) (xs.map PyData.int)
  | [] => .nil
  | x :: xs => .cons (.int x) (dp_ints xs)
theorem dp_tup {K : PySem.W.Frag} {H : Hp} {t : Addr} {xs : List Int} (h : SqT K H t (iVs xs)) : Dp K H (.ref t) (.tuple (xs.map PyData.int)) := .tup h (dp_ints xs)
theorem dp_lst {K : PySem.W.Frag} {H : Hp} {t : Addr} {xs : List Int} (h : SqL K H t (iVs xs)) : Dp K H (.ref t) (.list (xs.map PyData.int)) := .lst h (dp_ints xs)
theorem eqv_all : ∀ xs ys : List Int, PyData.eqvAll (xs.map PyData.int) (ys.map PyData.int) = decide (xs = ys)
  | [], [] => rfl
  | [], _ :: _ => rfl
  | _ :: _, [] => rfl
  | x :: xs, y :: ys => by
    show (PyData.eqv (.int x) (.int y) && PyData.eqvAll (xs.map PyData.int) (ys.map PyData.int)) = _
    rw [eqv_all xs ys]
    show ((x == y) && _) = _
    by_cases h : x = y
    · subst h
      simp
    · simp [h]
theorem can_ints : ∀ xs : List Int, PyData.canLayAll0 (xs.map PyData.int) = true
  | [] => by simp [PyData.canLayAll0]
  | _ :: xs => by simp [PyData.canLayAll0, PyData.canLay0, can_ints xs]
theorem depth_ints : ∀ xs : List Int, PyData.depthAll (xs.map PyData.int) ≤ 1
  | [] => by simp [PyData.depthAll]
  | _ :: xs => by
    have := depth_ints xs
    simp only [List.map_cons, PyData.depthAll, PyData.depth]
    omega
theorem shaped_tup (xs : List Int) : SeqAt.shaped (.tuple (xs.map PyData.int)) = true := by
  have := depth_ints xs
  exact Bool.and_eq_true_iff.mpr ⟨by simp [PyData.canLay0, can_ints], decide_eq_true (by simp only [PyData.depth]; omega)⟩
theorem shaped_lst (xs : List Int) : SeqAt.shaped (.list (xs.map PyData.int)) = true := by
  have := depth_ints xs
  exact Bool.and_eq_true_iff.mpr ⟨by simp [PyData.canLay0, can_ints], decide_eq_true (by simp only [PyData.depth]; omega)⟩
section
variable {K : PySem.W.Frag} {H : Hp} {a b : Addr} {xs ys : List Int} {Q : VK}
theorem eqv_tup (xs ys : List Int) : PyData.eqv (.tuple (xs.map PyData.int)) (.tuple (ys.map PyData.int)) = decide (xs = ys) := eqv_all xs ys
theorem eqv_lst (xs ys : List Int) : PyData.eqv (.list (xs.map PyData.int)) (.list (ys.map PyData.int)) = decide (xs = ys) := eqv_all xs ys
theorem rEqT (ha : SqT K H a (iVs xs)) (hb : SqT K H b (iVs ys)) (k : Q (.bl (decide (xs = ys))) H) : rEqD K (.ref a) (.ref b) H Q := ⟨_, _, dp_tup ha, dp_tup hb, shaped_tup xs, shaped_tup ys, by rw [eqv_tup]; exact k⟩
theorem rEqL (ha : SqL K H a (iVs xs)) (hb : SqL K H b (iVs ys)) (k : Q (.bl (decide (xs = ys))) H) : rEqD K (.ref a) (.ref b) H Q := ⟨_, _, dp_lst ha, dp_lst hb, shaped_lst xs, shaped_lst ys, by rw [eqv_lst]; exact k⟩
theorem rNeL (ha : SqL K H a (iVs xs)) (hb : SqL K H b (iVs ys)) (k : Q (.bl (!decide (xs = ys))) H) : rNeD K (.ref a) (.ref b) H Q := ⟨_, _, dp_lst ha, dp_lst hb, shaped_lst xs, shaped_lst ys, by rw [eqv_lst]; exact k⟩
end
end Lk
namespace Lk
open PySem L2
theorem atI_last {xs : List Int} (h : 0 < xs.length) : atI (iVs xs) (-1) = some (.int (co xs (xs.length - 1))) := by
  unfold atI ixN
  rw [iVs_len, if_neg (by decide), if_pos (by omega)]
  show (iVs xs)[((-1 : Int) + xs.length).toNat]? = _
  rw [show ((-1 : Int) + xs.length).toNat = xs.length - 1 by omega]
  exact iVs_get (by omega)
theorem iVs_at {xs : List Int} {i : Nat} {y : V} (h : (iVs xs)[i]? = some y) : i < xs.length ∧ y = .int (co xs i) := by
  have hl : i < xs.length := by
    have := (List.getElem?_eq_some_iff.mp h).1
    rwa [iVs_len] at this
  rw [iVs_get hl] at h
  exact ⟨hl, (Option.some.inj h).symm⟩
end Lk
namespace Lk
open PySem L2
def tStrs (row : List Int) : List Str := row.map fun i => (Str.ofString (toString i))
def showP (row : List Int) : Str := Str.ofString "Poly(" ++ Txt.join (Str.ofString ", ") (tStrs row) ++ Str.ofString ")"
theorem tStrs_snoc (xs : List Int) (x : Int) : tStrs (xs ++ [x]) = tStrs xs ++ [Str.ofString (toString x)] := List.map_append
theorem tStrs_len {row : List Int} (hb : ∀ x ∈ row, x.natAbs.log2 < 1920) : ((tStrs row).map (·.length)).sum ≤ row.length * 1921 := by
  induction row with
  | nil => exact Nat.le_refl _
  | cons x xs ih =>
    have h1 := PyProof.Rows.int_text_len_1921 (hb x List.mem_cons_self)
    have h2 := ih fun y hy => hb y (List.mem_cons_of_mem _ hy)
    unfold tStrs at h2 ⊢
    simp only [List.map_cons, List.sum_cons, List.length_cons, Nat.succ_mul]
    omega
theorem tStrs_join {row : List Int} (hl : row.length ≤ 1000) (hb : ∀ x ∈ row, x.natAbs.log2 < 1920) :
    ((tStrs row).map (·.length)).sum + (tStrs row).length * (Str.ofString ", ").length ≤ 16777216 ∧ (Txt.join (Str.ofString ", ") (tStrs row)).length ≤ 2000000 := by
  have h1 := tStrs_len hb
  have h2 : (tStrs row).length = row.length := List.length_map ..
  have h3 : (Str.ofString ", ").length = 2 := by decide +kernel
  have h4 := StrLaws.join_length_le (Str.ofString ", ") (tStrs row)
  rw [h2, h3] at h4 ⊢
  refine ⟨by omega, ?_⟩
  show (Builtin.Str.glued _ _).length ≤ _
  rw [StrLaws.glued_eq_join]
  omega
end Lk
namespace Lk
open PySem L2
/-! what the defs of Poly and the laws' helpers promise -/
def spTrimmed (K : PySem.W.Frag) : Sp := fun vs H Q _ => ∃ (a : Addr) (row : List Int), vs = [.ref a] ∧ SqI K H a row ∧ ∀ t H', Same H H' → SqT K H' t (iVs (trimI row)) → Q (.ref t) H'
def spOf (K : PySem.W.Frag) (C : Addr) : Sp := fun vs H Q _ => ∃ (a : Addr) (row : List Int), vs = [.ref C, .ref a] ∧ SqI K H a row ∧ row.length ≤ sizeLine ∧ Made K C H (trimI row) Q
def spDegree (K : PySem.W.Frag) (C : Addr) : Sp := fun vs H Q _ => ∃ (p : Addr) (row : List Int), vs = [.ref p] ∧ PolyAt K C H p row ∧ Q (.int ((row.length : Int) - 1)) H
def spLen (K : PySem.W.Frag) (C : Addr) : Sp := fun vs H Q _ => ∃ (p : Addr) (row : List Int), vs = [.ref p] ∧ PolyAt K C H p row ∧ Q (.int (row.length : Int)) H
def spGet (K : PySem.W.Frag) (C : Addr) : Sp := fun vs H Q _ => ∃ (p : Addr) (row : List Int) (j : Int), vs = [.ref p, .int j] ∧ PolyAt K C H p row ∧ Q (.int (coZ row j)) H
def spEq (K : PySem.W.Frag) (C : Addr) : Sp := fun vs H Q _ => ∃ (p : Addr) (row : List Int) (y : V), vs = [.ref p, y] ∧ PolyAt K C H p row ∧
  ((∃ q row2, y = .ref q ∧ PolyAt K C H q row2 ∧ Q (.bl (decide (row = row2))) H) ∨ (∃ t, TyX K H y t ∧ PySem.W.kitOne K t (.ref C) = some false ∧ Q (.bl false) H))
def spRow (K : PySem.W.Frag) (C : Addr) : Sp := fun vs H Q _ => ∃ (p : Addr) (row : List Int), vs = [.ref p] ∧ PolyAt K C H p row ∧ trimI row = row ∧ ∀ l, H l = none → Q (.ref l) (upd H l (.lst (iVs row)))
def spTrim (K : PySem.W.Frag) : Sp := fun vs H Q _ => ∃ (a : Addr) (row : List Int), vs = [.ref a] ∧ SqL K H a (iVs row) ∧ row.length < 2 ^ 24 ∧ ∀ l H', Same H H' → H l = none → H' l = some (.lst (iVs (trimI row))) → Q (.ref l) H'
def spCoefs : Sp := fun vs H Q _ => ∃ b c, vs = [.ref b] ∧ BoxAt H b c ∧ ∀ p row H', row.length ≤ 7 → (∀ x ∈ row, x.natAbs ≤ 10 ^ 20) → H p = none → BoxAt H' b c → Ext b c H H' → H' p = some (.lst (iVs row)) → Q (.ref p) H'
def spRepr (K : PySem.W.Frag) (C : Addr) : Sp := fun vs H Q _ => ∃ (p : Addr) (row : List Int), vs = [.ref p] ∧ PolyAt K C H p row ∧ row.length ≤ 1000 ∧ (∀ x ∈ row, x.natAbs.log2 < 1920) ∧ ∀ H', Same H H' → Q (.str (showP row)) H'
def spShown (K : PySem.W.Frag) : Sp := fun vs H Q _ => ∃ (a : Addr) (row : List Int), vs = [.ref a] ∧ SqL K H a (iVs row) ∧ row.length ≤ 1000 ∧ (∀ x ∈ row, x.natAbs.log2 < 1920) ∧ ∀ H', Same H H' → Q (.str (showP row)) H'
end Lk
namespace Lk
open PySem L2
section
variable {K : PySem.W.Frag} {H : Hp} {l p t C : Addr} {vs ys : List V} {row : List Int} {u : HO}
theorem SqT.pastL (h : SqT K H t vs) (ho : H l = some (.lst ys)) : SqT K (upd H l u) t vs := by
  rcases h with (h | ⟨w, h⟩) | h
  · exact .inl (.inl (by rw [upd_ne (fun e => by rw [e, ho] at h; cases h)]; exact h))
  · exact .inl (.inr ⟨w, by rw [upd_ne (fun e => by rw [e, ho] at h; cases h)]; exact h⟩)
  · exact .inr h
theorem PolyAt.pastL (h : PolyAt K C H p row) (ho : H l = some (.lst ys)) : PolyAt K C (upd H l u) p row := by
  obtain ⟨dx, t, h1, h2⟩ := h
  exact ⟨dx, t, by rw [upd_ne (fun e => by rw [e, ho] at h1; cases h1)]; exact h1, SqT.pastL h2 ho⟩
theorem iVs_app (xs ys : List Int) : iVs (xs ++ ys) = iVs xs ++ iVs ys := List.map_append
end
end Lk
namespace Lk
open PySem L2
theorem iVs_cutE (xs : List Int) (lo hi : Option Int) : ∃ zs : List Int, cutV (iVs xs) lo hi = iVs zs ∧ zs.length ≤ xs.length := by
  have e : cutV (iVs xs) lo hi = iVs ((xs.drop (HT.sIx (iVs xs).length 0 lo)).take (HT.sIx (iVs xs).length (iVs xs).length hi - HT.sIx (iVs xs).length 0 lo)) := by
    unfold cutV iVs
    rw [List.map_take, List.map_drop]
  refine ⟨_, e, ?_⟩
  rw [List.length_take, List.length_drop]
  omega
end Lk
/-! what an expression comes to when it may lay new objects: a property of the value -/
namespace Lk
open PySem L2
/-- te comes to a value with R; the heap only grows -/
def EvR (te : TE) (σ : L2.St) (H : Hp) (R : Hp → V → Prop) : Prop := ∀ H1, Same H H1 → ∀ Q : VK, (∀ v H2, Same H1 H2 → R H2 v → Q v H2) → te σ H1 Q
/-- kept by growth -/
class Up (R : Hp → V → Prop) : Prop where
  up : ∀ {H H' : Hp} {v : V}, Same H H' → R H v → R H' v
def isV (v : V) : Hp → V → Prop := fun _ u => u = v
def isL (K : PySem.W.Frag) (row : List Int) : Hp → V → Prop := fun H v => ∃ p, v = .ref p ∧ SqL K H p (iVs row)
def isT (K : PySem.W.Frag) (row : List Int) : Hp → V → Prop := fun H v => ∃ p, v = .ref p ∧ SqT K H p (iVs row)
def isP (K : PySem.W.Frag) (C : Addr) (row : List Int) : Hp → V → Prop := fun H v => ∃ p, v = .ref p ∧ PolyAt K C H p row
instance {v : V} : Up (isV v) := ⟨fun _ h => h⟩
instance {K : PySem.W.Frag} {row : List Int} : Up (isL K row) := ⟨fun e ⟨p, h1, h2⟩ => ⟨p, h1, e.seq h2⟩⟩
instance {K : PySem.W.Frag} {row : List Int} : Up (isT K row) := ⟨fun e ⟨p, h1, h2⟩ => ⟨p, h1, e.tup h2⟩⟩
instance {K : PySem.W.Frag} {C : Addr} {row : List Int} : Up (isP K C row) := ⟨fun e ⟨p, h1, h2⟩ => ⟨p, h1, h2.same e⟩⟩
section
variable {K : PySem.W.Frag} {C : Addr} {σ : L2.St} {H H' : Hp} {ta tb te : TE} {R S T : Hp → V → Prop} {v w : V} {r : R2} {row row2 xs ys : List Int} {i : Nat} {E : XK} {sp : Sp} {n : Int}
theorem EvR.mono (h : EvR te σ H R) (e : Same H H') : EvR te σ H' R := fun H1 e1 => h H1 (e.trans e1)
theorem EvR.imp (h : EvR te σ H R) (k : ∀ H v, R H v → S H v) : EvR te σ H S := fun H1 e1 Q q => h H1 e1 Q fun v H2 e2 r => q v H2 e2 (k _ _ r)
theorem er_var [Up R] (h : σ[i]? = some (some v)) (hr : R H v) : EvR (tVar i) σ H R := fun H1 e Q q => ⟨v, h, q v H1 (Same.refl _) (Up.up e hr)⟩
theorem er_c : EvR (tC v) σ H (isV v) := fun H1 _ Q q => q v H1 (Same.refl _) rfl
theorem er_ev (h : EvR te σ H (isV v)) : Evl.Ev te σ H v := fun H1 e Q q => h H1 e Q fun u H2 e2 r => (show u = v from r) ▸ q H2 e2
theorem er_of (h : Evl.Ev te σ H v) : EvR te σ H (isV v) := fun H1 e Q q => h H1 e Q fun H2 e2 => q v H2 e2 rfl
theorem er_val (h : ∀ H1, Same H H1 → Val te σ H1 v) : EvR te σ H (isV v) := fun H1 e Q q => h H1 e Q (q v H1 (Same.refl _) rfl)
theorem er_op [Up R] (ha : EvR ta σ H R) (hb : EvR tb σ H S) (hr : ∀ H1 x y, Same H H1 → R H1 x → S H1 y → ∀ Q : VK, (∀ v H2, Same H1 H2 → T H2 v → Q v H2) → r x y H1 Q) : EvR (tOp r ta tb) σ H T := fun H1 e Q q =>
  ha H1 e _ fun x H2 e2 hx => hb H2 (e.trans e2) _ fun y H3 e3 hy => hr H3 x y ((e.trans e2).trans e3) (Up.up e3 hx) hy Q fun z H4 e4 hz => q z H4 ((e2.trans e3).trans e4) hz
theorem er_un {r : V → Hp → VK → Prop} (ha : EvR ta σ H R) (hr : ∀ H1 x, R H1 x → ∀ Q : VK, (∀ v H2, Same H1 H2 → T H2 v → Q v H2) → r x H1 Q) : EvR (tUn r ta) σ H T := fun H1 e Q q =>
  ha H1 e _ fun x H2 e2 hx => hr H2 x hx Q fun z H4 e4 hz => q z H4 (e2.trans e4) hz
theorem er_cb1 {r : List V → Hp → VK → Prop} (ha : EvR ta σ H R) (hr : ∀ H1 x, R H1 x → ∀ Q : VK, (∀ v H2, Same H1 H2 → T H2 v → Q v H2) → r [x] H1 Q) : EvR (tCB r (tCons ta tNil)) σ H T := fun H1 e Q q =>
  ha H1 e _ fun x H2 e2 hx => hr H2 x hx Q fun z H4 e4 hz => q z H4 (e2.trans e4) hz
theorem er_call1 (ha : EvR ta σ H R) (hr : ∀ H1 x, R H1 x → ∀ Q : VK, (∀ v H2, Same H1 H2 → T H2 v → Q v H2) → sp [x] H1 Q E) : EvR (tCall sp [] E (tCons ta tNil)) σ H T := fun H1 e Q q =>
  ha H1 e _ fun x H2 e2 hx => hr H2 x hx Q fun z H4 e4 hz => q z H4 (e2.trans e4) hz
theorem er_call2 [Up R] (ha : EvR ta σ H R) (hb : EvR tb σ H S) (hr : ∀ H1 x y, R H1 x → S H1 y → ∀ Q : VK, (∀ v H2, Same H1 H2 → T H2 v → Q v H2) → sp [x, y] H1 Q E) : EvR (tCall sp [] E (tCons ta (tCons tb tNil))) σ H T := fun H1 e Q q =>
  ha H1 e _ fun x H2 e2 hx => hb H2 (e.trans e2) _ fun y H3 e3 hy => hr H3 x y (Up.up e3 hx) hy Q fun z H4 e4 hz => q z H4 ((e2.trans e3).trans e4) hz
theorem er_int {f : Int → Int → Int} {a b : Int} (ha : EvR ta σ H (isV (.int a))) (hb : EvR tb σ H (isV (.int b))) : EvR (tOp (rI0 fun i j => .int (f i j)) ta tb) σ H (isV (.int (f a b))) :=
  er_op ha hb fun H1 x y _ hx hy Q q => ⟨a, b, hx, hy, q _ H1 (Same.refl _) rfl⟩
theorem er_ne (ha : EvR ta σ H (isV v)) (hb : EvR tb σ H (isV w)) (hs : scal v w = true) : EvR (tOp rNe ta tb) σ H (isV (.bl (!decide (v = w)))) :=
  er_op ha hb fun H1 x y _ hx hy Q q => by
    cases (show x = v from hx)
    cases (show y = w from hy)
    exact ⟨hs, q _ H1 (Same.refl _) rfl⟩
theorem er_eq (ha : EvR ta σ H (isV v)) (hb : EvR tb σ H (isV w)) (hs : scal v w = true) : EvR (tOp rEq ta tb) σ H (isV (.bl (decide (v = w)))) :=
  er_op ha hb fun H1 x y _ hx hy Q q => by
    cases (show x = v from hx)
    cases (show y = w from hy)
    exact ⟨hs, q _ H1 (Same.refl _) rfl⟩
theorem er_isB {a b : Bool} (ha : EvR ta σ H (isV (.bl a))) (hb : EvR tb σ H (isV (.bl b))) : EvR (tOp rIsB ta tb) σ H (isV (.bl (decide (a = b)))) := er_op ha hb fun H1 x y _ hx hy Q q => ⟨a, b, hx, hy, q _ H1 (Same.refl _) rfl⟩
theorem er_notB {a b : Bool} (ha : EvR ta σ H (isV (.bl a))) (hb : EvR tb σ H (isV (.bl b))) : EvR (tOp rNotB ta tb) σ H (isV (.bl (!decide (a = b)))) := er_op ha hb fun H1 x y _ hx hy Q q => ⟨a, b, hx, hy, q _ H1 (Same.refl _) rfl⟩
/-! lists and tuples of ints -/
theorem er_neL (ha : EvR ta σ H (isL K xs)) (hb : EvR tb σ H (isL K ys)) : EvR (tOp (rNeD K) ta tb) σ H (isV (.bl (!decide (xs = ys)))) :=
  er_op ha hb fun H1 _ _ _ ⟨p, ex, hx⟩ ⟨q, ey, hy⟩ Q k => by
    subst ex; subst ey
    exact rNeL hx hy (k _ H1 (Same.refl _) rfl)
theorem er_eqL (ha : EvR ta σ H (isL K xs)) (hb : EvR tb σ H (isL K ys)) : EvR (tOp (rEqD K) ta tb) σ H (isV (.bl (decide (xs = ys)))) :=
  er_op ha hb fun H1 _ _ _ ⟨p, ex, hx⟩ ⟨q, ey, hy⟩ Q k => by
    subst ex; subst ey
    exact rEqL hx hy (k _ H1 (Same.refl _) rfl)
theorem er_lenL (ha : EvR ta σ H (isL K xs)) : EvR (tCB (fun xs H Q => ∃ p ys, xs = [V.ref p] ∧ (SqL K H p ys ∨ SqT K H p ys) ∧ Q (V.int ys.length) H) (tCons ta tNil)) σ H (isV (.int xs.length)) :=
  er_cb1 ha fun H1 _ ⟨p, ex, hx⟩ Q k => ⟨p, _, by rw [ex], .inl hx, by rw [iVs_len]; exact k _ H1 (Same.refl _) rfl⟩
theorem er_list (ha : EvR ta σ H (isL K xs)) : EvR (tCB (fun xs H Q => ∃ p ys, xs = [V.ref p] ∧ (SqL K H p ys ∨ SqT K H p ys) ∧ ∀ l, H l = none → Q (V.ref l) (upd H l (.lst ys))) (tCons ta tNil)) σ H (isL K xs) :=
  er_cb1 ha fun H1 _ ⟨p, ex, hx⟩ Q k => ⟨p, _, by rw [ex], .inl hx, fun l hl => k _ _ (same_upd hl) ⟨l, rfl, SqL.of upd_same⟩⟩
theorem er_tuple (ha : EvR ta σ H (isL K xs)) : EvR (tCB (fun xs H Q => ∃ p ys, xs = [V.ref p] ∧ ((SqL K H p ys ∧ ∀ l, H l = none → Q (V.ref l) (upd H l (.tup ys))) ∨ (SqT K H p ys ∧ Q (V.ref p) H))) (tCons ta tNil)) σ H (isT K xs) :=
  er_cb1 ha fun H1 _ ⟨p, ex, hx⟩ Q k => ⟨p, _, by rw [ex], .inl ⟨hx, fun l hl => k _ _ (same_upd hl) ⟨l, rfl, SqT.of upd_same⟩⟩⟩
theorem er_lst {t : TA} (ha : ∀ H1, Same H H1 → ValA t σ H1 (iVs xs)) (hl : xs.length ≤ sizeLine) : EvR (tLst t) σ H (isL K xs) := fun H1 e Q q =>
  ha H1 e _ ⟨by rw [iVs_len]; exact hl, fun p hp => q _ _ (same_upd hp) ⟨p, rfl, SqL.of upd_same⟩⟩
/-! polynomials -/
theorem er_row (ha : EvR ta σ H (isP K C row)) (ht : trimI row = row) : EvR (tCall (spRow K C) [] E (tCons ta tNil)) σ H (isL K row) :=
  er_call1 ha fun H1 _ ⟨p, ex, hx⟩ Q k => ⟨p, row, by rw [ex], hx, ht, fun l hl => k _ _ (same_upd hl) ⟨l, rfl, SqL.of upd_same⟩⟩
theorem er_trim (ha : EvR ta σ H (isL K row)) (hl : row.length < 2 ^ 24) : EvR (tCall (spTrim K) [] E (tCons ta tNil)) σ H (isL K (trimI row)) :=
  er_call1 ha fun H1 _ ⟨p, ex, hx⟩ Q k => ⟨p, row, by rw [ex], hx, hl, fun l H2 s2 _ h2 => k _ _ s2 ⟨l, rfl, SqL.of h2⟩⟩
theorem er_polyOf (ha : EvR ta σ H (fun H v => ∃ p, v = .ref p ∧ SqI K H p row)) (hl : row.length ≤ sizeLine) : EvR (ClX.tCMeth C (spOf K C) E (tC (.ref C)) (tCons ta tNil)) σ H (isP K C (trimI row)) := fun H1 e Q q =>
  ⟨rfl, ha H1 e _ fun x H2 e2 ⟨p, ex, hx⟩ => ⟨p, row, by rw [ex], hx, hl, fun o H3 s3 _ ho => q _ H3 (e2.trans s3) ⟨o, rfl, ho⟩⟩⟩
theorem isL_I {H : Hp} {v : V} (h : isL K row H v) : ∃ p, v = .ref p ∧ SqI K H p row := let ⟨p, e, h⟩ := h; ⟨p, e, .inl h⟩
theorem isT_I {H : Hp} {v : V} (h : isT K row H v) : ∃ p, v = .ref p ∧ SqI K H p row := let ⟨p, e, h⟩ := h; ⟨p, e, .inr h⟩
theorem er_lenP (ha : EvR ta σ H (isP K C row)) (hl : row.length < 2 ^ 62) : EvR (tCB (rLenO C (spLen K C) E) (tCons ta tNil)) σ H (isV (.int row.length)) :=
  er_cb1 ha fun H1 _ ⟨p, ex, hx⟩ Q k => by
    obtain ⟨dx, t, h1, h2⟩ := id hx
    exact ⟨p, dx, _, by rw [ex], h1, p, row, rfl, hx, row.length, rfl, by omega, by omega, k _ H1 (Same.refl _) rfl⟩
theorem er_degree (ha : EvR ta σ H (isP K C row)) : EvR (tProp C (spDegree K C) [] E ta) σ H (isV (.int ((row.length : Int) - 1))) := fun H1 e Q q =>
  ha H1 e _ fun x H2 e2 ⟨p, ex, hx⟩ => by
    obtain ⟨dx, t, h1, h2⟩ := id hx
    exact ⟨p, dx, _, ex, h1, p, row, rfl, hx, q _ H2 e2 rfl⟩
theorem er_repr (ha : EvR ta σ H (isP K C row)) (hl : row.length ≤ 1000) (hb : ∀ x ∈ row, x.natAbs.log2 < 1920) : EvR (tCB (rReprO C (spRepr K C) E) (tCons ta tNil)) σ H (isV (.str (showP row))) :=
  er_cb1 ha fun H1 _ ⟨p, ex, hx⟩ Q k => by
    obtain ⟨dx, t, h1, h2⟩ := id hx
    exact ⟨p, dx, _, by rw [ex], h1, p, row, rfl, hx, hl, hb, fun H2 s2 => ⟨_, rfl, k _ H2 s2 rfl⟩⟩
theorem er_shown (ha : EvR ta σ H (isL K row)) (hl : row.length ≤ 1000) (hb : ∀ x ∈ row, x.natAbs.log2 < 1920) : EvR (tCall (spShown K) [] E (tCons ta tNil)) σ H (isV (.str (showP row))) :=
  er_call1 ha fun H1 _ ⟨p, ex, hx⟩ Q k => ⟨p, row, by rw [ex], hx, hl, hb, fun H2 s2 => k _ H2 s2 rfl⟩
theorem er_get (ha : EvR ta σ H (isP K C row)) (hb : EvR tb σ H (isV (.int n))) : EvR (tOp (rIxO C (spGet K C) E) ta tb) σ H (isV (.int (coZ row n))) :=
  er_op ha hb fun H1 _ _ _ ⟨p, ex, hx⟩ hy Q k => by
    obtain ⟨dx, t, h1, h2⟩ := id hx
    exact ⟨p, dx, _, n, ex, hy, h1, p, row, n, by rw [ex, show _ = V.int n from hy], hx, k _ H1 (Same.refl _) rfl⟩
structure PolyE (K : PySem.W.Frag) (C : Addr) : Prop where
  ty : ∀ {H : Hp} {p dx : Addr} {fs : List (Str × V)}, H p = some (.ins C dx fs) → TyX K H (.ref p) (.ref C)
  nf : PySem.W.notFirst K C (.ref C) = true
theorem er_eqP (P : PolyE K C) (ha : EvR ta σ H (isP K C row)) (hb : EvR tb σ H (isP K C row2)) : EvR (tOp (rEqO K C (spEq K C) E) ta tb) σ H (isV (.bl (decide (row = row2)))) :=
  er_op ha hb fun H1 _ _ _ ⟨p, ex, hx⟩ ⟨q, ey, hy⟩ Q k => by
    subst ex; subst ey
    obtain ⟨dx, t, h1, h2⟩ := id hx
    obtain ⟨dx', t', h1', h2'⟩ := id hy
    exact ⟨p, dx, _, _, rfl, h1, P.ty h1', P.nf, p, row, _, rfl, hx, .inl ⟨q, row2, rfl, hy, k _ H1 (Same.refl _) rfl⟩⟩
theorem er_neP (P : PolyE K C) (ha : EvR ta σ H (isP K C row)) (hb : EvR tb σ H (isP K C row2)) : EvR (tOp (rNeO K C (spEq K C) E) ta tb) σ H (isV (.bl (!decide (row = row2)))) :=
  er_op ha hb fun H1 _ _ _ ⟨p, ex, hx⟩ ⟨q, ey, hy⟩ Q k => by
    subst ex; subst ey
    obtain ⟨dx, t, h1, h2⟩ := id hx
    obtain ⟨dx', t', h1', h2'⟩ := id hy
    exact ⟨p, dx, _, _, rfl, h1, P.ty h1', P.nf, p, row, _, rfl, hx, .inl ⟨q, row2, rfl, hy, _, rfl, k _ H1 (Same.refl _) rfl⟩⟩
/-- == and != with what is no polynomial -/
def NotP (K : PySem.W.Frag) (C : Addr) (R : Hp → V → Prop) : Prop := ∀ H x, R H x → ∃ t, TyX K H x t ∧ PySem.W.notFirst K C t = true ∧ PySem.W.kitOne K t (.ref C) = some false
theorem er_eqX (N : NotP K C R) (ha : EvR ta σ H (isP K C row)) (hb : EvR tb σ H R) : EvR (tOp (rEqO K C (spEq K C) E) ta tb) σ H (isV (.bl false)) :=
  er_op ha hb fun H1 _ y _ ⟨p, ex, hx⟩ hy Q k => by
    subst ex
    obtain ⟨dx, t, h1, h2⟩ := id hx
    obtain ⟨ty, n1, n2, n3⟩ := N _ _ hy
    exact ⟨p, dx, _, ty, rfl, h1, n1, n2, p, row, _, rfl, hx, .inr ⟨ty, n1, n3, k _ H1 (Same.refl _) rfl⟩⟩
theorem er_neX (N : NotP K C R) (ha : EvR ta σ H (isP K C row)) (hb : EvR tb σ H R) : EvR (tOp (rNeO K C (spEq K C) E) ta tb) σ H (isV (.bl true)) :=
  er_op ha hb fun H1 _ y _ ⟨p, ex, hx⟩ hy Q k => by
    subst ex
    obtain ⟨dx, t, h1, h2⟩ := id hx
    obtain ⟨ty, n1, n2, n3⟩ := N _ _ hy
    exact ⟨p, dx, _, ty, rfl, h1, n1, n2, p, row, _, rfl, hx, .inr ⟨ty, n1, n3, _, rfl, k _ H1 (Same.refl _) rfl⟩⟩
end
end Lk
namespace Lk
open PySem L2
theorem SqL.ty {K : PySem.W.Frag} {H : Hp} {a : Addr} {vs : List V} (h : SqL K H a vs) : TyX K H (.ref a) (.type "list") := by
  rcases h with (h | ⟨w, h⟩) | ⟨w, its, n, h, hc, _⟩
  · exact .base (.lst h)
  · exact .base (.frz h)
  · exact .kList h hc
theorem er_makeR {K : PySem.W.Frag} {C : Addr} {σ : L2.St} {H : Hp} {E : XK} {t : TA} {row : List Int} (ha : ∀ H1, Same H H1 → ValA t σ H1 (iVs row)) (hl : row.length ≤ sizeLine) : EvR (StX.tMakeR C (starSp 1 (spInit K C)) E t) σ H (isP K C (trimI row)) := fun H1 e Q q =>
  ha H1 e _ fun o dx ho hd hne => make_row hl (fun p H' s' _ hp => q _ H' s' ⟨p, rfl, hp⟩) o dx ho hd hne
theorem er_cat {K : PySem.W.Frag} {σ : L2.St} {H : Hp} {ta tb : TE} {xs ys : List V} (ha : EvR ta σ H (fun H v => ∃ p, v = .ref p ∧ H p = some (.lst xs))) (hb : EvR tb σ H (fun H v => ∃ p, v = .ref p ∧ H p = some (.lst ys))) (hl : xs.length + ys.length ≤ sizeLine) :
    EvR (tOp rCat ta tb) σ H (fun H v => ∃ p, v = .ref p ∧ H p = some (.lst (xs ++ ys))) :=
  @er_op σ H ta tb (fun H v => ∃ p, v = .ref p ∧ H p = some (.lst xs)) _ _ rCat ⟨fun e ⟨p, h1, h2⟩ => ⟨p, h1, e _ _ h2⟩⟩ ha hb fun H1 x y _ ⟨p, ex, hx⟩ ⟨q, ey, hy⟩ Q k => ⟨p, q, xs, ys, ex, ey, hx, hy, hl, fun r hr => k _ _ (same_upd hr) ⟨r, rfl, upd_same⟩⟩
end Lk
namespace Lk
open PySem L2
/-- a list of ints of the run's own -/
def isN (row : List Int) : Hp → V → Prop := fun H v => ∃ p, v = .ref p ∧ H p = some (.lst (iVs row))
instance {row : List Int} : Up (isN row) := ⟨fun e ⟨p, h1, h2⟩ => ⟨p, h1, e _ _ h2⟩⟩
theorem isN_L {K : PySem.W.Frag} {row : List Int} {H : Hp} {v : V} (h : isN row H v) : isL K row H v := let ⟨p, e, h⟩ := h; ⟨p, e, SqL.of h⟩
section
variable {K : PySem.W.Frag} {C : Addr} {σ : L2.St} {H H' : Hp} {ta tb te : TE} {R S T : Hp → V → Prop} {v w : V} {row row2 xs ys : List Int} {E : XK} {n : Int} {b : Bool}
theorem er_nl {t : TA} (ha : ∀ H1, Same H H1 → ValA t σ H1 (iVs xs)) (hl : xs.length ≤ sizeLine) : EvR (tLst t) σ H (isN xs) := fun H1 e Q q =>
  ha H1 e _ ⟨by rw [iVs_len]; exact hl, fun p hp => q _ _ (same_upd hp) ⟨p, rfl, upd_same⟩⟩
theorem er_catN (ha : EvR ta σ H (isN xs)) (hb : EvR tb σ H (isN ys)) (hl : xs.length + ys.length ≤ sizeLine) : EvR (tOp rCat ta tb) σ H (isN (xs ++ ys)) :=
  er_op ha hb fun H1 x y _ ⟨p, ex, hx⟩ ⟨q, ey, hy⟩ Q k => ⟨p, q, _, _, ex, ey, hx, hy, by rw [iVs_len, iVs_len]; exact hl, fun r hr => k _ _ (same_upd hr) ⟨r, rfl, by rw [upd_same, iVs_app]⟩⟩
theorem er_ixL (ha : EvR ta σ H (isL K xs)) (hb : EvR tb σ H (isV (.int n))) (h0 : 0 ≤ n) (h1 : n < xs.length) : EvR (tOp (rIxL K) ta tb) σ H (isV (.int (co xs n.toNat))) :=
  er_op ha hb fun H1 x y _ ⟨p, ex, hx⟩ hy Q k => ⟨p, _, n, _, ex, hy, hx, atI_iVs h0 h1, k _ H1 (Same.refl _) rfl⟩
theorem er_isInt (ha : EvR ta σ H (isV (.int n))) {sp : Sp} (hs : ∀ H1 (Q : VK), Q (.bl true) H1 → sp [V.int n] H1 Q E) : EvR (tCall sp [] E (tCons ta tNil)) σ H (isV (.bl true)) :=
  er_call1 ha fun H1 x hx Q k => by
    cases (show x = _ from hx)
    exact hs H1 Q (k _ H1 (Same.refl _) rfl)
theorem t_no (h : EvR te σ H (isV (.bl b))) (e : b = false) : Evl.EvT (tTest te) σ H false := Evl.et_is (Evl.et_test (er_ev h)) e
theorem t_notB (h : EvR te σ H (isV (.bl b))) (e : b = true) : Evl.EvT (tNot (tB te)) σ H false := Evl.et_is (Evl.et_not (Evl.et_B (er_ev h))) (by rw [e]; rfl)
end
end Lk
/-! products of coefficients: sums over ranges, convolution, powers, bounds -/
namespace Lk
def S (f : Nat → Int) : Nat → Int
  | 0 => 0
  | n + 1 => S f n + f n
theorem S_zero {f : Nat → Int} {n : Nat} (h : ∀ i, i < n → f i = 0) : S f n = 0 := by
  induction n with
  | zero => rfl
  | succ n ih =>
    show S f n + f n = 0
    rw [ih fun i hi => h i (by omega), h n (by omega)]
    rfl
theorem S_congr {f g : Nat → Int} {n : Nat} (h : ∀ i, i < n → f i = g i) : S f n = S g n := by
  induction n with
  | zero => rfl
  | succ n ih =>
    show S f n + f n = S g n + g n
    rw [ih fun i hi => h i (by omega), h n (by omega)]
theorem S_add (f g : Nat → Int) (n : Nat) : S (fun i => f i + g i) n = S f n + S g n := by
  induction n with
  | zero => rfl
  | succ n ih =>
    show S (fun i => f i + g i) n + (f n + g n) = (S f n + f n) + (S g n + g n)
    rw [ih]
    omega
theorem S_mul (c : Int) (f : Nat → Int) (n : Nat) : S (fun i => c * f i) n = c * S f n := by
  induction n with
  | zero => exact (Int.mul_zero c).symm
  | succ n ih =>
    show S (fun i => c * f i) n + c * f n = c * (S f n + f n)
    rw [ih, Int.mul_add]
theorem S_mul' (c : Int) (f : Nat → Int) (n : Nat) : S (fun i => f i * c) n = S f n * c := by
  rw [Int.mul_comm, ← S_mul]
  exact S_congr fun i _ => Int.mul_comm _ _
theorem S_le {f g : Nat → Int} {n : Nat} (h : ∀ i, i < n → f i ≤ g i) : S f n ≤ S g n := by
  induction n with
  | zero => exact Int.le_refl _
  | succ n ih =>
    show S f n + f n ≤ S g n + g n
    have := ih fun i hi => h i (by omega)
    have := h n (by omega)
    omega
theorem S_abs (f : Nat → Int) (n : Nat) : ((S f n).natAbs : Int) ≤ S (fun i => ((f i).natAbs : Int)) n := by
  induction n with
  | zero => exact Int.le_refl _
  | succ n ih =>
    show ((S f n + f n).natAbs : Int) ≤ S (fun i => ((f i).natAbs : Int)) n + ((f n).natAbs : Int)
    omega
theorem S_head (f : Nat → Int) (n : Nat) : S f (n + 1) = f 0 + S (fun i => f (i + 1)) n := by
  induction n with
  | zero => show 0 + f 0 = f 0 + 0; omega
  | succ n ih =>
    show S f (n + 1) + f (n + 1) = f 0 + (S (fun i => f (i + 1)) n + f (n + 1))
    rw [ih]
    omega
theorem S_rev (n : Nat) : ∀ f : Nat → Int, S f (n + 1) = S (fun i => f (n - i)) (n + 1) := by
  induction n with
  | zero => intro f; rfl
  | succ n ih =>
    intro f
    rw [S_head (fun i => f (n + 1 - i))]
    show S f (n + 1) + f (n + 1) = f (n + 1 - 0) + S (fun i => f (n + 1 - (i + 1))) (n + 1)
    rw [ih f, S_congr (f := fun i => f (n + 1 - (i + 1))) (g := fun i => f (n - i)) fun i _ => by rw [Nat.add_sub_add_right]]
    rw [Nat.sub_zero]
    omega
/-- what stands behind is 0 -/
theorem S_more {f : Nat → Int} {n m : Nat} (hn : n ≤ m) (h : ∀ i, n ≤ i → i < m → f i = 0) : S f m = S f n := by
  induction m with
  | zero => rw [show n = 0 by omega]
  | succ m ih =>
    rcases Nat.eq_or_lt_of_le hn with e | l
    · rw [e]
    · show S f m + f m = S f n
      rw [ih (by omega) fun i h1 h2 => h i h1 (by omega), h m (by omega) (by omega), Int.add_zero]
theorem S_shift {f : Nat → Int} {s m : Nat} (h : ∀ i, i < s → f i = 0) : S f (s + m) = S (fun j => f (s + j)) m := by
  induction m with
  | zero => exact S_zero h
  | succ m ih =>
    show S f (s + m) + f (s + m) = S (fun j => f (s + j)) m + f (s + m)
    rw [ih]
theorem S_tri (F : Nat → Nat → Int) (n : Nat) : S (fun i => S (fun j => F j (i - j)) (i + 1)) n = S (fun j => S (fun l => F j l) (n - j)) n := by
  induction n with
  | zero => rfl
  | succ n ih =>
    show S (fun i => S (fun j => F j (i - j)) (i + 1)) n + S (fun j => F j (n - j)) (n + 1) = S (fun j => S (fun l => F j l) (n + 1 - j)) (n + 1)
    rw [ih, S_congr (f := fun j => S (fun l => F j l) (n + 1 - j)) (g := fun j => S (fun l => F j l) (n - j) + F j (n - j)) (n := n + 1) fun j hj => by
      rw [show n + 1 - j = (n - j) + 1 by omega]
      rfl]
    rw [S_add]
    show _ = (S (fun j => S (fun l => F j l) (n - j)) n + S (fun l => F n l) (n - n)) + _
    rw [Nat.sub_self]
    show _ = (_ + 0) + _
    omega
/-- the product's coefficient -/
def cv (f g : Nat → Int) (k : Nat) : Int := S (fun i => f i * g (k - i)) (k + 1)
theorem cv_comm (f g : Nat → Int) (k : Nat) : cv f g k = cv g f k := by
  unfold cv
  rw [S_rev]
  refine S_congr fun i hi => ?_
  rw [show k - (k - i) = i by omega, Int.mul_comm]
theorem cv_congr {f f' g g' : Nat → Int} (h1 : ∀ k, f k = f' k) (h2 : ∀ k, g k = g' k) (k : Nat) : cv f g k = cv f' g' k := S_congr fun i _ => by rw [h1, h2]
theorem cv_assoc (f g h : Nat → Int) (k : Nat) : cv (cv f g) h k = cv f (cv g h) k := by
  have e1 : cv (cv f g) h k = S (fun i => S (fun j => (fun j l => f j * g l * h (k - (j + l))) j (i - j)) (i + 1)) (k + 1) := by
    refine S_congr fun i hi => ?_
    show S (fun j => f j * g (i - j)) (i + 1) * h (k - i) = _
    rw [← S_mul']
    refine S_congr fun j hj => ?_
    show _ = f j * g (i - j) * h (k - (j + (i - j)))
    rw [show j + (i - j) = i by omega]
  refine e1.trans ((S_tri (fun j l => f j * g l * h (k - (j + l))) (k + 1)).trans ?_)
  refine S_congr fun j hj => ?_
  show S (fun l => f j * g l * h (k - (j + l))) (k + 1 - j) = f j * cv g h (k - j)
  rw [show k + 1 - j = (k - j) + 1 by omega]
  unfold cv
  rw [← S_mul]
  refine S_congr fun l hl => ?_
  rw [Int.mul_assoc, show k - (j + l) = k - j - l by omega]
def oneC (k : Nat) : Int := if k = 0 then 1 else 0
theorem one_cv (f : Nat → Int) (k : Nat) : cv oneC f k = f k := by
  unfold cv
  rw [S_head]
  rw [S_zero fun i hi => by show (if i + 1 = 0 then 1 else 0) * _ = (0 : Int); rw [if_neg (by omega), Int.zero_mul]]
  show 1 * f (k - 0) + 0 = _
  rw [Nat.sub_zero]
  omega
/-- the n-th power -/
def pw (f : Nat → Int) : Nat → Nat → Int
  | 0 => oneC
  | n + 1 => cv (pw f n) f
theorem pw_add (f : Nat → Int) (a b k : Nat) : cv (pw f a) (pw f b) k = pw f (a + b) k := by
  induction b generalizing k with
  | zero => exact (cv_comm _ _ _).trans (one_cv _ _)
  | succ b ih =>
    show cv (pw f a) (cv (pw f b) f) k = cv (pw f (a + b)) f k
    rw [← cv_assoc]
    exact cv_congr ih (fun _ => rfl) k
theorem pw_congr {f g : Nat → Int} (h : ∀ k, f k = g k) (n k : Nat) : pw f n k = pw g n k := by
  induction n generalizing k with
  | zero => rfl
  | succ n ih => exact cv_congr ih h k
theorem pw_one (f : Nat → Int) (k : Nat) : pw f 1 k = f k := one_cv f k
/-! the sum of all absolute values -/
def Nb (m : Nat) (f : Nat → Int) : Prop := ∀ n, S (fun k => ((f k).natAbs : Int)) n ≤ m
theorem Nb.congr {m : Nat} {f g : Nat → Int} (h : Nb m f) (e : ∀ k, f k = g k) : Nb m g := fun n => by
  rw [← S_congr (f := fun k => ((f k).natAbs : Int)) fun i _ => by rw [e]]
  exact h n
theorem Nb.mono {m n : Nat} {f : Nat → Int} (h : Nb m f) (l : m ≤ n) : Nb n f := fun k => by
  have := h k
  omega
theorem Nb.at {m : Nat} {f : Nat → Int} (h : Nb m f) (k : Nat) : (f k).natAbs ≤ m := by
  have h1 := h (k + 1)
  have h2 : 0 ≤ S (fun k => ((f k).natAbs : Int)) k := by
    have := S_le (f := fun _ => 0) (g := fun k => ((f k).natAbs : Int)) (n := k) fun i _ => Int.natCast_nonneg _
    rw [S_zero (f := fun _ => 0) fun _ _ => rfl] at this
    exact this
  have h3 : S (fun k => ((f k).natAbs : Int)) (k + 1) = S (fun k => ((f k).natAbs : Int)) k + ((f k).natAbs : Int) := rfl
  omega
theorem Nb.mul {a b : Nat} {f g : Nat → Int} (h1 : Nb a f) (h2 : Nb b g) : Nb (a * b) (cv f g) := fun n => by
  refine Int.le_trans (S_le (g := fun k => S (fun i => (fun i l => ((f i).natAbs : Int) * ((g l).natAbs : Int)) i (k - i)) (k + 1)) fun k _ => ?_) ?_
  · refine Int.le_trans (S_abs _ _) (Int.le_of_eq (S_congr fun i _ => ?_))
    rw [Int.natAbs_mul]
    exact Int.natCast_mul _ _
  · refine Int.le_trans (Int.le_of_eq (S_tri (fun i l => ((f i).natAbs : Int) * ((g l).natAbs : Int)) n)) ?_
    refine Int.le_trans (S_le (g := fun i => ((f i).natAbs : Int) * (b : Int)) fun i _ => ?_) ?_
    · show S (fun l => ((f i).natAbs : Int) * ((g l).natAbs : Int)) (n - i) ≤ _
      rw [S_mul]
      exact Int.mul_le_mul_of_nonneg_left (h2 (n - i)) (Int.natCast_nonneg _)
    · rw [S_mul', Int.natCast_mul]
      exact Int.mul_le_mul_of_nonneg_right (h1 n) (Int.natCast_nonneg _)
theorem Nb.one : Nb 1 oneC := fun n => by
  cases n with
  | zero => decide
  | succ n =>
    rw [S_head, S_zero fun i hi => by show (((if i + 1 = 0 then (1 : Int) else 0).natAbs : Nat) : Int) = 0; rw [if_neg (by omega)]; rfl]
    decide
theorem Nb.pw {m : Nat} {f : Nat → Int} (h : Nb m f) (n : Nat) : Nb (m ^ n) (pw f n) := by
  induction n with
  | zero => exact Nb.one
  | succ n ih => exact ih.mul h
end Lk
/-! sums, negatives, multiples of rows; comprehensions over sequences of ints -/
namespace Lk
open PySem L2
def addI (xs ys : List Int) : List Int := (List.range (max xs.length ys.length)).map fun j => co xs j + co ys j
def negI (xs : List Int) : List Int := xs.map fun x => -x
def scaleI (n : Int) (xs : List Int) : List Int := xs.map fun x => n * x
theorem co_map {f : Int → Int} (h0 : f 0 = 0) (xs : List Int) (k : Nat) : co (xs.map f) k = f (co xs k) := by
  unfold co
  rw [List.getD_eq_getElem?_getD, List.getD_eq_getElem?_getD, List.getElem?_map]
  cases xs[k]? with
  | none => exact h0.symm
  | some x => rfl
theorem co_neg (xs : List Int) (k : Nat) : co (negI xs) k = -co xs k := co_map (f := fun x => -x) rfl xs k
theorem co_scale (n : Int) (xs : List Int) (k : Nat) : co (scaleI n xs) k = n * co xs k := co_map (f := fun x => n * x) (Int.mul_zero n) xs k
theorem co_range (n : Nat) (f : Nat → Int) (k : Nat) : co ((List.range n).map f) k = if k < n then f k else 0 := by
  by_cases h : k < n
  · rw [if_pos h, co_lt (by rw [List.length_map, List.length_range]; exact h), List.getElem_map, List.getElem_range]
  · rw [if_neg h, co_ge (by rw [List.length_map, List.length_range]; omega)]
theorem co_add (xs ys : List Int) (k : Nat) : co (addI xs ys) k = co xs k + co ys k := by
  unfold addI
  rw [co_range]
  split
  · rfl
  · rw [co_ge (by omega), co_ge (by omega)]
    rfl
theorem add_len (xs ys : List Int) : (addI xs ys).length = max xs.length ys.length := by
  unfold addI
  rw [List.length_map, List.length_range]
section
variable {K : PySem.W.Frag} {H H' : Hp} {a b p C : Addr} {xs ys row : List Int} {σ : L2.St} {te : TE} {i : Nat} {H1 : Hp} {D : Addr} {Qd : Hp → Prop}
/-- a comprehension over a tuple of ints -/
theorem lcT (f : Int → Int) (hT : SqT K H1 a (iVs xs)) (hD : H1 D = none) (hn : xs.length ≤ sizeLine)
    (he : ∀ x H, x ∈ xs → Same H1 H → Val te ((wipe σ [i]).set i (some (.int x))) H (.int (f x))) (hd : ∀ H, Same H1 H → H D = some (.lst (iVs (xs.map f))) → Qd H) :
    ∃ W : Nat → Nat → Hp → Prop, (∃ m, W 0 m (upd H1 D (.lst []))) ∧ ∀ i' m H, W i' m H →
      ((Itt K a).stop i' H ∧ Qd H) ∨ ((Itt K a).go i' H ∧ ∃ Nx : Hp → Prop, (∀ H', Nx H' → ∃ m', m' < m ∧ W (i' + 1) m' H') ∧ ∀ x H', (Itt K a).yld i' H x H' → gName i x (wipe σ [i]) H' fun σ2 H2 => wipe σ2 [i] = wipe σ [i] ∧ tYes σ2 H2 fun b H3 =>
        if b = true then te σ2 H3 fun y H4 => ∃ acc, H4 D = some (.lst acc) ∧ acc.length < sizeLine ∧ Nx (upd H4 D (.lst (acc ++ [y]))) else Nx H3) := by
  refine lc_tup (xs := iVs xs) (fun j H => Same H1 H ∧ H D = some (.lst (iVs ((xs.take j).map f)))) ⟨same_upd hD, upd_same⟩ (fun j H _ h => h.1.tup hT) ?_ ?_
  · rintro j y H hi ⟨s1, h1⟩
    obtain ⟨hj, rfl⟩ := iVs_at hi
    refine ⟨?_, ?_⟩
    · show ((σ.set i none).set i _).set i none = σ.set i none
      rw [List.set_set, List.set_set]
    · refine he (co xs j) H (by rw [co_lt hj]; exact List.getElem_mem hj) s1 (fun y H4 => ∃ acc, H4 D = some (.lst acc) ∧ acc.length < sizeLine ∧ Same H1 (upd H4 D (.lst (acc ++ [y]))) ∧ (upd H4 D (.lst (acc ++ [y]))) D = some (.lst (iVs ((xs.take (j + 1)).map f)))) ⟨_, h1, ?_, ?_, ?_⟩
      · rw [iVs_len, List.length_map, List.length_take]
        omega
      · exact fun b o e => by rw [upd_ne (ne_of_none e hD)]; exact s1 b o e
      · rw [upd_same, List.take_succ_eq_append_getElem hj, List.map_append, iVs_app, co_lt hj]
        rfl
  · rintro H ⟨s1, h1⟩
    rw [iVs_len, List.take_length] at h1
    exact hd H s1 h1
theorem lcL (f : Int → Int) (hT : SqL K H1 a (iVs xs)) (hD : H1 D = none) (hn : xs.length ≤ sizeLine)
    (he : ∀ x H, x ∈ xs → Same H1 H → Val te ((wipe σ [i]).set i (some (.int x))) H (.int (f x))) (hd : ∀ H, Same H1 H → H D = some (.lst (iVs (xs.map f))) → Qd H) :
    ∃ W : Nat → Nat → Hp → Prop, (∃ m, W 0 m (upd H1 D (.lst []))) ∧ ∀ i' m H, W i' m H →
      ((Itl K a).stop i' H ∧ Qd H) ∨ ((Itl K a).go i' H ∧ ∃ Nx : Hp → Prop, (∀ H', Nx H' → ∃ m', m' < m ∧ W (i' + 1) m' H') ∧ ∀ x H', (Itl K a).yld i' H x H' → gName i x (wipe σ [i]) H' fun σ2 H2 => wipe σ2 [i] = wipe σ [i] ∧ tYes σ2 H2 fun b H3 =>
        if b = true then te σ2 H3 fun y H4 => ∃ acc, H4 D = some (.lst acc) ∧ acc.length < sizeLine ∧ Nx (upd H4 D (.lst (acc ++ [y]))) else Nx H3) := by
  refine lc_list (xs := iVs xs) (fun j H => Same H1 H ∧ H D = some (.lst (iVs ((xs.take j).map f)))) ⟨same_upd hD, upd_same⟩ (fun j H _ h => h.1.seq hT) ?_ ?_
  · rintro j y H hi ⟨s1, h1⟩
    obtain ⟨hj, rfl⟩ := iVs_at hi
    refine ⟨?_, ?_⟩
    · show ((σ.set i none).set i _).set i none = σ.set i none
      rw [List.set_set, List.set_set]
    · refine he (co xs j) H (by rw [co_lt hj]; exact List.getElem_mem hj) s1 (fun y H4 => ∃ acc, H4 D = some (.lst acc) ∧ acc.length < sizeLine ∧ Same H1 (upd H4 D (.lst (acc ++ [y]))) ∧ (upd H4 D (.lst (acc ++ [y]))) D = some (.lst (iVs ((xs.take (j + 1)).map f)))) ⟨_, h1, ?_, ?_, ?_⟩
      · rw [iVs_len, List.length_map, List.length_take]
        omega
      · exact fun b o e => by rw [upd_ne (ne_of_none e hD)]; exact s1 b o e
      · rw [upd_same, List.take_succ_eq_append_getElem hj, List.map_append, iVs_app, co_lt hj]
        rfl
  · rintro H ⟨s1, h1⟩
    rw [iVs_len, List.take_length] at h1
    exact hd H s1 h1
end
theorem iVs_set (xs : List Int) (i : Nat) (x : Int) : (iVs xs).set i (.int x) = iVs (xs.set i x) := List.map_set.symm
theorem co_set {xs : List Int} {i : Nat} (h : i < xs.length) (x : Int) (j : Nat) : co (xs.set i x) j = if j = i then x else co xs j := by
  unfold co
  rw [List.getD_eq_getElem?_getD, List.getD_eq_getElem?_getD, List.getElem?_set]
  by_cases e : i = j
  · subst e
    rw [if_pos rfl, if_pos rfl, if_pos h]
    rfl
  · rw [if_neg e, if_neg (fun z => e z.symm)]
theorem setL_I {H : Hp} {D : Addr} {cur : List Int} {k x : Int} {N : Hp → Prop} (h : H D = some (.lst (iVs cur))) (h0 : 0 ≤ k) (h1 : k < cur.length) (q : N (upd H D (.lst (iVs (cur.set k.toNat x))))) : rSetL (.ref D) (.int k) (.int x) H N := by
  refine ⟨D, _, k, k.toNat, rfl, rfl, h, ?_, by rw [iVs_set]; exact q⟩
  unfold ixN
  rw [iVs_len, if_pos h0, if_pos h1]
theorem dun_add : PySem.dunder "add" = "__add__" := by decide +kernel
theorem dunr_add : dunderR "add" = "__radd__" := by decide +kernel
theorem duni_add : dunderI "add" = "__iadd__" := by decide +kernel
theorem dun_sub : PySem.dunder "sub" = "__sub__" := by decide +kernel
theorem dunr_sub : dunderR "sub" = "__rsub__" := by decide +kernel
theorem duni_sub : dunderI "sub" = "__isub__" := by decide +kernel
theorem dun_mul : PySem.dunder "mul" = "__mul__" := by decide +kernel
theorem dunr_mul : dunderR "mul" = "__rmul__" := by decide +kernel
theorem duni_mul : dunderI "mul" = "__imul__" := by decide +kernel
/-! promises -/
/-- a polynomial or an int, as a row -/
def RowOf (K : PySem.W.Frag) (C : Addr) (H : Hp) (y : V) (row : List Int) : Prop := (∃ p, y = .ref p ∧ PolyAt K C H p row) ∨ (∃ n, y = .int n ∧ row = trimI [n])
theorem RowOf.same {K : PySem.W.Frag} {C : Addr} {H H' : Hp} {y : V} {row : List Int} (h : RowOf K C H y row) (e : Same H H') : RowOf K C H' y row := h.elim (fun ⟨p, a, b⟩ => .inl ⟨p, a, b.same e⟩) .inr
def spCoefAt (K : PySem.W.Frag) : Sp := fun vs H Q _ => ∃ (a : Addr) (row : List Int) (k : Int), vs = [.ref a, .int k] ∧ SqI K H a row ∧ 0 ≤ k ∧ Q (.int (co row k.toNat)) H
def spPlus (K : PySem.W.Frag) : Sp := fun vs H Q _ => ∃ (a b : Addr) (xs ys : List Int), vs = [.ref a, .ref b] ∧ SqI K H a xs ∧ SqI K H b ys ∧ xs.length ≤ 2 ^ 20 ∧ ys.length ≤ 2 ^ 20 ∧ ∀ t H', Same H H' → SqT K H' t (iVs (trimI (addI xs ys))) → Q (.ref t) H'
def spNeg (K : PySem.W.Frag) : Sp := fun vs H Q _ => ∃ (a : Addr) (xs : List Int), vs = [.ref a] ∧ SqT K H a (iVs xs) ∧ xs.length ≤ 2 ^ 20 ∧ ∀ t H', Same H H' → SqT K H' t (iVs (negI xs)) → Q (.ref t) H'
def spRowOf (K : PySem.W.Frag) (C : Addr) : Sp := fun vs H Q _ => ∃ (y : V) (row : List Int), vs = [y] ∧ RowOf K C H y row ∧ ∀ t H', Same H H' → SqT K H' t (iVs row) → Q (.ref t) H'
/-- self op other, F the row of the answer -/
def spBin (F : List Int → List Int → List Int) (K : PySem.W.Frag) (C : Addr) : Sp := fun vs H Q _ => ∃ (p : Addr) (xs : List Int) (y : V) (ys : List Int), vs = [.ref p, y] ∧ PolyAt K C H p xs ∧ RowOf K C H y ys ∧ xs.length ≤ 2 ^ 19 ∧ ys.length ≤ 2 ^ 19 ∧ Made K C H (trimI (F xs ys)) Q
def spNegP (K : PySem.W.Frag) (C : Addr) : Sp := fun vs H Q _ => ∃ (p : Addr) (xs : List Int), vs = [.ref p] ∧ PolyAt K C H p xs ∧ xs.length ≤ 2 ^ 19 ∧ Made K C H (trimI (negI xs)) Q
def subI (xs ys : List Int) : List Int := addI xs (negI ys)
def rsubI (xs ys : List Int) : List Int := addI ys (negI xs)
theorem Made.back {K : PySem.W.Frag} {C : Addr} {H H' : Hp} {row : List Int} {Q : VK} (h : Made K C H row Q) (e : Same H H') : Made K C H' row Q := fun p H2 s2 hp => h p H2 (e.trans s2) (e.free hp)
def spRadd (K : PySem.W.Frag) (C : Addr) : Sp := fun vs H Q _ => ∃ (p : Addr) (xs : List Int) (n : Int), vs = [.ref p, .int n] ∧ PolyAt K C H p xs ∧ xs.length ≤ 2 ^ 19 ∧ Made K C H (trimI (addI xs (trimI [n]))) Q
/-- the laws' own sums -/
def spLawPlus (K : PySem.W.Frag) : Sp := fun vs H Q _ => ∃ (a b : Addr) (xs ys : List Int), vs = [.ref a, .ref b] ∧ SqL K H a (iVs xs) ∧ SqL K H b (iVs ys) ∧ xs.length ≤ 50000 ∧ ys.length ≤ 50000 ∧ ∀ l H', Same H H' → H l = none → H' l = some (.lst (iVs (trimI (addI xs ys)))) → Q (.ref l) H'
def spScaled (K : PySem.W.Frag) : Sp := fun vs H Q _ => ∃ (a : Addr) (xs : List Int) (n : Int), vs = [.ref a, .int n] ∧ SqL K H a (iVs xs) ∧ xs.length ≤ 50000 ∧ (∀ x ∈ xs, x.natAbs < 2 ^ 400000) ∧ n.natAbs < 2 ^ 400000 ∧ ∀ l H', Same H H' → H l = none → H' l = some (.lst (iVs (trimI (scaleI n xs)))) → Q (.ref l) H'
end Lk
namespace Lk
open PySem L2
/-! bounds of a row's ints -/
def Bd (m : Nat) (xs : List Int) : Prop := ∀ k, (co xs k).natAbs ≤ m
theorem bd_of {m : Nat} {xs : List Int} (h : ∀ x ∈ xs, x.natAbs ≤ m) : Bd m xs := fun k => by
  by_cases hk : k < xs.length
  · rw [co_lt hk]
    exact h _ (List.getElem_mem hk)
  · rw [co_ge (by omega)]
    exact Nat.zero_le _
theorem Bd.mem {m : Nat} {xs : List Int} (h : Bd m xs) {x : Int} (hx : x ∈ xs) : x.natAbs ≤ m := by
  obtain ⟨k, hk⟩ := List.getElem?_of_mem hx
  rw [← co_get hk]
  exact h k
theorem Bd.trim {m : Nat} {xs : List Int} (h : Bd m xs) : Bd m (trimI xs) := fun k => by rw [co_trim]; exact h k
theorem Bd.scale {m : Nat} {xs : List Int} (h : Bd m xs) (n : Int) : Bd (n.natAbs * m) (scaleI n xs) := fun k => by rw [co_scale, Int.natAbs_mul]; exact Nat.mul_le_mul_left _ (h k)
theorem Bd.add {m n : Nat} {xs ys : List Int} (h : Bd m xs) (h2 : Bd n ys) : Bd (m + n) (addI xs ys) := fun k => by
  rw [co_add]
  have := h k
  have := h2 k
  omega
theorem Bd.mono {m n : Nat} {xs : List Int} (h : Bd m xs) (l : m ≤ n) : Bd n xs := fun k => Nat.le_trans (h k) l
theorem Bd.lt {m : Nat} {xs : List Int} {b : Nat} (h : Bd m xs) (l : m < 2 ^ b) (hb : b ≤ 400000 := by decide) : ∀ x ∈ xs, x.natAbs < 2 ^ 400000 := fun x hx => Nat.lt_of_le_of_lt (h.mem hx) (Nat.lt_of_lt_of_le l (Nat.pow_le_pow_right (by decide) hb))
theorem co_one_neg (n : Int) (k : Nat) : co [-n] k = -co [n] k := co_neg [n] k
theorem scale_len (n : Int) (xs : List Int) : (scaleI n xs).length = xs.length := List.length_map ..
theorem co_nil (k : Nat) : co [] k = 0 := rfl
section
variable {K : PySem.W.Frag} {C : Addr} {σ : L2.St} {H : Hp} {ta tb te : TE} {R : Hp → V → Prop} {x y : V} {xs ys : List Int} {E : XK} {n : Int} {F : List Int → List Int → List Int} {i : Nat} {t2 : TS} {D : Ends} {Q : VK}
theorem q_asgR (h : EvR te σ H R) (k : ∀ v H1, Same H H1 → R H1 v → t2 D (σ.set i (some v)) H1) : tSeq (tAsg te (gName i)) t2 D σ H := h H (Same.refl _) _ k
theorem s_asgR (h : EvR te σ H R) (k : ∀ v H1, Same H H1 → R H1 v → D.nx (σ.set i (some v)) H1) : tAsg te (gName i) D σ H := h H (Same.refl _) _ k
theorem bin_P (hx : isP K C xs H x) (hy : isP K C ys H y) (lx : xs.length ≤ 2 ^ 19) (ly : ys.length ≤ 2 ^ 19) (k : ∀ v H2, Same H H2 → isP K C (trimI (F xs ys)) H2 v → Q v H2) : rBin C (spBin F K C) E x y H Q := by
  obtain ⟨p, rfl, hp⟩ := hx
  obtain ⟨q, rfl, hq⟩ := hy
  obtain ⟨dx, t, h1, h2⟩ := id hp
  obtain ⟨dx', t', h1', h2'⟩ := id hq
  exact ⟨p, dx, _, q, dx', _, rfl, rfl, h1, h1', p, xs, _, ys, rfl, hp, .inl ⟨q, rfl, hq⟩, lx, ly, fun o H' s' _ ho => k _ H' s' ⟨o, rfl, ho⟩⟩
theorem bin_I (hx : isP K C xs H x) (hy : y = .int n) (lx : xs.length ≤ 2 ^ 19) (k : ∀ v H2, Same H H2 → isP K C (trimI (F xs (trimI [n]))) H2 v → Q v H2) : rBinI C (spBin F K C) E x y H Q := by
  obtain ⟨p, rfl, hp⟩ := hx
  subst hy
  obtain ⟨dx, t, h1, h2⟩ := id hp
  exact ⟨p, dx, _, n, rfl, rfl, h1, p, xs, _, _, rfl, hp, .inr ⟨n, rfl, rfl⟩, lx, Nat.le_trans (trim_len [n]) (by show 1 ≤ 2 ^ 19; decide), fun o H' s' _ ho => k _ H' s' ⟨o, rfl, ho⟩⟩
theorem bin_R (hx : x = .int n) (hy : isP K C ys H y) (ly : ys.length ≤ 2 ^ 19) (k : ∀ v H2, Same H H2 → isP K C (trimI (F ys (trimI [n]))) H2 v → Q v H2) : rBinR C (spBin F K C) E x y H Q := by
  obtain ⟨p, rfl, hp⟩ := hy
  subst hx
  obtain ⟨dx, t, h1, h2⟩ := id hp
  exact ⟨p, dx, _, n, rfl, rfl, h1, p, ys, _, _, rfl, hp, .inr ⟨n, rfl, rfl⟩, ly, Nat.le_trans (trim_len [n]) (by show 1 ≤ 2 ^ 19; decide), fun o H' s' _ ho => k _ H' s' ⟨o, rfl, ho⟩⟩
theorem radd_R (hx : x = .int n) (hy : isP K C ys H y) (ly : ys.length ≤ 2 ^ 19) (k : ∀ v H2, Same H H2 → isP K C (trimI (addI ys (trimI [n]))) H2 v → Q v H2) : rBinR C (spRadd K C) E x y H Q := by
  obtain ⟨p, rfl, hp⟩ := hy
  subst hx
  obtain ⟨dx, t, h1, h2⟩ := id hp
  exact ⟨p, dx, _, n, rfl, rfl, h1, p, ys, n, rfl, hp, ly, fun o H' s' _ ho => k _ H' s' ⟨o, rfl, ho⟩⟩
theorem er_bin (ha : EvR ta σ H (isP K C xs)) (hb : EvR tb σ H (isP K C ys)) (lx : xs.length ≤ 2 ^ 19) (ly : ys.length ≤ 2 ^ 19) : EvR (tOp (rBin C (spBin F K C) E) ta tb) σ H (isP K C (trimI (F xs ys))) :=
  er_op ha hb fun _ _ _ _ hx hy _ k => bin_P hx hy lx ly k
theorem er_binI (ha : EvR ta σ H (isP K C xs)) (hb : EvR tb σ H (isV (.int n))) (lx : xs.length ≤ 2 ^ 19) : EvR (tOp (rBinI C (spBin F K C) E) ta tb) σ H (isP K C (trimI (F xs (trimI [n])))) :=
  er_op ha hb fun _ _ _ _ hx hy _ k => bin_I hx hy lx k
theorem er_binR (ha : EvR ta σ H (isV (.int n))) (hb : EvR tb σ H (isP K C ys)) (ly : ys.length ≤ 2 ^ 19) : EvR (tOp (rBinR C (spBin F K C) E) ta tb) σ H (isP K C (trimI (F ys (trimI [n])))) :=
  er_op ha hb fun _ _ _ _ hx hy _ k => bin_R hx hy ly k
theorem er_radd (ha : EvR ta σ H (isV (.int n))) (hb : EvR tb σ H (isP K C ys)) (ly : ys.length ≤ 2 ^ 19) : EvR (tOp (rBinR C (spRadd K C) E) ta tb) σ H (isP K C (trimI (addI ys (trimI [n])))) :=
  er_op ha hb fun _ _ _ _ hx hy _ k => radd_R hx hy ly k
theorem er_neg (ha : EvR ta σ H (isP K C xs)) (lx : xs.length ≤ 2 ^ 19) : EvR (tUn (rUnO C (spNegP K C) E) ta) σ H (isP K C (trimI (negI xs))) :=
  er_un ha fun H1 _ ⟨p, ex, hp⟩ Q k => by
    subst ex
    obtain ⟨dx, t, h1, h2⟩ := id hp
    exact ⟨p, dx, _, rfl, h1, p, xs, rfl, hp, lx, fun o H' s' _ ho => k _ H' s' ⟨o, rfl, ho⟩⟩
theorem er_lplus (ha : EvR ta σ H (isL K xs)) (hb : EvR tb σ H (isL K ys)) (lx : xs.length ≤ 50000) (ly : ys.length ≤ 50000) : EvR (tCall (spLawPlus K) [] E (tCons ta (tCons tb tNil))) σ H (isL K (trimI (addI xs ys))) :=
  er_call2 ha hb fun H1 _ _ ⟨p, ex, hp⟩ ⟨q, ey, hq⟩ Q k => ⟨p, q, xs, ys, by rw [ex, ey], hp, hq, lx, ly, fun l H2 s2 _ h2 => k _ H2 s2 ⟨l, rfl, SqL.of h2⟩⟩
theorem er_scaled (ha : EvR ta σ H (isL K xs)) (hb : EvR tb σ H (isV (.int n))) (lx : xs.length ≤ 50000) (hx : ∀ x ∈ xs, x.natAbs < 2 ^ 400000) (hn : n.natAbs < 2 ^ 400000) : EvR (tCall (spScaled K) [] E (tCons ta (tCons tb tNil))) σ H (isL K (trimI (scaleI n xs))) :=
  er_call2 ha hb fun H1 _ _ ⟨p, ex, hp⟩ hy Q k => ⟨p, xs, n, by rw [ex, show _ = V.int n from hy], hp, lx, hx, hn, fun l H2 s2 _ h2 => k _ H2 s2 ⟨l, rfl, SqL.of h2⟩⟩
end
end Lk
namespace Lk
theorem lt_big {n : Int} (b : Nat) (h : n.natAbs < 2 ^ b) (hb : b ≤ 400000) : n.natAbs < 2 ^ 400000 := Nat.lt_of_lt_of_le h (Nat.pow_le_pow_right (by decide) hb)
theorem m1_big : (-1 : Int).natAbs < 2 ^ 400000 := lt_big 1 (by decide) (by decide)
end Lk
namespace Lk
open PySem L2
/-! products of rows -/
def mulI (xs ys : List Int) : List Int := (List.range (xs.length + ys.length - 1)).map (cv (co xs) (co ys))
theorem co_mul (xs ys : List Int) (k : Nat) : co (mulI xs ys) k = cv (co xs) (co ys) k := by
  unfold mulI
  rw [co_range]
  split
  · rfl
  · refine (S_zero fun i hi => ?_).symm
    by_cases h : i < xs.length
    · rw [co_ge (xs := ys) (by omega), Int.mul_zero]
    · rw [co_ge (by omega), Int.zero_mul]
theorem mul_len (xs ys : List Int) : (mulI xs ys).length = xs.length + ys.length - 1 := by
  unfold mulI
  rw [List.length_map, List.length_range]
theorem sum_map (f : Nat → Int) (n : Nat) : ((List.range n).map f).sum = S f n := by
  induction n with
  | zero => rfl
  | succ n ih =>
    rw [List.range_succ, List.map_append, List.sum_append, ih]
    show S f n + (f n + 0) = S f n + f n
    omega
/-- the terms that are asked are all that count -/
theorem cv_part (xs ys : List Int) (k s m : Nat) (hs : ∀ i, i < s → i ≤ k → ys.length ≤ k - i ∨ xs.length ≤ i) (ht : ∀ i, s + m ≤ i → i ≤ k → xs.length ≤ i) (hk : s + m ≤ k + 1) : S (fun j => co xs (s + j) * co ys (k - (s + j))) m = cv (co xs) (co ys) k := by
  unfold cv
  rw [S_more hk fun i h2 h3 => by rw [co_ge (ht i h2 (by omega)), Int.zero_mul]]
  rw [S_shift fun i hi => ?_]
  rcases hs i hi (by omega) with h | h
  · rw [co_ge h, Int.mul_zero]
  · rw [co_ge h, Int.zero_mul]
theorem cv_none (xs ys : List Int) (k : Nat) (h : ∀ i, i ≤ k → xs.length ≤ i ∨ ys.length ≤ k - i) : cv (co xs) (co ys) k = 0 := S_zero fun i hi => by
  rcases h i (by omega) with h | h
  · rw [co_ge h, Int.zero_mul]
  · rw [co_ge h, Int.mul_zero]
/-- ints of a bounded size -/
def Sm (xs : List Int) : Prop := ∀ k, (co xs k).natAbs < 2 ^ 400000
theorem Sm.trim {xs : List Int} (h : Sm xs) : Sm (trimI xs) := fun k => by rw [co_trim]; exact h k
def spCross (K : PySem.W.Frag) : Sp := fun vs H Q _ => ∃ (a b : Addr) (xs ys : List Int) (k : Int), vs = [.ref a, .ref b, .int k] ∧ SqI K H a xs ∧ SqI K H b ys ∧ 0 ≤ k ∧ k < 2 ^ 21 ∧ xs.length ≤ 2 ^ 19 ∧ ys.length ≤ 2 ^ 19 ∧ Sm xs ∧ Sm ys ∧ ∀ H', Same H H' → Q (.int (cv (co xs) (co ys) k.toNat)) H'
def spTimes (K : PySem.W.Frag) : Sp := fun vs H Q _ => ∃ (a b : Addr) (xs ys : List Int), vs = [.ref a, .ref b] ∧ SqI K H a xs ∧ SqI K H b ys ∧ xs.length ≤ 2 ^ 19 ∧ ys.length ≤ 2 ^ 19 ∧ Sm xs ∧ Sm ys ∧ ∀ t H', Same H H' → SqT K H' t (iVs (trimI (mulI xs ys))) → Q (.ref t) H'
/-- the row of the n-th power, by its coefficients -/
def IsPow (f : Nat → Int) (n : Nat) (row : List Int) : Prop := trimI row = row ∧ ∀ k, co row k = pw f n k
def spPower (K : PySem.W.Frag) : Sp := fun vs H Q _ => ∃ (a : Addr) (xs : List Int) (n : Int) (m : Nat), vs = [.ref a, .int n] ∧ SqT K H a (iVs xs) ∧ trimI xs = xs ∧ 0 ≤ n ∧ n ≤ 1000 ∧ xs.length ≤ 200 ∧ 1 ≤ m ∧ Nb m (co xs) ∧ m < 2 ^ 300 ∧ ∀ t row H', Same H H' → IsPow (co xs) n.toNat row → SqT K H' t (iVs row) → Q (.ref t) H'
def spMul (K : PySem.W.Frag) (C : Addr) : Sp := fun vs H Q _ => ∃ (p : Addr) (xs : List Int) (y : V) (ys : List Int), vs = [.ref p, y] ∧ PolyAt K C H p xs ∧ RowOf K C H y ys ∧ xs.length ≤ 2 ^ 18 ∧ ys.length ≤ 2 ^ 18 ∧ Sm xs ∧ Sm ys ∧ Made K C H (trimI (mulI xs ys)) Q
def spPow (K : PySem.W.Frag) (C : Addr) : Sp := fun vs H Q _ => ∃ (p : Addr) (xs : List Int) (n : Int) (m : Nat), vs = [.ref p, .int n] ∧ PolyAt K C H p xs ∧ trimI xs = xs ∧ 0 ≤ n ∧ n ≤ 1000 ∧ xs.length ≤ 200 ∧ 1 ≤ m ∧ Nb m (co xs) ∧ m < 2 ^ 300 ∧ ∀ row, IsPow (co xs) n.toNat row → Made K C H row Q
def spRmul (K : PySem.W.Frag) (C : Addr) : Sp := fun vs H Q _ => ∃ (p : Addr) (xs : List Int) (n : Int), vs = [.ref p, .int n] ∧ PolyAt K C H p xs ∧ xs.length ≤ 2 ^ 18 ∧ Sm xs ∧ Sm [n] ∧ Made K C H (trimI (mulI xs (trimI [n]))) Q
def spLawTimes (K : PySem.W.Frag) : Sp := fun vs H Q _ => ∃ (a b : Addr) (xs ys : List Int), vs = [.ref a, .ref b] ∧ SqL K H a (iVs xs) ∧ SqL K H b (iVs ys) ∧ xs.length ≤ 50000 ∧ ys.length ≤ 50000 ∧ Sm xs ∧ Sm ys ∧ ∀ l H', Same H H' → H l = none → H' l = some (.lst (iVs (trimI (mulI xs ys)))) → Q (.ref l) H'
end Lk
namespace Lk
open PySem L2
theorem cv_far {f g : Nat → Int} {a b : Nat} (hf : ∀ k, a ≤ k → f k = 0) (hg : ∀ k, b ≤ k → g k = 0) (k : Nat) (h : a + b ≤ k) : cv f g k = 0 := S_zero fun i hi => by
  by_cases ha : a ≤ i
  · rw [hf i ha, Int.zero_mul]
  · rw [hg (k - i) (by omega), Int.mul_zero]
theorem pw_far {f : Nat → Int} {L : Nat} (hf : ∀ k, L ≤ k → f k = 0) (n : Nat) : ∀ k, n * L + 1 ≤ k → pw f n k = 0 := by
  induction n with
  | zero => intro k hk; exact if_neg (by omega)
  | succ n ih => intro k hk; exact cv_far ih hf k (by rw [Nat.succ_mul] at hk; omega)
theorem len_le {xs : List Int} {N : Nat} (ht : trimI xs = xs) (h : ∀ k, N ≤ k → co xs k = 0) : xs.length ≤ N := by
  have := trim_last xs
  rw [ht] at this
  rcases this with e | e
  · omega
  · rcases Nat.lt_or_ge (xs.length - 1) N with l | l
    · omega
    · exact absurd (h _ l) e
theorem IsPow.len {f : Nat → Int} {n L : Nat} {row : List Int} (h : IsPow f n row) (hf : ∀ k, L ≤ k → f k = 0) : row.length ≤ n * L + 1 := len_le h.1 fun k hk => by rw [h.2]; exact pw_far hf n k hk
theorem IsPow.sm {f : Nat → Int} {n m : Nat} {row : List Int} (h : IsPow f n row) (hn : n ≤ 1000) (h1 : 1 ≤ m) (hb : Nb m f) (hm : m < 2 ^ 300) : Sm row := fun k => by
  rw [h.2]
  have h2 := (hb.pw n).at k
  have h3 : m ^ n ≤ m ^ 1000 := Nat.pow_le_pow_right h1 hn
  have h4 : m ^ 1000 ≤ (2 ^ 300) ^ 1000 := Nat.pow_le_pow_left (Nat.le_of_lt hm) 1000
  rw [← Nat.pow_mul] at h4
  exact Nat.lt_of_le_of_lt (Nat.le_trans h2 (Nat.le_trans h3 h4)) (Nat.pow_lt_pow_right (by decide) (by decide))
theorem IsPow.mul {f : Nat → Int} {a b : Nat} {xs ys : List Int} (h1 : IsPow f a xs) (h2 : IsPow f b ys) : IsPow f (a + b) (trimI (mulI xs ys)) := ⟨trim_trim _, fun k => by
  rw [co_trim, co_mul, cv_congr h1.2 h2.2, pw_add]⟩
theorem IsPow.uniq {f g : Nat → Int} {a : Nat} {xs ys : List Int} (h1 : IsPow f a xs) (h2 : IsPow g a ys) (e : ∀ k, f k = g k) : xs = ys := by
  rw [← h1.1, ← h2.1]
  exact trim_ext fun k => by rw [h1.2, h2.2, pw_congr e]
theorem co_one (k : Nat) : co [1] k = oneC k := by
  cases k with
  | zero => rfl
  | succ k => rfl
theorem IsPow.one {f : Nat → Int} : IsPow f 0 [1] := ⟨rfl, co_one⟩
section
variable {K : PySem.W.Frag} {σ : L2.St} {H : Hp} {ta tb te : TE} {i j : Int}
theorem val_max (ha : Val ta σ H (.int i)) (hb : Val tb σ H (.int j)) : Val (tCB (fun xs H Q => ∃ i j, xs = [V.int i, V.int j] ∧ Q (V.int (if j > i then j else i)) H) (tCons ta (tCons tb tNil))) σ H (.int (if j > i then j else i)) := fun Q q => ha _ (hb _ ⟨i, j, rfl, q⟩)
theorem val_min (ha : Val ta σ H (.int i)) (hb : Val tb σ H (.int j)) : Val (tCB (fun xs H Q => ∃ i j, xs = [V.int i, V.int j] ∧ Q (V.int (if j < i then j else i)) H) (tCons ta (tCons tb tNil))) σ H (.int (if j < i then j else i)) := fun Q q => ha _ (hb _ ⟨i, j, rfl, q⟩)
/-- a comprehension over a range whose elements may lay new objects -/
theorem lcE {lo : Int} {n : Nat} {te : TE} {i : Nat} {H1 : Hp} {D : Addr} {Qd : Hp → Prop} (f : Nat → Int) (hD : H1 D = none) (hn : n ≤ sizeLine)
    (he : ∀ j H, j < n → Same H1 H → EvR te ((wipe σ [i]).set i (some (.int (lo + j)))) H (isV (.int (f j)))) (hd : ∀ H, Same H1 H → H D = some (.lst (iVs ((List.range n).map f))) → Qd H) :
    ∃ W : Nat → Nat → Hp → Prop, (∃ m, W 0 m (upd H1 D (.lst []))) ∧ ∀ i' m H, W i' m H →
      ((Itr lo n).stop i' H ∧ Qd H) ∨ ((Itr lo n).go i' H ∧ ∃ Nx : Hp → Prop, (∀ H', Nx H' → ∃ m', m' < m ∧ W (i' + 1) m' H') ∧ ∀ x H', (Itr lo n).yld i' H x H' → gName i x (wipe σ [i]) H' fun σ2 H2 => wipe σ2 [i] = wipe σ [i] ∧ tYes σ2 H2 fun b H3 =>
        if b = true then te σ2 H3 fun y H4 => ∃ acc, H4 D = some (.lst acc) ∧ acc.length < sizeLine ∧ Nx (upd H4 D (.lst (acc ++ [y]))) else Nx H3) := by
  refine lc_range (fun j H => Same H1 H ∧ H D = some (.lst (iVs ((List.range j).map f)))) ⟨same_upd hD, upd_same⟩ ?_ ?_
  · rintro j H hj ⟨s1, h1⟩
    refine ⟨?_, ?_⟩
    · show ((σ.set i none).set i _).set i none = σ.set i none
      rw [List.set_set, List.set_set]
    · refine he j H hj s1 H (Same.refl _) (fun y H4 => ∃ acc, H4 D = some (.lst acc) ∧ acc.length < sizeLine ∧ Same H1 (upd H4 D (.lst (acc ++ [y]))) ∧ (upd H4 D (.lst (acc ++ [y]))) D = some (.lst (iVs ((List.range (j + 1)).map f)))) fun v H4 s4 hv => ?_
      cases (show v = V.int (f j) from hv)
      refine ⟨_, s4 _ _ h1, ?_, fun b o e => by rw [upd_ne (ne_of_none e hD)]; exact s4 _ _ (s1 b o e), ?_⟩
      · rw [iVs_len, List.length_map, List.length_range]
        omega
      · rw [upd_same, List.range_succ, List.map_append, iVs_app]
        rfl
  · rintro H ⟨s1, h1⟩
    exact hd H s1 h1
end
end Lk
namespace Lk
open PySem L2
theorem dun_pow : PySem.dunder "pow" = "__pow__" := by decide +kernel
theorem dunr_pow : dunderR "pow" = "__rpow__" := by decide +kernel
theorem nb_of {M L : Nat} {xs : List Int} (h : Bd M xs) (hl : xs.length ≤ L) : Nb (L * M) (co xs) := by
  have c : ∀ n, S (fun k => ((co xs k).natAbs : Int)) n ≤ (n : Int) * (M : Int) := fun n => by
    induction n with
    | zero => exact Int.le_of_eq (Int.zero_mul _).symm
    | succ n ih =>
      have h1 := h n
      show S (fun k => ((co xs k).natAbs : Int)) n + ((co xs n).natAbs : Int) ≤ ((n + 1 : Nat) : Int) * (M : Int)
      rw [show ((n + 1 : Nat) : Int) = (n : Int) + 1 from rfl, Int.add_mul, Int.one_mul]
      omega
  have mono : ∀ n, n ≤ L → (n : Int) * (M : Int) ≤ ((L * M : Nat) : Int) := fun n hn => by
    rw [Int.natCast_mul]
    exact Int.mul_le_mul_of_nonneg_right (by omega) (Int.natCast_nonneg _)
  intro n
  rcases Nat.le_total n L with l | l
  · exact Int.le_trans (c n) (mono n l)
  · rw [S_more l fun i h1 h2 => by rw [co_ge (by omega)]; rfl]
    exact Int.le_trans (c L) (mono L (Nat.le_refl _))
theorem cv_const (f : Nat → Int) (n : Int) (k : Nat) : cv f (co [n]) k = n * f k := by
  unfold cv
  show S (fun i => f i * co [n] (k - i)) k + f k * co [n] (k - k) = _
  rw [S_zero fun i hi => by rw [co_ge (xs := [n]) (by show 1 ≤ k - i; omega), Int.mul_zero], Nat.sub_self, Int.zero_add]
  exact Int.mul_comm _ _
theorem mul_one (xs : List Int) (n : Int) : trimI (mulI xs (trimI [n])) = trimI (scaleI n xs) := trim_ext fun k => by
  rw [co_mul, cv_congr (fun _ => rfl) (co_trim [n]), cv_const, co_scale]
theorem mul_comm' (xs ys : List Int) : trimI (mulI ys xs) = trimI (mulI xs ys) := trim_ext fun k => by rw [co_mul, co_mul, cv_comm]
theorem sm_of {m b : Nat} {xs : List Int} (h : Bd m xs) (l : m < 2 ^ b) (hb : b ≤ 400000) : Sm xs := fun k => Nat.lt_of_le_of_lt (h k) (Nat.lt_of_lt_of_le l (Nat.pow_le_pow_right (by decide) hb))
theorem sm_nil : Sm [] := fun k => by
  rw [co_nil]
  exact Nat.pow_pos (by decide)
/-- the n-th power, a polynomial -/
def isPw (K : PySem.W.Frag) (C : Addr) (f : Nat → Int) (n : Nat) : Hp → V → Prop := fun H v => ∃ row, IsPow f n row ∧ isP K C row H v
instance {K : PySem.W.Frag} {C : Addr} {f : Nat → Int} {n : Nat} : Up (isPw K C f n) := ⟨fun e ⟨r, h1, h2⟩ => ⟨r, h1, Up.up e h2⟩⟩
/-- arguments, each with its own property -/
def EvRA (ta : TA) (σ : L2.St) (H : Hp) (s n : Nat) (R : Nat → Hp → V → Prop) : Prop := ∀ H1, Same H H1 → ∀ Q : List V → Hp → Prop, (∀ vs H2, Same H1 H2 → vs.length = n → (∀ i v, vs[i]? = some v → R (s + i) H2 v) → Q vs H2) → ta σ H1 Q
section
variable {K : PySem.W.Frag} {C : Addr} {σ : L2.St} {H : Hp} {ta tb te : TE} {x y : V} {xs ys : List Int} {E : XK} {n : Int} {Q : VK} {m : Nat}
theorem era_nil {s : Nat} {R : Nat → Hp → V → Prop} : EvRA tNil σ H s 0 R := fun H1 _ Q q => q [] H1 (Same.refl _) rfl fun i v h => (by cases h)
theorem era_cons {s n : Nat} {R : Nat → Hp → V → Prop} {tr : TA} [∀ i, Up (R i)] (ha : EvR ta σ H (R s)) (hr : EvRA tr σ H (s + 1) n R) : EvRA (tCons ta tr) σ H s (n + 1) R := fun H1 e Q q =>
  ha H1 e _ fun v H2 e2 hv => hr H2 (e.trans e2) _ fun vs H3 e3 hl hvs => q (v :: vs) H3 (e2.trans e3) (by rw [List.length_cons, hl]) fun i w hw => by
    cases i with
    | zero =>
      cases hw
      exact Up.up e3 hv
    | succ i =>
      have := hvs i w hw
      rwa [show s + 1 + i = s + (i + 1) by omega] at this
theorem mul_P (hx : isP K C xs H x) (hy : isP K C ys H y) (lx : xs.length ≤ 2 ^ 18) (ly : ys.length ≤ 2 ^ 18) (bx : Sm xs) (by_ : Sm ys) (k : ∀ v H2, Same H H2 → isP K C (trimI (mulI xs ys)) H2 v → Q v H2) : rBin C (spMul K C) E x y H Q := by
  obtain ⟨p, rfl, hp⟩ := hx
  obtain ⟨q, rfl, hq⟩ := hy
  obtain ⟨dx, t, h1, h2⟩ := id hp
  obtain ⟨dx', t', h1', h2'⟩ := id hq
  exact ⟨p, dx, _, q, dx', _, rfl, rfl, h1, h1', p, xs, _, ys, rfl, hp, .inl ⟨q, rfl, hq⟩, lx, ly, bx, by_, fun o H' s' _ ho => k _ H' s' ⟨o, rfl, ho⟩⟩
theorem mul_I (hx : isP K C xs H x) (hy : y = .int n) (lx : xs.length ≤ 2 ^ 18) (bx : Sm xs) (bn : Sm [n]) (k : ∀ v H2, Same H H2 → isP K C (trimI (mulI xs (trimI [n]))) H2 v → Q v H2) : rBinI C (spMul K C) E x y H Q := by
  obtain ⟨p, rfl, hp⟩ := hx
  subst hy
  obtain ⟨dx, t, h1, h2⟩ := id hp
  exact ⟨p, dx, _, n, rfl, rfl, h1, p, xs, _, _, rfl, hp, .inr ⟨n, rfl, rfl⟩, lx, Nat.le_trans (trim_len [n]) (by show 1 ≤ 2 ^ 18; decide), bx, bn.trim, fun o H' s' _ ho => k _ H' s' ⟨o, rfl, ho⟩⟩
theorem rmul_R (hx : x = .int n) (hy : isP K C ys H y) (ly : ys.length ≤ 2 ^ 18) (by_ : Sm ys) (bn : Sm [n]) (k : ∀ v H2, Same H H2 → isP K C (trimI (mulI ys (trimI [n]))) H2 v → Q v H2) : rBinR C (spRmul K C) E x y H Q := by
  obtain ⟨p, rfl, hp⟩ := hy
  subst hx
  obtain ⟨dx, t, h1, h2⟩ := id hp
  exact ⟨p, dx, _, n, rfl, rfl, h1, p, ys, n, rfl, hp, ly, by_, bn, fun o H' s' _ ho => k _ H' s' ⟨o, rfl, ho⟩⟩
theorem pow_I (hx : isP K C xs H x) (hy : y = .int n) (tx : trimI xs = xs) (h0 : 0 ≤ n) (h1 : n ≤ 1000) (lx : xs.length ≤ 200) (m1 : 1 ≤ m) (hb : Nb m (co xs)) (hm : m < 2 ^ 300) (k : ∀ v H2, Same H H2 → isPw K C (co xs) n.toNat H2 v → Q v H2) : rBinI C (spPow K C) E x y H Q := by
  obtain ⟨p, rfl, hp⟩ := hx
  subst hy
  obtain ⟨dx, t, h1', h2⟩ := id hp
  exact ⟨p, dx, _, n, rfl, rfl, h1', p, xs, n, m, rfl, hp, tx, h0, h1, lx, m1, hb, hm, fun row pR o H' s' _ ho => k _ H' s' ⟨row, pR, o, rfl, ho⟩⟩
theorem er_mul (ha : EvR ta σ H (isP K C xs)) (hb : EvR tb σ H (isP K C ys)) (lx : xs.length ≤ 2 ^ 18) (ly : ys.length ≤ 2 ^ 18) (bx : Sm xs) (by_ : Sm ys) : EvR (tOp (rBin C (spMul K C) E) ta tb) σ H (isP K C (trimI (mulI xs ys))) := er_op ha hb fun _ _ _ _ hx hy _ k => mul_P hx hy lx ly bx by_ k
theorem er_mulI (ha : EvR ta σ H (isP K C xs)) (hb : EvR tb σ H (isV (.int n))) (lx : xs.length ≤ 2 ^ 18) (bx : Sm xs) (bn : Sm [n]) : EvR (tOp (rBinI C (spMul K C) E) ta tb) σ H (isP K C (trimI (mulI xs (trimI [n])))) := er_op ha hb fun _ _ _ _ hx hy _ k => mul_I hx hy lx bx bn k
theorem er_rmul (ha : EvR ta σ H (isV (.int n))) (hb : EvR tb σ H (isP K C ys)) (ly : ys.length ≤ 2 ^ 18) (by_ : Sm ys) (bn : Sm [n]) : EvR (tOp (rBinR C (spRmul K C) E) ta tb) σ H (isP K C (trimI (mulI ys (trimI [n])))) := er_op ha hb fun _ _ _ _ hx hy _ k => rmul_R hx hy ly by_ bn k
theorem er_pow (ha : EvR ta σ H (isP K C xs)) (hb : EvR tb σ H (isV (.int n))) (tx : trimI xs = xs) (h0 : 0 ≤ n) (h1 : n ≤ 1000) (lx : xs.length ≤ 200) (m1 : 1 ≤ m) (hb' : Nb m (co xs)) (hm : m < 2 ^ 300) : EvR (tOp (rBinI C (spPow K C) E) ta tb) σ H (isPw K C (co xs) n.toNat) := er_op ha hb fun _ _ _ _ hx hy _ k => pow_I hx hy tx h0 h1 lx m1 hb' hm k
theorem er_ltimes (ha : EvR ta σ H (isL K xs)) (hb : EvR tb σ H (isL K ys)) (lx : xs.length ≤ 50000) (ly : ys.length ≤ 50000) (bx : Sm xs) (by_ : Sm ys) : EvR (tCall (spLawTimes K) [] E (tCons ta (tCons tb tNil))) σ H (isL K (trimI (mulI xs ys))) :=
  er_call2 ha hb fun H1 _ _ ⟨p, ex, hp⟩ ⟨q, ey, hq⟩ Q k => ⟨p, q, xs, ys, by rw [ex, ey], hp, hq, lx, ly, bx, by_, fun l H2 s2 _ h2 => k _ H2 s2 ⟨l, rfl, SqL.of h2⟩⟩
/-- the row of a power -/
theorem er_rowPw {f : Nat → Int} {i : Nat} {row : List Int} (ha : EvR ta σ H (isPw K C f i)) (hr : IsPow f i row) : EvR (tCall (spRow K C) [] E (tCons ta tNil)) σ H (isL K row) :=
  er_row (ha.imp fun H v ⟨r, h1, h2⟩ => (h1.uniq hr fun _ => rfl) ▸ h2) hr.1
end
end Lk
namespace Lk
open PySem L2
/-- a loop over a list display whose elements may lay new objects -/
theorem q_forA {K : PySem.W.Frag} {σ : L2.St} {H : Hp} {ta : TA} {s n : Nat} {R : Nat → Hp → V → Prop} [hR : ∀ i, Up (R i)] {g : TG} {tb t2 : TS} {D : Ends} (h : EvRA ta σ H s n R) (hn : n ≤ sizeLine) (Pv : Addr → List V → Nat → L2.St → Hp → Prop)
    (h0 : ∀ p vs H1, Same H H1 → vs.length = n → (∀ i v, vs[i]? = some v → R (s + i) H1 v) → H1 p = some (.lst vs) → Pv p vs 0 σ H1) (hl : ∀ p vs i σ' H', Pv p vs i σ' H' → H' p = some (.lst vs))
    (hs : ∀ p vs i x σ' H', vs.length = n → vs[i]? = some x → Pv p vs i σ' H' → g x σ' H' fun σ2 H2 => tb { D with nx := Pv p vs (i + 1), ct := Pv p vs (i + 1), bk := t2 D } σ2 H2)
    (hd : ∀ p vs σ' H', Pv p vs n σ' H' → t2 D σ' H') : tSeq (tFor (iList K (tLst ta)) g tb) t2 D σ H :=
  h H (Same.refl _) _ fun vs H2 s2 hlen hv => ⟨by rw [hlen]; exact hn, fun p hp => ⟨p, rfl, ⟨vs, SqL.of upd_same⟩, for_list (K := K) (a := p) (xs := vs) (D := { D with nx := t2 D }) (Pv p vs)
    (h0 p vs _ (s2.trans (same_upd hp)) hlen (fun i v e => Up.up (same_upd hp) (hv i v e)) upd_same) (fun i σ' H' _ q => SqL.of (hl p vs i σ' H' q)) (fun i x σ' H' e q => hs p vs i x σ' H' hlen e q) (fun σ' H' q => hd p vs σ' H' (hlen ▸ q))⟩⟩
end Lk
/-! values of rows at a/d, times a power of d -/
namespace Lk
/-- Horner from the lowest power: the sum of f k * a ^ k * d ^ (n - 1 - k) -/
def VS (f : Nat → Int) (a d : Int) : Nat → Int
  | 0 => 0
  | n + 1 => VS f a d n * d + f n * a ^ n
theorem VS_congr {f g : Nat → Int} {a d : Int} : ∀ {n : Nat}, (∀ i, i < n → f i = g i) → VS f a d n = VS g a d n
  | 0, _ => rfl
  | n + 1, h => by
    show VS f a d n * d + f n * a ^ n = VS g a d n * d + g n * a ^ n
    rw [VS_congr fun i hi => h i (by omega), h n (by omega)]
theorem VS_head (a d : Int) : ∀ (n : Nat) (f : Nat → Int), VS f a d (n + 1) = VS (fun k => f (k + 1)) a d n * a + f 0 * d ^ n
  | 0, f => by show 0 * d + f 0 * a ^ 0 = 0 * a + f 0 * d ^ 0; rw [Int.pow_zero, Int.pow_zero, Int.zero_mul, Int.zero_mul]
  | n + 1, f => by
    show VS f a d (n + 1) * d + f (n + 1) * a ^ (n + 1) = (VS (fun k => f (k + 1)) a d n * d + f (n + 1) * a ^ n) * a + f 0 * d ^ (n + 1)
    rw [VS_head a d n f, Int.pow_succ, Int.pow_succ]
    generalize VS (fun k => f (k + 1)) a d n = v
    generalize a ^ n = p
    generalize d ^ n = q
    grind
theorem VS_more {f : Nat → Int} {a d : Int} {n : Nat} (h : f n = 0) : VS f a d (n + 1) = VS f a d n * d := by
  show VS f a d n * d + f n * a ^ n = _
  rw [h, Int.zero_mul, Int.add_zero]
theorem VS_far {f : Nat → Int} {a d : Int} {n : Nat} (h : ∀ k, n ≤ k → f k = 0) (j : Nat) : VS f a d (n + j) = VS f a d n * d ^ j := by
  induction j with
  | zero => rw [Int.pow_zero, Int.mul_one]; rfl
  | succ j ih =>
    rw [← Nat.add_assoc, VS_more (h _ (by omega)), ih, Int.pow_succ, Int.mul_assoc]
theorem VS_low {f : Nat → Int} {a d : Int} : ∀ {n : Nat}, (∀ k, k < n → f k = 0) → VS f a d n = 0
  | 0, _ => rfl
  | n + 1, h => by
    show VS f a d n * d + f n * a ^ n = 0
    rw [VS_low fun k hk => h k (by omega), h n (by omega), Int.zero_mul, Int.zero_mul, Int.add_zero]
/-- sizes -/
theorem VS_bd {f : Nat → Int} {a d : Int} {c m : Nat} (hf : ∀ k, (f k).natAbs < 2 ^ c) (ha : a.natAbs < 2 ^ m) (hd : d.natAbs < 2 ^ m) : ∀ n, (VS f a d n).natAbs < 2 ^ (c + (m + 1) * n)
  | 0 => by show (0 : Int).natAbs < _; exact Nat.pow_pos (by decide)
  | n + 1 => by
    have ih := VS_bd hf ha hd n
    show (VS f a d n * d + f n * a ^ n).natAbs < _
    have h1 : (VS f a d n * d).natAbs < 2 ^ (c + (m + 1) * n + m) := by
      rw [Int.natAbs_mul, Nat.pow_add]
      exact Nat.mul_lt_mul'' ih hd
    have h2 : (f n * a ^ n).natAbs < 2 ^ (c + (m + 1) * n + m) := by
      rw [Int.natAbs_mul, Int.natAbs_pow]
      have p1 : a.natAbs ^ n ≤ (2 ^ m) ^ n := Nat.pow_le_pow_left (Nat.le_of_lt ha) n
      rw [← Nat.pow_mul] at p1
      have p2 : (f n).natAbs * a.natAbs ^ n < 2 ^ c * 2 ^ (m * n) := Nat.lt_of_le_of_lt (Nat.mul_le_mul_left _ p1) (Nat.mul_lt_mul_of_pos_right (hf n) (Nat.pow_pos (by decide)))
      rw [← Nat.pow_add] at p2
      refine Nat.lt_of_lt_of_le p2 (Nat.pow_le_pow_right (by decide) ?_)
      rw [Nat.add_mul]
      omega
    have e : c + (m + 1) * (n + 1) = (c + (m + 1) * n + m) + 1 := by rw [Nat.mul_succ]; omega
    rw [e, Nat.pow_succ]
    omega
theorem pow_bd {d : Int} {m : Nat} (hd : d.natAbs < 2 ^ m) (i : Nat) : (d ^ i).natAbs ≤ 2 ^ (m * i) := by
  rw [Int.natAbs_pow, Nat.pow_mul]
  exact Nat.pow_le_pow_left (Nat.le_of_lt hd) i
theorem pow_lt' {d : Int} {m : Nat} (hd : d.natAbs < 2 ^ m) (i : Nat) : (d ^ i).natAbs < 2 ^ (m * i + 1) := Nat.lt_of_le_of_lt (pow_bd hd i) (Nat.pow_lt_pow_right (by decide) (by omega))
/-- the steps by which a common divisor is taken out -/
theorem vr_step {V T B d : Int} {i : Nat} (h : V * B = T * d ^ i) (hd : 0 < d) (hB : 1 ≤ B) (hg : Nat.gcd T.natAbs B.natAbs = 1) :
    V * (B * (d / ((Nat.gcd T.natAbs d.natAbs : Nat) : Int))) = T / ((Nat.gcd T.natAbs d.natAbs : Nat) : Int) * d ^ (i + 1) ∧ 1 ≤ B * (d / ((Nat.gcd T.natAbs d.natAbs : Nat) : Int)) ∧ B * (d / ((Nat.gcd T.natAbs d.natAbs : Nat) : Int)) ≤ B * d ∧
      Nat.gcd (T / ((Nat.gcd T.natAbs d.natAbs : Nat) : Int)).natAbs (B * (d / ((Nat.gcd T.natAbs d.natAbs : Nat) : Int))).natAbs = 1 ∧ (T / ((Nat.gcd T.natAbs d.natAbs : Nat) : Int)).natAbs ≤ T.natAbs := by
  have gpos : 0 < Nat.gcd T.natAbs d.natAbs := Nat.gcd_pos_of_pos_right _ (by omega)
  have dT : ((Nat.gcd T.natAbs d.natAbs : Nat) : Int) ∣ T := Int.natAbs_dvd_natAbs.mp (by rw [Int.natAbs_natCast]; exact Nat.gcd_dvd_left _ _)
  have dD : ((Nat.gcd T.natAbs d.natAbs : Nat) : Int) ∣ d := Int.natAbs_dvd_natAbs.mp (by rw [Int.natAbs_natCast]; exact Nat.gcd_dvd_right _ _)
  have eT := Int.ediv_mul_cancel dT
  have eD := Int.ediv_mul_cancel dD
  have aT : (T / ((Nat.gcd T.natAbs d.natAbs : Nat) : Int)).natAbs = T.natAbs / Nat.gcd T.natAbs d.natAbs := by
    rw [Int.natAbs_ediv, if_pos (.inr (.inr dT)), Int.natAbs_natCast]
    rfl
  have aD : (d / ((Nat.gcd T.natAbs d.natAbs : Nat) : Int)).natAbs = d.natAbs / Nat.gcd T.natAbs d.natAbs := by
    rw [Int.natAbs_ediv, if_pos (.inr (.inr dD)), Int.natAbs_natCast]
    rfl
  have cop : Nat.Coprime (T.natAbs / Nat.gcd T.natAbs d.natAbs) (d.natAbs / Nat.gcd T.natAbs d.natAbs) := Nat.coprime_div_gcd_div_gcd gpos
  have cop2 : Nat.Coprime (T.natAbs / Nat.gcd T.natAbs d.natAbs) B.natAbs := Nat.Coprime.coprime_div_left hg (Nat.gcd_dvd_left _ _)
  have g0 : ((Nat.gcd T.natAbs d.natAbs : Nat) : Int) ≠ 0 := by omega
  have q1 : 1 ≤ d / ((Nat.gcd T.natAbs d.natAbs : Nat) : Int) := by
    by_cases z : 1 ≤ d / ((Nat.gcd T.natAbs d.natAbs : Nat) : Int)
    · exact z
    · have : d / ((Nat.gcd T.natAbs d.natAbs : Nat) : Int) * ((Nat.gcd T.natAbs d.natAbs : Nat) : Int) ≤ 0 := Int.mul_nonpos_of_nonpos_of_nonneg (by omega) (by omega)
      omega
  have q2 : d / ((Nat.gcd T.natAbs d.natAbs : Nat) : Int) ≤ d := by
    have : d / ((Nat.gcd T.natAbs d.natAbs : Nat) : Int) * 1 ≤ d / ((Nat.gcd T.natAbs d.natAbs : Nat) : Int) * ((Nat.gcd T.natAbs d.natAbs : Nat) : Int) := Int.mul_le_mul_of_nonneg_left (by omega) (by omega)
    omega
  refine ⟨?_, ?_, Int.mul_le_mul_of_nonneg_left q2 (by omega), ?_, ?_⟩
  · refine Int.eq_of_mul_eq_mul_right g0 ?_
    rw [Int.pow_succ]
    generalize ((Nat.gcd T.natAbs d.natAbs : Nat) : Int) = g at *
    generalize d / g = x at *
    generalize T / g = y at *
    generalize d ^ i = p at *
    grind
  · have := Int.mul_le_mul hB q1 (by decide) (by omega)
    omega
  · rw [Int.natAbs_mul, aT, aD]
    exact Nat.Coprime.mul_right cop2 cop
  · rw [aT]
    exact Nat.div_le_self _ _
/-- the lowest terms of V * d / d ^ n -/
theorem vr_end {V T B d : Int} {n i : Nat} (h : V * B = T * d ^ i) (hd : 0 < d) (hB : 1 ≤ B) (hg : Nat.gcd T.natAbs B.natAbs = 1) (hn : n = i + 1 ∨ (n = 0 ∧ i = 0 ∧ V = 0)) : T = ratN (V * d) (d ^ n) ∧ B = ratD (V * d) (d ^ n) := by
  have hp : ∀ j : Nat, d ^ j ≠ 0 := fun j => Int.pow_ne_zero (by omega)
  have e := rat_cross (n := V * d) (hp n)
  have lo : Low T B := ⟨hB, hg⟩
  have l2 := rat_low (n := V * d) (hp n)
  refine low_unique lo l2 ?_
  rcases hn with e1 | ⟨e1, e2, e3⟩
  · subst e1
    have e4 : (T * ratD (V * d) (d ^ (i + 1))) * d ^ (i + 1) = (ratN (V * d) (d ^ (i + 1)) * B) * d ^ (i + 1) := by
      rw [Int.pow_succ] at e ⊢
      generalize ratD (V * d) (d ^ i * d) = x at *
      generalize ratN (V * d) (d ^ i * d) = y at *
      generalize d ^ i = p at *
      grind
    exact Int.eq_of_mul_eq_mul_right (hp _) e4
  · subst e1 e2 e3
    rw [Int.pow_zero, Int.zero_mul] at *
    rw [Int.mul_one] at h
    subst h
    rw [Int.zero_mul, Int.mul_one] at *
    rw [e, Int.zero_mul]
end Lk
/-! pairs, values of polynomials, derivatives: what such expressions come to -/
namespace Lk
open PySem L2
def isPr (n d : Int) : Hp → V → Prop := fun H v => ∃ p, v = .ref p ∧ H p = some (.tup [.int n, .int d])
instance {n d : Int} : Up (isPr n d) := ⟨fun e ⟨p, h1, h2⟩ => ⟨p, h1, e _ _ h2⟩⟩
/-- a ratio in lowest terms, its parts below 2 ^ b -/
def isRt (b : Nat) : Hp → V → Prop := fun H v => ∃ n d, Low n d ∧ n.natAbs < 2 ^ b ∧ d.natAbs < 2 ^ b ∧ isPr n d H v
instance {b : Nat} : Up (isRt b) := ⟨fun e ⟨n, d, h1, h2, h3, h4⟩ => ⟨n, d, h1, h2, h3, Up.up e h4⟩⟩
theorem sum_S (row : List Int) : row.sum = S (co row) row.length := by
  rw [← sum_map]
  congr 1
  refine ext_co ?_ fun k => ?_
  · rw [List.length_map, List.length_range]
  · rw [co_range]
    split
    · rfl
    · exact co_ge (by omega)
theorem VS_one (f : Nat → Int) (n : Nat) : VS f 1 1 n = S f n := by
  induction n with
  | zero => rfl
  | succ n ih =>
    show VS f 1 1 n * 1 + f n * 1 ^ n = S f n + f n
    rw [ih, Int.one_pow, Int.mul_one, Int.mul_one]
theorem sm_nb {m b : Nat} {xs : List Int} (h : Nb m (co xs)) (l : m < 2 ^ b) (hb : b ≤ 400000) : Sm xs := fun k => Nat.lt_of_le_of_lt (h.at k) (Nat.lt_of_lt_of_le l (Nat.pow_le_pow_right (by decide) hb))
section
variable {K : PySem.W.Frag} {C : Addr} {σ : L2.St} {H H' : Hp} {ta tb te tf : TE} {v w : V} {row xs ys : List Int} {E : XK} {n d n' d' lo hi : Int} {i j : Nat}
theorem er_tp {t : TA} (ha : ∀ H1, Same H H1 → ValA t σ H1 [.int n, .int d]) : EvR (tTup t) σ H (isPr n d) := fun H1 e Q q =>
  ha H1 e _ ⟨by show 2 ≤ 2 ^ 24; decide, fun p hp => q _ _ (same_upd hp) ⟨p, rfl, upd_same⟩⟩
theorem er_ne2 (ha : EvR ta σ H (isPr n d)) (hb : EvR tb σ H (isPr n' d')) : EvR (tOp (rNeD K) ta tb) σ H (isV (.bl (!(n == n' && d == d')))) :=
  er_op ha hb fun H1 _ _ _ ⟨p, ex, hx⟩ ⟨q, ey, hy⟩ Q k => by
    subst ex; subst ey
    exact rNe2 hx hy (k _ H1 (Same.refl _) rfl)
theorem er_eq2 (ha : EvR ta σ H (isPr n d)) (hb : EvR tb σ H (isPr n' d')) : EvR (tOp (rEqD K) ta tb) σ H (isV (.bl (n == n' && d == d'))) :=
  er_op ha hb fun H1 _ _ _ ⟨p, ex, hx⟩ ⟨q, ey, hy⟩ Q k => by
    subst ex; subst ey
    exact rEq2 hx hy (k _ H1 (Same.refl _) rfl)
/-- comprehensions over range(lo, hi) -/
theorem er_lcR2 {f : Nat → Int} (ha : EvR ta σ H (isV (.int lo))) (hb : EvR tb σ H (isV (.int hi))) (h0 : 0 ≤ lo ∧ lo ≤ 100000 ∧ -100000 ≤ hi ∧ hi ≤ 100000) (he : ∀ i H', i < (hi - lo).toNat → Same H H' → Val te ((wipe σ [j]).set j (some (.int (lo + (i : Int))))) H' (.int (f i))) :
    EvR (tLc (iRng2 (tCons ta (tCons tb tNil))) (gName j) tYes te [j]) σ H (isN ((List.range (hi - lo).toNat).map f)) := fun H1 e Q q =>
  ha H1 e _ fun x H2 e2 hx => hb H2 (e.trans e2) _ fun y H3 e3 hy => ⟨lo, hi, by rw [show x = V.int lo from hx, show y = V.int hi from hy], by omega, fun D hD => lcI f hD (by show (hi - lo).toNat ≤ 2 ^ 24; omega) (fun i H' hi s => he i H' hi (((e.trans e2).trans e3).trans s)) (fun H4 s4 h4 => q _ H4 ((e2.trans e3).trans s4) ⟨D, rfl, h4⟩)⟩
end
end Lk
/-! words: texts as lists of codes, what is a word, what it says -/
namespace Lk
open PySem L2
def cAt : List Nat := [97, 116, 32, 108, 101, 97, 115, 116]
def cBe : List Nat := [98, 101, 108, 111, 119]
def cNo : List Nat := [110, 111, 32, 119, 111, 114, 100]
def isDig (c : Nat) : Bool := decide (48 ≤ c) && decide (c ≤ 57)
def isNum (t : List Nat) : Bool := (decide (1 ≤ t.length) && decide (t.length ≤ 30)) && (!decide (t.head? = some 48)) && t.all isDig
def nVal (t : List Nat) : Nat := NumText.digitsVal t
def okSh (n d : Nat) : Bool := (decide (1 ≤ d) && decide (n ≤ d) && decide (Nat.gcd n d = 1)) && !(decide (n = 1) && decide (d = 1))
def rdShare (t : List Nat) : Option (Nat × Nat) :=
  match TL.spl [47] 0 [] t with
  | [p, q] => if isNum p && isNum q && okSh (nVal p) (nVal q) then some (nVal p, nVal q) else none
  | _ => none
/-- at least (true), below (false), with the share -/
def rdWord (l : List Nat) : Option (Bool × Nat × Nat) :=
  if TL.pre (cAt ++ [32]) l = true then (rdShare (l.drop 9)).map fun z => (true, z)
  else if TL.pre (cBe ++ [32]) l = true then (rdShare (l.drop 6)).map fun z => (false, z)
  else none
theorem isNum_len {t : List Nat} (h : isNum t = true) : 1 ≤ t.length ∧ t.length ≤ 30 ∧ t.all isDig = true ∧ t.head? ≠ some 48 := by
  unfold isNum at h
  simp only [Bool.and_eq_true, decide_eq_true_eq, Bool.not_eq_true', decide_eq_false_iff_not] at h
  exact ⟨h.1.1.1, h.1.1.2, h.2, h.1.2⟩
theorem isNum_int {t : List Nat} (h : isNum t = true) : intText? (SX.S t) = some ((nVal t : Nat) : Int) := by
  obtain ⟨h1, h2, h3, _⟩ := isNum_len h
  exact SX.int_S h3 (fun e => by rw [e] at h1; exact absurd h1 (by decide)) (by omega)
theorem starts_S {a b : List Nat} (hb : b ≠ []) : Txt.startswith (SX.S a) (SX.S b) = TL.pre b a := by
  have h := TL.at_iff (x := SX.S a) (y := SX.S b) (show TL.tl (SX.S b) ≠ [] from hb) 0
  unfold StrLaws.At at h
  unfold Txt.startswith
  rw [show TL.tl (SX.S b) = b from rfl, show TL.tl (SX.S a) = a from rfl, List.drop_zero] at h
  cases e : TL.pre b a with
  | true =>
    obtain ⟨h1, h2⟩ := h.mpr e
    rw [decide_eq_true h1, h2]
    rfl
  | false =>
    cases z : (decide (0 + (SX.S b).length ≤ (SX.S a).length) && Builtin.Str.subAt (SX.S a) (SX.S b) 0) with
    | false => rfl
    | true =>
      obtain ⟨z1, z2⟩ := Bool.and_eq_true_iff.mp z
      rw [h.mp ⟨of_decide_eq_true z1, z2⟩] at e
      cases e
/-! the texts of numbers -/
theorem numL_all (n : Nat) : (TL.numL n).all isDig = true := List.all_eq_true.mpr fun c hc => by
  have := TL.numL_digits n c hc
  exact Bool.and_eq_true_iff.mpr ⟨decide_eq_true this.1, decide_eq_true this.2⟩
theorem val_lt0 : ∀ (l : List Nat) (a : Nat), l.all isDig = true → l.foldl (fun acc c => acc * 10 + (c - 48)) a < (a + 1) * 10 ^ l.length
  | [], a, _ => by show a < (a + 1) * 1; omega
  | c :: l, a, h => by
    rw [List.all_cons, Bool.and_eq_true] at h
    have h2 : c ≤ 57 := of_decide_eq_true (Bool.and_eq_true_iff.mp h.1).2
    have h1 := val_lt0 l (a * 10 + (c - 48)) h.2
    show l.foldl _ (a * 10 + (c - 48)) < (a + 1) * 10 ^ (l.length + 1)
    refine Nat.lt_of_lt_of_le h1 ?_
    rw [Nat.pow_succ, Nat.mul_comm (10 ^ l.length) 10, ← Nat.mul_assoc]
    exact Nat.mul_le_mul_right _ (by omega)
theorem val_lt (l : List Nat) (h : l.all isDig = true) : NumText.digitsVal l < 10 ^ l.length := by
  have := val_lt0 l 0 h
  rw [Nat.zero_add, Nat.one_mul] at this
  exact this
theorem numL_len2 {n : Nat} (h : 10 ^ 30 ≤ n) : 30 < (TL.numL n).length := by
  refine Nat.lt_of_not_le fun q => ?_
  have h1 := val_lt (TL.numL n) (numL_all n)
  rw [TL.numL_val] at h1
  have := Nat.pow_le_pow_right (show 0 < 10 by decide) q
  omega
theorem numL_head {n : Nat} (h : 0 < n) : (TL.numL n).head? ≠ some 48 := by
  induction n using Nat.strongRecOn with
  | _ n ih =>
    rcases Nat.lt_or_ge n 10 with l | l
    · rw [TL.numL_lt l]
      show some (48 + n) ≠ some 48
      intro e
      have := Option.some.inj e
      omega
    · rw [TL.numL_step l]
      have h1 := ih (n / 10) (by omega) (by omega)
      have h2 := TL.numL_ne (n / 10)
      cases e : TL.numL (n / 10) with
      | nil => exact absurd e h2
      | cons c r =>
        rw [e] at h1
        exact h1
theorem isNum_numL {n : Nat} : isNum (TL.numL n) = (decide (0 < n) && decide (n < 10 ^ 30)) := by
  unfold isNum
  rw [numL_all, Bool.and_true]
  have h0 : 1 ≤ (TL.numL n).length := List.length_pos_iff.mpr (TL.numL_ne n)
  rcases Nat.eq_zero_or_pos n with e | e
  · subst e
    rw [show TL.numL 0 = [48] from TL.numL_lt (by decide)]
    decide
  · rw [decide_eq_true e, decide_eq_true h0, decide_eq_false (numL_head e)]
    by_cases h : n < 10 ^ 30
    · rw [decide_eq_true h, decide_eq_true (TL.numL_len (by decide) h)]
      rfl
    · rw [decide_eq_false h, decide_eq_false (Nat.not_le.mpr (numL_len2 (Nat.not_lt.mp h)))]
      rfl
theorem numL_long {n k : Nat} (hk : 0 < k) (h : n < 10 ^ k) : (TL.numL n).length ≤ k := TL.numL_len hk h
theorem spl_num (n d : Nat) : TL.spl [47] 0 [] (TL.numL n ++ (47 :: TL.numL d)) = [TL.numL n, TL.numL d] := by
  have h1 := TL.spl_part1 (s := 47) (S := []) (p := TL.numL n) (rest := TL.numL d) (acc := []) (TL.numL_free (by decide))
  have h2 := TL.spl_last1 (s := 47) (S := []) (p := TL.numL d) (acc := []) (TL.numL_free (by decide))
  rw [show TL.numL n ++ (47 :: TL.numL d) = TL.numL n ++ ([47] ++ TL.numL d) from rfl]
  exact h1.trans (by rw [h2]; rfl)
def okW (n d : Nat) : Bool := decide (0 < n) && decide (n < d) && decide (d < 10 ^ 30)
theorem rdShare_num {n d : Nat} (hg : Nat.gcd n d = 1) (hd : 1 ≤ d) (hn : n ≤ d) : rdShare (TL.numL n ++ (47 :: TL.numL d)) = if okW n d = true then some (n, d) else none := by
  unfold rdShare
  rw [spl_num]
  show (if _ then _ else _) = _
  rw [isNum_numL, isNum_numL]
  unfold nVal okSh okW
  rw [TL.numL_val, TL.numL_val, decide_eq_true hd, decide_eq_true hn, decide_eq_true hg]
  by_cases h1 : 0 < n
  · by_cases h2 : d < 10 ^ 30
    · by_cases h3 : n < d
      · have h4 : n < 10 ^ 30 := by omega
        have h5 : 0 < d := by omega
        have h6 : ¬ (n = 1 ∧ d = 1) := by omega
        have h7 : (decide (n = 1) && decide (d = 1)) = false := by
          rw [← Bool.not_eq_true, Bool.and_eq_true, decide_eq_true_eq, decide_eq_true_eq]
          exact h6
        rw [h7, decide_eq_true h1, decide_eq_true h2, decide_eq_true h3, decide_eq_true h4, decide_eq_true h5]
        rfl
      · have e : n = d := by omega
        subst e
        rw [Nat.gcd_self] at hg
        subst hg
        rfl
    · rw [decide_eq_false h2]
      simp
  · rw [decide_eq_false h1]
    simp
theorem rd_at (t : List Nat) : rdWord (cAt ++ (32 :: t)) = (rdShare t).map fun z => (true, z) := by
  unfold rdWord
  rw [if_pos (show TL.pre (cAt ++ [32]) (cAt ++ (32 :: t)) = true from TL.pre_self (cAt ++ [32]) t)]
  rfl
theorem rd_be (t : List Nat) : rdWord (cBe ++ (32 :: t)) = (rdShare t).map fun z => (false, z) := by
  unfold rdWord
  rw [if_neg (by show ¬ TL.pre (cAt ++ [32]) (98 :: _) = true; rw [show cAt ++ [32] = 97 :: [116, 32, 108, 101, 97, 115, 116, 32] from rfl, TL.pre_of_head _ _ (by decide)]; decide), if_pos (show TL.pre (cBe ++ [32]) (cBe ++ (32 :: t)) = true from TL.pre_self (cBe ++ [32]) t)]
  rfl
theorem rd_no : rdWord cNo = none := by decide
/-- a text read: nothing is said, or a kind with a share -/
def kTxt (b : Bool) : List Nat := if b then cAt else cBe
theorem rd_k (b : Bool) (t : List Nat) : rdWord (kTxt b ++ (32 :: t)) = (rdShare t).map fun z => (b, z) := by
  cases b with
  | true => exact rd_at t
  | false => exact rd_be t
/-! promises -/
theorem Raised.back {C : Addr} {f : Str} {v : V} {H H' : Hp} {E : XK} (h : Raised C f v H E) (e : Same H H') : Raised C f v H' E := fun d H2 s hd h2 => h d H2 (e.trans s) (e.free hd) h2
def spIsNum : Sp := fun vs H Q _ => ∃ t : List Nat, vs = [.str (SX.S t)] ∧ t.length ≤ 1000 ∧ ∀ H', Same H H' → Q (.bl (isNum t)) H'
def spReadShare (C : Addr) : Sp := fun vs H Q E => ∃ (w : Str) (t : List Nat), vs = [.str w, .str (SX.S t)] ∧ t.length ≤ 1000 ∧
  ((rdShare t = none ∧ Raised C "word" (.str w) H E) ∨ ∃ n d, rdShare t = some (n, d) ∧ ∀ p H', Same H H' → H' p = some (.tup [.int ((n : Nat) : Int), .int ((d : Nat) : Int)]) → Q (.ref p) H')
/-- what the reading of a text leads to -/
def ReadW (C : Addr) (l : List Nat) (H : Hp) (Q : VK) (E : XK) : Prop :=
  (l = cNo ∧ ∀ p H', Same H H' → H' p = some (.tup [.str (SX.S cNo), .non]) → Q (.ref p) H') ∨
  (l ≠ cNo ∧ rdWord l = none ∧ Raised C "word" (.str (SX.S l)) H E) ∨
  (l ≠ cNo ∧ ∃ b n d, rdWord l = some (b, n, d) ∧ ∀ p q H', Same H H' → H' q = some (.tup [.int ((n : Nat) : Int), .int ((d : Nat) : Int)]) → H' p = some (.tup [.str (SX.S (kTxt b)), .ref q]) → Q (.ref p) H')
def spReadWord (C : Addr) : Sp := fun vs H Q E => ∃ l : List Nat, vs = [.str (SX.S l)] ∧ l.length ≤ 1000 ∧ ReadW C l H Q E
/-- a def that hands its text on if it is a word -/
def spChecked (C : Addr) : Sp := fun vs H Q E => ∃ l : List Nat, vs = [.str (SX.S l)] ∧ l.length ≤ 1000 ∧ ((l ≠ cNo ∧ rdWord l = none ∧ Raised C "word" (.str (SX.S l)) H E) ∨ ((l = cNo ∨ rdWord l ≠ none) ∧ ∀ H', Same H H' → Q (.str (SX.S l)) H'))
end Lk
/-! comprehensions over a text; small expressions on texts -/
namespace Lk
open PySem L2
theorem e_no : (("no word" : Str)) = SX.S cNo := TL.ext_tl (by rw [TL.tl_ofString]; rfl)
theorem e_at : (("at least" : Str)) = SX.S cAt := TL.ext_tl (by rw [TL.tl_ofString]; rfl)
theorem e_be : (("below" : Str)) = SX.S cBe := TL.ext_tl (by rw [TL.tl_ofString]; rfl)
theorem e_at2 : (("at least " : Str)) = SX.S (cAt ++ [32]) := TL.ext_tl (by rw [TL.tl_ofString]; rfl)
theorem e_be2 : (("below " : Str)) = SX.S (cBe ++ [32]) := TL.ext_tl (by rw [TL.tl_ofString]; rfl)
theorem e_sp : ((" " : Str)) = SX.S [32] := TL.ext_tl (by rw [TL.tl_ofString]; rfl)
theorem e_sl : (("/" : Str)) = SX.S [47] := TL.ext_tl (by rw [TL.tl_ofString]; rfl)
theorem e_ze : (("0" : Str)) = SX.S [48] := TL.ext_tl (by rw [TL.tl_ofString]; rfl)
theorem e_dg : (("0123456789" : Str)) = SX.S [48, 49, 50, 51, 52, 53, 54, 55, 56, 57] := TL.ext_tl (by rw [TL.tl_ofString]; rfl)
theorem in_dig (c : Nat) : decide (c ∈ (SX.S [48, 49, 50, 51, 52, 53, 54, 55, 56, 57]).cps.toList) = isDig c := by
  have e : (SX.S [48, 49, 50, 51, 52, 53, 54, 55, 56, 57]).cps.toList = [48, 49, 50, 51, 52, 53, 54, 55, 56, 57] := rfl
  rw [e]
  unfold isDig
  rw [← Bool.decide_and]
  refine decide_eq_decide.mpr ⟨fun h => ?_, fun h => ?_⟩
  · simp only [List.mem_cons, List.not_mem_nil, or_false] at h
    omega
  · simp only [List.mem_cons, List.not_mem_nil, or_false]
    omega
section
variable {K : PySem.W.Frag} {C : Addr} {σ : L2.St} {H H' : Hp} {ta tb te : TE} {t : TT} {v w : V} {i : Nat} {E : XK} {b : Bool} {l m : List Nat} {vs : List V} {n : Int}
theorem et_ans (h : ∀ H1, Same H H1 → Ans t σ H1 b) : Evl.EvT t σ H b := fun H1 e Q q => h H1 e (fun c H2 => Q c H2) (q H1 (Same.refl _))
theorem lcS {z : Str} {te : TE} {i : Nat} {H1 : Hp} {D : Addr} {Qd : Hp → Prop} (f : Nat → Bool) (hD : H1 D = none) (hn : z.cps.size ≤ sizeLine)
    (he : ∀ c H, Same H1 H → Val te ((wipe σ [i]).set i (some (.str ⟨#[c]⟩))) H (.bl (f c))) (hd : ∀ H, Same H1 H → H D = some (.lst ((z.cps.toList.map f).map V.bl)) → Qd H) :
    ∃ W : Nat → Nat → Hp → Prop, (∃ m, W 0 m (upd H1 D (.lst []))) ∧ ∀ i' m H, W i' m H →
      ((Its z).stop i' H ∧ Qd H) ∨ ((Its z).go i' H ∧ ∃ Nx : Hp → Prop, (∀ H', Nx H' → ∃ m', m' < m ∧ W (i' + 1) m' H') ∧ ∀ x H', (Its z).yld i' H x H' → gName i x (wipe σ [i]) H' fun σ2 H2 => wipe σ2 [i] = wipe σ [i] ∧ tYes σ2 H2 fun b H3 =>
        if b = true then te σ2 H3 fun y H4 => ∃ acc, H4 D = some (.lst acc) ∧ acc.length < sizeLine ∧ Nx (upd H4 D (.lst (acc ++ [y]))) else Nx H3) := by
  refine ⟨fun j m H => m = z.cps.size - j ∧ j ≤ z.cps.size ∧ Same H1 H ∧ H D = some (.lst (((z.cps.toList.take j).map f).map V.bl)), ⟨z.cps.size, rfl, Nat.zero_le _, same_upd hD, upd_same⟩, ?_⟩
  rintro j m H ⟨rfl, hj, s1, h1⟩
  by_cases hlt : j < z.cps.size
  · refine .inr ⟨hlt, fun H' => Same H1 H' ∧ H' D = some (.lst (((z.cps.toList.take (j + 1)).map f).map V.bl)), fun H' q => ⟨z.cps.size - (j + 1), by omega, rfl, hlt, q⟩, ?_⟩
    rintro x H' ⟨rfl, c, hc, rfl⟩
    have hl : j < z.cps.toList.length := by rw [Array.length_toList]; exact hlt
    have ec : z.cps.toList[j] = c := by
      rw [Array.getElem?_eq_getElem hlt] at hc
      exact Option.some.inj hc
    refine ⟨?_, ?_⟩
    · show ((σ.set i none).set i _).set i none = σ.set i none
      rw [List.set_set, List.set_set]
    · refine he c H' s1 (fun y H4 => ∃ acc, H4 D = some (.lst acc) ∧ acc.length < sizeLine ∧ Same H1 (upd H4 D (.lst (acc ++ [y]))) ∧ (upd H4 D (.lst (acc ++ [y]))) D = some (.lst (((z.cps.toList.take (j + 1)).map f).map V.bl))) ⟨_, h1, ?_, ?_, ?_⟩
      · rw [List.length_map, List.length_map, List.length_take]
        omega
      · exact fun b o e => by rw [upd_ne (ne_of_none e hD)]; exact s1 b o e
      · rw [upd_same, List.take_succ_eq_append_getElem hl, ec, List.map_append, List.map_append]
        rfl
  · have ej : j = z.cps.size := by omega
    subst ej
    refine .inl ⟨Nat.le_refl _, hd H s1 ?_⟩
    rw [h1, List.take_of_length_le (by rw [Array.length_toList]; exact Nat.le_refl _)]
theorem spl_le (c : Nat) : ∀ (t acc : List Nat), ∀ q ∈ TL.spl [c] 0 acc t, q.length ≤ acc.length + t.length
  | [], acc, q, h => by
    rw [TL.spl_nil] at h
    rw [List.mem_singleton.mp h]
    exact Nat.le_add_right _ _
  | x :: r, acc, q, h => by
    cases e : TL.pre [c] (x :: r) with
    | true =>
      rw [TL.spl_hit e] at h
      rcases List.mem_cons.mp h with h | h
      · rw [h]
        exact Nat.le_add_right _ _
      · have := spl_le c r [] q h
        rw [List.length_cons]
        have e0 : ([] : List Nat).length = 0 := rfl
        omega
    | false =>
      rw [TL.spl_miss e] at h
      have := spl_le c r (acc ++ [x]) q h
      rw [List.length_append] at this
      rw [List.length_cons]
      have e0 : [x].length = 1 := rfl
      omega
/-- a list of any values -/
def isVs (K : PySem.W.Frag) (vs : List V) : Hp → V → Prop := fun H v => ∃ p, v = .ref p ∧ SqL K H p vs
instance {vs : List V} : Up (isVs K vs) := ⟨fun e ⟨p, h1, h2⟩ => ⟨p, h1, e.seq h2⟩⟩
theorem er_lenV (ha : EvR ta σ H (isVs K vs)) : EvR (tCB (fun xs H Q => ∃ p ys, xs = [V.ref p] ∧ (SqL K H p ys ∨ SqT K H p ys) ∧ Q (V.int ys.length) H) (tCons ta tNil)) σ H (isV (.int vs.length)) :=
  er_cb1 ha fun H1 _ ⟨p, ex, hx⟩ Q k => ⟨p, _, by rw [ex], .inl hx, k _ H1 (Same.refl _) rfl⟩
theorem er_ixV (ha : EvR ta σ H (isVs K vs)) (hb : EvR tb σ H (isV (.int n))) (h : atI vs n = some v) : EvR (tOp (rIxL K) ta tb) σ H (isV v) :=
  er_op ha hb fun H1 x y _ ⟨p, ex, hx⟩ hy Q k => ⟨p, _, n, _, ex, hy, hx, h, k _ H1 (Same.refl _) rfl⟩
theorem er_isNum (ha : EvR ta σ H (isV (.str (SX.S l)))) (hl : l.length ≤ 1000) : EvR (tCall spIsNum [] E (tCons ta tNil)) σ H (isV (.bl (isNum l))) :=
  er_call1 ha fun H1 x hx Q k => ⟨l, by rw [show x = _ from hx], hl, fun H2 s2 => k _ H2 s2 rfl⟩
/-- the sizes of what is read -/
theorem rdShare_bd {t : List Nat} {n d : Nat} (h : rdShare t = some (n, d)) : n < 10 ^ 30 ∧ d < 10 ^ 30 ∧ 1 ≤ d := by
  unfold rdShare at h
  split at h
  · rename_i p q _
    split at h
    · rename_i hc
      obtain ⟨h1, h2⟩ := Prod.mk.inj (Option.some.inj h)
      rw [Bool.and_eq_true, Bool.and_eq_true] at hc
      obtain ⟨⟨a, b⟩, c⟩ := hc
      obtain ⟨_, a2, a3, _⟩ := isNum_len a
      obtain ⟨_, b2, b3, _⟩ := isNum_len b
      have v1 := val_lt p a3
      have v2 := val_lt q b3
      have p1 := Nat.pow_le_pow_right (show 0 < 10 by decide) a2
      have p2 := Nat.pow_le_pow_right (show 0 < 10 by decide) b2
      unfold okSh at c
      simp only [Bool.and_eq_true, decide_eq_true_eq] at c
      unfold nVal at *
      omega
    · cases h
  · cases h
theorem rdWord_bd {t : List Nat} {b : Bool} {n d : Nat} (h : rdWord t = some (b, n, d)) : n < 10 ^ 30 ∧ d < 10 ^ 30 ∧ 1 ≤ d := by
  unfold rdWord at h
  split at h
  · obtain ⟨z, h1, h2⟩ := Option.map_eq_some_iff.mp h
    obtain ⟨_, e⟩ := Prod.mk.inj h2
    exact rdShare_bd (e ▸ h1)
  · split at h
    · obtain ⟨z, h1, h2⟩ := Option.map_eq_some_iff.mp h
      obtain ⟨_, e⟩ := Prod.mk.inj h2
      exact rdShare_bd (e ▸ h1)
    · cases h
end
theorem k_len (b : Bool) : (kTxt b).length = if b then 8 else 5 := by cases b <;> rfl
def wText (b : Bool) (n d : Nat) : List Nat := kTxt b ++ (32 :: (TL.numL n ++ (47 :: TL.numL d)))
theorem wText_len {b : Bool} {n d : Nat} (hn : n < 10 ^ 40) (hd : d < 10 ^ 40) : (wText b n d).length ≤ 100 := by
  have ln := numL_long (k := 40) (by decide) hn
  have ld := numL_long (k := 40) (by decide) hd
  have lk := k_len b
  unfold wText
  simp only [List.length_append, List.length_cons]
  split at lk <;> omega
theorem wText_no {b : Bool} {n d : Nat} : wText b n d ≠ cNo := by
  cases b <;> (intro h; have := (List.cons.inj h).1; exact absurd this (by decide))
theorem wText_rd {b : Bool} {n d : Nat} (hg : Nat.gcd n d = 1) (hd : 1 ≤ d) (hn : n ≤ d) : rdWord (wText b n d) = if okW n d = true then some (b, n, d) else none := by
  unfold wText
  rw [rd_k, rdShare_num hg hd hn]
  split <;> rfl
def spMade (K : PySem.W.Frag) (C : Addr) (b : Bool) : Sp := fun vs H Q E => ∃ (p : Addr) (n d : Nat), vs = [.ref p] ∧ SqT K H p [.int ((n : Nat) : Int), .int ((d : Nat) : Int)] ∧ n < 10 ^ 40 ∧ d < 10 ^ 40 ∧
  ((rdWord (wText b n d) = none ∧ Raised C "word" (.str (SX.S (wText b n d))) H E) ∨ (rdWord (wText b n d) ≠ none ∧ ∀ H', Same H H' → Q (.str (SX.S (wText b n d))) H'))
theorem num_nat (n : Nat) : toString ((n : Nat) : Int) = (Int.repr ((n : Nat) : Int)) := rfl
section
variable {K : PySem.W.Frag} {σ : L2.St} {H : Hp} {ta tb : TE} {x y : Str} {n : Nat} {b : Bool}
theorem val_addS (ha : Val ta σ H (.str x)) (hb : Val tb σ H (.str y)) (hl : x.length + y.length ≤ sizeLine) : Val (tOp (fun x y H Q => ∃ i j, x = V.str i ∧ y = V.str j ∧ i.length + j.length ≤ sizeLine ∧ Q (V.str (i ++ j)) H) ta tb) σ H (.str (x ++ y)) := fun Q q => ha _ (hb _ ⟨x, y, rfl, rfl, hl, q⟩)
theorem val_strN (ha : Val ta σ H (.int ((n : Nat) : Int))) (hn : n < 10 ^ 40) : Val (tCB (fun xs H Q => ∃ i, xs = [V.int i] ∧ i.natAbs.log2 < 1920 ∧ Q (V.str (Str.ofString (toString i))) H) (tCons ta tNil)) σ H (.str (SX.S (TL.numL n))) := fun Q q => ha _ ⟨_, rfl, by rw [Int.natAbs_natCast]; exact Nat.lt_of_lt_of_le (log2_lt (b := 140) (by decide) (by omega)) (by decide), by rw [SX.num_S n]; exact q⟩
/-- n/d as a text -/
def fTxt (n d : Nat) : List Nat := TL.numL n ++ (47 :: TL.numL d)
theorem fTxt_len {n d : Nat} (hn : n < 10 ^ 40) (hd : d < 10 ^ 40) : (fTxt n d).length ≤ 81 := by
  have ln := numL_long (k := 40) (by decide) hn
  have ld := numL_long (k := 40) (by decide) hd
  unfold fTxt
  simp only [List.length_append, List.length_cons]
  omega
theorem s_big {l : List Nat} (h : l.length ≤ 1000) : (SX.S l).length ≤ 1000 := by rw [SX.S_len]; exact h
theorem fTxt_cat (n d : Nat) : SX.S (TL.numL n) ++ ("/" : Str) ++ SX.S (TL.numL d) = SX.S (fTxt n d) := by
  rw [e_sl, SX.S_cat, SX.S_cat]
  unfold fTxt
  rw [List.append_assoc]
  rfl
theorem wTxt_at (n d : Nat) : ("at least " : Str) ++ SX.S (fTxt n d) = SX.S (wText true n d) := by
  rw [e_at2, SX.S_cat]
  rfl
theorem wTxt_be (n d : Nat) : ("below " : Str) ++ SX.S (fTxt n d) = SX.S (wText false n d) := by
  rw [e_be2, SX.S_cat]
  rfl
theorem len_at2 : ("at least " : Str).length = 9 := by rw [e_at2, SX.S_len]; rfl
theorem len_be2 : ("below " : Str).length = 6 := by rw [e_be2, SX.S_len]; rfl
theorem len_sl : ("/" : Str).length = 1 := by rw [e_sl, SX.S_len]; rfl
def isPrT (K : PySem.W.Frag) (n d : Int) : Hp → V → Prop := fun H v => ∃ p, v = .ref p ∧ SqT K H p [.int n, .int d]
instance {n d : Int} : Up (isPrT K n d) := ⟨fun e ⟨p, h1, h2⟩ => ⟨p, h1, e.tup h2⟩⟩
end
end Lk
/-! the laws' own reading of words, and loops over texts -/
namespace Lk
open PySem L2
theorem for_S {z : Str} {g : TG} {tb : TS} {D : Ends} {σ : L2.St} {H : Hp} (Pv : Nat → L2.St → Hp → Prop) (h0 : Pv 0 σ H)
    (hs : ∀ i c σ H, z.cps.toList[i]? = some c → Pv i σ H → g (.str ⟨#[c]⟩) σ H fun σ2 H2 => tb { D with nx := Pv (i + 1), ct := Pv (i + 1), bk := D.nx } σ2 H2) (hd : ∀ σ H, Pv z.cps.size σ H → D.nx σ H) :
    ∃ W : Nat → Nat → L2.St → Hp → Prop, (∃ m, W 0 m σ H) ∧ ∀ i m σ H, W i m σ H →
      ((Its z).stop i H ∧ D.nx σ H) ∨ ((Its z).go i H ∧ ∃ N : L2.St → Hp → Prop, (∀ σ' H', N σ' H' → ∃ m', m' < m ∧ W (i + 1) m' σ' H') ∧ ∀ v H', (Its z).yld i H v H' → g v σ H' fun σ2 H2 => tb { D with nx := N, ct := N, bk := D.nx } σ2 H2) := by
  refine ⟨fun i m σ H => m = z.cps.size - i ∧ i ≤ z.cps.size ∧ Pv i σ H, ⟨z.cps.size, rfl, Nat.zero_le _, h0⟩, ?_⟩
  rintro i m σ H ⟨rfl, hi, p⟩
  by_cases hlt : i < z.cps.size
  · refine .inr ⟨hlt, Pv (i + 1), fun σ' H' p' => ⟨z.cps.size - (i + 1), by omega, rfl, hlt, p'⟩, ?_⟩
    rintro v H' ⟨rfl, c, hc, rfl⟩
    exact hs i c σ H' (by rw [Array.getElem?_toList]; exact hc) p
  · obtain rfl : i = z.cps.size := by omega
    exact .inl ⟨Nat.le_refl _, hd σ H p⟩
def lawNum (t : List Nat) : Int := if (decide (t = []) || (decide (30 < t.length) || (decide (t.head? = some 48) && decide (1 < t.length)))) = true then -1 else if t.all isDig = true then ((nVal t : Nat) : Int) else -1
theorem num_yes {t : List Nat} (h : isNum t = true) : lawNum t = ((nVal t : Nat) : Int) ∧ 1 ≤ nVal t := by
  obtain ⟨h1, h2, h3, h4⟩ := isNum_len h
  refine ⟨?_, ?_⟩
  · unfold lawNum
    rw [if_neg, if_pos h3]
    simp only [Bool.or_eq_true, Bool.and_eq_true, decide_eq_true_eq]
    rintro (q | q | q)
    · rw [q] at h1
      exact absurd h1 (by decide)
    · omega
    · exact h4 q.1
  · cases t with
    | nil => exact absurd h1 (by decide)
    | cons c r =>
      have hc : 48 ≤ c := by
        rw [List.all_cons, Bool.and_eq_true] at h3
        exact of_decide_eq_true (Bool.and_eq_true_iff.mp h3.1).1
      have h5 : c ≠ 48 := fun e => h4 (by rw [e]; rfl)
      exact NumText.digitsVal_pos (by omega)
theorem num_no {t : List Nat} (h : isNum t = false) : lawNum t ≤ 0 := by
  unfold lawNum
  split
  · decide
  · rename_i hc
    split
    · rename_i hd
      simp only [Bool.or_eq_true, Bool.and_eq_true, decide_eq_true_eq, not_or, not_and] at hc
      obtain ⟨c1, c2, c3⟩ := hc
      have l1 : 1 ≤ t.length := List.length_pos_iff.mpr c1
      have hh : t.head? = some 48 := by
        by_cases q : t.head? = some 48
        · exact q
        · unfold isNum at h
          rw [hd, decide_eq_true l1, decide_eq_true (show t.length ≤ 30 by omega), decide_eq_false q] at h
          cases h
      have l2 : ¬ 1 < t.length := c3 hh
      match t, hh with
      | [c], hh =>
        have : c = 48 := Option.some.inj hh
        subst this
        decide
      | c :: c2 :: r, _ => exact absurd (by simp) l2
    · decide
def lawOk (p q : List Nat) : Bool := (decide (0 < lawNum p) && decide (lawNum p < lawNum q)) && decide (Nat.gcd (lawNum p).natAbs (lawNum q).natAbs = 1)
theorem law_ok (p q : List Nat) : lawOk p q = (isNum p && isNum q && okSh (nVal p) (nVal q)) := by
  cases hp : isNum p with
  | false =>
    have := num_no hp
    unfold lawOk
    rw [decide_eq_false (show ¬ 0 < lawNum p by omega)]
    rfl
  | true =>
    obtain ⟨e1, n1⟩ := num_yes hp
    cases hq : isNum q with
    | false =>
      have := num_no hq
      unfold lawOk
      rw [decide_eq_false (show ¬ lawNum p < lawNum q by omega)]
      simp
    | true =>
      obtain ⟨e2, n2⟩ := num_yes hq
      unfold lawOk okSh
      rw [e1, e2, Int.natAbs_natCast, Int.natAbs_natCast]
      generalize nVal p = n at *
      generalize nVal q = d at *
      rw [decide_eq_true (show (0 : Int) < (n : Int) by omega), decide_eq_true n2]
      have z1 : decide ((n : Int) < (d : Int)) = decide (n < d) := decide_eq_decide.mpr (by omega)
      rw [z1]
      by_cases hg : Nat.gcd n d = 1
      · rw [decide_eq_true hg]
        by_cases h1 : n < d
        · have h6 : (decide (n = 1) && decide (d = 1)) = false := by
            rw [← Bool.not_eq_true, Bool.and_eq_true, decide_eq_true_eq, decide_eq_true_eq]
            omega
          rw [decide_eq_true h1, decide_eq_true (show n ≤ d by omega), h6]
          rfl
        · by_cases h2 : n = d
          · subst h2
            rw [Nat.gcd_self] at hg
            subst hg
            rfl
          · rw [decide_eq_false h1, decide_eq_false (show ¬ n ≤ d by omega)]
            rfl
      · rw [decide_eq_false hg]
        simp
theorem pre_two {l : List Nat} (h : TL.pre (cBe ++ [32]) l = true) : TL.pre (cAt ++ [32]) l = false := by
  cases l with
  | nil => exact absurd h (by decide)
  | cons c r =>
    have e : (c :: r).take (cBe ++ [32]).length = cBe ++ [32] := eq_of_beq h
    have hc : c = 98 := (List.cons.inj e).1
    subst hc
    rw [show cAt ++ [32] = 97 :: [116, 32, 108, 101, 97, 115, 116, 32] from rfl]
    exact TL.pre_of_head _ _ (by decide)
/-- a picked text -/
theorem pickS (xs : List V) (m : Nat) (hb : ∀ x ∈ xs, ∃ z : Str, x = .str z ∧ z.length ≤ m) {d : Int} (h0 : 0 ≤ d) (h1 : d < (xs.length : Int)) : ∃ l : List Nat, atI xs d = some (V.str (SX.S l)) ∧ l.length ≤ m := by
  have hd : d.toNat < xs.length := by omega
  obtain ⟨z, e, hz⟩ := hb _ (List.getElem_mem hd)
  refine ⟨z.cps.toList, atI_of h0 ?_, ?_⟩
  · rw [List.getElem?_eq_getElem hd, e, SX.S_tl]
  · rw [Array.length_toList]
    exact hz
end Lk
/-! rings: targets, rows, which states end, which row is at fault -/
namespace Lk
open PySem L2
inductive Tg where
  | n (k : Int)
  | w (l : List Nat)
def Tg.v : Tg → V
  | .n k => .int k
  | .w l => .str (SX.S l)
def Tg.d : Tg → PyData
  | .n k => .int k
  | .w l => .str (SX.S l)
def isW (l : List Nat) : Bool := decide (l = cNo) || (rdWord l).isSome
def odds : List (List Nat) := [[], [109, 97, 121, 98, 101], cAt ++ [32, 50, 47, 50]]
/-- a text as the law draws it -/
def Wd (l : List Nat) : Prop := l.length ≤ 200 ∧ PySem.PyData.strOk (SX.S l) = true ∧ isW l = !decide (l ∈ odds)
def TgB : Tg → Prop
  | .n k => k.natAbs ≤ 10 ^ 7
  | .w l => Wd l
def tgOk (n : Nat) : Tg → Bool
  | .n k => decide (0 ≤ k) && decide (k < (n : Int))
  | .w l => isW l
def rowBad (n s : Nat) (r : List Tg) : Bool := decide (6 ≤ s) || (!decide (r.length = 2) || !r.all (tgOk n))
def least (P : Nat → Bool) (n : Nat) : Option Nat := (List.range n).find? P
theorem least_some {P : Nat → Bool} {n i : Nat} (hi : i < n) (h : P i = true) (hl : ∀ j, j < i → P j = false) : least P n = some i := by
  unfold least
  rw [List.find?_range_eq_some]
  exact ⟨h, List.mem_range.mpr hi, fun j hj => by rw [hl j hj]; rfl⟩
theorem least_none {P : Nat → Bool} {n : Nat} (h : ∀ j, j < n → P j = false) : least P n = none := by
  unfold least
  rw [List.find?_eq_none]
  exact fun j hj => by rw [h j (List.mem_range.mp hj)]; decide
theorem least_yes {P : Nat → Bool} {n i : Nat} (h : least P n = some i) : i < n ∧ P i = true ∧ ∀ j, j < i → P j = false := by
  unfold least at h
  rw [List.find?_range_eq_some] at h
  refine ⟨List.mem_range.mp h.2.1, h.1, fun j hj => ?_⟩
  have := h.2.2 j hj
  rw [Bool.not_eq_true'] at this
  exact this
theorem least_no {P : Nat → Bool} {n : Nat} (h : least P n = none) : ∀ j, j < n → P j = false := by
  unfold least at h
  rw [List.find?_eq_none] at h
  intro j hj
  have := h j (List.mem_range.mpr hj)
  rw [Bool.not_eq_true] at this
  exact this
/-- the states that lead to a word in at most k tries -/
def ends (rs : List (List Tg)) : Nat → Nat → Bool
  | 0, _ => false
  | k + 1, s => (rs.getD s []).any fun t => match t with
    | .w _ => true
    | .n j => ends rs k j.toNat
def badAt (rs : List (List Tg)) (s : Nat) : Bool := rowBad rs.length s (rs.getD s [])
/-- the fault of a ring: none, or a row's (or the start's) number (true), or an endless state's (false) -/
def fault (rs : List (List Tg)) (first : Int) : Option (Bool × Int) :=
  if rs = [] then some (true, 0) else
  match least (badAt rs) rs.length with
  | some s => some (true, (s : Int))
  | none => if first < 0 ∨ (rs.length : Int) ≤ first then some (true, first) else
    match least (fun s => !ends rs rs.length s) rs.length with
    | some s => some (false, (s : Int))
    | none => none
theorem ends_up (rs : List (List Tg)) : ∀ k s, ends rs k s = true → ends rs (k + 1) s = true
  | 0, s, h => by cases h
  | k + 1, s, h => by
    unfold ends at h ⊢
    rw [List.any_eq_true] at h ⊢
    obtain ⟨t, ht, h⟩ := h
    refine ⟨t, ht, ?_⟩
    cases t with
    | w l => rfl
    | n j => exact ends_up rs k _ h
theorem ends_le (rs : List (List Tg)) {j k s : Nat} (h : j ≤ k) (e : ends rs j s = true) : ends rs k s = true := by
  induction h with
  | refl => exact e
  | step _ ih => exact ends_up rs _ _ ih
/-- all targets are words or states -/
def Closed (rs : List (List Tg)) : Prop := ∀ r ∈ rs, ∀ k, Tg.n k ∈ r → 0 ≤ k ∧ k < (rs.length : Int)
theorem ends_same {rs : List (List Tg)} (hc : Closed rs) {k : Nat} (h : ∀ s, s < rs.length → ends rs k s = ends rs (k + 1) s) : ∀ m s, s < rs.length → ends rs (k + m) s = ends rs k s
  | 0, s, _ => rfl
  | m + 1, s, hs => by
    rw [← ends_same hc h m s hs]
    have e : ends rs (k + m + 1) s = ends rs (k + 1) s := by
      unfold ends
      have hm : rs.getD s [] ∈ rs := by
        rw [List.getD_eq_getElem?_getD, List.getElem?_eq_getElem hs]
        exact List.getElem_mem hs
      rw [Bool.eq_iff_iff, List.any_eq_true, List.any_eq_true]
      constructor
      · rintro ⟨t, ht, h2⟩
        refine ⟨t, ht, ?_⟩
        cases t with
        | w l => rfl
        | n j =>
          have := hc _ hm j ht
          have e2 := ends_same hc h m j.toNat (by omega)
          exact e2.symm.trans h2
      · rintro ⟨t, ht, h2⟩
        refine ⟨t, ht, ?_⟩
        cases t with
        | w l => rfl
        | n j =>
          have := hc _ hm j ht
          have e2 := ends_same hc h m j.toNat (by omega)
          exact e2.trans h2
    rw [show k + (m + 1) = k + m + 1 by omega, e, ← h s hs, ends_same hc h m s hs]
theorem count_le {p q : Nat → Bool} (h : ∀ s, p s = true → q s = true) : ∀ l : List Nat, (l.filter p).length ≤ (l.filter q).length
  | [] => Nat.le_refl _
  | s :: l => by
    have ih := count_le h l
    rw [List.filter_cons, List.filter_cons]
    cases hp : p s with
    | true =>
      rw [h s hp]
      simp only [if_true, List.length_cons]
      omega
    | false =>
      cases hq : q s <;> simp [ih] <;> omega
theorem count_lt {p q : Nat → Bool} (h : ∀ s, p s = true → q s = true) : ∀ l : List Nat, (∃ s ∈ l, p s ≠ q s) → (l.filter p).length < (l.filter q).length
  | [], ⟨_, hs, _⟩ => by cases hs
  | s :: l, hx => by
    have il := count_le h l
    rw [List.filter_cons, List.filter_cons]
    cases hp : p s with
    | true =>
      have ih := count_lt h l (by
        obtain ⟨t, ht, hn⟩ := hx
        rcases List.mem_cons.mp ht with e | ht
        · rw [e, hp, h s hp] at hn
          exact absurd rfl hn
        · exact ⟨t, ht, hn⟩)
      rw [h s hp]
      simp only [if_true, List.length_cons]
      omega
    | false =>
      cases hq : q s with
      | true =>
        simp only [Bool.false_eq_true, if_false, if_true, List.length_cons]
        omega
      | false =>
        have ih := count_lt h l (by
          obtain ⟨t, ht, hn⟩ := hx
          rcases List.mem_cons.mp ht with e | ht
          · rw [e, hp, hq] at hn
            exact absurd rfl hn
          · exact ⟨t, ht, hn⟩)
        simp only [Bool.false_eq_true, if_false]
        exact ih
/-- after as many rounds as there are states nothing changes -/
theorem ends_all {rs : List (List Tg)} (hc : Closed rs) {k s : Nat} (hs : s < rs.length) (h : ends rs k s = true) : ends rs rs.length s = true := by
  have key : ∀ k, (∃ j, j < k ∧ ∀ s, s < rs.length → ends rs j s = ends rs (j + 1) s) ∨ k ≤ ((List.range rs.length).filter (ends rs k)).length := by
    intro k
    induction k with
    | zero => exact .inr (Nat.zero_le _)
    | succ k ih =>
      rcases ih with ⟨j, hj, h⟩ | ih
      · exact .inl ⟨j, by omega, h⟩
      · by_cases hx : ∃ s ∈ List.range rs.length, ends rs k s ≠ ends rs (k + 1) s
        · have := count_lt (fun s => ends_up rs k s) _ hx
          exact .inr (by omega)
        · refine .inl ⟨k, by omega, fun s hs => ?_⟩
          by_cases e : ends rs k s = ends rs (k + 1) s
          · exact e
          · exact absurd ⟨s, List.mem_range.mpr hs, e⟩ hx
  by_cases hk : k ≤ rs.length
  · exact ends_le rs hk h
  · rcases key rs.length with ⟨j, hj, hst⟩ | hn
    · have e1 := ends_same hc hst (k - j) s hs
      have e2 := ends_same hc hst (rs.length - j) s hs
      rw [show j + (k - j) = k by omega] at e1
      rw [show j + (rs.length - j) = rs.length by omega] at e2
      rw [e2, ← e1]
      exact h
    · have e3 : ((List.range rs.length).filter (ends rs rs.length)).length = (List.range rs.length).length := by
        have := List.length_filter_le (ends rs rs.length) (List.range rs.length)
        rw [List.length_range] at this ⊢
        omega
      have e4 := List.length_filter_eq_length_iff.mp e3
      exact e4 s (List.mem_range.mpr hs)
theorem closed_of {rs : List (List Tg)} (h : ∀ s, s < rs.length → badAt rs s = false) : Closed rs := by
  intro r hr k hk
  obtain ⟨i, hi, rfl⟩ := List.getElem_of_mem hr
  have := h i hi
  unfold badAt rowBad at this
  rw [List.getD_eq_getElem?_getD, List.getElem?_eq_getElem hi] at this
  simp only [Option.getD_some, Bool.or_eq_false_iff, Bool.not_eq_false'] at this
  have h2 := List.all_eq_true.mp this.2.2 _ hk
  obtain ⟨a, b⟩ := Bool.and_eq_true_iff.mp h2
  exact ⟨of_decide_eq_true a, of_decide_eq_true b⟩
/-! ### rows on the heap -/
def RowsIn (H : Hp) (as : List Addr) (rs : List (List Tg)) : Prop := as.length = rs.length ∧ ∀ (i : Nat) (a : Addr) (r : List Tg), as[i]? = some a → rs[i]? = some r → H a = some (.tup (r.map Tg.v))
theorem RowsIn.same {H H' : Hp} {as : List Addr} {rs : List (List Tg)} (h : RowsIn H as rs) (e : Same H H') : RowsIn H' as rs := ⟨h.1, fun i a r x y => e _ _ (h.2 i a r x y)⟩
theorem RowsIn.ext {H H' : Hp} {b c : Addr} {as : List Addr} {rs : List (List Tg)} (h : RowsIn H as rs) (B : BoxAt H b c) (e : Ext b c H H') : RowsIn H' as rs := ⟨h.1, fun i a r x y => by
  have q := h.2 i a r x y
  obtain ⟨ns, k, s, h1, h2, _⟩ := B
  refine e a _ (fun z => ?_) (fun z => ?_) q
  · rw [z, h1] at q
    cases q
  · rw [z, h2] at q
    cases q⟩
/-- the bounds of drawn rows -/
def RsB (rs : List (List Tg)) : Prop := rs.length ≤ 20 ∧ ∀ r ∈ rs, r.length ≤ 5 ∧ ∀ t ∈ r, TgB t
/-! ### == of rows -/
theorem dp_tgs {K : PySem.W.Frag} {H : Hp} : ∀ r : List Tg, DpAll K H (r.map Tg.v) (r.map Tg.d)
  | [] => .nil
  | .n k :: r => .cons (.int k) (dp_tgs r)
  | .w l :: r => .cons (.str _) (dp_tgs r)
def rowD (r : List Tg) : PyData := .tuple (r.map Tg.d)
theorem dp_rows {K : PySem.W.Frag} {H : Hp} : ∀ {as : List Addr} {rs : List (List Tg)}, RowsIn H as rs → DpAll K H (as.map V.ref) (rs.map rowD)
  | [], [], _ => .nil
  | [], _ :: _, h => by cases h.1
  | _ :: _, [], h => by cases h.1
  | a :: as, r :: rs, h => .cons (.tup (SqT.of (h.2 0 a r rfl rfl)) (dp_tgs r)) (dp_rows ⟨Nat.succ.inj h.1, fun i b q x y => h.2 (i + 1) b q x y⟩)
theorem can_tgs : ∀ {r : List Tg}, (∀ t ∈ r, TgB t) → PyData.canLayAll0 (r.map Tg.d) = true
  | [], _ => by simp [PyData.canLayAll0]
  | .n k :: r, h => by simp [PyData.canLayAll0, PyData.canLay0, Tg.d, can_tgs (fun t ht => h t (List.mem_cons_of_mem _ ht))]
  | .w l :: r, h => by
    have := (h (.w l) (List.mem_cons_self ..)).2.1
    simp [PyData.canLayAll0, PyData.canLay0, Tg.d, this, can_tgs (fun t ht => h t (List.mem_cons_of_mem _ ht))]
theorem can_rows : ∀ {rs : List (List Tg)}, (∀ r ∈ rs, ∀ t ∈ r, TgB t) → PyData.canLayAll0 (rs.map rowD) = true
  | [], _ => by simp [PyData.canLayAll0]
  | r :: rs, h => by
    have := can_tgs (h r (List.mem_cons_self ..))
    simp [PyData.canLayAll0, PyData.canLay0, rowD, this, can_rows (fun q hq => h q (List.mem_cons_of_mem _ hq))]
theorem depth_tgs : ∀ r : List Tg, PyData.depthAll (r.map Tg.d) ≤ 1
  | [] => by simp [PyData.depthAll]
  | .n k :: r => by
    have := depth_tgs r
    simp only [List.map_cons, PyData.depthAll, PyData.depth, Tg.d]
    omega
  | .w l :: r => by
    have := depth_tgs r
    simp only [List.map_cons, PyData.depthAll, PyData.depth, Tg.d]
    omega
theorem depth_rows : ∀ rs : List (List Tg), PyData.depthAll (rs.map rowD) ≤ 2
  | [] => by simp [PyData.depthAll]
  | r :: rs => by
    have := depth_rows rs
    have := depth_tgs r
    simp only [List.map_cons, PyData.depthAll, PyData.depth, rowD]
    omega
theorem shaped_rows {rs : List (List Tg)} (h : RsB rs) (f : List PyData → PyData) (hf : f = .list ∨ f = .tuple) : SeqAt.shaped (f (rs.map rowD)) = true := by
  have := depth_rows rs
  have hc := can_rows fun r hr => (h.2 r hr).2
  rcases hf with rfl | rfl
  · exact Bool.and_eq_true_iff.mpr ⟨by simp [PyData.canLay0, hc], decide_eq_true (by simp only [PyData.depth]; omega)⟩
  · exact Bool.and_eq_true_iff.mpr ⟨by simp [PyData.canLay0, hc], decide_eq_true (by simp only [PyData.depth]; omega)⟩
theorem eqv_tgs : ∀ r : List Tg, PyData.eqvAll (r.map Tg.d) (r.map Tg.d) = true
  | [] => by simp [PyData.eqvAll]
  | .n k :: r => by simp [PyData.eqvAll, PyData.eqv, Tg.d, eqv_tgs r]
  | .w l :: r => by simp [PyData.eqvAll, PyData.eqv, Tg.d, eqv_tgs r]
theorem eqv_rows : ∀ rs : List (List Tg), PyData.eqvAll (rs.map rowD) (rs.map rowD) = true
  | [] => by simp [PyData.eqvAll]
  | r :: rs => by simp [PyData.eqvAll, PyData.eqv, rowD, eqv_tgs r, eqv_rows rs]
section
variable {K : PySem.W.Frag} {H : Hp} {p q : Addr} {as : List Addr} {rs : List (List Tg)} {Q : VK}
theorem rNeRows (hp : H p = some (.lst (as.map V.ref))) (hq : H q = some (.lst (as.map V.ref))) (h : RowsIn H as rs) (hb : RsB rs) (k : Q (.bl false) H) : rNeD K (.ref p) (.ref q) H Q :=
  ⟨_, _, .lst (SqL.of hp) (dp_rows h), .lst (SqL.of hq) (dp_rows h), shaped_rows hb _ (.inl rfl), shaped_rows hb _ (.inl rfl), by
    rw [show PyData.eqv (.list (rs.map rowD)) (.list (rs.map rowD)) = true by simp [PyData.eqv, eqv_rows rs]]
    exact k⟩
theorem rNeRowsT (hp : SqT K H p (as.map V.ref)) (hq : SqT K H q (as.map V.ref)) (h : RowsIn H as rs) (hb : RsB rs) (k : Q (.bl false) H) : rNeD K (.ref p) (.ref q) H Q :=
  ⟨_, _, .tup hp (dp_rows h), .tup hq (dp_rows h), shaped_rows hb _ (.inr rfl), shaped_rows hb _ (.inr rfl), by
    rw [show PyData.eqv (.tuple (rs.map rowD)) (.tuple (rs.map rowD)) = true by simp [PyData.eqv, eqv_rows rs]]
    exact k⟩
theorem rEqNil (hp : H p = some (.lst (as.map V.ref))) (hq : H q = some (.lst [])) (h : RowsIn H as rs) (hb : RsB rs) (k : Q (.bl (decide (rs = []))) H) : rEqD K (.ref p) (.ref q) H Q :=
  ⟨_, _, .lst (SqL.of hp) (dp_rows h), .lst (SqL.of hq) .nil, shaped_rows hb _ (.inl rfl), by decide, by
    cases rs with
    | nil => exact k
    | cons r rs => exact k⟩
end
end Lk
namespace Lk
open PySem L2
instance (l : List Nat) : Decidable (Wd l) := by unfold Wd; infer_instance
theorem wd_no : Wd cNo := by decide +kernel
/-- the words that are drawn -/
theorem wd_all : ∀ (x y : Fin 5), y.val ≤ x.val → x.val < 4 → ∀ kd : Bool, Wd (wText kd (ratN (1 + (y.val : Int)) (2 + (x.val : Int))).toNat (ratD (1 + (y.val : Int)) (2 + (x.val : Int))).toNat) ∧ 0 ≤ ratN (1 + (y.val : Int)) (2 + (x.val : Int)) ∧ ratN (1 + (y.val : Int)) (2 + (x.val : Int)) < 10 ∧ 0 ≤ ratD (1 + (y.val : Int)) (2 + (x.val : Int)) ∧ ratD (1 + (y.val : Int)) (2 + (x.val : Int)) < 10 := by decide +kernel
theorem wd_drawn {x y : Int} (h0 : 0 ≤ x) (h1 : x < 4) (h2 : 0 ≤ y) (h3 : y ≤ x) : ∃ n d : Nat, n < 10 ∧ d < 10 ∧ ratN (1 + y) (2 + x) = (n : Int) ∧ ratD (1 + y) (2 + x) = (d : Int) ∧ Wd (wText true n d) ∧ Wd (wText false n d) := by
  obtain ⟨i, rfl⟩ : ∃ i : Nat, x = (i : Int) := ⟨x.toNat, by omega⟩
  obtain ⟨j, rfl⟩ : ∃ j : Nat, y = (j : Int) := ⟨y.toNat, by omega⟩
  have h := wd_all ⟨i, by omega⟩ ⟨j, by omega⟩ (by show j ≤ i; omega) (by show i < 4; omega)
  have ht := h true
  have hf := h false
  dsimp only at ht hf
  generalize ratN (1 + (j : Int)) (2 + (i : Int)) = N at *
  generalize ratD (1 + (j : Int)) (2 + (i : Int)) = D at *
  exact ⟨N.toNat, D.toNat, by omega, by omega, by omega, by omega, ht.1, hf.1⟩
theorem pick2 {x : Int} : atI [V.str "below ", V.str "at least "] (x % 2) = some (V.str (SX.S (kTxt (decide (x % 2 = 1)) ++ [32]))) := by
  rcases (by omega : x % 2 = 0 ∨ x % 2 = 1) with h | h
  · rw [h, show (("below " : Str)) = SX.S (cBe ++ [32]) from TL.ext_tl (by rw [TL.tl_ofString]; rfl)]
    rfl
  · rw [h, show (("at least " : Str)) = SX.S (cAt ++ [32]) from TL.ext_tl (by rw [TL.tl_ofString]; rfl)]
    rfl
def natV (gs : List Nat) : List V := gs.map fun s : Nat => V.int (s : Int)
theorem in_nat {s : Nat} : ∀ {gs : List Nat}, inV (.int (s : Int)) (natV gs) = decide (s ∈ gs)
  | [] => by rw [decide_eq_false (List.not_mem_nil)]; rfl
  | x :: gs => by
    show (eqV (.int (x : Int)) (.int (s : Int)) || inV (.int (s : Int)) (natV gs)) = _
    rw [in_nat (gs := gs)]
    show (((x : Int) == (s : Int)) || _) = _
    by_cases e : x = s
    · subst e
      simp
    · have h1 : ((x : Int) == (s : Int)) = false := beq_eq_false_iff_ne.mpr (by omega)
      rw [h1, Bool.false_or]
      refine decide_eq_decide.mpr ⟨fun h => List.mem_cons_of_mem _ h, fun h => ?_⟩
      rcases List.mem_cons.mp h with h | h
      · exact absurd h.symm e
      · exact h
theorem flat_nat : ∀ gs : List Nat, (natV gs).all flatV = true
  | [] => rfl
  | _ :: gs => flat_nat gs
theorem RowsIn.get {H : Hp} {as : List Addr} {rs : List (List Tg)} (h : RowsIn H as rs) {j : Nat} (hj : j < rs.length) : ∃ a, (as.map V.ref)[j]? = some (.ref a) ∧ H a = some (.tup ((rs.getD j []).map Tg.v)) := by
  have hja : j < as.length := by rw [h.1]; exact hj
  refine ⟨as[j], by rw [List.getElem?_map, List.getElem?_eq_getElem hja]; rfl, h.2 j _ _ (List.getElem?_eq_getElem hja) ?_⟩
  rw [List.getD_eq_getElem?_getD, List.getElem?_eq_getElem hj]
  rfl
def tgEnd (rs : List (List Tg)) (k : Nat) : Tg → Bool
  | .w _ => true
  | .n j => ends rs k j.toNat
theorem ends_step {rs : List (List Tg)} {k s : Nat} {t : Tg} (ht : t ∈ rs.getD s []) (h : tgEnd rs k t = true) : ends rs (k + 1) s = true := by
  unfold ends
  rw [List.any_eq_true]
  exact ⟨t, ht, h⟩
theorem ends_has {rs : List (List Tg)} {k s : Nat} (h : ends rs (k + 1) s = true) : ∃ m, m < (rs.getD s []).length ∧ tgEnd rs k ((rs.getD s []).getD m (.n 0)) = true := by
  unfold ends at h
  rw [List.any_eq_true] at h
  obtain ⟨t, ht, h⟩ := h
  obtain ⟨m, hm, rfl⟩ := List.getElem_of_mem ht
  refine ⟨m, hm, ?_⟩
  rw [List.getD_eq_getElem?_getD (l := rs.getD s []), List.getElem?_eq_getElem hm]
  exact h
theorem s_beq {x y : List Nat} : (SX.S x == SX.S y) = decide (x = y) := by
  by_cases h : x = y
  · subst h
    rw [decide_eq_true rfl]
    exact beq_self_eq_true _
  · rw [decide_eq_false h]
    exact beq_eq_false_iff_ne.mpr fun z => h (SX.S_inj z)
theorem in_odds {l : List Nat} : inV (.str (SX.S l)) [.str "", .str "maybe", .str "at least 2/2"] = decide (l ∈ odds) := by
  rw [show (("" : Str)) = SX.S [] from TL.ext_tl (by rw [TL.tl_ofString]; rfl), show (("maybe" : Str)) = SX.S [109, 97, 121, 98, 101] from TL.ext_tl (by rw [TL.tl_ofString]; rfl), show (("at least 2/2" : Str)) = SX.S (cAt ++ [32, 50, 47, 50]) from TL.ext_tl (by rw [TL.tl_ofString]; rfl)]
  show ((SX.S [] == SX.S l) || ((SX.S [109, 97, 121, 98, 101] == SX.S l) || ((SX.S (cAt ++ [32, 50, 47, 50]) == SX.S l) || false))) = _
  rw [s_beq, s_beq, s_beq]
  unfold odds
  rw [Bool.eq_iff_iff]
  simp only [Bool.or_eq_true, decide_eq_true_eq, List.mem_cons, List.not_mem_nil, or_false, Bool.false_eq_true]
  constructor
  · rintro (h | h | h)
    · exact .inl h.symm
    · exact .inr (.inl h.symm)
    · exact .inr (.inr h.symm)
  · rintro (h | h | h)
    · exact .inl h.symm
    · exact .inr (.inl h.symm)
    · exact .inr (.inr h.symm)
theorem fault_nil {f : Int} : fault [] f = some (true, 0) := rfl
theorem fault_row {rs : List (List Tg)} {f : Int} {i : Nat} (hi : i < rs.length) (h : badAt rs i = true) (hl : ∀ j, j < i → badAt rs j = false) : fault rs f = some (true, (i : Int)) := by
  unfold fault
  rw [if_neg (fun e => by rw [e] at hi; exact absurd hi (Nat.not_lt_zero _)), least_some hi h hl]
theorem fault_first {rs : List (List Tg)} {f : Int} (h0 : rs ≠ []) (hl : ∀ j, j < rs.length → badAt rs j = false) (hf : f < 0 ∨ (rs.length : Int) ≤ f) : fault rs f = some (true, f) := by
  unfold fault
  rw [if_neg h0, least_none hl]
  dsimp only
  rw [if_pos hf]
theorem fault_end {rs : List (List Tg)} {f : Int} {i : Nat} (h0 : rs ≠ []) (hl : ∀ j, j < rs.length → badAt rs j = false) (hf : ¬ (f < 0 ∨ (rs.length : Int) ≤ f)) (hi : i < rs.length) (he : ends rs rs.length i = false) (hj : ∀ j, j < i → ends rs rs.length j = true) : fault rs f = some (false, (i : Int)) := by
  unfold fault
  rw [if_neg h0, least_none hl]
  dsimp only
  rw [if_neg hf, least_some hi (by rw [he]; rfl) fun j h => by rw [hj j h]; rfl]
theorem fault_none {rs : List (List Tg)} {f : Int} (h0 : rs ≠ []) (hl : ∀ j, j < rs.length → badAt rs j = false) (hf : ¬ (f < 0 ∨ (rs.length : Int) ≤ f)) (hj : ∀ j, j < rs.length → ends rs rs.length j = true) : fault rs f = none := by
  unfold fault
  rw [if_neg h0, least_none hl]
  dsimp only
  rw [if_neg hf, least_none fun j h => by rw [hj j h]; rfl]
end Lk
/-! rings: loops over enumerate(a list), comprehensions over rows -/
namespace Lk
open PySem L2
def rLenB (K : PySem.W.Frag) : List V → Hp → VK → Prop := fun xs H Q => ∃ p ys, xs = [V.ref p] ∧ (SqL K H p ys ∨ SqT K H p ys) ∧ Q (V.int ys.length) H
theorem kwd_nil {K : PySem.W.Frag} {D : Addr} : ∀ q ∈ ([] : List (Str × V)), ∃ u, PySem.W.nsIn K D q.1 = some (some u) ∧ RelV q.2 u := fun q hq => by cases hq
theorem kwd_cons {K : PySem.W.Frag} {D : Addr} {x : Str} {v : V} {u : Value} {l : List (Str × V)} (h : PySem.W.nsIn K D x = some (some u)) (r : RelV v u) (hl : ∀ q ∈ l, ∃ u, PySem.W.nsIn K D q.1 = some (some u) ∧ RelV q.2 u) : ∀ q ∈ (x, v) :: l, ∃ u, PySem.W.nsIn K D q.1 = some (some u) ∧ RelV q.2 u := fun q hq => by
  rcases List.mem_cons.mp hq with e | hq
  · rw [e]
    exact ⟨u, h, r⟩
  · exact hl q hq
theorem sw_cell {elt : Expr} {gs : List Comprehension} {scope : Scope} {pos py : Pos} {y : Str} {l : Nat} {env : Env} (hy : env.scope.names.lookup y = some .cell) : swapsWith (.ListComp elt gs scope pos) (some (.Name y py)) l env = pure false := by
  have ky : env.kindOf y = some .cell := hy
  unfold swapsWith
  simp only [ky]
  rw [show (some NameKind.cell == some NameKind.local) = false from rfl, Bool.and_false, Bool.false_and, Bool.false_and]
theorem for_enL {K : PySem.W.Frag} {a : Addr} {xs : List V} {g : TG} {tb : TS} {D : Ends} {σ : L2.St} {H : Hp} (Pv : Nat → L2.St → Hp → Prop) (h0 : Pv 0 σ H) (hq : ∀ i σ H, Pv i σ H → SqL K H a xs)
    (hs : ∀ (i : Nat) (x : V) (T : Addr) (σ : L2.St) (H : Hp), xs[i]? = some x → Pv i σ H → H T = none → g (.ref T) σ (upd H T (.tup [.int (i : Nat), x])) fun σ2 H2 => tb { D with nx := Pv (i + 1), ct := Pv (i + 1), bk := D.nx } σ2 H2) (hd : ∀ σ H, Pv xs.length σ H → D.nx σ H) :
    ∃ W : Nat → Nat → L2.St → Hp → Prop, (∃ m, W 0 m σ H) ∧ ∀ i m σ H, W i m σ H →
      ((Ite K a).stop i H ∧ D.nx σ H) ∨ ((Ite K a).go i H ∧ ∃ N : L2.St → Hp → Prop, (∀ σ' H', N σ' H' → ∃ m', m' < m ∧ W (i + 1) m' σ' H') ∧ ∀ v H', (Ite K a).yld i H v H' → g v σ H' fun σ2 H2 => tb { D with nx := N, ct := N, bk := D.nx } σ2 H2) := by
  refine ⟨fun i m σ H => m = xs.length - i ∧ i ≤ xs.length ∧ Pv i σ H, ⟨xs.length, rfl, Nat.zero_le _, h0⟩, ?_⟩
  rintro i m σ H ⟨rfl, hi, p⟩
  by_cases hlt : i < xs.length
  · refine .inr ⟨⟨xs, _, hq i σ H p, List.getElem?_eq_getElem hlt⟩, Pv (i + 1), fun σ' H' p' => ⟨xs.length - (i + 1), by omega, rfl, hlt, p'⟩, ?_⟩
    rintro v H' ⟨T, y, rfl, hT, rfl, f⟩
    exact hs i y T σ H (f xs (hq i σ H p)) p hT
  · obtain rfl : i = xs.length := by omega
    exact .inl ⟨⟨xs, hq _ σ H p, Nat.le_refl _⟩, hd σ H p⟩
/-- target, a pair just laid, into two names -/
theorem gPair {K : PySem.W.Frag} {i j : Nat} {T : Addr} {x y : V} {σ : L2.St} {H : Hp} {R : L2.St → Hp → Prop} (h : R ((σ.set i (some x)).set j (some y)) (upd H T (.tup [x, y]))) : gTup K 2 (gCons (gName i) (gCons (gName j) gNil)) (.ref T) σ (upd H T (.tup [x, y])) R :=
  ⟨T, _, rfl, SqT.of upd_same, rfl, x, [y], rfl, y, [], rfl, rfl, h⟩
section
variable {K : PySem.W.Frag} {a : Addr} {xs : List V} {σ : L2.St} {te : TE} {i : Nat} {H1 : Hp} {D : Addr} {Qd : Hp → Prop}
theorem lcLE (f : Nat → V) (hT : SqL K H1 a xs) (hD : H1 D = none) (hn : xs.length ≤ sizeLine)
    (he : ∀ j y H, xs[j]? = some y → Same H1 H → EvR te ((wipe σ [i]).set i (some y)) H (isV (f j))) (hd : ∀ H, Same H1 H → H D = some (.lst ((List.range xs.length).map f)) → Qd H) :
    ∃ W : Nat → Nat → Hp → Prop, (∃ m, W 0 m (upd H1 D (.lst []))) ∧ ∀ i' m H, W i' m H →
      ((Itl K a).stop i' H ∧ Qd H) ∨ ((Itl K a).go i' H ∧ ∃ Nx : Hp → Prop, (∀ H', Nx H' → ∃ m', m' < m ∧ W (i' + 1) m' H') ∧ ∀ x H', (Itl K a).yld i' H x H' → gName i x (wipe σ [i]) H' fun σ2 H2 => wipe σ2 [i] = wipe σ [i] ∧ tYes σ2 H2 fun b H3 =>
        if b = true then te σ2 H3 fun y H4 => ∃ acc, H4 D = some (.lst acc) ∧ acc.length < sizeLine ∧ Nx (upd H4 D (.lst (acc ++ [y]))) else Nx H3) := by
  refine lc_list (xs := xs) (fun j H => Same H1 H ∧ H D = some (.lst ((List.range j).map f))) ⟨same_upd hD, upd_same⟩ (fun j H _ h => h.1.seq hT) ?_ ?_
  · rintro j y H hi ⟨s1, h1⟩
    have hj := (List.getElem?_eq_some_iff.mp hi).1
    refine ⟨?_, ?_⟩
    · show ((σ.set i none).set i _).set i none = σ.set i none
      rw [List.set_set, List.set_set]
    · refine he j y H hi s1 H (Same.refl _) (fun y H4 => ∃ acc, H4 D = some (.lst acc) ∧ acc.length < sizeLine ∧ Same H1 (upd H4 D (.lst (acc ++ [y]))) ∧ (upd H4 D (.lst (acc ++ [y]))) D = some (.lst ((List.range (j + 1)).map f))) fun v H4 s4 hv => ?_
      cases (show v = f j from hv)
      refine ⟨_, s4 _ _ h1, ?_, fun b o e => by rw [upd_ne (ne_of_none e hD)]; exact s4 _ _ (s1 b o e), ?_⟩
      · rw [List.length_map, List.length_range]
        omega
      · rw [upd_same, List.range_succ, List.map_append]
        rfl
  · rintro H ⟨s1, h1⟩
    exact hd H s1 h1
theorem lcTE (f : Nat → V) (hT : SqT K H1 a xs) (hD : H1 D = none) (hn : xs.length ≤ sizeLine)
    (he : ∀ j y H, xs[j]? = some y → Same H1 H → EvR te ((wipe σ [i]).set i (some y)) H (isV (f j))) (hd : ∀ H, Same H1 H → H D = some (.lst ((List.range xs.length).map f)) → Qd H) :
    ∃ W : Nat → Nat → Hp → Prop, (∃ m, W 0 m (upd H1 D (.lst []))) ∧ ∀ i' m H, W i' m H →
      ((Itt K a).stop i' H ∧ Qd H) ∨ ((Itt K a).go i' H ∧ ∃ Nx : Hp → Prop, (∀ H', Nx H' → ∃ m', m' < m ∧ W (i' + 1) m' H') ∧ ∀ x H', (Itt K a).yld i' H x H' → gName i x (wipe σ [i]) H' fun σ2 H2 => wipe σ2 [i] = wipe σ [i] ∧ tYes σ2 H2 fun b H3 =>
        if b = true then te σ2 H3 fun y H4 => ∃ acc, H4 D = some (.lst acc) ∧ acc.length < sizeLine ∧ Nx (upd H4 D (.lst (acc ++ [y]))) else Nx H3) := by
  refine lc_tup (xs := xs) (fun j H => Same H1 H ∧ H D = some (.lst ((List.range j).map f))) ⟨same_upd hD, upd_same⟩ (fun j H _ h => h.1.tup hT) ?_ ?_
  · rintro j y H hi ⟨s1, h1⟩
    have hj := (List.getElem?_eq_some_iff.mp hi).1
    refine ⟨?_, ?_⟩
    · show ((σ.set i none).set i _).set i none = σ.set i none
      rw [List.set_set, List.set_set]
    · refine he j y H hi s1 H (Same.refl _) (fun y H4 => ∃ acc, H4 D = some (.lst acc) ∧ acc.length < sizeLine ∧ Same H1 (upd H4 D (.lst (acc ++ [y]))) ∧ (upd H4 D (.lst (acc ++ [y]))) D = some (.lst ((List.range (j + 1)).map f))) fun v H4 s4 hv => ?_
      cases (show v = f j from hv)
      refine ⟨_, s4 _ _ h1, ?_, fun b o e => by rw [upd_ne (ne_of_none e hD)]; exact s4 _ _ (s1 b o e), ?_⟩
      · rw [List.length_map, List.length_range]
        omega
      · rw [upd_same, List.range_succ, List.map_append]
        rfl
  · rintro H ⟨s1, h1⟩
    exact hd H s1 h1
end
def rTupB (K : PySem.W.Frag) : List V → Hp → VK → Prop := fun xs H Q => ∃ p ys, xs = [.ref p] ∧ ((SqL K H p ys ∧ ∀ l, H l = none → Q (.ref l) (upd H l (.tup ys))) ∨ (SqT K H p ys ∧ Q (.ref p) H))
def rAnyB (K : PySem.W.Frag) : List V → Hp → VK → Prop := fun xs H Q => ∃ (p : Addr) (bs : List Bool), xs = [V.ref p] ∧ SqL K H p (bs.map V.bl) ∧ Q (V.bl (bs.any id)) H
theorem er_any {K : PySem.W.Frag} {σ : L2.St} {H : Hp} {ta : TE} {bs : List Bool} (ha : EvR ta σ H (fun H v => ∃ p, v = .ref p ∧ SqL K H p (bs.map V.bl))) : EvR (tCB (rAnyB K) (tCons ta tNil)) σ H (isV (.bl (bs.any id))) :=
  er_cb1 ha fun H1 _ ⟨p, ex, hp⟩ Q k => ⟨p, bs, by rw [ex], hp, k _ H1 (Same.refl _) rfl⟩
theorem range_tg (f : Tg → Bool) (r : List Tg) : (List.range r.length).map (fun j => V.bl (f (r.getD j (.n 0)))) = (r.map f).map V.bl := by
  apply List.ext_getElem
  · simp
  · intro j h1 h2
    simp at h1
    simp [List.getElem_map, List.getD_eq_getElem?_getD, h1]
theorem range_self (xs : List V) : (List.range xs.length).map (fun j => xs.getD j .non) = xs := by
  apply List.ext_getElem
  · simp
  · intro j h1 h2
    simp at h1
    simp [List.getElem_map, List.getD_eq_getElem?_getD, h1]
theorem rows_mem {rs : List (List Tg)} {s : Nat} (h : s < rs.length) : rs.getD s [] ∈ rs := by
  rw [List.getD_eq_getElem?_getD, List.getElem?_eq_getElem h]
  exact List.getElem_mem h
theorem tgs_mem {r : List Tg} {s : Nat} (h : s < r.length) : r.getD s (.n 0) ∈ r := by
  rw [List.getD_eq_getElem?_getD, List.getElem?_eq_getElem h]
  exact List.getElem_mem h
theorem RowsIn.at_ {H : Hp} {as : List Addr} {rs : List (List Tg)} (h : RowsIn H as rs) {i : Nat} {x : V} (hx : (as.map V.ref)[i]? = some x) : i < rs.length ∧ ∃ a, x = .ref a ∧ H a = some (.tup ((rs.getD i []).map Tg.v)) := by
  rw [List.getElem?_map] at hx
  obtain ⟨a, ha, rfl⟩ := Option.map_eq_some_iff.mp hx
  have hi := (List.getElem?_eq_some_iff.mp ha).1
  rw [h.1] at hi
  refine ⟨hi, a, rfl, h.2 i a _ ha ?_⟩
  rw [List.getD_eq_getElem?_getD, List.getElem?_eq_getElem hi]
  rfl
theorem tg_at {r : List Tg} {j : Nat} {y : V} (h : (r.map Tg.v)[j]? = some y) : j < r.length ∧ y = (r.getD j (.n 0)).v := by
  rw [List.getElem?_map] at h
  obtain ⟨t, ht, rfl⟩ := Option.map_eq_some_iff.mp h
  have hj := (List.getElem?_eq_some_iff.mp ht).1
  refine ⟨hj, ?_⟩
  rw [List.getD_eq_getElem?_getD, ht]
  rfl
section
open PySem.Spec PyProof.Rows
variable {X : Cx} {CX : CXT} {k n : Nat} {f C : Addr} {fd : FuncData} {ps ks : List Str} {sp : Sp} {E : L2.St → XK} {x : Str} {p pos : Pos} {e : Expr} {es : List Expr} {kws : List Keyword} {t tk : TA} {g : List Value → List Value → List Value} {gV : List V → List V → List V}
/-- C(e, .., k = v, ..) in a try, what is raised is wished for at the caller's slots -/
def tMakeKS (C : Addr) (n m : Nat) (sp : Sp) (gV : List V → List V → List V) (E : L2.St → XK) (t tk : TA) : TE := fun σ H Q => t σ H fun vs H1 => tk σ H1 fun zs H2 => vs.length = n ∧ zs.length = m ∧ ∀ x dx, H2 x = none → H2 dx = none → dx ≠ x →
  sp (gV (.ref x :: vs) zs) (upd (upd H2 dx (.own x)) x (.ins C dx [])) (fun v H3 => v = .non ∧ Q (.ref x) H3) (E σ)
theorem run_makeKS {pn : List (Addr × Obj)} {τ : L2.St} {G : Hp} {sh : Shared} {R : VK} {as bs : List Value} {xs ys : List V} (mk : Mk X.K C f) (fo : FnOk X.prog X.w X.K X.mg X.base CX k f fd ps sp) (rm : Room (k + 1) X.A) (kb : KBn X.K fd ps (n + 1) ks g gV) (pa : PassesAt CX X τ (E τ))
    (J : Inv X pn τ G sh) (ra : Vals xs as) (rb : Vals ys bs) (la : xs.length = n) (lb : ys.length = ks.length)
    (hw : ∀ o d, G o = none → G d = none → d ≠ o → sp (gV (.ref o :: xs) ys) (upd (upd G d (.own o)) o (.ins C d [])) (fun v G2 => v = .non ∧ R (.ref o) G2) (E τ)) :
    wpAny (model X.prog X.w) X.A (call (.ref C) as (ks.zip bs)) (EP X pn τ R) X.xe sh := by
  have w1 := hw (sh.heap.objs.size + 1) sh.heap.objs.size (J.hok.fresh (Nat.le_succ _)) (J.hok.fresh (Nat.le_refl _)) (Nat.ne_of_lt (Nat.lt_succ_self _))
  have J2 := Inv.made (C := C) J
  have rc : Vals (V.ref (sh.heap.objs.size + 1) :: xs) (Value.ref (sh.heap.objs.size + 1) :: as) := .cons rfl ra
  have rd := kb.rel rc rb
  have lc : (Value.ref (sh.heap.objs.size + 1) :: as).length = n + 1 := by rw [List.length_cons, ← ra.length, la]
  refine wpAny_call (make_map (f := f) J.kIn mk.makes mk.init (beq_iff_eq.mp mk.fn) (codeAny_mono (fo.run _ X.stack _ _ ⟨Value.ref (sh.heap.objs.size + 1) :: as, ks.zip bs⟩ (g (Value.ref (sh.heap.objs.size + 1) :: as) bs) _ _ (E τ) (rm.make C as (ks.zip bs))
    (J2.env0.make C as (ks.zip bs)) (kb.to _ (Value.ref (sh.heap.objs.size + 1) :: as) bs J2.kIn lc (rb.length.symm.trans lb)) rd w1) fun res sh' w2 => ?_))
  match res, w2 with
  | .error er, w2 => exact pa pn _ _ er sh' J2 w2
  | .ok (.ret u), w2 =>
    obtain ⟨v, G', J3, rv, ev, q3⟩ := J2.after w2
    subst ev
    exact ⟨rv, ⟨V.ref (sh.heap.objs.size + 1), G', J3, rfl, q3⟩⟩
  | .ok .next, w2 => exact False.elim w2
  | .ok .brk, w2 => exact False.elim w2
  | .ok .cont, w2 => exact False.elim w2
theorem pe_makeKS (mk : Mk X.K C f) (fo : FnOk X.prog X.w X.K X.mg X.base CX k f fd ps sp) (rm : Room (k + 1) X.A) (gl : Gl X x) (mx : X.mg x = some (.ref C)) (kb : KBn X.K fd ps (n + 1) ks g gV) (pa : ∀ τ, PassesAt CX X τ (E τ)) (te : PA X (e :: es) t) (tw : PK X kws tk)
    (c1 : (backToKw pos (keywordEach kws X.env)).all (·.1.isSome) = true := by rfl) (c2 : (backToKw pos (keywordEach kws X.env)).filterMap (·.1) = ks := by rfl) (c3 : (x == ("__debug__" : Str)) = false := by decide)
    (c4 : starEach (e :: es) X.env = (false, eval e X.env) :: starEach es X.env := by rfl) (c5 : ((backTo pos (starEach (e :: es) X.env)).any (·.1) || (backToKw pos (keywordEach kws X.env)).any (·.1.isNone)) = false := by rfl) :
    PE X (.Call (.Name x p) (e :: es) kws pos) (tMakeKS C n ks.length sp gV E t tk) := by
  refine ⟨fun pn sh τ G R J w => ?_⟩
  refine wpAny_Call_Name_kw (ld_glob J gl mx ?_ c3)
  refine PySem.W.callWith_KW (h₀ := X.base) J.ok.mod.kin mk.kp c1 (thn (te.run pos pn sh τ G _ J w) fun us s1 ⟨vs, G1, J1, r, q⟩ => ?_) c5 c4
  refine thn (tw.run pos pn s1 τ G1 _ J1 q) fun ws s2 ⟨zs, G2, J2, rz, l1, l2, q2⟩ => ⟨J2.kIn, ?_⟩
  rw [c2]
  exact run_makeKS mk fo rm kb (pa τ) J2 r rz l1 l2 q2
end
theorem s_whileA {t : TT} {t1 : TS} {D : Ends} {σ : L2.St} {H : Hp} (W : Nat → L2.St → Hp → Prop) (m0 : Nat) (h0 : W m0 σ H)
    (hs : ∀ m σ' H', W m σ' H' → ∃ b, Ans t σ' H' b ∧ (b = true → ∀ N : L2.St → Hp → Prop, (∀ σ2 H2 m', m' < m → W m' σ2 H2 → N σ2 H2) → t1 { D with nx := N, ct := N, bk := D.nx } σ' H') ∧ (b = false → D.nx σ' H')) : tWhile t t1 D σ H :=
  ⟨W, ⟨m0, h0⟩, fun m σ' H' w => by
    obtain ⟨b, hb, h1, h2⟩ := hs m σ' H' w
    refine hb _ ?_
    cases b with
    | true => exact ⟨fun σ2 H2 => ∃ m', m' < m ∧ W m' σ2 H2, fun _ _ n => n, h1 rfl _ fun σ2 H2 m' l w' => ⟨m', l, w'⟩⟩
    | false => exact h2 rfl⟩
/-- rows drawn or spoilt: a list that is no part of the box -/
structure RowsB (H : Hp) (b c p : Addr) (as : List Addr) (rs : List (List Tg)) : Prop where
  box : BoxAt H b c
  hp : H p = some (.lst (as.map V.ref))
  rows : RowsIn H as rs
  bd : RsB rs
  nb : p ≠ b
  nc : p ≠ c
section
variable {H H' : Hp} {b c p u : Addr} {as : List Addr} {rs : List (List Tg)} {r : List Tg}
theorem RowsB.step (d : RowsB H b c p as rs) (B : BoxAt H' b c) (e : Ext b c H H') : RowsB H' b c p as rs := ⟨B, e _ _ d.nb d.nc d.hp, d.rows.ext d.box e, d.bd, d.nb, d.nc⟩
theorem RowsB.same (d : RowsB H b c p as rs) (e : Same H H') : RowsB H' b c p as rs := ⟨d.box.same e, e _ _ d.hp, d.rows.same e, d.bd, d.nb, d.nc⟩
theorem RowsB.boxU (d : RowsB H b c p as rs) (z : HO) : BoxAt (upd H p z) b c := by
  obtain ⟨ns, kk, st, h1, h2, rr⟩ := d.box
  exact ⟨ns, kk, st, by rw [upd_ne d.nb.symm]; exact h1, by rw [upd_ne d.nc.symm]; exact h2, rr⟩
theorem tup_ne {xs : List V} (h : H u = some (.tup xs)) (hp : H p = some (.lst (as.map V.ref))) : u ≠ p := fun e => by rw [e, hp] at h; cases h
theorem RowsB.app (d : RowsB H b c p as rs) (hu : H u = some (.tup (r.map Tg.v))) (hl : rs.length < 20) (hr : r.length ≤ 5 ∧ ∀ t ∈ r, TgB t) : RowsB (upd H p (.lst (as.map V.ref ++ [.ref u]))) b c p (as ++ [u]) (rs ++ [r]) := by
  refine ⟨d.boxU _, by rw [upd_same, List.map_append]; rfl, ⟨by rw [List.length_append, List.length_append, d.rows.1]; rfl, fun i a r2 hx hy => ?_⟩, ⟨by rw [List.length_append, List.length_singleton]; omega, fun r2 hr2 => ?_⟩, d.nb, d.nc⟩
  · have ha2 : H a = some (.tup (r2.map Tg.v)) := by
      rcases Nat.lt_or_ge i as.length with l | l
      · rw [List.getElem?_append_left l] at hx
        rw [List.getElem?_append_left (by rw [← d.rows.1]; exact l)] at hy
        exact d.rows.2 i a r2 hx hy
      · rw [List.getElem?_append_right l] at hx
        rw [List.getElem?_append_right (by rw [← d.rows.1]; exact l)] at hy
        have h0 : i - as.length = 0 := by
          have := (List.getElem?_eq_some_iff.mp hx).1
          rw [List.length_singleton] at this
          omega
        rw [h0] at hx
        rw [← d.rows.1, h0] at hy
        cases hx
        cases hy
        exact hu
    rw [upd_ne (tup_ne ha2 d.hp)]
    exact ha2
  · rcases List.mem_append.mp hr2 with h | h
    · exact d.bd.2 r2 h
    · rw [List.mem_singleton.mp h]
      exact hr
theorem RowsB.put (d : RowsB H b c p as rs) (hu : H u = some (.tup (r.map Tg.v))) {n : Nat} (hr : r.length ≤ 5 ∧ ∀ t ∈ r, TgB t) : RowsB (upd H p (.lst ((as.map V.ref).set n (.ref u)))) b c p (as.set n u) (rs.set n r) := by
  refine ⟨d.boxU _, by rw [upd_same, List.map_set], ⟨by rw [List.length_set, List.length_set, d.rows.1], fun i a r2 hx hy => ?_⟩, ⟨by rw [List.length_set]; exact d.bd.1, fun r2 hr2 => ?_⟩, d.nb, d.nc⟩
  · have ha2 : H a = some (.tup (r2.map Tg.v)) := by
      rw [List.getElem?_set] at hx hy
      by_cases e : n = i
      · rw [if_pos e] at hx hy
        split at hx
        · split at hy
          · cases hx
            cases hy
            exact hu
          · cases hy
        · cases hx
      · rw [if_neg e] at hx hy
        exact d.rows.2 i a r2 hx hy
    rw [upd_ne (tup_ne ha2 d.hp)]
    exact ha2
  · rcases List.mem_or_eq_of_mem_set hr2 with h | h
    · exact d.bd.2 r2 h
    · rw [h]
      exact hr
end
theorem wd_odds : Wd [] ∧ Wd [109, 97, 121, 98, 101] ∧ Wd (cAt ++ [32, 50, 47, 50]) := by decide +kernel
theorem odd_at {n : Nat} (hn : n ≤ 20) {x : Int} (z : 0 ≤ x) (w : x < 6) : ∃ t : Tg, TgB t ∧ atI [V.int (-1), .int (n : Int), .int (10 ^ 6), .str "", .str "maybe", .str "at least 2/2"] x = some t.v := by
  rcases (by omega : x = 0 ∨ x = 1 ∨ x = 2 ∨ x = 3 ∨ x = 4 ∨ x = 5) with h | h | h | h | h | h
  · exact ⟨.n (-1), by show (-1 : Int).natAbs ≤ 10 ^ 7; decide, by rw [h]; rfl⟩
  · exact ⟨.n n, by show (n : Int).natAbs ≤ 10 ^ 7; omega, by rw [h]; rfl⟩
  · exact ⟨.n (10 ^ 6), by show ((10 : Int) ^ 6).natAbs ≤ 10 ^ 7; decide, by rw [h]; rfl⟩
  · exact ⟨.w [], wd_odds.1, by rw [h, show (("" : Str)) = SX.S [] from TL.ext_tl (by rw [TL.tl_ofString]; rfl)]; rfl⟩
  · exact ⟨.w _, wd_odds.2.1, by rw [h, show (("maybe" : Str)) = SX.S [109, 97, 121, 98, 101] from TL.ext_tl (by rw [TL.tl_ofString]; rfl)]; rfl⟩
  · exact ⟨.w _, wd_odds.2.2, by rw [h, show (("at least 2/2" : Str)) = SX.S (cAt ++ [32, 50, 47, 50]) from TL.ext_tl (by rw [TL.tl_ofString]; rfl)]; rfl⟩
theorem ix_as {H : Hp} {b c p : Addr} {as : List Addr} {rs : List (List Tg)} (d : RowsB H b c p as rs) {n : Nat} (h : n < rs.length) : ixN (as.map V.ref).length (n : Int) = some n := by
  unfold ixN
  rw [if_pos (by omega), List.length_map, d.rows.1, if_pos (by omega)]
  rfl
end Lk
namespace Pf
open PySem L2 Lk
def top (i : Nat) : Stmt := PySem.Challenge.pw_lookstop_k52_rings_accepted_or_refused.main.body.getD i (.Pass ⟨0, 0, 0, 0⟩)
abbrev s_InvalidWord___init__ : Stmt := (inClass (top 4) 0)
abbrev N_InvalidWord___init__ : List Str := ["self", "word"]
abbrev s_InvalidRing___init__ : Stmt := (inClass (top 5) 0)
abbrev N_InvalidRing___init__ : List Str := ["self", "state"]
abbrev s_Endless___init__ : Stmt := (inClass (top 6) 0)
abbrev N_Endless___init__ : List Str := ["self", "state"]
abbrev s_is_share : Stmt := (top 8)
abbrev N_is_share : List Str := ["value", "num", "den"]
abbrev s_is_integer : Stmt := (top 9)
abbrev N_is_integer : List Str := ["value"]
abbrev s_read_word : Stmt := (top 15)
abbrev N_read_word : List Str := ["word", "kind"]
abbrev s_is_word : Stmt := (top 16)
abbrev N_is_word : List Str := ["text"]
abbrev s_is_number : Stmt := (top 17)
abbrev N_is_number : List Str := ["text", "letter"]
abbrev s__read_share : Stmt := (top 18)
abbrev N__read_share : List Str := ["word", "text", "parts", "share"]
abbrev s_Ring___init__ : Stmt := (inClass (top 20) 1)
abbrev N_Ring___init__ : List Str := ["self", "rows", "start", "row"]
abbrev s__check_rows : Stmt := (top 21)
abbrev N__check_rows : List Str := ["rows", "state", "row", "target"]
abbrev s__is_target : Stmt := (top 22)
abbrev N__is_target : List Str := ["target", "states"]
abbrev s__is_state : Stmt := (top 23)
abbrev N__is_state : List Str := ["number", "states"]
abbrev s__check_ways_out : Stmt := (top 24)
abbrev N__check_ways_out : List Str := ["rows", "_", "ending", "state", "ends", "row", "target"]
abbrev s__law_box : Stmt := (top 26)
abbrev N__law_box : List Str := ["_law_script", "_law_cell"]
abbrev s__law_take : Stmt := (top 27)
abbrev N__law_take : List Str := ["_law_box_here", "_law_size", "_law_cells", "_law_worth", "_law_at", "_law_digit", "_law_stirred"]
abbrev s__law_gcd : Stmt := (top 28)
abbrev N__law_gcd : List Str := ["_law_a", "_law_b"]
abbrev s__law_ratio : Stmt := (top 29)
abbrev N__law_ratio : List Str := ["_law_num", "_law_den", "_law_divisor"]
abbrev s__law_word : Stmt := (top 30)
abbrev N__law_word : List Str := ["_law_box_here", "_law_pick", "_law_den", "_law_share"]
abbrev s__law_ending : Stmt := (top 31)
abbrev N__law_ending : List Str := ["_law_rows_here", "_law_good", "_law_turn", "_law_state", "_law_target"]
abbrev s__law_drawn_rows : Stmt := (top 32)
abbrev N__law_drawn_rows : List Str := ["_law_box_here", "_law_size", "_law_many", "_law_menu", "_law_rows_here", "_law_state", "_law_row", "_law_side", "_law_pick"]
abbrev s__law_valid_target : Stmt := (top 35)
abbrev N__law_valid_target : List Str := ["_law_target", "_law_size"]
abbrev s__law_fault : Stmt := (top 36)
abbrev N__law_fault : List Str := ["_law_rows_here", "_law_first", "_law_state", "_law_row", "_law_target", "_law_good"]
abbrev s__law_agrees : Stmt := (top 37)
abbrev N__law_agrees : List Str := ["_law_rows_here", "_law_first", "_law_due", "_law_passed", "_law_ring", "e"]
abbrev s__law_spoilt : Stmt := (top 38)
abbrev N__law_spoilt : List Str := ["_law_box_here", "_law_given", "_law_rows_here", "_law_pick", "_law_at", "_law_side", "_law_odd"]
abbrev s_law : Stmt := (top 39)
abbrev N_law : List Str := ["_law_script", "_law_box_here", "_law_rows_here", "_law_first", "_law_turn"]
structure Adr where
  f_InvalidWord___init__ : Addr
  d_InvalidWord___init__ : FuncData
  f_InvalidRing___init__ : Addr
  d_InvalidRing___init__ : FuncData
  f_Endless___init__ : Addr
  d_Endless___init__ : FuncData
  f_is_share : Addr
  d_is_share : FuncData
  f_is_integer : Addr
  d_is_integer : FuncData
  f_read_word : Addr
  d_read_word : FuncData
  f_is_word : Addr
  d_is_word : FuncData
  f_is_number : Addr
  d_is_number : FuncData
  f__read_share : Addr
  d__read_share : FuncData
  f_Ring___init__ : Addr
  d_Ring___init__ : FuncData
  f__check_rows : Addr
  d__check_rows : FuncData
  f__is_target : Addr
  d__is_target : FuncData
  f__is_state : Addr
  d__is_state : FuncData
  f__check_ways_out : Addr
  d__check_ways_out : FuncData
  f__law_box : Addr
  d__law_box : FuncData
  f__law_take : Addr
  d__law_take : FuncData
  f__law_gcd : Addr
  d__law_gcd : FuncData
  f__law_ratio : Addr
  d__law_ratio : FuncData
  f__law_word : Addr
  d__law_word : FuncData
  f__law_ending : Addr
  d__law_ending : FuncData
  f__law_drawn_rows : Addr
  d__law_drawn_rows : FuncData
  f__law_valid_target : Addr
  d__law_valid_target : FuncData
  f__law_fault : Addr
  d__law_fault : FuncData
  f__law_agrees : Addr
  d__law_agrees : FuncData
  f__law_spoilt : Addr
  d__law_spoilt : FuncData
  f_law : Addr
  d_law : FuncData
  C_StopError : Addr
  C_InvalidWord : Addr
  C_InvalidRing : Addr
  C_Endless : Addr
  C_Ring : Addr
structure Txt (K : PySem.W.Frag) (mg : Str → Option Value) (A : Adr) : Prop where
  F_InvalidWord___init__ : Fun K "__init__" "InvalidWord.__init__" s_InvalidWord___init__ A.f_InvalidWord___init__ A.d_InvalidWord___init__
  k_InvalidWord___init__ : PySem.W.keepIn K (.ref A.f_InvalidWord___init__) = true
  b_InvalidWord___init__ : Binds K A.d_InvalidWord___init__ ["self", "word"] []
  m_InvalidWord___init__ : PySem.W.findIn K (.ref A.C_InvalidWord) "__init__" = some (some (.ref A.f_InvalidWord___init__))
  i_InvalidWord___init__ : PySem.W.isFn K (.ref A.f_InvalidWord___init__) = true
  t_InvalidWord___init__ : PySem.W.typeIn K (.ref A.f_InvalidWord___init__) = some (.type "function")
  F_InvalidRing___init__ : Fun K "__init__" "InvalidRing.__init__" s_InvalidRing___init__ A.f_InvalidRing___init__ A.d_InvalidRing___init__
  k_InvalidRing___init__ : PySem.W.keepIn K (.ref A.f_InvalidRing___init__) = true
  b_InvalidRing___init__ : Binds K A.d_InvalidRing___init__ ["self", "state"] []
  m_InvalidRing___init__ : PySem.W.findIn K (.ref A.C_InvalidRing) "__init__" = some (some (.ref A.f_InvalidRing___init__))
  i_InvalidRing___init__ : PySem.W.isFn K (.ref A.f_InvalidRing___init__) = true
  t_InvalidRing___init__ : PySem.W.typeIn K (.ref A.f_InvalidRing___init__) = some (.type "function")
  F_Endless___init__ : Fun K "__init__" "Endless.__init__" s_Endless___init__ A.f_Endless___init__ A.d_Endless___init__
  k_Endless___init__ : PySem.W.keepIn K (.ref A.f_Endless___init__) = true
  b_Endless___init__ : Binds K A.d_Endless___init__ ["self", "state"] []
  m_Endless___init__ : PySem.W.findIn K (.ref A.C_Endless) "__init__" = some (some (.ref A.f_Endless___init__))
  i_Endless___init__ : PySem.W.isFn K (.ref A.f_Endless___init__) = true
  t_Endless___init__ : PySem.W.typeIn K (.ref A.f_Endless___init__) = some (.type "function")
  F_is_share : Fun K "is_share" "is_share" s_is_share A.f_is_share A.d_is_share
  k_is_share : PySem.W.keepIn K (.ref A.f_is_share) = true
  b_is_share : Binds K A.d_is_share ["value"] []
  g_is_share : mg "is_share" = some (.ref A.f_is_share)
  F_is_integer : Fun K "is_integer" "is_integer" s_is_integer A.f_is_integer A.d_is_integer
  k_is_integer : PySem.W.keepIn K (.ref A.f_is_integer) = true
  b_is_integer : Binds K A.d_is_integer ["value"] []
  g_is_integer : mg "is_integer" = some (.ref A.f_is_integer)
  F_read_word : Fun K "read_word" "read_word" s_read_word A.f_read_word A.d_read_word
  k_read_word : PySem.W.keepIn K (.ref A.f_read_word) = true
  b_read_word : Binds K A.d_read_word ["word"] []
  g_read_word : mg "read_word" = some (.ref A.f_read_word)
  F_is_word : Fun K "is_word" "is_word" s_is_word A.f_is_word A.d_is_word
  k_is_word : PySem.W.keepIn K (.ref A.f_is_word) = true
  b_is_word : Binds K A.d_is_word ["text"] []
  g_is_word : mg "is_word" = some (.ref A.f_is_word)
  F_is_number : Fun K "is_number" "is_number" s_is_number A.f_is_number A.d_is_number
  k_is_number : PySem.W.keepIn K (.ref A.f_is_number) = true
  b_is_number : Binds K A.d_is_number ["text"] []
  g_is_number : mg "is_number" = some (.ref A.f_is_number)
  F__read_share : Fun K "_read_share" "_read_share" s__read_share A.f__read_share A.d__read_share
  k__read_share : PySem.W.keepIn K (.ref A.f__read_share) = true
  b__read_share : Binds K A.d__read_share ["word", "text"] []
  g__read_share : mg "_read_share" = some (.ref A.f__read_share)
  F_Ring___init__ : FunD K "__init__" "Ring.__init__" (defArgs s_Ring___init__) (defBody s_Ring___init__) (defScope s_Ring___init__) [] [("start", .int 0)] A.f_Ring___init__ A.d_Ring___init__
  k_Ring___init__ : PySem.W.keepIn K (.ref A.f_Ring___init__) = true
  m_Ring___init__ : PySem.W.findIn K (.ref A.C_Ring) "__init__" = some (some (.ref A.f_Ring___init__))
  i_Ring___init__ : PySem.W.isFn K (.ref A.f_Ring___init__) = true
  t_Ring___init__ : PySem.W.typeIn K (.ref A.f_Ring___init__) = some (.type "function")
  F__check_rows : Fun K "_check_rows" "_check_rows" s__check_rows A.f__check_rows A.d__check_rows
  k__check_rows : PySem.W.keepIn K (.ref A.f__check_rows) = true
  b__check_rows : Binds K A.d__check_rows ["rows"] []
  g__check_rows : mg "_check_rows" = some (.ref A.f__check_rows)
  F__is_target : Fun K "_is_target" "_is_target" s__is_target A.f__is_target A.d__is_target
  k__is_target : PySem.W.keepIn K (.ref A.f__is_target) = true
  b__is_target : Binds K A.d__is_target ["target", "states"] []
  g__is_target : mg "_is_target" = some (.ref A.f__is_target)
  F__is_state : Fun K "_is_state" "_is_state" s__is_state A.f__is_state A.d__is_state
  k__is_state : PySem.W.keepIn K (.ref A.f__is_state) = true
  b__is_state : Binds K A.d__is_state ["number", "states"] []
  g__is_state : mg "_is_state" = some (.ref A.f__is_state)
  F__check_ways_out : Fun K "_check_ways_out" "_check_ways_out" s__check_ways_out A.f__check_ways_out A.d__check_ways_out
  k__check_ways_out : PySem.W.keepIn K (.ref A.f__check_ways_out) = true
  b__check_ways_out : Binds K A.d__check_ways_out ["rows"] []
  g__check_ways_out : mg "_check_ways_out" = some (.ref A.f__check_ways_out)
  F__law_box : Fun K "_law_box" "_law_box" s__law_box A.f__law_box A.d__law_box
  k__law_box : PySem.W.keepIn K (.ref A.f__law_box) = true
  b__law_box : Binds K A.d__law_box ["_law_script"] []
  g__law_box : mg "_law_box" = some (.ref A.f__law_box)
  F__law_take : Fun K "_law_take" "_law_take" s__law_take A.f__law_take A.d__law_take
  k__law_take : PySem.W.keepIn K (.ref A.f__law_take) = true
  b__law_take : Binds K A.d__law_take ["_law_box_here", "_law_size"] []
  g__law_take : mg "_law_take" = some (.ref A.f__law_take)
  F__law_gcd : Fun K "_law_gcd" "_law_gcd" s__law_gcd A.f__law_gcd A.d__law_gcd
  k__law_gcd : PySem.W.keepIn K (.ref A.f__law_gcd) = true
  b__law_gcd : Binds K A.d__law_gcd ["_law_a", "_law_b"] []
  g__law_gcd : mg "_law_gcd" = some (.ref A.f__law_gcd)
  F__law_ratio : Fun K "_law_ratio" "_law_ratio" s__law_ratio A.f__law_ratio A.d__law_ratio
  k__law_ratio : PySem.W.keepIn K (.ref A.f__law_ratio) = true
  b__law_ratio : Binds K A.d__law_ratio ["_law_num", "_law_den"] []
  g__law_ratio : mg "_law_ratio" = some (.ref A.f__law_ratio)
  F__law_word : Fun K "_law_word" "_law_word" s__law_word A.f__law_word A.d__law_word
  k__law_word : PySem.W.keepIn K (.ref A.f__law_word) = true
  b__law_word : Binds K A.d__law_word ["_law_box_here"] []
  g__law_word : mg "_law_word" = some (.ref A.f__law_word)
  F__law_ending : Fun K "_law_ending" "_law_ending" s__law_ending A.f__law_ending A.d__law_ending
  k__law_ending : PySem.W.keepIn K (.ref A.f__law_ending) = true
  b__law_ending : Binds K A.d__law_ending ["_law_rows_here"] []
  g__law_ending : mg "_law_ending" = some (.ref A.f__law_ending)
  F__law_drawn_rows : Fun K "_law_drawn_rows" "_law_drawn_rows" s__law_drawn_rows A.f__law_drawn_rows A.d__law_drawn_rows
  k__law_drawn_rows : PySem.W.keepIn K (.ref A.f__law_drawn_rows) = true
  b__law_drawn_rows : Binds K A.d__law_drawn_rows ["_law_box_here", "_law_size"] []
  g__law_drawn_rows : mg "_law_drawn_rows" = some (.ref A.f__law_drawn_rows)
  F__law_valid_target : Fun K "_law_valid_target" "_law_valid_target" s__law_valid_target A.f__law_valid_target A.d__law_valid_target
  k__law_valid_target : PySem.W.keepIn K (.ref A.f__law_valid_target) = true
  b__law_valid_target : Binds K A.d__law_valid_target ["_law_target", "_law_size"] []
  g__law_valid_target : mg "_law_valid_target" = some (.ref A.f__law_valid_target)
  F__law_fault : Fun K "_law_fault" "_law_fault" s__law_fault A.f__law_fault A.d__law_fault
  k__law_fault : PySem.W.keepIn K (.ref A.f__law_fault) = true
  b__law_fault : Binds K A.d__law_fault ["_law_rows_here", "_law_first"] []
  g__law_fault : mg "_law_fault" = some (.ref A.f__law_fault)
  F__law_agrees : Fun K "_law_agrees" "_law_agrees" s__law_agrees A.f__law_agrees A.d__law_agrees
  k__law_agrees : PySem.W.keepIn K (.ref A.f__law_agrees) = true
  b__law_agrees : Binds K A.d__law_agrees ["_law_rows_here", "_law_first"] []
  g__law_agrees : mg "_law_agrees" = some (.ref A.f__law_agrees)
  F__law_spoilt : Fun K "_law_spoilt" "_law_spoilt" s__law_spoilt A.f__law_spoilt A.d__law_spoilt
  k__law_spoilt : PySem.W.keepIn K (.ref A.f__law_spoilt) = true
  b__law_spoilt : Binds K A.d__law_spoilt ["_law_box_here", "_law_given"] []
  g__law_spoilt : mg "_law_spoilt" = some (.ref A.f__law_spoilt)
  F_law : Fun K "law" "law" s_law A.f_law A.d_law
  k_law : PySem.W.keepIn K (.ref A.f_law) = true
  b_law : Binds K A.d_law ["_law_script"] []
  g_law : mg "law" = some (.ref A.f_law)
  g_StopError : mg "StopError" = some (.ref A.C_StopError)
  g_InvalidWord : mg "InvalidWord" = some (.ref A.C_InvalidWord)
  g_InvalidRing : mg "InvalidRing" = some (.ref A.C_InvalidRing)
  g_Endless : mg "Endless" = some (.ref A.C_Endless)
  g_Ring : mg "Ring" = some (.ref A.C_Ring)
  sa_InvalidWord : PySem.W.findIn K (.ref A.C_InvalidWord) "__setattr__" = some (some (.builtin "object.__setattr__"))
  ga_InvalidWord : PySem.W.findIn K (.ref A.C_InvalidWord) "__getattribute__" = some (some (.builtin "BaseException.__getattribute__"))
  gg_InvalidWord : PySem.W.findIn K (.ref A.C_InvalidWord) "__getattr__" = some none
  exb_InvalidWord : PySem.W.subIn K (.ref A.C_InvalidWord) (.type "BaseException") = some true
  ty_InvalidWord : PySem.W.typeIn K (.ref A.C_InvalidWord) = some (.type "type")
  kp_InvalidWord : PySem.W.keepIn K (.ref A.C_InvalidWord) = true
  hd_InvalidWord : PySem.W.hasDictIn K A.C_InvalidWord = true
  cl_InvalidWord : (PySem.W.clsIn K A.C_InvalidWord).isSome = true
  ha_InvalidWord : PySem.W.findIn K (.ref A.C_InvalidWord) "__class__" = some (some (.builtin "object.__class__"))
  hn_InvalidWord : PySem.W.specialIn K (.builtin "object.__class__") "__get__" = some (some (.builtin "getset_descriptor.__get__"))
  ht_InvalidWord : PySem.W.takesIn K (.builtin "object.__class__") = some true
  hm_InvalidWord : PySem.W.mroIn K A.C_InvalidWord (.type "object") = some true
  no_word_InvalidWord : PySem.W.findIn K (.ref A.C_InvalidWord) "word" = some none
  ki_InvalidWord : PySem.W.kitOne K (.ref A.C_InvalidWord) (.ref A.C_InvalidWord) = some true
  kv_InvalidWord : PySem.W.kitOne K (.ref A.C_InvalidWord) (.type "ValueError") = some true
  oex_InvalidWord : OexC K A.C_InvalidWord
  exk_InvalidWord : ExcK K A.C_InvalidWord
  xf_InvalidWord : XfC K A.C_InvalidWord
  ex_self_InvalidWord : PySem.W.exmOne K (.ref A.C_InvalidWord) (.ref A.C_InvalidWord) = some true
  exm_StopError_InvalidWord : PySem.W.exmOne K (.ref A.C_InvalidWord) (.ref A.C_StopError) = some true
  c_NO_WORD : ∃ t, mg "NO_WORD" = some (.str "no word" t)
  c_DIGITS : ∃ t, mg "DIGITS" = some (.str "0123456789" t)
  c_MOST_DIGITS : ∃ t, mg "MOST_DIGITS" = some (.int 30 t)
  c_KINDS : ∃ a, mg "KINDS" = some (.ref a) ∧ ∀ H, SqT K H a [.str (SX.S cAt), .str (SX.S cBe)]
  sa_InvalidRing : PySem.W.findIn K (.ref A.C_InvalidRing) "__setattr__" = some (some (.builtin "object.__setattr__"))
  ga_InvalidRing : PySem.W.findIn K (.ref A.C_InvalidRing) "__getattribute__" = some (some (.builtin "BaseException.__getattribute__"))
  gg_InvalidRing : PySem.W.findIn K (.ref A.C_InvalidRing) "__getattr__" = some none
  exb_InvalidRing : PySem.W.subIn K (.ref A.C_InvalidRing) (.type "BaseException") = some true
  ty_InvalidRing : PySem.W.typeIn K (.ref A.C_InvalidRing) = some (.type "type")
  kp_InvalidRing : PySem.W.keepIn K (.ref A.C_InvalidRing) = true
  hd_InvalidRing : PySem.W.hasDictIn K A.C_InvalidRing = true
  cl_InvalidRing : (PySem.W.clsIn K A.C_InvalidRing).isSome = true
  ha_InvalidRing : PySem.W.findIn K (.ref A.C_InvalidRing) "__class__" = some (some (.builtin "object.__class__"))
  hn_InvalidRing : PySem.W.specialIn K (.builtin "object.__class__") "__get__" = some (some (.builtin "getset_descriptor.__get__"))
  ht_InvalidRing : PySem.W.takesIn K (.builtin "object.__class__") = some true
  hm_InvalidRing : PySem.W.mroIn K A.C_InvalidRing (.type "object") = some true
  no_state_InvalidRing : PySem.W.findIn K (.ref A.C_InvalidRing) "state" = some none
  ki_InvalidRing : PySem.W.kitOne K (.ref A.C_InvalidRing) (.ref A.C_InvalidRing) = some true
  kv_InvalidRing : PySem.W.kitOne K (.ref A.C_InvalidRing) (.type "ValueError") = some true
  oex_InvalidRing : OexC K A.C_InvalidRing
  exk_InvalidRing : ExcK K A.C_InvalidRing
  xf_InvalidRing : XfC K A.C_InvalidRing
  ex_self_InvalidRing : PySem.W.exmOne K (.ref A.C_InvalidRing) (.ref A.C_InvalidRing) = some true
  exm_StopError_InvalidRing : PySem.W.exmOne K (.ref A.C_InvalidRing) (.ref A.C_StopError) = some true
  sa_Endless : PySem.W.findIn K (.ref A.C_Endless) "__setattr__" = some (some (.builtin "object.__setattr__"))
  ga_Endless : PySem.W.findIn K (.ref A.C_Endless) "__getattribute__" = some (some (.builtin "BaseException.__getattribute__"))
  gg_Endless : PySem.W.findIn K (.ref A.C_Endless) "__getattr__" = some none
  exb_Endless : PySem.W.subIn K (.ref A.C_Endless) (.type "BaseException") = some true
  ty_Endless : PySem.W.typeIn K (.ref A.C_Endless) = some (.type "type")
  kp_Endless : PySem.W.keepIn K (.ref A.C_Endless) = true
  hd_Endless : PySem.W.hasDictIn K A.C_Endless = true
  cl_Endless : (PySem.W.clsIn K A.C_Endless).isSome = true
  ha_Endless : PySem.W.findIn K (.ref A.C_Endless) "__class__" = some (some (.builtin "object.__class__"))
  hn_Endless : PySem.W.specialIn K (.builtin "object.__class__") "__get__" = some (some (.builtin "getset_descriptor.__get__"))
  ht_Endless : PySem.W.takesIn K (.builtin "object.__class__") = some true
  hm_Endless : PySem.W.mroIn K A.C_Endless (.type "object") = some true
  no_state_Endless : PySem.W.findIn K (.ref A.C_Endless) "state" = some none
  ki_Endless : PySem.W.kitOne K (.ref A.C_Endless) (.ref A.C_Endless) = some true
  kv_Endless : PySem.W.kitOne K (.ref A.C_Endless) (.type "ValueError") = some true
  oex_Endless : OexC K A.C_Endless
  exk_Endless : ExcK K A.C_Endless
  xf_Endless : XfC K A.C_Endless
  ex_self_Endless : PySem.W.exmOne K (.ref A.C_Endless) (.ref A.C_Endless) = some true
  exm_StopError_Endless : PySem.W.exmOne K (.ref A.C_Endless) (.ref A.C_StopError) = some true
  rd_Ring : PySem.W.readsIn K A.C_Ring (.type "type") = true
  cg_Ring : PySem.W.specialIn K (.ref A.C_Ring) "__getattribute__" = some (some (.builtin "type.__getattribute__"))
  mo_Ring : ∃ u, ClX.CVal K A.C_Ring (.type "type") "MOST" (.int 6) u
  mk0_Ring : PySem.W.makesIn K A.C_Ring = true
  kp_Ring : PySem.W.keepIn K (.ref A.C_Ring) = true
  pg_Ring : PySem.W.plainGet K A.C_Ring Str.empty = true
  hd_Ring : PySem.W.hasDictIn K A.C_Ring = true
  po_Ring : PySem.W.plainOver K A.C_Ring = true
  sa_Ring : PySem.W.findIn K (.ref A.C_Ring) "__setattr__" = some (some (.builtin "object.__setattr__"))
  nr_Ring : PySem.W.findIn K (.ref A.C_Ring) "rows" = some none
  ns_Ring : PySem.W.findIn K (.ref A.C_Ring) "start" = some none
  kn_InvalidRing : PySem.W.kitOne K (.ref A.C_InvalidRing) (.ref A.C_Endless) = some false
  kn_Endless : PySem.W.kitOne K (.ref A.C_Endless) (.ref A.C_InvalidRing) = some false
  z_ValueError : mg "ValueError" = none
  z_abs : mg "abs" = none
  z_all : mg "all" = none
  z_any : mg "any" = none
  z_bool : mg "bool" = none
  z_enumerate : mg "enumerate" = none
  g_gcd : mg "gcd" = some (.builtin "math.gcd")
  z_int : mg "int" = none
  z_isinstance : mg "isinstance" = none
  z_len : mg "len" = none
  z_list : mg "list" = none
  z_range : mg "range" = none
  z_str : mg "str" = none
  z_tuple : mg "tuple" = none
section
variable {P : Program} {w : World} {K : PySem.W.Frag} {mg : Str → Option Value} {base : Heap} {A : Adr}
theorem sc_InvalidWord___init__ : FnScope N_InvalidWord___init__ ["self", "word"] (defScope s_InvalidWord___init__) := ⟨rfl, rfl, rfl, by decide +kernel, rfl, by decide +kernel, by decide +kernel⟩
theorem ok_InvalidWord___init__ (T : Txt K mg A) : FnOk P w K mg base CX0 1 A.f_InvalidWord___init__ A.d_InvalidWord___init__ ["self", "word"] (spExcInit A.C_InvalidWord "word") := by
  refine T.F_InvalidWord___init__.ok sc_InvalidWord___init__ (fun vs H Q E h => ?_) (fun cdv Ar outer s H vs Q E hr h => ?_)
  · obtain ⟨a, v, rfl, _⟩ := h
    rfl
  · obtain ⟨a, v, rfl, ha, k⟩ := h
    refine ⟨_, (pss_one (ps_ost (pv 0) (pv 1))), ?_⟩
    exact ⟨_, rfl, _, rfl, a, A.C_InvalidWord, rfl, T.oex_InvalidWord, T.no_word_InvalidWord, .inl ⟨ha, k⟩⟩
theorem sc_InvalidRing___init__ : FnScope N_InvalidRing___init__ ["self", "state"] (defScope s_InvalidRing___init__) := ⟨rfl, rfl, rfl, by decide +kernel, rfl, by decide +kernel, by decide +kernel⟩
theorem ok_InvalidRing___init__ (T : Txt K mg A) : FnOk P w K mg base CX0 1 A.f_InvalidRing___init__ A.d_InvalidRing___init__ ["self", "state"] (spExcInit A.C_InvalidRing "state") := by
  refine T.F_InvalidRing___init__.ok sc_InvalidRing___init__ (fun vs H Q E h => ?_) (fun cdv Ar outer s H vs Q E hr h => ?_)
  · obtain ⟨a, v, rfl, _⟩ := h
    rfl
  · obtain ⟨a, v, rfl, ha, k⟩ := h
    refine ⟨_, (pss_one (ps_ost (pv 0) (pv 1))), ?_⟩
    exact ⟨_, rfl, _, rfl, a, A.C_InvalidRing, rfl, T.oex_InvalidRing, T.no_state_InvalidRing, .inl ⟨ha, k⟩⟩
theorem sc_Endless___init__ : FnScope N_Endless___init__ ["self", "state"] (defScope s_Endless___init__) := ⟨rfl, rfl, rfl, by decide +kernel, rfl, by decide +kernel, by decide +kernel⟩
theorem ok_Endless___init__ (T : Txt K mg A) : FnOk P w K mg base CX0 1 A.f_Endless___init__ A.d_Endless___init__ ["self", "state"] (spExcInit A.C_Endless "state") := by
  refine T.F_Endless___init__.ok sc_Endless___init__ (fun vs H Q E h => ?_) (fun cdv Ar outer s H vs Q E hr h => ?_)
  · obtain ⟨a, v, rfl, _⟩ := h
    rfl
  · obtain ⟨a, v, rfl, ha, k⟩ := h
    refine ⟨_, (pss_one (ps_ost (pv 0) (pv 1))), ?_⟩
    exact ⟨_, rfl, _, rfl, a, A.C_Endless, rfl, T.oex_Endless, T.no_state_Endless, .inl ⟨ha, k⟩⟩
theorem sc_is_share : FnScope N_is_share ["value"] (defScope s_is_share) := ⟨rfl, rfl, rfl, by decide +kernel, rfl, by decide +kernel, by decide +kernel⟩

def shareB (n d : Int) : Bool := decide (1 ≤ d) && ((decide (0 ≤ n) && decide (n ≤ d)) && decide (V.int ((Nat.gcd n.natAbs d.natAbs : Nat) : Int) = V.int 1))
def spIsShare (K : PySem.W.Frag) : Sp := fun vs H Q _ => ∃ (p : Addr) (n d : Int), vs = [.ref p] ∧ SqT K H p [.int n, .int d] ∧ Q (.bl (shareB n d)) H
theorem ok_is_share (T : Txt K mg A) : FnOk P w K mg base CX0 1 A.f_is_share A.d_is_share ["value"] (spIsShare K) := by
  refine T.F_is_share.ok sc_is_share (fun vs H Q E h => ?_) (fun cdv Ar outer s H vs Q E hr h => ?_)
  · obtain ⟨p, n, d, rfl, _⟩ := h
    rfl
  · obtain ⟨p, n, d, rfl, hT, k⟩ := h
    refine ⟨_, (pss_cons (ps_asg (pv 0) (pg_tup (by rfl) (pgs_cons (pg_name (i := 1) sc_is_share.nd rfl (Or.inl rfl)) (pgs_cons (pg_name (i := 2) sc_is_share.nd rfl (Or.inl rfl)) pgs_nil))))
      (pss_one (ps_ret (pe_and (pe_cmpR op_ge (pv 2) pe_int (nomark _)) (pe_and (pe_chain op_le op_le pe_int (pv 1) (pv 2)) (pe_one (pe_cmpR op_eq (pe_callBfun cr_gcd (by rfl) T.g_gcd (pa_cons (pv 1) (pa_cons (pv 2) pa_nil))) pe_int (nomark _)))))))), ?_⟩
    apply qU2 (val_var rfl) hT
    apply s_ret
    case h => (repeat' (first | exact val_var rfl | exact val_c | exact va_nil | with_reducible apply va_cons | with_reducible apply val_op0 | with_reducible apply val_un | with_reducible apply val_abs | with_reducible apply val_int| with_reducible apply val_gcd | with_reducible apply val_gcdc | with_reducible apply val_isB | with_reducible apply val_notB | with_reducible apply val_chain | with_reducible apply val_eq | with_reducible apply val_ne | with_reducible apply val_andV | with_reducible apply val_orV | with_reducible apply val_notV | with_reducible apply val_opC | with_reducible apply ans_of | with_reducible apply ans_B | with_reducible apply ans_not | with_reducible apply ans_and' | with_reducible apply ans_or' | with_reducible intro _ | (show scal _ _ = true; rfl) | exact wide_mul (by assumption) (by assumption) (by decide) (by decide) (by decide)))
    exact k
theorem sc_is_integer : FnScope N_is_integer ["value"] (defScope s_is_integer) := ⟨rfl, rfl, rfl, by decide +kernel, rfl, by decide +kernel, by decide +kernel⟩

def spIsIntR : Sp := fun vs H Q _ => ∃ n : Int, vs = [.int n] ∧ Q (.bl true) H
theorem ok_is_integer (T : Txt K mg A) : FnOk P w K mg base CX0 1 A.f_is_integer A.d_is_integer ["value"] spIsIntR := by
  refine T.F_is_integer.ok sc_is_integer (fun vs H Q E h => ?_) (fun cdv Ar outer s H vs Q E hr h => ?_)
  · obtain ⟨n, rfl, _⟩ := h
    rfl
  · obtain ⟨n, rfl, k⟩ := h
    refine ⟨_, (pss_one (ps_ret (pe_and (pe_callB call_isi (by rfl) T.z_isinstance (by decide +kernel) (pa_cons (pv 0) (pa_cons (pe_bltn (v := .ty "int") (u := .type "int") (by rfl) T.z_int (by decide +kernel) (by rfl)) pa_nil))) (pe_one (pe_not (pe_callB call_isi (by rfl) T.z_isinstance (by decide +kernel) (pa_cons (pv 0) (pa_cons (pe_bltn (v := .ty "bool") (u := .type "bool") (by rfl) T.z_bool (by decide +kernel) (by rfl)) pa_nil)))))))), ?_⟩
    exact sR ⟨_, rfl, _, _, _, _, true, rfl, .ty "int", .base (.int _), kit_ty (by decide +kernel), true, rfl, iteT ⟨_, rfl, _, _, _, _, false, rfl, .ty "bool", .base (.int _), kit_ty (by decide +kernel), false, rfl, k⟩⟩
theorem sc_is_number : FnScope N_is_number ["text"] (defScope s_is_number) := ⟨rfl, rfl, rfl, by decide +kernel, rfl, by decide +kernel, by decide +kernel⟩
theorem ok_is_number (T : Txt K mg A) : FnOk P w K mg base CX0 1 A.f_is_number A.d_is_number ["text"] spIsNum := by
  obtain ⟨tNO, gNO⟩ := T.c_NO_WORD
  obtain ⟨tDG, gDG⟩ := T.c_DIGITS
  obtain ⟨tMD, gMD⟩ := T.c_MOST_DIGITS
  obtain ⟨aKI, gKI, sKI⟩ := T.c_KINDS
  refine T.F_is_number.ok sc_is_number (fun vs H Q E h => ?_) (fun cdv Ar outer s H vs Q E hr h => ?_)
  · obtain ⟨t, rfl, _⟩ := h
    rfl
  · obtain ⟨t, rfl, hl, k⟩ := h
    refine ⟨_, (pss_cons (ps_if (PW.pt (pw_or (pt_not (pt_chain op_le op_le pe_int (pe_callB call_len_str (by rfl) T.z_len (by decide +kernel) (pa_cons (pv 0) pa_nil)) (pe_glob (v := .int 30) rfl gMD ⟨_, rfl⟩))) (pw_or1 (pt_cmpR op_eq (pe_ix ix_str (pv 0) pe_int (fun _ _ => rfl)) pe_str (nomark _))))) (pss_one (ps_ret pe_bl)) pss_nil)
      (pss_one (ps_ret (pe_callB (cr_all rfl) (by rfl) T.z_all (by decide +kernel) (pa_cons (pe_lc (own := [("letter", 1)]) (g := gName 1) (tt := tYes) rfl sc_is_number.nd (pi_str (pv 0)) (blkOk_by (own := [("letter", 1)]) (N := N_is_number) (sc := defScope s_is_number) (by decide +kernel)) (fun _ _ _ _ _ => (pg_name (i := 1) sc_is_number.nd rfl (Or.inl rfl))) (fun _ _ _ _ _ => pts_nil) (fun _ _ _ _ _ => (pe_cmpR op_inS (pv 1) (pe_glob (v := .str "0123456789") rfl gDG ⟨_, rfl⟩) (by rfl)))) pa_nil))))), ?_⟩
    have hz : (SX.S t).length ≤ sizeLine := by
      rw [SX.S_len]
      show _ ≤ 2 ^ 24
      omega
    have e1 : ((SX.S t).length : Int) = (t.length : Int) := by rw [SX.S_len]
    refine Evl.q_when (b := !((decide ((1 : Int) ≤ ((SX.S t).length : Int))) && (decide (((SX.S t).length : Int) ≤ 30))) || decide (t.head? = some 48)) (Evl.et_or (Evl.et_not (et_ans fun H1 _ => ans_of (val_chain val_c (val_cb (va_cons (val_var rfl) va_nil) fun Q q => ⟨_, rfl, hz, q⟩) val_c))) fun z => ?_) (fun z H1 e => ?_) (fun z H1 e => ?_)
    · cases t with
      | nil =>
        rw [e1] at z
        cases z
      | cons c r =>
        refine Evl.et_is (Evl.et_test (er_ev (er_eq (v := .str ⟨#[c]⟩) (w := .str "0") (er_val fun H1 _ => ?_) er_c rfl))) ?_
        · exact fun Q q => ⟨_, rfl, _, 0, c, rfl, rfl, hz, (by unfold atI ixN; rw [if_pos (by decide), if_pos (by show (0 : Int) < ((c :: r).length : Int); rw [List.length_cons]; omega)]; rfl), q⟩
        · rw [e_ze]
          refine decide_eq_decide.mpr ⟨fun h => ?_, fun h => ?_⟩
          · have := SX.S_inj (a := [c]) (b := [48]) (V.str.inj h)
            show some c = some 48
            rw [List.cons.inj this |>.1]
          · have h2 : c = 48 := Option.some.inj h
            rw [h2]
    · refine sR (val_c.at ?_)
      have e2 : isNum t = false := by
        unfold isNum
        rw [e1] at z
        rcases Bool.or_eq_true_iff.mp z with h | h
        · have h2 : ((decide ((1 : Int) ≤ (t.length : Int))) && (decide ((t.length : Int) ≤ 30))) = false := by rw [Bool.not_eq_true'] at h; exact h
          have h3 : (decide (1 ≤ t.length) && decide (t.length ≤ 30)) = false := by
            rw [← h2]
            congr 1
            · exact decide_eq_decide.mpr ⟨fun _ => by omega, fun _ => by omega⟩
            · exact decide_eq_decide.mpr ⟨fun _ => by omega, fun _ => by omega⟩
          rw [h3]
          rfl
        · rw [h]
          simp
      rw [← e2]
      exact k H1 e
    · rw [e1] at z
      obtain ⟨z1, z2⟩ := Bool.or_eq_false_iff.mp z
      have e3 : isNum t = t.all isDig := by
        unfold isNum
        have h2 : ((decide ((1 : Int) ≤ (t.length : Int))) && (decide ((t.length : Int) ≤ 30))) = true := by rw [Bool.not_eq_false'] at z1; exact z1
        have h3 : (decide (1 ≤ t.length) && decide (t.length ≤ 30)) = true := by
          rw [← h2]
          congr 1
          · exact decide_eq_decide.mpr ⟨fun _ => by omega, fun _ => by omega⟩
          · exact decide_eq_decide.mpr ⟨fun _ => by omega, fun _ => by omega⟩
        rw [h3, z2]
        rfl
      refine sR ⟨_, rfl, _, rfl, fun D hD => ?_⟩
      refine lcS (z := SX.S t) isDig hD (by show t.toArray.size ≤ sizeLine; rw [List.size_toArray]; show _ ≤ 2 ^ 24; omega) (fun c H2 s2 => ?_) (fun H2 s2 h2 => ?_)
      · have := val_to (v := .bl (isDig c)) (w := .bl (decide (c ∈ (SX.S [48, 49, 50, 51, 52, 53, 54, 55, 56, 57]).cps.toList))) (te := tOp rInS (tVar 1) (tC (.str "0123456789"))) (σ := [some (.str (SX.S t)), some (.str ⟨#[c]⟩)]) (H := H2) (fun Q q => ⟨_, rfl, c, _, rfl, by rw [e_dg], q⟩) (by rw [in_dig])
        exact this
      · refine ⟨D, t.map isDig, rfl, SqL.of h2, ?_⟩
        have e4 : (t.map isDig).all id = t.all isDig := by rw [List.all_map]; rfl
        rw [e4, ← e3]
        exact k H2 (Same.trans e s2)
theorem sc__read_share : FnScope N__read_share ["word", "text"] (defScope s__read_share) := ⟨rfl, rfl, rfl, by decide +kernel, rfl, by decide +kernel, by decide +kernel⟩

theorem share_ok {n d : Nat} : (!(shareB (n : Int) (d : Int)) || ((n : Int) == 1 && (d : Int) == 1)) = !okSh n d := by
  unfold shareB okSh
  have e1 : decide ((1 : Int) ≤ (d : Int)) = decide (1 ≤ d) := decide_eq_decide.mpr (by omega)
  have e2 : decide ((0 : Int) ≤ (n : Int)) = true := decide_eq_true (by omega)
  have e3 : decide ((n : Int) ≤ (d : Int)) = decide (n ≤ d) := decide_eq_decide.mpr (by omega)
  have e4 : decide (V.int ((Nat.gcd (n : Int).natAbs (d : Int).natAbs : Nat) : Int) = V.int 1) = decide (Nat.gcd n d = 1) := decide_eq_decide.mpr ⟨fun h => by have := V.int.inj h; rw [Int.natAbs_natCast, Int.natAbs_natCast] at this; omega, fun h => by rw [Int.natAbs_natCast, Int.natAbs_natCast, h]; rfl⟩
  have e5 : ((n : Int) == 1) = decide (n = 1) := by rw [show ((n : Int) == 1) = decide ((n : Int) = 1) from rfl]; exact decide_eq_decide.mpr (by omega)
  have e6 : ((d : Int) == 1) = decide (d = 1) := by rw [show ((d : Int) == 1) = decide ((d : Int) = 1) from rfl]; exact decide_eq_decide.mpr (by omega)
  rw [e1, e2, e3, e4, e5, e6]
  cases decide (1 ≤ d) <;> cases decide (n ≤ d) <;> cases decide (Nat.gcd n d = 1) <;> cases decide (n = 1) <;> cases decide (d = 1) <;> rfl
theorem ok__read_share (T : Txt K mg A) : FnOk P w K mg base (L2.CX P w) 3 A.f__read_share A.d__read_share ["word", "text"] (spReadShare A.C_InvalidWord) := by
  have GInvalidWord___init__ := ok_InvalidWord___init__ (P := P) (w := w) (base := base) T
  have Gis_number := ok_is_number (P := P) (w := w) (base := base) T
  have Gis_share := ok_is_share (P := P) (w := w) (base := base) T
  refine T.F__read_share.okX sc__read_share (fun vs H Q E h => ?_) (fun cdv Ar outer s H vs Q E hr h => ?_)
  · obtain ⟨w, t, rfl, _⟩ := h
    rfl
  · obtain ⟨w, t, rfl, hl, k⟩ := h
    refine ⟨_, (pss_cons (ps_set (i := 2) sc__read_share.nd rfl (Or.inl rfl) (pe_split (pv 1) pe_str))
      (pss_cons (ps_if (PW.pt (pw_or (pt_cmpR op_ne (pe_callB call_len_seq (by rfl) T.z_len (by decide +kernel) (pa_cons (pv 2) pa_nil)) pe_int (nomark _)) (pw_or (pt_not (pt_val (pe_call Gis_number (hr.mono (by decide)) rfl T.g_is_number T.k_is_number T.b_is_number .nil pass0 (pa_cons (pe_ix ix_list (pv 2) pe_int (fun _ _ => rfl)) pa_nil)))) (pw_or1 (pt_not (pt_val (pe_call Gis_number (hr.mono (by decide)) rfl T.g_is_number T.k_is_number T.b_is_number .nil pass0 (pa_cons (pe_ix ix_list (pv 2) pe_int (fun _ _ => rfl)) pa_nil)))))))) (pss_one (ps_raise rfl (takes_of rfl rfl rfl rfl) (pmk_oex T.oex_InvalidWord T.m_InvalidWord___init__ T.t_InvalidWord___init__ GInvalidWord___init__ (hr.mono (by decide)) T.b_InvalidWord___init__ .nil passF rfl T.g_InvalidWord (pa_cons (pv 0) pa_nil)))) pss_nil)
      (pss_cons (ps_set (i := 3) sc__read_share.nd rfl (Or.inl rfl) (pe_tup (pa_cons (pe_callTy call_int_str (by rfl) T.z_int (by decide +kernel) (pa_cons (pe_ix ix_list (pv 2) pe_int (fun _ _ => rfl)) pa_nil)) (pa_cons (pe_callTy call_int_str (by rfl) T.z_int (by decide +kernel) (pa_cons (pe_ix ix_list (pv 2) pe_int (fun _ _ => rfl)) pa_nil)) pa_nil))))
      (pss_cons (ps_if (PW.pt (pw_or (pt_not (pt_val (pe_call Gis_share (hr.mono (by decide)) rfl T.g_is_share T.k_is_share T.b_is_share .nil pass0 (pa_cons (pv 3) pa_nil)))) (pw_or1 (pt_cmpR (op_eqD hr.units) (pv 3) (pe_tup (pa_cons pe_int (pa_cons pe_int pa_nil))) (nomark _))))) (pss_one (ps_raise rfl (takes_of rfl rfl rfl rfl) (pmk_oex T.oex_InvalidWord T.m_InvalidWord___init__ T.t_InvalidWord___init__ GInvalidWord___init__ (hr.mono (by decide)) T.b_InvalidWord___init__ .nil passF rfl T.g_InvalidWord (pa_cons (pv 0) pa_nil)))) pss_nil)
      (pss_one (ps_ret (pv 3))))))), ?_⟩
    refine qS ⟨_, rfl, ⟨_, rfl⟩, _, _, rfl, rfl, by decide, by rw [SX.S_len]; show _ ≤ 2 ^ 24; omega, fun p hp => ?_⟩
    have esp : Txt.split (SX.S t) "/" = (TL.spl [47] 0 [] t).map SX.S := by
      rw [e_sl]
      exact SX.split_S (by decide) (by decide)
    rw [esp]
    have hps : SqL K (upd H p (.lst (((TL.spl [47] 0 [] t).map SX.S).map V.str))) p (((TL.spl [47] 0 [] t).map SX.S).map V.str) := SqL.of upd_same
    have s1 : Same H (upd H p (.lst (((TL.spl [47] 0 [] t).map SX.S).map V.str))) := same_upd hp
    have hlen : ∀ q ∈ TL.spl [47] 0 [] t, q.length ≤ 1000 := fun q hq => by
      have := spl_le 47 t [] q hq
      have e0 : ([] : List Nat).length = 0 := rfl
      omega
    have hrd : rdShare t = match TL.spl [47] 0 [] t with
      | [p, q] => if isNum p && isNum q && okSh (nVal p) (nVal q) then some (nVal p, nVal q) else none
      | _ => none := rfl
    generalize upd H p (.lst (((TL.spl [47] 0 [] t).map SX.S).map V.str)) = H1 at hps s1 ⊢
    generalize TL.spl [47] 0 [] t = ps at *
    by_cases h2 : ps.length = 2
    · obtain ⟨a, b, rfl⟩ : ∃ a b, ps = [a, b] := by
        match ps, h2 with
        | [a, b], _ => exact ⟨a, b, rfl⟩
      have la := hlen a (by simp)
      have lb := hlen b (by simp)
      have hrd2 : rdShare t = if isNum a && isNum b && okSh (nVal a) (nVal b) then some (nVal a, nVal b) else none := hrd
      have pv : ∀ {H2 : Hp} {σ : L2.St}, Same H1 H2 → σ[2]? = some (some (.ref p)) → EvR (tVar 2) σ H2 (isVs K [.str (SX.S a), .str (SX.S b)]) := fun e z => er_var z ⟨p, rfl, Same.seq e hps⟩
      refine Evl.q_when (b := false || (!isNum a || !isNum b)) (Evl.et_or (t_no (er_ne (er_lenV (K := K) (pv (Same.refl _) rfl)) er_c rfl) (by simp)) fun _ => Evl.et_or (Evl.et_not (Evl.et_B (er_ev (er_isNum (er_ixV (K := K) (n := 0) (pv (Same.refl _) rfl) er_c (Lk.atI_nat (j := 0) rfl)) la)))) fun _ => Evl.et_not (Evl.et_B (er_ev (er_isNum (er_ixV (K := K) (n := 1) (pv (Same.refl _) rfl) er_c (Lk.atI_nat (j := 1) rfl)) lb)))) (fun z H2 e2 => ?_) (fun z H2 e2 => ?_)
      · have hn : rdShare t = none := by
          rw [hrd2]
          refine if_neg ?_
          cases ha : isNum a with
          | false => simp
          | true =>
            rw [ha] at z
            have hb : isNum b = false := by simpa using z
            rw [hb]
            simp
        rcases k with ⟨_, k⟩ | ⟨n, d, h, _⟩
        · refine ⟨_, rfl, ⟨(by show 1 ≤ 1000; decide), fun e he => ?_⟩⟩
          refine ⟨e, _, rfl, upd_same, fun dx hdx hda => ?_⟩
          have hdx0 : H2 dx = none := by rw [upd_ne hda] at hdx; exact hdx
          refine ⟨rfl, dx, [("word", .str w)], upd_same, ?_, hdx0, ?_⟩
          · rw [upd_ne hda]
            exact upd_same
          · exact raised_end he hdx0 hda (k.back (s1.trans e2))
        · rw [hn] at h
          cases h
      · have ha : isNum a = true := by
          cases q : isNum a with
          | true => rfl
          | false => rw [q] at z; simp at z
        have hb : isNum b = true := by
          cases q : isNum b with
          | true => rfl
          | false => rw [q] at z; simp at z
        have iv : ∀ {c : List Nat} {j : Nat} {H3 : Hp}, isNum c = true → [V.str (SX.S a), V.str (SX.S b)][j]? = some (.str (SX.S c)) → Same H2 H3 → Val (tCB (fun xs H Q => ∃ a n, xs = [V.str a] ∧ PySem.intText? a = some n ∧ a.length ≤ 640 ∧ Q (V.int n) H) (tCons (tOp (rIxL K) (tVar 2) (tC (.int (j : Int)))) tNil)) [some (.str w), some (.str (SX.S t)), some (.ref p), none] H3 (.int ((nVal c : Nat) : Int)) := fun {c j H3} hc hj e3 => val_cb (va_cons (val_ixL (val_var rfl) val_c (Same.seq e3 (Same.seq e2 hps)) (Lk.atI_nat hj)) va_nil) fun Q q => ⟨_, _, rfl, isNum_int hc, by rw [SX.S_len]; have := (isNum_len hc).2.1; omega, q⟩
        refine q_asgR (er_tp (n := ((nVal a : Nat) : Int)) (d := ((nVal b : Nat) : Int)) fun H3 s3 => va_cons (iv (j := 0) ha rfl s3) (va_cons (iv (j := 1) hb rfl s3) va_nil)) (fun v H3 s3 hv => ?_)
        obtain ⟨q, rfl, hq⟩ := hv
        have si : ∀ {σ : L2.St} {H : Hp} {te : TE} {n d : Int} {E : XK}, EvR te σ H (isPr n d) → EvR (tCall (spIsShare K) [] E (tCons te tNil)) σ H (isV (.bl (shareB n d))) := fun h => er_call1 h fun H1 _ ⟨p, ex, hx⟩ Q k => ⟨p, _, _, by rw [ex], SqT.of hx, k _ H1 (Same.refl _) rfl⟩
        refine Evl.q_when (b := !(shareB ((nVal a : Nat) : Int) ((nVal b : Nat) : Int)) || (((nVal a : Nat) : Int) == 1 && ((nVal b : Nat) : Int) == 1)) (Evl.et_or (Evl.et_not (Evl.et_B (er_ev (si (er_var rfl ⟨q, rfl, hq⟩))))) fun _ => Evl.et_test (er_ev (er_eq2 (K := K) (er_var rfl ⟨q, rfl, hq⟩) (er_tp (n := 1) (d := 1) fun _ _ => va_cons val_c (va_cons val_c va_nil))))) (fun z2 H4 e4 => ?_) (fun z2 H4 e4 => ?_)
        · rw [share_ok] at z2
          have ho : okSh (nVal a) (nVal b) = false := by simpa using z2
          rcases k with ⟨_, k⟩ | ⟨n, d, h, _⟩
          · refine ⟨_, rfl, ⟨(by show 1 ≤ 1000; decide), fun e he => ?_⟩⟩
            refine ⟨e, _, rfl, upd_same, fun dx hdx hda => ?_⟩
            have hdx0 : H4 dx = none := by rw [upd_ne hda] at hdx; exact hdx
            refine ⟨rfl, dx, [("word", .str w)], upd_same, ?_, hdx0, ?_⟩
            · rw [upd_ne hda]
              exact upd_same
            · exact raised_end he hdx0 hda (k.back (((s1.trans e2).trans s3).trans e4))
          · rw [hrd2, ho, ha, hb] at h
            cases h
        · rw [share_ok] at z2
          have ho : okSh (nVal a) (nVal b) = true := by simpa using z2
          rcases k with ⟨h, _⟩ | ⟨n, d, h, k⟩
          · rw [hrd2, ho, ha, hb] at h
            cases h
          · rw [hrd2, ho, ha, hb] at h
            obtain ⟨rfl, rfl⟩ := Prod.mk.inj (Option.some.inj h)
            exact sR ⟨_, rfl, k q H4 (((s1.trans e2).trans s3).trans e4) (e4 _ _ hq)⟩
    · have hn : rdShare t = none := by
        rw [hrd]
        match ps, h2 with
        | [], _ => rfl
        | [_], _ => rfl
        | _ :: _ :: _ :: _, _ => rfl
        | [_, _], h => exact absurd rfl h
      have hnb : (!decide (V.int (((ps.map SX.S).map V.str).length : Int) = V.int 2)) = true := by
        rw [List.length_map, List.length_map]
        simp only [Bool.not_eq_true', decide_eq_false_iff_not]
        intro q
        have := V.int.inj q
        omega
      refine Evl.q_when (b := true) (Evl.et_is (Evl.et_or (b := true) (Evl.et_test (er_ev (er_ne (er_lenV (K := K) (er_var (i := 2) rfl ⟨p, rfl, hps⟩)) er_c rfl))) fun z => absurd z (by rw [hnb]; decide)) (by rw [hnb]; rfl)) (fun z H2 e2 => ?_) (fun z => nomatch z)
      rcases k with ⟨_, k⟩ | ⟨n, d, h, _⟩
      · refine ⟨_, rfl, ⟨(by show 1 ≤ 1000; decide), fun e he => ?_⟩⟩
        refine ⟨e, _, rfl, upd_same, fun dx hdx hda => ?_⟩
        have hdx0 : H2 dx = none := by rw [upd_ne hda] at hdx; exact hdx
        refine ⟨rfl, dx, [("word", .str w)], upd_same, ?_, hdx0, ?_⟩
        · rw [upd_ne hda]
          exact upd_same
        · exact raised_end he hdx0 hda (k.back (s1.trans e2))
      · rw [hn] at h
        cases h
theorem sc_read_word : FnScope N_read_word ["word"] (defScope s_read_word) := ⟨rfl, rfl, rfl, by decide +kernel, rfl, by decide +kernel, by decide +kernel⟩

theorem pre_no {b : Bool} {l : List Nat} (h : l = cNo) : TL.pre (kTxt b ++ [32]) l = false := by
  subst h
  cases b <;> decide
/-- the two kinds, in their order -/
def kAt (i : Nat) : Bool := decide (i = 0)
theorem ok_read_word (T : Txt K mg A) : FnOk P w K mg base (L2.CX P w) 5 A.f_read_word A.d_read_word ["word"] (spReadWord A.C_InvalidWord) := by
  have GInvalidWord___init__ := ok_InvalidWord___init__ (P := P) (w := w) (base := base) T
  have G_read_share := ok__read_share (P := P) (w := w) (base := base) T
  obtain ⟨tNO, gNO⟩ := T.c_NO_WORD
  obtain ⟨tDG, gDG⟩ := T.c_DIGITS
  obtain ⟨tMD, gMD⟩ := T.c_MOST_DIGITS
  obtain ⟨aKI, gKI, sKI⟩ := T.c_KINDS
  refine T.F_read_word.okX sc_read_word (fun vs H Q E h => ?_) (fun cdv Ar outer s H vs Q E hr h => ?_)
  · obtain ⟨l, rfl, _⟩ := h
    rfl
  · obtain ⟨l, rfl, hl, k⟩ := h
    refine ⟨_, (pss_cons (ps_if (pt_cmpR op_eq (pv 0) (pe_glob (v := .str "no word") rfl gNO ⟨_, rfl⟩) (nomark _)) (pss_one (ps_ret (pe_tup (pa_cons (pe_glob (v := .str "no word") rfl gNO ⟨_, rfl⟩) (pa_cons pe_non pa_nil))))) pss_nil)
      (pss_cons (ps_for (passes_of rfl) rfl (pi_tup (pe_glob (v := .ref aKI) rfl gKI rfl)) (pg_name (i := 1) sc_read_word.nd rfl (Or.inl rfl)) (pss_one (ps_if (pt_val (pe_m1 F.slot_str_startswith F.type_str_startswith mt_startswith (pv 0) (pe_op op_add_str (pv 1) pe_str))) (pss_one (ps_ret (pe_tup (pa_cons (pv 1) (pa_cons (pe_callS G_read_share (hr.mono (by decide)) rfl T.g__read_share T.k__read_share T.b__read_share (fun σ => passAt (takes_of rfl rfl rfl rfl) σ) (pa_cons (pv 0) (pa_cons (pe_slice C8.sl_txt (pv 0) (po_some (pe_op op_add (pe_callB call_len_str (by rfl) T.z_len (by decide +kernel) (pa_cons (pv 1) pa_nil)) pe_int)) po_none) pa_nil))) pa_nil))))) pss_nil)))
      (pss_one (ps_raise rfl (takes_of rfl rfl rfl rfl) (pmk_oex T.oex_InvalidWord T.m_InvalidWord___init__ T.t_InvalidWord___init__ GInvalidWord___init__ (hr.mono (by decide)) T.b_InvalidWord___init__ .nil passF rfl T.g_InvalidWord (pa_cons (pv 0) pa_nil)))))), ?_⟩
    refine Evl.q_when (b := decide (l = cNo)) (Evl.et_is (Evl.et_test (er_ev (er_eq (er_var rfl rfl) er_c rfl))) (by rw [e_no]; exact decide_eq_decide.mpr ⟨fun h => SX.S_inj (V.str.inj h), fun h => by rw [h]⟩)) (fun z H1 e1 => ?_) (fun z H1 e1 => ?_)
    · have hl2 : l = cNo := of_decide_eq_true z
      rcases k with ⟨_, k⟩ | ⟨h, _⟩ | ⟨h, _⟩
      · refine sR ⟨(by show 2 ≤ sizeLine; decide), fun p hp => k p _ (Same.trans e1 (same_upd hp)) ?_⟩
        rw [upd_same, e_no]
      · exact absurd hl2 h
      · exact absurd hl2 h
    have hl2 : l ≠ cNo := of_decide_eq_false z
    refine ⟨aKI, rfl, ⟨_, sKI H1⟩, for_tup (K := K) (a := aKI) (xs := [.str (SX.S cAt), .str (SX.S cBe)]) (fun i σ' H' => (∃ v1, σ' = [some (.str (SX.S l)), v1]) ∧ Same H H' ∧ (1 ≤ i → TL.pre (cAt ++ [32]) l = false) ∧ (2 ≤ i → TL.pre (cBe ++ [32]) l = false)) ⟨⟨none, rfl⟩, e1, fun q => absurd q (by decide), fun q => absurd q (by decide)⟩ (fun i σ' H' _ _ => sKI H') ?_ ?_⟩
    · rintro i y σ' H' hi ⟨⟨v1, rfl⟩, s', p1, p2⟩
      have hb : ∃ b, y = .str (SX.S (kTxt b)) ∧ i = (if b then 0 else 1) := by
        match i, hi with
        | 0, hi => exact ⟨true, (Option.some.inj hi).symm, rfl⟩
        | 1, hi => exact ⟨false, (Option.some.inj hi).symm, rfl⟩
        | i + 2, hi => simp at hi
      obtain ⟨b, rfl, ei⟩ := hb
      have kz : (SX.S (kTxt b)).length + ((" " : Str)).length ≤ sizeLine := by
        rw [e_sp, SX.S_len, SX.S_len, k_len]
        show _ + 1 ≤ 2 ^ 24
        split <;> decide
      have ecat : SX.S (kTxt b) ++ (" " : Str) = SX.S (kTxt b ++ [32]) := by rw [e_sp, SX.S_cat]
      refine s_when (b := TL.pre (kTxt b ++ [32]) l) (ans_B fun Q q => ⟨_, rfl, ⟨_, rfl⟩, _, rfl, _, _, rfl, rfl, kz, _, _, rfl, rfl, by rw [ecat, starts_S (by cases b <;> decide)]; exact q⟩) (fun z => ?_) (fun z => ?_)
      · have erd : rdWord l = (rdShare (l.drop (if b then 9 else 6))).map fun q => (b, q) := by
          unfold rdWord
          cases b with
          | true => rw [if_pos (show TL.pre (cAt ++ [32]) l = true from z)]; rfl
          | false =>
            rw [if_neg (by rw [p1 (by rw [ei]; decide)]; decide), if_pos (show TL.pre (cBe ++ [32]) l = true from z)]
            rfl
        have hz : (SX.S l).length ≤ sizeLine := by
          rw [SX.S_len]
          show _ ≤ 2 ^ 24
          omega
        have hz2 : (SX.S (kTxt b)).length ≤ sizeLine := by
          rw [SX.S_len, k_len]
          show _ ≤ 2 ^ 24
          split <;> decide
        have ecut : Txt.slice (SX.S l) (some (((SX.S (kTxt b)).length : Int) + 1)) none = SX.S (l.drop (if b then 9 else 6)) := by
          rw [SX.slice_from (by omega), SX.S_len, k_len]
          cases b <;> rfl
        refine sR ⟨_, rfl, _, rfl, _, rfl, _, rfl, _, rfl, hz2, _, _, rfl, rfl, _, rfl, _, rfl, hz, ?_⟩
        rw [ecut]
        refine ⟨SX.S l, l.drop (if b then 9 else 6), rfl, by rw [List.length_drop]; omega, ?_⟩
        rcases k with ⟨h, _⟩ | ⟨_, h, k⟩ | ⟨_, b', n, d, h, k⟩
        · exact absurd h hl2
        · rw [erd, Option.map_eq_none_iff] at h
          exact .inl ⟨h, k.back s'⟩
        · rw [erd] at h
          obtain ⟨z, h1, h2⟩ := Option.map_eq_some_iff.mp h
          obtain ⟨rfl, rfl⟩ := Prod.mk.inj h2
          refine .inr ⟨n, d, h1, fun q H2 s2 hq => ⟨(by show 2 ≤ sizeLine; decide), fun p hp => k p q _ ((s'.trans s2).trans (same_upd hp)) ((same_upd hp) _ _ hq) upd_same⟩⟩
      · refine ⟨⟨_, rfl⟩, s', fun h => ?_, fun h => ?_⟩
        · cases b with
          | true => exact z
          | false => exact p1 (by rw [ei]; decide)
        · cases b with
          | true => rw [ei] at h; exact absurd h (by decide)
          | false => exact z
    · rintro σ' H2 ⟨⟨v1, rfl⟩, s2, p1, p2⟩
      dsimp only
      have hn : rdWord l = none := by
        unfold rdWord
        rw [if_neg (by rw [p1 (by decide)]; decide), if_neg (by rw [p2 (by decide)]; decide)]
      rcases k with ⟨h, _⟩ | ⟨_, h, k⟩ | ⟨_, b', n, d, h, _⟩
      · exact absurd h hl2
      · refine ⟨_, rfl, ⟨(by show 1 ≤ 1000; decide), fun e he => ?_⟩⟩
        refine ⟨e, _, rfl, upd_same, fun dx hdx hda => ?_⟩
        have hdx0 : H2 dx = none := by rw [upd_ne hda] at hdx; exact hdx
        refine ⟨rfl, dx, [("word", .str (SX.S l))], upd_same, ?_, hdx0, ?_⟩
        · rw [upd_ne hda]
          exact upd_same
        · exact raised_end he hdx0 hda (k.back s2)
      · rw [hn] at h
        cases h
theorem sc_is_word : FnScope N_is_word ["text"] (defScope s_is_word) := ⟨rfl, rfl, rfl, by decide +kernel, rfl, by decide +kernel, by decide +kernel⟩

def spIsWord : Sp := fun vs H Q _ => ∃ l : List Nat, vs = [.str (SX.S l)] ∧ l.length ≤ 1000 ∧ ∀ H', Same H H' → Q (.bl (isW l)) H'
theorem ok_is_word (T : Txt K mg A) : FnOk P w K mg base CX0 6 A.f_is_word A.d_is_word ["text"] spIsWord := by
  have Gread_word := ok_read_word (P := P) (w := w) (base := base) T
  refine T.F_is_word.ok sc_is_word (fun vs H Q E h => ?_) (fun cdv Ar outer s H vs Q E hr h => ?_)
  · obtain ⟨l, rfl, _⟩ := h
    rfl
  · obtain ⟨l, rfl, hl, k⟩ := h
    refine ⟨_, (pss_cons (ps_try_only (Wout := fun _ _ _ _ => False) rfl rfl ⟨rfl, by decide, Or.inl T.g_InvalidWord⟩ takes0
          (fun W pn xe tk _ => pss_one (ps_expr (by exact (pe_callS Gread_word (hr.mono (by decide)) rfl T.g_read_word T.k_read_word T.b_read_word (fun σ => passAt tk σ) (by exact (pa_cons (pv 0) pa_nil))))))
          (fun a oe cls d pn hz hf => pss_one (ps_ret (by exact pe_bl))))
      (pss_one (ps_ret pe_bl))), ?_⟩
    refine ⟨_, rfl, l, rfl, hl, ?_⟩
    by_cases hn : l = cNo
    · rw [show isW l = true by unfold isW; rw [decide_eq_true hn]; rfl] at k
      refine .inl ⟨hn, fun p H1 s1 _ => ?_⟩
      dsimp only
      exact sR (val_c.at (k H1 s1))
    · cases hr2 : rdWord l with
      | none =>
        rw [show isW l = false by unfold isW; rw [decide_eq_false hn, hr2]; rfl] at k
        refine .inr (.inl ⟨hn, hr2, fun d' H1 s1 hd0 hd1 => ?_⟩)
        exact ⟨true, T.ex_self_InvalidWord, fun _ a ha => sR (val_c.at (k H1 s1)), fun z => nomatch z⟩
      | some z =>
        obtain ⟨b, n, d⟩ := z
        rw [show isW l = true by unfold isW; rw [hr2]; exact Bool.or_true _] at k
        refine .inr (.inr ⟨hn, b, n, d, hr2, fun p q H1 s1 _ _ => ?_⟩)
        dsimp only
        exact sR (val_c.at (k H1 s1))
theorem sc__is_state : FnScope N__is_state ["number", "states"] (defScope s__is_state) := ⟨rfl, rfl, rfl, by decide +kernel, rfl, by decide +kernel, by decide +kernel⟩

def spIsState : Sp := fun vs H Q _ => ∃ k n : Int, vs = [.int k, .int n] ∧ Q (.bl (decide (0 ≤ k) && decide (k < n))) H
theorem ok__is_state (T : Txt K mg A) : FnOk P w K mg base CX0 2 A.f__is_state A.d__is_state ["number", "states"] spIsState := by
  have Gis_integer := ok_is_integer (P := P) (w := w) (base := base) T
  refine T.F__is_state.ok sc__is_state (fun vs H Q E h => ?_) (fun cdv Ar outer s H vs Q E hr h => ?_)
  · obtain ⟨k, n, rfl, _⟩ := h
    rfl
  · obtain ⟨m, n, rfl, k⟩ := h
    refine ⟨_, (pss_one (ps_ret (pe_and (pe_call Gis_integer (hr.mono (by decide)) rfl T.g_is_integer T.k_is_integer T.b_is_integer .nil pass0 (pa_cons (pv 0) pa_nil)) (pe_one (pe_chain op_le op_lt pe_int (pv 0) (pv 1)))))), ?_⟩
    refine sR ⟨_, rfl, m, rfl, true, rfl, ?_⟩
    exact (val_chain (p := fun i j => decide (i ≤ j)) (q := fun i j => decide (i < j)) val_c (val_var rfl) (val_var rfl)).at k
theorem sc__is_target : FnScope N__is_target ["target", "states"] (defScope s__is_target) := ⟨rfl, rfl, rfl, by decide +kernel, rfl, by decide +kernel, by decide +kernel⟩

def spIsTarget : Sp := fun vs H Q _ => ∃ (t : Tg) (n : Nat), vs = [t.v, .int (n : Int)] ∧ TgB t ∧ ∀ H', Same H H' → Q (.bl (tgOk n t)) H'
theorem ok__is_target (T : Txt K mg A) : FnOk P w K mg base CX0 7 A.f__is_target A.d__is_target ["target", "states"] spIsTarget := by
  have Gis_word := ok_is_word (P := P) (w := w) (base := base) T
  have G_is_state := ok__is_state (P := P) (w := w) (base := base) T
  refine T.F__is_target.ok sc__is_target (fun vs H Q E h => ?_) (fun cdv Ar outer s H vs Q E hr h => ?_)
  · obtain ⟨t, n, rfl, _⟩ := h
    rfl
  · obtain ⟨t, n, rfl, ht, k⟩ := h
    refine ⟨_, (pss_cons (ps_if (pt_val (pe_callB call_isi (by rfl) T.z_isinstance (by decide +kernel) (pa_cons (pv 0) (pa_cons (pe_bltn (v := .ty "str") (u := .type "str") (by rfl) T.z_str (by decide +kernel) (by rfl)) pa_nil)))) (pss_one (ps_ret (pe_call Gis_word (hr.mono (by decide)) rfl T.g_is_word T.k_is_word T.b_is_word .nil pass0 (pa_cons (pv 0) pa_nil)))) pss_nil)
      (pss_one (ps_ret (pe_call G_is_state (hr.mono (by decide)) rfl T.g__is_state T.k__is_state T.b__is_state .nil pass0 (pa_cons (pv 0) (pa_cons (pv 1) pa_nil)))))), ?_⟩
    cases t with
    | n m =>
      refine qW ⟨_, rfl, _, _, _, _, false, rfl, .ty "str", .base (.int m), kit_ty (by decide +kernel), false, rfl, iteF ?_⟩
      exact sR ⟨_, rfl, _, rfl, m, n, rfl, k H (Same.refl _)⟩
    | w l =>
      refine qW ⟨_, rfl, _, _, _, _, true, rfl, .ty "str", .base (.str _), kit_ty (by decide +kernel), true, rfl, iteT ?_⟩
      exact sR ⟨_, rfl, l, rfl, Nat.le_trans ht.1 (by decide), k⟩
theorem sc__check_rows : FnScope N__check_rows ["rows"] (defScope s__check_rows) := ⟨rfl, rfl, rfl, by decide +kernel, rfl, by decide +kernel, by decide +kernel⟩

def spCheckRows (C : Addr) : Sp := fun vs H Q E => ∃ (p : Addr) (as : List Addr) (rs : List (List Tg)), vs = [.ref p] ∧ H p = some (.lst (as.map V.ref)) ∧ RowsIn H as rs ∧ RsB rs ∧
  ((∃ s : Nat, s < rs.length ∧ badAt rs s = true ∧ (∀ j, j < s → badAt rs j = false) ∧ Raised C "state" (.int (s : Int)) H E) ∨ (rs = [] ∧ Raised C "state" (.int 0) H E) ∨ (rs ≠ [] ∧ (∀ j, j < rs.length → badAt rs j = false) ∧ ∀ H', Same H H' → Q .non H'))
theorem Txt.crd_Ring (T : Txt K mg A) : ClX.CRead K A.C_Ring (.type "type") := ⟨T.rd_Ring, T.cg_Ring⟩
theorem ok__check_rows (T : Txt K mg A) : FnOk P w K mg base (L2.CX P w) 8 A.f__check_rows A.d__check_rows ["rows"] (spCheckRows A.C_InvalidRing) := by
  have GInvalidRing___init__ := ok_InvalidRing___init__ (P := P) (w := w) (base := base) T
  have G_is_target := ok__is_target (P := P) (w := w) (base := base) T
  refine T.F__check_rows.okX sc__check_rows (fun vs H Q E h => ?_) (fun cdv Ar outer s H vs Q E hr h => ?_)
  · obtain ⟨p, as, rs, rfl, _⟩ := h
    rfl
  · obtain ⟨p, as, rs, rfl, hp, hr2, hb, k⟩ := h
    refine ⟨_, (pss_cons (ps_for (passes_of rfl) rfl (pi_enum (by rfl) T.z_enumerate (pa_cons (pv 0) pa_nil)) (pg_tup (by rfl) (pgs_cons (pg_name (i := 1) sc__check_rows.nd rfl (Or.inl rfl)) (pgs_cons (pg_name (i := 2) sc__check_rows.nd rfl (Or.inl rfl)) pgs_nil))) (pss_one (ps_if (PW.pt (pw_or (pt_cmpR op_ge (pv 1) (ClX.pe_cval (pe_glob (v := .ref A.C_Ring) rfl T.g_Ring rfl)) (nomark _)) (pw_or (pt_cmpR op_ne (pe_callB call_len_seq (by rfl) T.z_len (by decide +kernel) (pa_cons (pv 2) pa_nil)) pe_int (nomark _)) (pw_or1 (pt_not (pt_val (pe_callB (cr_all rfl) (by rfl) T.z_all (by decide +kernel) (pa_cons (pe_lc (own := [("target", 3)]) (g := gName 3) (tt := tYes) rfl sc__check_rows.nd (pi_tup (pv 2)) (blkOk_by (own := [("target", 3)]) (N := N__check_rows) (sc := defScope s__check_rows) (by decide +kernel)) (fun _ _ _ _ _ => (pg_name (i := 3) sc__check_rows.nd rfl (Or.inl rfl))) (fun _ _ _ _ _ => pts_nil) (fun _ _ _ _ _ => (pe_call G_is_target (hr.mono (by decide)) rfl T.g__is_target T.k__is_target T.b__is_target .nil pass0 (pa_cons (pv 3) (pa_cons (pe_callB (show CallR _ (.builtin "len") (rLenB K) from call_len_seq) (by rfl) T.z_len (by decide +kernel) (pa_cons (pv 0) pa_nil)) pa_nil))))) pa_nil)))))))) (pss_one (ps_raise rfl (takes_of rfl rfl rfl rfl) (pmk_oex T.oex_InvalidRing T.m_InvalidRing___init__ T.t_InvalidRing___init__ GInvalidRing___init__ (hr.mono (by decide)) T.b_InvalidRing___init__ .nil passF rfl T.g_InvalidRing (pa_cons (pv 1) pa_nil)))) pss_nil)))
      (pss_one (ps_if (pt_cmpR op_eq (pe_callB (show CallR _ (.builtin "len") (rLenB K) from call_len_seq) (by rfl) T.z_len (by decide +kernel) (pa_cons (pv 0) pa_nil)) pe_int (nomark _)) (pss_one (ps_raise rfl (takes_of rfl rfl rfl rfl) (pmk_oex T.oex_InvalidRing T.m_InvalidRing___init__ T.t_InvalidRing___init__ GInvalidRing___init__ (hr.mono (by decide)) T.b_InvalidRing___init__ .nil passF rfl T.g_InvalidRing (pa_cons pe_int pa_nil)))) pss_nil))), ?_⟩
    obtain ⟨uM, hM⟩ := T.mo_Ring
    have hlA : (as.map V.ref).length = rs.length := by rw [List.length_map]; exact hr2.1
    refine ⟨_, rfl, p, _, rfl, SqL.of hp, for_enL (K := K) (a := p) (xs := as.map V.ref) (fun i σ' H' => (∃ v1 v2 v3, σ' = [some (.ref p), v1, v2, v3]) ∧ Same H H' ∧ ∀ j, j < i → badAt rs j = false) ⟨⟨none, none, none, rfl⟩, Same.refl _, fun j hj => absurd hj (Nat.not_lt_zero _)⟩ (fun i σ' H' h => SqL.of (h.2.1 _ _ hp)) ?_ ?_⟩
    · rintro i x T' σ' H' hi ⟨⟨v1, v2, v3, rfl⟩, s', hbad⟩ hT'
      obtain ⟨hlt, a, rfl, ha⟩ := (hr2.same s').at_ hi
      refine gPair ?_
      have s2 : Same H (upd H' T' (.tup [.int (i : Int), .ref a])) := s'.trans (same_upd hT')
      have ha2 : SqT K (upd H' T' (.tup [.int (i : Int), .ref a])) a ((rs.getD i []).map Tg.v) := SqT.of ((same_upd hT') _ _ ha)
      generalize upd H' T' (.tup [.int (i : Int), .ref a]) = H2 at s2 ha2 ⊢
      have hrb := hb.2 _ (rows_mem hlt)
      have el : ((rs.getD i []).map Tg.v).length = (rs.getD i []).length := List.length_map ..
      have vM : ∀ {σ : L2.St} {H : Hp}, Val (ClX.tCVal K (tC (.ref A.C_Ring)) "MOST") σ H (.int 6) := fun Q q => ⟨_, _, _, uM, rfl, T.crd_Ring, hM, q⟩
      have e3 : EvR (tCB (fun xs H Q => ∃ (p : Addr) (bs : List Bool), xs = [V.ref p] ∧ SqL K H p (bs.map V.bl) ∧ Q (V.bl (bs.all id)) H) (tCons (tLc (iTup K (tVar 2)) (gName 3) tYes (tCall spIsTarget [] E0 (tCons (tVar 3) (tCons (tCB (rLenB K) (tCons (tVar 0) tNil)) tNil))) [3]) tNil)) [some (.ref p), some (.int (i : Int)), some (.ref a), v3] H2 (isV (.bl ((rs.getD i []).all (tgOk rs.length)))) := fun H3 e3 Q q => ⟨_, rfl, a, rfl, ⟨_, e3.tup ha2⟩, fun D hD => lcTE (fun j => .bl (tgOk rs.length ((rs.getD i []).getD j (.n 0)))) (e3.tup ha2) hD (by rw [el]; show _ ≤ 2 ^ 24; omega) (fun j y H4 hy s4 => by
          obtain ⟨hj, rfl⟩ := tg_at hy
          have hp4 : SqL K H4 p (as.map V.ref) := SqL.of (s4 _ _ (e3 _ _ (s2 _ _ hp)))
          refine fun H5 e5 Q q => ⟨_, rfl, _, rfl, p, _, rfl, .inl (e5.seq hp4), ?_⟩
          rw [hlA]
          exact ⟨_, rs.length, rfl, hrb.2 _ (tgs_mem hj), fun H6 s6 => q _ H6 s6 rfl⟩) (fun H4 s4 h4 => by
          rw [el, range_tg] at h4
          refine ⟨D, _, rfl, SqL.of h4, ?_⟩
          rw [List.all_map]
          exact q _ H4 s4 rfl)⟩
      refine Evl.s_when (b := badAt rs i) (Evl.et_is (Evl.et_or (Evl.et_test (er_ev (er_val fun H1 _ => val_op0 (g := fun i j => V.bl (decide (j ≤ i))) (val_var rfl) vM))) fun _ => Evl.et_or (Evl.et_test (er_ev (er_val fun H1 e1 => val_ne (y := .int 2) (val_cb (va_cons (val_var rfl) va_nil) fun Q q => ⟨a, _, rfl, .inr (e1.tup ha2), q⟩) val_c rfl))) fun _ => Evl.et_not (Evl.et_B (er_ev e3))) ?_) (fun z H3 e3 => ?_) (fun z H3 e3 => ?_)
      · unfold badAt rowBad
        rw [el]
        congr 1
        · exact decide_eq_decide.mpr (by omega)
        · congr 2
          exact decide_eq_decide.mpr ⟨fun h => by have := V.int.inj h; omega, fun h => by rw [h]; rfl⟩
      · have hR : Raised A.C_InvalidRing "state" (.int (i : Int)) H E := by
          rcases k with ⟨s, hs, h1, h2, k⟩ | ⟨h, _⟩ | ⟨_, h, _⟩
          · have : s = i := by
              rcases Nat.lt_trichotomy s i with l | l | l
              · rw [hbad s l] at h1
                cases h1
              · exact l
              · rw [h2 i l] at z
                cases z
            rw [← this]
            exact k
          · rw [h] at hlt
            exact absurd hlt (Nat.not_lt_zero _)
          · rw [h i hlt] at z
            cases z
        refine ⟨_, rfl, ⟨(by show 1 ≤ 1000; decide), fun e he => ?_⟩⟩
        refine ⟨e, _, rfl, upd_same, fun dx hdx hda => ?_⟩
        have hdx0 : H3 dx = none := by rw [upd_ne hda] at hdx; exact hdx
        refine ⟨rfl, dx, [("state", .int (i : Int))], upd_same, ?_, hdx0, ?_⟩
        · rw [upd_ne hda]
          exact upd_same
        · exact raised_end he hdx0 hda (hR.back (s2.trans e3))
      · refine ⟨⟨_, _, _, rfl⟩, s2.trans e3, fun j hj => ?_⟩
        rcases Nat.lt_or_ge j i with l | l
        · exact hbad j l
        · rw [show j = i by omega]
          exact z
    · rintro σ' H' ⟨⟨v1, v2, v3, rfl⟩, s', hbad⟩
      rw [hlA] at hbad
      dsimp only
      refine s_when (b := decide (rs = [])) (ans_of (val_to (w := .bl (decide (V.int ((as.map V.ref).length : Int) = V.int 0))) (val_eq (val_cb (va_cons (val_var rfl) va_nil) fun Q q => ⟨p, _, rfl, .inl (SqL.of (s' _ _ hp)), q⟩) val_c rfl) ?_)) (fun z => ?_) (fun z => ?_)
      · rw [hlA]
        exact congrArg V.bl (decide_eq_decide.mpr ⟨fun h => List.eq_nil_of_length_eq_zero (by have := V.int.inj h; omega), fun h => by rw [h]; rfl⟩)
      · have z1 := of_decide_eq_true z
        have hR : Raised A.C_InvalidRing "state" (.int 0) H E := by
          rcases k with ⟨s, hs, _⟩ | ⟨_, k⟩ | ⟨h, _⟩
          · rw [z1] at hs
            exact absurd hs (Nat.not_lt_zero _)
          · exact k
          · exact absurd z1 h
        refine ⟨(by show 1 ≤ 1000; decide), fun e he => ?_⟩
        refine ⟨e, _, rfl, upd_same, fun dx hdx hda => ?_⟩
        have hdx0 : H' dx = none := by rw [upd_ne hda] at hdx; exact hdx
        refine ⟨rfl, dx, [("state", .int 0)], upd_same, ?_, hdx0, ?_⟩
        · rw [upd_ne hda]
          exact upd_same
        · exact raised_end he hdx0 hda (hR.back s')
      · have z1 := of_decide_eq_false z
        rcases k with ⟨s, hs, h1, _⟩ | ⟨h, _⟩ | ⟨_, _, k⟩
        · rw [hbad s hs] at h1
          cases h1
        · exact absurd h z1
        · exact k H' s'
theorem sc__check_ways_out : FnScope N__check_ways_out ["rows"] (defScope s__check_ways_out) := ⟨rfl, rfl, rfl, by decide +kernel, rfl, by decide +kernel, by decide +kernel⟩

def spWays (C : Addr) : Sp := fun vs H Q E => ∃ (p : Addr) (as : List Addr) (rs : List (List Tg)), vs = [.ref p] ∧ H p = some (.lst (as.map V.ref)) ∧ RowsIn H as rs ∧ RsB rs ∧ Closed rs ∧
  ((∃ s : Nat, s < rs.length ∧ ends rs rs.length s = false ∧ (∀ j, j < s → ends rs rs.length j = true) ∧ Raised C "state" (.int (s : Int)) H E) ∨ ((∀ j, j < rs.length → ends rs rs.length j = true) ∧ ∀ H', Same H H' → Q .non H'))
/-- the list of the states that end within k tries -/
def endL (rs : List (List Tg)) (k : Nat) : List V := (List.range rs.length).map fun s => V.bl (ends rs k s)
theorem endL_at {rs : List (List Tg)} {k s : Nat} (h : s < rs.length) : (endL rs k)[s]? = some (V.bl (ends rs k s)) := by
  unfold endL
  rw [List.getElem?_map, List.getElem?_range h]
  rfl
theorem ok__check_ways_out (T : Txt K mg A) : FnOk P w K mg base (L2.CX P w) 3 A.f__check_ways_out A.d__check_ways_out ["rows"] (spWays A.C_Endless) := by
  have GEndless___init__ := ok_Endless___init__ (P := P) (w := w) (base := base) T
  refine T.F__check_ways_out.okX sc__check_ways_out (fun vs H Q E h => ?_) (fun cdv Ar outer s H vs Q E hr h => ?_)
  · obtain ⟨p, as, rs, rfl, _⟩ := h
    rfl
  · obtain ⟨p, as, rs, rfl, hp, hr2, hb, hc, k⟩ := h
    refine ⟨_, (pss_cons (ps_set (i := 2) sc__check_ways_out.nd rfl (Or.inr rfl) (pe_lc (own := [("_", 1)]) (g := gName 1) (tt := tYes) rfl sc__check_ways_out.nd (pi_list (pv 0)) (blkOk_by (own := [("_", 1)]) (N := N__check_ways_out) (sc := defScope s__check_ways_out) (by decide +kernel)) (fun _ _ _ _ _ => (pg_name (i := 1) sc__check_ways_out.nd rfl (Or.inl rfl))) (fun _ _ _ _ _ => pts_nil) (fun _ _ _ _ _ => pe_bl)) (sw_cell rfl))
      (pss_cons (ps_for (passes_of rfl) rfl (pi_list (pv 0)) (pg_name (i := 1) sc__check_ways_out.nd rfl (Or.inl rfl)) (pss_one (ps_set (i := 2) sc__check_ways_out.nd rfl (Or.inr rfl) (pe_lc (own := [("row", 5)]) (g := gName 5) (tt := tYes) rfl sc__check_ways_out.nd (pi_list (pv 0)) (blkOk_by (own := [("row", 5)]) (N := N__check_ways_out) (sc := defScope s__check_ways_out) (by decide +kernel)) (fun _ _ _ _ _ => (pg_name (i := 5) sc__check_ways_out.nd rfl (Or.inl rfl))) (fun _ _ _ _ _ => pts_nil) (fun _ _ _ _ _ => (pe_callB (show CallR _ (.builtin "any") (rAnyB K) from cr_any rfl) (by rfl) T.z_any (by decide +kernel) (pa_cons (pe_lc (own := [("target", 6)]) (g := gName 6) (tt := tYes) rfl sc__check_ways_out.nd (show PI _ _ _ (iTup K (tVar 5)) from pi_tup (pv 5)) (blkOk_by (own := [("target", 6)]) (N := N__check_ways_out) (sc := { kind := ScopeKind.function, names := [(Str.ofString ".0", NameKind.local), (Str.ofString "row", NameKind.local), (Str.ofString "any", NameKind.globalImplicit), (Str.ofString "ending", NameKind.cell)], isGenerator := false, isCoroutine := false }) (by decide +kernel)) (fun _ _ _ _ _ => (pg_name (i := 6) sc__check_ways_out.nd rfl (Or.inl rfl))) (fun _ _ _ _ _ => pts_nil) (fun _ _ _ _ _ => (pe_or (pe_callB (show CallR _ (.builtin "isinstance") (rIsi K) from call_isi) (by rfl) T.z_isinstance (by decide +kernel) (pa_cons (pv 6) (pa_cons (pe_bltn (v := .ty "str") (u := .type "str") (by rfl) T.z_str (by decide +kernel) (by rfl)) pa_nil))) (pe_one (pe_ix (show IxR _ (rIxL K) from ix_list) (pv 2) (pv 6) (fun _ _ => rfl)))))) pa_nil)))) (sw_cell rfl))))
      (pss_one (ps_for (passes_of rfl) rfl (pi_enum (by rfl) T.z_enumerate (pa_cons (pv 2) pa_nil)) (pg_tup (by rfl) (pgs_cons (pg_name (i := 3) sc__check_ways_out.nd rfl (Or.inl rfl)) (pgs_cons (pg_name (i := 4) sc__check_ways_out.nd rfl (Or.inl rfl)) pgs_nil))) (pss_one (ps_if (pt_not (pt_val (pv 4))) (pss_one (ps_raise rfl (takes_of rfl rfl rfl rfl) (pmk_oex T.oex_Endless T.m_Endless___init__ T.t_Endless___init__ GEndless___init__ (hr.mono (by decide)) T.b_Endless___init__ .nil passF rfl T.g_Endless (pa_cons (pv 3) pa_nil)))) pss_nil)))))), ?_⟩
    have hlA : (as.map V.ref).length = rs.length := by rw [List.length_map]; exact hr2.1
    have h20 : rs.length ≤ 20 := hb.1
    refine qS ⟨_, rfl, p, rfl, ⟨_, SqL.of hp⟩, fun D hD => ?_⟩
    refine lcLE (fun j => .bl (ends rs 0 j)) (SqL.of hp) hD (by rw [hlA]; show _ ≤ 2 ^ 24; omega) (fun j y H2 hy s2 => er_c) (fun H1 s1 h1 => ?_)
    rw [hlA] at h1
    dsimp only
    refine ⟨_, rfl, p, rfl, ⟨_, SqL.of (s1 _ _ hp)⟩, for_list (K := K) (a := p) (xs := as.map V.ref) (fun i σ' H' => (∃ (D' : Addr) (v1 v3 v4 v5 v6 : Option V), σ' = [some (.ref p), v1, some (.ref D'), v3, v4, v5, v6] ∧ H' D' = some (.lst (endL rs i))) ∧ Same H H') ⟨⟨D, _, _, _, _, _, rfl, h1⟩, s1⟩ (fun i σ' H' _ h => SqL.of (h.2 _ _ hp)) ?_ ?_⟩
    · rintro i x σ' H' hi ⟨⟨D', v1, v3, v4, v5, v6, rfl, hD'⟩, s'⟩
      refine sS ⟨_, rfl, p, rfl, ⟨_, SqL.of (s' _ _ hp)⟩, fun D2 hD2 => ?_⟩
      refine lcLE (fun j => .bl (ends rs (i + 1) j)) (SqL.of (s' _ _ hp)) hD2 (by rw [hlA]; show _ ≤ 2 ^ 24; omega) (fun j y H3 hy s3 => ?_) (fun H3 s3 h3 => ?_)
      · obtain ⟨hj, a, rfl, ha⟩ := (hr2.same (s'.trans s3)).at_ hy
        have hrb := hb.2 _ (rows_mem hj)
        have el : ((rs.getD j []).map Tg.v).length = (rs.getD j []).length := List.length_map ..
        have e : ends rs (i + 1) j = ((rs.getD j []).map (tgEnd rs i)).any id := by
          rw [List.any_map]
          rfl
        rw [e]
        refine er_any (fun H4 e4 Q q => ⟨_, rfl, a, rfl, ⟨_, SqT.of (e4 _ _ ha)⟩, fun D3 hD3 => lcTE (fun m => .bl (tgEnd rs i ((rs.getD j []).getD m (.n 0)))) (SqT.of (e4 _ _ ha)) hD3 (by rw [el]; show _ ≤ 2 ^ 24; omega) (fun m y H5 hy s5 => ?_) (fun H5 s5 h5 => q _ H5 s5 ⟨D3, rfl, SqL.of (by rw [el, range_tg] at h5; exact h5)⟩)⟩)
        obtain ⟨hm, rfl⟩ := tg_at hy
        have hmem := tgs_mem hm
        generalize (rs.getD j []).getD m (.n 0) = t at hmem ⊢
        cases t with
        | w l => exact fun H6 e6 Q q => ⟨_, rfl, _, _, _, _, true, rfl, .ty "str", .base (.str _), kit_ty (by decide +kernel), true, rfl, q _ H6 (Same.refl _) rfl⟩
        | n kk =>
          have hkk := hc _ (rows_mem hj) kk hmem
          refine fun H6 e6 Q q => ⟨_, rfl, _, _, _, _, false, rfl, .ty "str", .base (.int kk), kit_ty (by decide +kernel), false, rfl, ?_⟩
          exact ⟨_, rfl, _, rfl, D', _, kk, _, rfl, rfl, SqL.of (e6 _ _ (s5 _ _ (e4 _ _ (s3 _ _ hD')))), atI_of hkk.1 (endL_at (by omega)), q _ H6 (Same.refl _) rfl⟩
      · rw [hlA] at h3
        exact ⟨⟨D2, _, _, _, _, _, rfl, h3⟩, s'.trans s3⟩
    · rintro σ' H' ⟨⟨D', v1, v3, v4, v5, v6, rfl, hD'⟩, s'⟩
      rw [hlA] at hD'
      dsimp only
      have hlE : (endL rs rs.length).length = rs.length := by unfold endL; rw [List.length_map, List.length_range]
      refine ⟨_, rfl, D', _, rfl, SqL.of hD', for_enL (K := K) (a := D') (xs := endL rs rs.length) (fun i σ2 H2 => (∃ w3 w4, σ2 = [some (.ref p), v1, some (.ref D'), w3, w4, v5, v6]) ∧ Same H' H2 ∧ ∀ j, j < i → ends rs rs.length j = true) ⟨⟨_, _, rfl⟩, Same.refl _, fun j hj => absurd hj (Nat.not_lt_zero _)⟩ (fun i σ2 H2 h => SqL.of (h.2.1 _ _ hD')) ?_ ?_⟩
      · rintro i x T' σ2 H2 hi ⟨⟨w3, w4, rfl⟩, s2, hg⟩ hT'
        have hlt : i < rs.length := by have := (List.getElem?_eq_some_iff.mp hi).1; omega
        rw [endL_at hlt] at hi
        cases hi
        refine gPair ?_
        have s3 : Same H (upd H2 T' (.tup [.int (i : Int), .bl (ends rs rs.length i)])) := (s'.trans s2).trans (same_upd hT')
        have s4 : Same H' (upd H2 T' (.tup [.int (i : Int), .bl (ends rs rs.length i)])) := s2.trans (same_upd hT')
        generalize upd H2 T' (.tup [.int (i : Int), .bl (ends rs rs.length i)]) = H3 at s3 s4 ⊢
        refine s_when (b := !ends rs rs.length i) (fun Q q => ⟨_, rfl, _, rfl, q⟩) (fun z => ?_) (fun z => ?_)
        · rw [Bool.not_eq_true'] at z
          have hR : Raised A.C_Endless "state" (.int (i : Int)) H E := by
            rcases k with ⟨s, hs, h1, h2, k⟩ | ⟨h, _⟩
            · have : s = i := by
                rcases Nat.lt_trichotomy s i with l | l | l
                · rw [hg s l] at h1
                  cases h1
                · exact l
                · rw [h2 i l] at z
                  cases z
              rw [← this]
              exact k
            · rw [h i hlt] at z
              cases z
          refine ⟨_, rfl, ⟨(by show 1 ≤ 1000; decide), fun e he => ?_⟩⟩
          refine ⟨e, _, rfl, upd_same, fun dx hdx hda => ?_⟩
          have hdx0 : H3 dx = none := by rw [upd_ne hda] at hdx; exact hdx
          refine ⟨rfl, dx, [("state", .int (i : Int))], upd_same, ?_, hdx0, ?_⟩
          · rw [upd_ne hda]
            exact upd_same
          · exact raised_end he hdx0 hda (hR.back s3)
        · rw [Bool.not_eq_false'] at z
          refine ⟨⟨_, _, rfl⟩, s4, fun j hj => ?_⟩
          rcases Nat.lt_or_ge j i with l | l
          · exact hg j l
          · rw [show j = i by omega]
            exact z
      · rintro σ2 H2 ⟨⟨w3, w4, rfl⟩, s2, hg⟩
        rw [hlE] at hg
        rcases k with ⟨s, hs, h1, _⟩ | ⟨_, k⟩
        · rw [hg s hs] at h1
          cases h1
        · exact k H2 (s'.trans s2)
theorem sc_Ring___init__ : FnScope N_Ring___init__ ["self", "rows", "start"] (defScope s_Ring___init__) := ⟨rfl, rfl, rfl, by decide +kernel, rfl, by decide +kernel, by decide +kernel⟩

def spRing (K : PySem.W.Frag) (C CR CE : Addr) : Sp := fun vs H Q E => ∃ (o p dx : Addr) (as : List Addr) (rs : List (List Tg)) (f : Int), vs = [.ref o, .ref p, .int f] ∧ H o = some (.ins C dx []) ∧ H p = some (.lst (as.map V.ref)) ∧ RowsIn H as rs ∧ RsB rs ∧
  ((∃ s, fault rs f = some (true, s) ∧ Raised CR "state" (.int s) H E) ∨ (∃ s, fault rs f = some (false, s) ∧ Raised CE "state" (.int s) H E) ∨ (fault rs f = none ∧ ∀ t H', (∀ b u, b ≠ o → H b = some u → H' b = some u) → H' t = some (.tup (as.map V.ref)) → H' o = some (.ins C dx [("rows", .ref t), ("start", .int f)]) → Q .non H'))
theorem Txt.cls_Ring (T : Txt K mg A) : Cls K A.C_Ring := ⟨T.pg_Ring, T.hd_Ring, T.po_Ring, T.sa_Ring⟩
theorem Txt.mk_Ring (T : Txt K mg A) : Mk K A.C_Ring A.f_Ring___init__ := ⟨T.mk0_Ring, T.m_Ring___init__, T.i_Ring___init__, T.kp_Ring⟩
theorem Txt.kb_Ring (T : Txt K mg A) : ∃ mv : List Value, KBn K A.d_Ring___init__ ["self", "rows", "start"] 2 ["start"] (fun us ws => us ++ ws) (fun vs zs => vs ++ zs) := by
  obtain ⟨mv, h⟩ := T.F_Ring___init__.kbinds0 (ps := ["self", "rows", "start"]) 2 ["start"] [] (fun us _ ws => us ++ ws) (fun z => nomatch z) (fun q hq => nomatch hq) (fun a _ c => a.append c) (fun D doc pm an cdv ct us mv ws h1 h2 h3 => (match us, mv, ws, h1, h2, h3 with | [_, _], [], [_], _, _, _ => rfl))
  exact ⟨mv, h⟩
theorem Txt.b0_Ring (T : Txt K mg A) : ∃ ds, Vals [.int 0] ds ∧ Binds K A.d_Ring___init__ ["self", "rows", "start"] ds :=
  T.F_Ring___init__.binds0 (ps := ["self", "rows", "start"]) 2 (fun z => nomatch z) rfl (fun D doc pm an cdv ct us ks h1 h2 => (match us, ks, h1, h2 with | [_, _], [_], _, _ => ⟨_, _, _, _, _, _, rfl, rfl, rfl⟩))
theorem ok_Ring___init__ (T : Txt K mg A) : FnOk P w K mg base (L2.CX P w) 9 A.f_Ring___init__ A.d_Ring___init__ ["self", "rows", "start"] (spRing K A.C_Ring A.C_InvalidRing A.C_Endless) := by
  have GInvalidRing___init__ := ok_InvalidRing___init__ (P := P) (w := w) (base := base) T
  have G_check_rows := ok__check_rows (P := P) (w := w) (base := base) T
  have G_is_state := ok__is_state (P := P) (w := w) (base := base) T
  have G_check_ways_out := ok__check_ways_out (P := P) (w := w) (base := base) T
  refine T.F_Ring___init__.ok sc_Ring___init__ (fun vs H Q E h => ?_) (fun cdv Ar outer s H vs Q E hr h => ?_)
  · obtain ⟨o, p, dx, as, rs, f, rfl, _⟩ := h
    rfl
  · obtain ⟨o, p, dx, as, rs, f, rfl, ho, hp, hr2, hb, k⟩ := h
    refine ⟨_, (pss_cons (ps_expr (pe_callS G_check_rows (hr.mono (by decide)) rfl T.g__check_rows T.k__check_rows T.b__check_rows (fun σ => passAt (takes_of rfl rfl rfl rfl) σ) (pa_cons (pv 1) pa_nil)))
      (pss_cons (ps_if (pt_not (pt_val (pe_call G_is_state (hr.mono (by decide)) rfl T.g__is_state T.k__is_state T.b__is_state .nil pass0 (pa_cons (pv 2) (pa_cons (pe_callB call_len_seq (by rfl) T.z_len (by decide +kernel) (pa_cons (pv 1) pa_nil)) pa_nil))))) (pss_one (ps_raise rfl (takes_of rfl rfl rfl rfl) (pmk_oex T.oex_InvalidRing T.m_InvalidRing___init__ T.t_InvalidRing___init__ GInvalidRing___init__ (hr.mono (by decide)) T.b_InvalidRing___init__ .nil passF rfl T.g_InvalidRing (pa_cons (pv 2) pa_nil)))) pss_nil)
      (pss_cons (ps_expr (pe_callS G_check_ways_out (hr.mono (by decide)) rfl T.g__check_ways_out T.k__check_ways_out T.b__check_ways_out (fun σ => passAt (takes_of rfl rfl rfl rfl) σ) (pa_cons (pv 1) pa_nil)))
      (pss_cons (ps_fld (pv 0) (pe_callTy call_tuple_of (by rfl) T.z_tuple (by decide +kernel) (pa_cons (pe_lc (own := [("row", 3)]) (g := gName 3) (tt := tYes) rfl sc_Ring___init__.nd (pi_list (pv 1)) (blkOk_by (own := [("row", 3)]) (N := N_Ring___init__) (sc := defScope s_Ring___init__) (by decide +kernel)) (fun _ _ _ _ _ => (pg_name (i := 3) sc_Ring___init__.nd rfl (Or.inl rfl))) (fun _ _ _ _ _ => pts_nil) (fun _ _ _ _ _ => (pe_callTy (show CallR _ (.type "tuple") (rTupB K) from call_tuple_of) (by rfl) T.z_tuple (by decide +kernel) (pa_cons (pv 3) pa_nil)))) pa_nil)) rfl)
      (pss_one (ps_fld (pv 0) (pv 2) rfl)))))), ?_⟩
    have hlA : (as.map V.ref).length = rs.length := by rw [List.length_map]; exact hr2.1
    have h20 : rs.length ≤ 20 := hb.1
    have good : ∀ s, fault rs f = some (true, s) → Raised A.C_InvalidRing "state" (.int s) H E := fun s h => by
      rcases k with ⟨s2, h2, k⟩ | ⟨s2, h2, _⟩ | ⟨h2, _⟩
      · rw [h] at h2
        cases h2
        exact k
      · rw [h] at h2
        cases h2
      · rw [h] at h2
        cases h2
    by_cases h0 : rs = []
    · refine qD ⟨_, rfl, p, as, rs, rfl, hp, hr2, hb, .inr (.inl ⟨h0, good 0 (by unfold fault; rw [if_pos h0])⟩)⟩
    cases hl : least (badAt rs) rs.length with
    | some s =>
      obtain ⟨h1, h2, h3⟩ := least_yes hl
      refine qD ⟨_, rfl, p, as, rs, rfl, hp, hr2, hb, .inl ⟨s, h1, h2, h3, good s (by unfold fault; rw [if_neg h0, hl])⟩⟩
    | none =>
      have hbd := least_no hl
      have hc := closed_of hbd
      refine qD ⟨_, rfl, p, as, rs, rfl, hp, hr2, hb, .inr (.inr ⟨h0, hbd, fun H1 s1 => ?_⟩)⟩
      dsimp only
      have hp1 := s1 _ _ hp
      refine q_when (b := !(decide (0 ≤ f) && decide (f < (rs.length : Int)))) (fun Q q => ⟨_, rfl, _, rfl, p, _, rfl, .inl (SqL.of hp1), f, _, rfl, _, rfl, by rw [hlA]; exact q⟩) (fun z => ?_) (fun z => ?_)
      · have hR : Raised A.C_InvalidRing "state" (.int f) H E := good f (by
          unfold fault
          rw [if_neg h0, hl]
          dsimp only
          rw [if_pos]
          rw [Bool.not_eq_true', Bool.and_eq_false_iff] at z
          rcases z with z | z
          · have := of_decide_eq_false z
            omega
          · have := of_decide_eq_false z
            omega)
        refine ⟨_, rfl, ⟨(by show 1 ≤ 1000; decide), fun e he => ?_⟩⟩
        refine ⟨e, _, rfl, upd_same, fun dx hdx hda => ?_⟩
        have hdx0 : H1 dx = none := by rw [upd_ne hda] at hdx; exact hdx
        refine ⟨rfl, dx, [("state", .int f)], upd_same, ?_, hdx0, ?_⟩
        · rw [upd_ne hda]
          exact upd_same
        · exact raised_end he hdx0 hda (hR.back s1)
      · rw [Bool.not_eq_false', Bool.and_eq_true] at z
        have z1 : 0 ≤ f := of_decide_eq_true z.1
        have z2 : f < (rs.length : Int) := of_decide_eq_true z.2
        have hf : fault rs f = match least (fun s => !ends rs rs.length s) rs.length with
          | some s => some (false, (s : Int))
          | none => none := by
          unfold fault
          rw [if_neg h0, hl]
          dsimp only
          rw [if_neg (by omega)] <;> rfl
        cases he : least (fun s => !ends rs rs.length s) rs.length with
        | some s =>
          obtain ⟨h1, h2, h3⟩ := least_yes he
          rw [he] at hf
          have hR : Raised A.C_Endless "state" (.int (s : Int)) H E := by
            rcases k with ⟨s2, h2, _⟩ | ⟨s2, h2, k⟩ | ⟨h2, _⟩
            · rw [hf] at h2
              cases h2
            · rw [hf] at h2
              cases h2
              exact k
            · rw [hf] at h2
              cases h2
          refine qD ⟨_, rfl, p, as, rs, rfl, hp1, hr2.same s1, hb, hc, .inl ⟨s, h1, ?_, fun j hj => ?_, hR.back s1⟩⟩
          · rw [Bool.not_eq_true'] at h2
            exact h2
          · have := h3 j hj
            rw [Bool.not_eq_false'] at this
            exact this
        | none =>
          have h1 := least_no he
          rw [he] at hf
          have kk : ∀ t H', (∀ b u, b ≠ o → H b = some u → H' b = some u) → H' t = some (.tup (as.map V.ref)) → H' o = some (.ins A.C_Ring dx [("rows", .ref t), ("start", .int f)]) → Q .non H' := by
            rcases k with ⟨s2, h2, _⟩ | ⟨s2, h2, _⟩ | ⟨_, k⟩
            · rw [hf] at h2
              cases h2
            · rw [hf] at h2
              cases h2
            · exact k
          refine qD ⟨_, rfl, p, as, rs, rfl, hp1, hr2.same s1, hb, hc, .inr ⟨fun j hj => ?_, fun H2 s2 => ?_⟩⟩
          · have := h1 j hj
            rw [Bool.not_eq_false'] at this
            exact this
          dsimp only
          have s12 := s1.trans s2
          refine ⟨_, rfl, p, rfl, ⟨_, SqL.of (s12 _ _ hp)⟩, fun D hD => ?_⟩
          refine lcLE (fun j => (as.map V.ref).getD j .non) (SqL.of (s12 _ _ hp)) hD (by rw [hlA]; show _ ≤ 2 ^ 24; omega) (fun j y H3 hy s3 => ?_) (fun H3 s3 h3 => ?_)
          · obtain ⟨hj, a, rfl, ha⟩ := (hr2.same (s12.trans s3)).at_ hy
            have e : (as.map V.ref).getD j .non = .ref a := by
              rw [List.getD_eq_getElem?_getD, hy]
              rfl
            rw [e]
            exact fun H4 e4 Q q => ⟨_, rfl, a, _, rfl, .inr ⟨SqT.of (e4 _ _ ha), q _ H4 (Same.refl _) rfl⟩⟩
          · rw [range_self] at h3
            refine ⟨D, _, rfl, .inl ⟨SqL.of h3, fun t ht => ?_⟩⟩
            have s3' := (s12.trans s3).trans (same_upd (o := .tup (as.map V.ref)) ht)
            refine ⟨_, rfl, o, _, dx, [], rfl, s3' _ _ ho, T.cls_Ring, T.nr_Ring, by decide, ?_⟩
            refine ⟨_, rfl, _, rfl, o, _, dx, _, rfl, upd_same, T.cls_Ring, T.ns_Ring, (by show 1 < 1000; decide), ?_⟩
            have hto : t ≠ o := (ne_of_none ((s12.trans s3) _ _ ho) ht).symm
            refine kk t _ (fun b u hb e => ?_) ?_ upd_same
            · rw [upd_ne hb, upd_ne hb]
              exact s3' _ _ e
            · rw [upd_ne hto, upd_ne hto]
              exact upd_same
theorem sc__law_box : FnScope N__law_box ["_law_script"] (defScope s__law_box) := ⟨rfl, rfl, rfl, by decide +kernel, rfl, by decide +kernel, by decide +kernel⟩
theorem ok__law_box (T : Txt K mg A) : FnOk P w K mg base CX0 1 A.f__law_box A.d__law_box ["_law_script"] (spBox K) := by
  refine T.F__law_box.ok sc__law_box (fun vs H Q E h => ?_) (fun cdv Ar outer s H vs Q E hr h => ?_)
  · obtain ⟨a, ns, rfl, _⟩ := h
    rfl
  · obtain ⟨a, ns, rfl, hS, hlen, k⟩ := h
    refine ⟨_, (pss_one (ps_ret (pe_lst (pa_cons (pe_lc (own := [("_law_cell", 1)]) (g := gName 1) (tt := tYes) rfl sc__law_box.nd (pi_list (pe_slice sl_list (pv 0) po_none (po_some pe_int))) (blkOk_by (own := [("_law_cell", 1)]) (N := N__law_box) (sc := defScope s__law_box) (by decide +kernel)) (fun _ _ _ _ _ => (pg_name (i := 1) sc__law_box.nd rfl (Or.inl rfl))) (fun _ _ _ _ _ => pts_nil) (fun _ _ _ _ _ => (pe_callB call_abs (by rfl) T.z_abs (by decide +kernel) (pa_cons (pe_callTy call_int1 (by rfl) T.z_int (by decide +kernel) (pa_cons (pv 1) pa_nil)) pa_nil)))) (pa_cons pe_int (pa_cons pe_int pa_nil)))))), ?_⟩
    refine ⟨_, rfl, 63, rfl, a, _, rfl, hS, fun p hp => ?_⟩
    have ecut : cutV (ns.map V.int) none (some 63) = (ns.map V.int) := by
      unfold cutV
      have e63 : ∀ n, HT.sIx n n (some (63 : Int)) = min 63 n := fun n => HT.sIx_nat n n 63
      rw [show HT.sIx (ns.map V.int).length 0 none = 0 from rfl, e63, List.length_map]
      rw [List.drop_zero, List.take_of_length_le]
      rw [List.length_map]
      omega
    rw [ecut]
    refine ⟨p, rfl, ⟨_, SqL.of upd_same⟩, fun D hD => ?_⟩
    have hDp : D ≠ p := fun e => (by rw [e, upd_same] at hD; cases hD)
    have hD0 : H D = none := by rw [upd_ne hDp] at hD; exact hD
    refine lc_list (K := K) (a := p) (xs := ns.map V.int) (fun i H' => Same H H' ∧ H' p = some (.lst (ns.map V.int)) ∧ ∃ ms : List Int, H' D = some (.lst (ms.map V.int)) ∧ ms.length = i ∧ ∀ x ∈ ms, 0 ≤ x)
      ⟨Same.trans (same_upd hp) (same_upd hD), by rw [upd_ne hDp.symm, upd_same], [], upd_same, rfl, fun x hx => (by cases hx)⟩
      (fun i H' _ h => SqL.of h.2.1) ?_ ?_
    · rintro i y H' hi ⟨s1, h1, ms, h2, hl, h3⟩
      have hi63 : i < ns.length := by
        have q := (List.getElem?_eq_some_iff.mp hi).1
        rw [List.length_map] at q
        exact q
      obtain ⟨u, rfl⟩ : ∃ u, y = V.int u := by
        rw [List.getElem?_map] at hi
        cases e : ns[i]? with
        | none =>
          rw [e] at hi
          cases hi
        | some u =>
          rw [e] at hi
          exact ⟨u, (Option.some.inj hi).symm⟩
      refine ⟨rfl, ?_⟩
      refine ⟨_, rfl, .inl ⟨u, rfl, u, rfl, ?_⟩⟩
      rw [iabs]
      refine ⟨_, h2, ?_, (fun b o e => by rw [upd_ne (ne_of_none e hD0)]; exact s1 b o e), ?_, ms ++ [((u.natAbs : Nat) : Int)], ?_, ?_, ?_⟩
      · rw [List.length_map, hl]
        exact small1000 (by omega)
      · rw [upd_ne hDp.symm]
        exact h1
      · rw [List.map_append]
        exact upd_same
      · rw [List.length_append, hl]
        rfl
      · intro x hx
        rcases List.mem_append.mp hx with hx | hx
        · exact h3 x hx
        · rw [List.mem_singleton.mp hx]
          exact Int.natCast_nonneg _
    · rintro H' ⟨s1, h1, ms, h2, hl, h3⟩
      refine ⟨?_, fun b hb => ?_⟩
      · show 3 ≤ sizeLine
        decide
      · have hbD : b ≠ D := fun e => (by rw [e, h2] at hb; cases hb)
        refine k b D _ (Same.trans s1 (same_upd hb)) (s1.free hb) hD0 ⟨ms, 0, 1, upd_same, ?_, ?_, h3, by omega, by omega, by omega⟩
        · rw [upd_ne hbD.symm]
          exact h2
        · rw [hl, List.length_map]
          omega
theorem sc__law_take : FnScope N__law_take ["_law_box_here", "_law_size"] (defScope s__law_take) := ⟨rfl, rfl, rfl, by decide +kernel, rfl, by decide +kernel, by decide +kernel⟩
theorem ok__law_take (T : Txt K mg A) : FnOk P w K mg base CX0 1 A.f__law_take A.d__law_take ["_law_box_here", "_law_size"] spTake := by
  refine T.F__law_take.ok sc__law_take (fun vs H Q E h => ?_) (fun cdv Ar outer s H vs Q E hr h => ?_)
  · obtain ⟨b, c, n, rfl, _⟩ := h
    rfl
  · obtain ⟨b, c, n, rfl, hB, hn, hlog, k⟩ := h
    refine ⟨_, (pss_cons (ps_set (i := 2) sc__law_take.nd rfl (Or.inl rfl) (pe_ix ix_list (pv 0) pe_int (fun _ _ => rfl)))
      (pss_cons (ps_set (i := 3) sc__law_take.nd rfl (Or.inl rfl) pe_int)
      (Evl.pss_cut (ps_if (pt_cmpR op_gt (pe_callB call_len_seq (by rfl) T.z_len (by decide +kernel) (pa_cons (pv 2) pa_nil)) pe_int (nomark _)) (pss_cons (ps_set (i := 4) sc__law_take.nd rfl (Or.inl rfl) (pe_op op_mod (pe_callTy call_int1 (by rfl) T.z_int (by decide +kernel) (pa_cons (pe_ix ix_list (pv 0) pe_int (fun _ _ => rfl)) pa_nil)) (pe_callB call_len_seq (by rfl) T.z_len (by decide +kernel) (pa_cons (pv 2) pa_nil))))
      (pss_cons (ps_if (pt_cmpR op_ge (pe_ix ix_list (pv 2) (pv 4) (fun _ _ => rfl)) (pe_op op_pow pe_int pe_int) (nomark _)) (pss_cons (ps_set (i := 5) sc__law_take.nd rfl (Or.inl rfl) (pe_op op_mod (pe_callTy call_int1 (by rfl) T.z_int (by decide +kernel) (pa_cons (pe_ix ix_list (pv 2) (pv 4) (fun _ _ => rfl)) pa_nil)) (pv 1)))
      (pss_cons (ps_asg (pe_op op_fdivW (pe_ix ix_list (pv 2) (pv 4) (fun _ _ => rfl)) (pv 1)) (pg_sub (pv 2) (pv 4) set_list))
      (pss_one (ps_ret (pv 5))))) pss_nil)
      (pss_cons (ps_asg (pe_op op_add (pe_ix ix_list (pv 0) pe_int (fun _ _ => rfl)) pe_int) (pg_sub (pv 0) pe_int set_list))
      (pss_one (ps_set (i := 3) sc__law_take.nd rfl (Or.inl rfl) (pe_op op_add (pe_op op_mulW (pe_ix ix_list (pv 2) (pv 4) (fun _ _ => rfl)) pe_int) pe_int)))))) pss_nil)
      (pss_cons (ps_asg (pe_op op_mod (pe_callTy call_int1 (by rfl) T.z_int (by decide +kernel) (pa_cons (pe_op op_add (pe_op op_mulW (pe_ix ix_list (pv 0) pe_int (fun _ _ => rfl)) pe_int) (pv 3)) pa_nil)) pe_int) (pg_sub (pv 0) pe_int set_list))
      (pss_cons (ps_set (i := 6) sc__law_take.nd rfl (Or.inl rfl) (pe_op op_mod (pe_callTy call_int1 (by rfl) T.z_int (by decide +kernel) (pa_cons (pe_op op_add (pe_op op_mulW (pe_ix ix_list (pv 0) pe_int (fun _ _ => rfl)) pe_int) (pe_op op_fdivW (pe_ix ix_list (pv 0) pe_int (fun _ _ => rfl)) pe_int)) pa_nil)) pe_int))
      (pss_one (ps_ret (pe_op op_mod (pe_callTy call_int1 (by rfl) T.z_int (by decide +kernel) (pa_cons (pe_op op_fdivW (pv 6) pe_int) pa_nil)) (pv 1))))))))), ?_⟩
    have hbc := hB.ne
    obtain ⟨ns, kk, s, h1, h2, hl, h0, k0, s0, s1⟩ := hB
    have hlen : (ns.map V.int).length = ns.length := List.length_map ..
    refine qS ⟨_, rfl, b, _, _, _, rfl, rfl, SqL.of h1, rfl, ?_⟩
    apply q_set
    case h => (repeat' (first | exact val_var rfl | exact val_c | exact va_nil | with_reducible apply va_cons | with_reducible apply val_op0 | with_reducible apply val_un | with_reducible apply val_abs | with_reducible apply val_int| with_reducible apply val_gcd | with_reducible apply val_gcdc | with_reducible apply val_isB | with_reducible apply val_notB | with_reducible apply val_chain | with_reducible apply val_eq | with_reducible apply val_ne | with_reducible apply val_andV | with_reducible apply val_orV | with_reducible apply val_notV | with_reducible apply val_opC | with_reducible apply ans_of | with_reducible apply ans_B | with_reducible apply ans_not | with_reducible apply ans_and' | with_reducible apply ans_or' | with_reducible intro _ | (show scal _ _ = true; rfl) | exact wide_mul (by assumption) (by assumption) (by decide) (by decide) (by decide)))
    refine ⟨fun σ' H' => ∃ (w k' : Int) (v4 v5 : Option V), σ' = [some (.ref b), some (.int n), some (.ref c), some (.int w), v4, v5, none] ∧ 0 ≤ k' ∧ H' b = some (.lst [.ref c, .int k', .int s]) ∧ H' c = some (.lst (ns.map V.int)) ∧ ∀ a, a ≠ b → a ≠ c → H' a = H a, ?_, ?_⟩
    · refine sW ⟨_, rfl, c, _, rfl, .inl (SqL.of h2), _, _, rfl, rfl, _, rfl, ite2 (fun hp => ?_) (fun hp => ?_)⟩
      · have hp' : (0 : Int) < ((ns.map V.int).length : Int) := of_decide_eq_true hp
        refine qS ⟨_, rfl, b, _, _, _, rfl, rfl, SqL.of h1, rfl, .inl ⟨_, rfl, _, rfl, c, _, rfl, .inl (SqL.of h2), _, _, rfl, rfl, hp', ?_⟩⟩
        obtain ⟨x, hx, hx0, hix⟩ := pickP ns (fun x => 0 ≤ x) h0 (d := kk % ((ns.map V.int).length : Int)) (Int.emod_nonneg _ (by omega)) (by rw [← hlen]; exact Int.emod_lt_of_pos _ hp')
        refine qW ⟨_, rfl, _, rfl, c, _, _, _, rfl, rfl, SqL.of h2, hx, _, _, rfl, rfl, ⟨by decide, by decide, by decide⟩, _, _, rfl, rfl, _, rfl, ite2 (fun hq => ?_) (fun hq => ?_)⟩
        · refine qS ⟨_, rfl, _, rfl, c, _, _, _, rfl, rfl, SqL.of h2, hx, .inl ⟨_, rfl, _, rfl, _, _, rfl, rfl, hn, ?_⟩⟩
          refine qB ⟨_, rfl, _, rfl, c, _, _, _, rfl, rfl, SqL.of h2, hx, _, rfl, _, _, rfl, rfl, ⟨hn, hlog⟩, _, rfl, _, rfl, c, _, _, _, rfl, rfl, h2, (by have q := hix; rw [← hlen] at q; exact q), ?_⟩
          refine ⟨_, rfl, ?_⟩
          refine k _ _ (Int.emod_nonneg _ (by omega)) (Int.emod_lt_of_pos _ hn) ⟨ns.set (kk % ((ns.map V.int).length : Int)).toNat (x / n), kk, s, ?_, ?_, ?_, ?_, k0, s0, s1⟩ (fun a hab hac => upd_ne hac)
          · rw [upd_ne hbc]
            exact h1
          · rw [List.map_set]
            exact upd_same
          · rw [List.length_set]
            exact hl
          · intro y hy
            rcases List.mem_or_eq_of_mem_set hy with hy | hy
            · exact h0 y hy
            · rw [hy]
              exact Int.ediv_nonneg hx0 (by omega)
        · refine qB ⟨_, rfl, b, _, _, _, rfl, rfl, SqL.of h1, rfl, _, _, rfl, rfl, _, rfl, b, _, _, 1, rfl, rfl, h1, rfl, ?_⟩
          refine sS ⟨_, rfl, _, rfl, c, _, _, _, rfl, rfl, SqL.of ((upd_ne hbc.symm).trans h2), hx, _, _, rfl, rfl, ?_, _, _, rfl, rfl, ?_⟩
          · have hx18 : ¬ (10 : Int) ^ (18 : Int).toNat ≤ x := fun z => hq (decide_eq_true z)
            have hx18' : x < 10 ^ 18 := by
              rw [show (18 : Int).toNat = 18 from rfl] at hx18
              omega
            exact wide_mul (a := 70) (b := 20) (by omega) (by decide) (by decide) (by decide) (by decide)
          · exact ⟨_, kk + 1, _, _, rfl, by omega, upd_same, (upd_ne hbc.symm).trans h2, fun a hab hac => upd_ne hab⟩
      · exact ⟨_, kk, _, _, rfl, k0, h1, h2, fun a _ _ => rfl⟩
    · rintro σ' H' ⟨w, k', v4, v5, rfl, hk', hb, hc, he⟩
      refine qB ⟨_, rfl, b, _, _, _, rfl, rfl, SqL.of hb, rfl, _, _, rfl, rfl, wide_mul (a := 40) (b := 20) (by omega) (by decide) (by decide) (by decide) (by decide), _, rfl, _, _, rfl, rfl, .inl ⟨_, rfl, _, _, rfl, rfl, (by decide : (0 : Int) < 2147483647), _, rfl, b, _, _, 2, rfl, rfl, hb, rfl, ?_⟩⟩
      dsimp only
      have e0 := Int.emod_nonneg (s * 48271 + w) (by decide : (2147483647 : Int) ≠ 0)
      have e1 := Int.emod_lt_of_pos (s * 48271 + w) (by decide : (0 : Int) < 2147483647)
      generalize (s * 48271 + w) % 2147483647 = s' at e0 e1 ⊢
      have hb' : (upd H' b (.lst ([.ref c, .int k', .int s].set 2 (.int s')))) b = some (.lst [.ref c, .int k', .int s']) := upd_same
      refine qS ⟨_, rfl, b, _, _, _, rfl, rfl, SqL.of hb', rfl, _, _, rfl, rfl, wide_mul (a := 40) (b := 20) (by omega) (by decide) (by decide) (by decide) (by decide), _, rfl, b, _, _, _, rfl, rfl, SqL.of hb', rfl, _, _, rfl, rfl, ⟨by decide, by decide⟩, _, _, rfl, rfl, .inl ⟨_, rfl, _, _, rfl, rfl, (by decide : (0 : Int) < 2147483629), ?_⟩⟩
      refine ⟨_, rfl, _, _, rfl, rfl, ⟨by decide, by decide⟩, .inl ⟨_, rfl, _, rfl, _, _, rfl, rfl, hn, ?_⟩⟩
      exact k _ _ (Int.emod_nonneg _ (by omega)) (Int.emod_lt_of_pos _ hn) ⟨ns, k', s', hb', (upd_ne hbc.symm).trans hc, hl, h0, hk', e0, e1⟩ (fun a hab hac => (upd_ne hab).trans (he a hab hac))
theorem sc__law_gcd : FnScope N__law_gcd ["_law_a", "_law_b"] (defScope s__law_gcd) := ⟨rfl, rfl, rfl, by decide +kernel, rfl, by decide +kernel, by decide +kernel⟩
theorem ok__law_gcd (T : Txt K mg A) : FnOk P w K mg base CX0 1 A.f__law_gcd A.d__law_gcd ["_law_a", "_law_b"] spGcd := by
  refine T.F__law_gcd.ok sc__law_gcd (fun vs H Q E h => ?_) (fun cdv Ar outer s H vs Q E hr h => ?_)
  · obtain ⟨m, n, rfl, _⟩ := h
    rfl
  · obtain ⟨m, n, rfl, k⟩ := h
    refine ⟨_, (pss_cons (ps_set (i := 0) sc__law_gcd.nd rfl (Or.inl rfl) (pe_callB call_abs (by rfl) T.z_abs (by decide +kernel) (pa_cons (pv 0) pa_nil)))
      (pss_cons (ps_set (i := 1) sc__law_gcd.nd rfl (Or.inl rfl) (pe_callB call_abs (by rfl) T.z_abs (by decide +kernel) (pa_cons (pv 1) pa_nil)))
      (pss_cons (ps_while PassesOwn.never (pt_cmpR op_gt (pv 1) pe_int (nomark _)) (pss_one (ps_par (i := 0) (j := 1) (by rfl) sc__law_gcd.nd rfl rfl (by decide) rfl rfl (pa_cons (pv 1) (pa_cons (pe_op op_mod (pe_callTy call_int1 (by rfl) T.z_int (by decide +kernel) (pa_cons (pv 0) pa_nil)) (pv 1)) pa_nil)) (by rfl))))
      (pss_one (ps_ret (pv 0)))))), ?_⟩
    apply q_set
    case h => (repeat' (first | exact val_var rfl | exact val_c | exact va_nil | with_reducible apply va_cons | with_reducible apply val_op0 | with_reducible apply val_un | with_reducible apply val_abs | with_reducible apply val_int| with_reducible apply val_gcd | with_reducible apply val_gcdc | with_reducible apply val_isB | with_reducible apply val_notB | with_reducible apply val_chain | with_reducible apply val_eq | with_reducible apply val_ne | with_reducible apply val_andV | with_reducible apply val_orV | with_reducible apply val_notV | with_reducible apply val_opC | with_reducible apply ans_of | with_reducible apply ans_B | with_reducible apply ans_not | with_reducible apply ans_and' | with_reducible apply ans_or' | with_reducible intro _ | (show scal _ _ = true; rfl) | exact wide_mul (by assumption) (by assumption) (by decide) (by decide) (by decide)))
    apply q_set
    case h => (repeat' (first | exact val_var rfl | exact val_c | exact va_nil | with_reducible apply va_cons | with_reducible apply val_op0 | with_reducible apply val_un | with_reducible apply val_abs | with_reducible apply val_int| with_reducible apply val_gcd | with_reducible apply val_gcdc | with_reducible apply val_isB | with_reducible apply val_notB | with_reducible apply val_chain | with_reducible apply val_eq | with_reducible apply val_ne | with_reducible apply val_andV | with_reducible apply val_orV | with_reducible apply val_notV | with_reducible apply val_opC | with_reducible apply ans_of | with_reducible apply ans_B | with_reducible apply ans_not | with_reducible apply ans_and' | with_reducible apply ans_or' | with_reducible intro _ | (show scal _ _ = true; rfl) | exact wide_mul (by assumption) (by assumption) (by decide) (by decide) (by decide)))
    refine q_whileA (fun mm σ' H' => ∃ a b : Nat, σ' = [some (.int (a : Int)), some (.int (b : Int))] ∧ H' = H ∧ mm = b ∧ Nat.gcd a b = Nat.gcd m.natAbs n.natAbs) n.natAbs ⟨_, _, rfl, rfl, rfl, rfl⟩ ?_
    rintro mm σ' H' ⟨a, b, rfl, rfl, rfl, hg⟩
    refine ⟨decide ((0 : Int) < (mm : Int)), ?_, fun hb N hN => ?_, fun hb => ?_⟩
    · (repeat' (first | exact val_var rfl | exact val_c | exact va_nil | with_reducible apply va_cons | with_reducible apply val_op0 | with_reducible apply val_un | with_reducible apply val_abs | with_reducible apply val_int| with_reducible apply val_gcd | with_reducible apply val_gcdc | with_reducible apply val_isB | with_reducible apply val_notB | with_reducible apply val_chain | with_reducible apply val_eq | with_reducible apply val_ne | with_reducible apply val_andV | with_reducible apply val_orV | with_reducible apply val_notV | with_reducible apply val_opC | with_reducible apply ans_of | with_reducible apply ans_B | with_reducible apply ans_not | with_reducible apply ans_and' | with_reducible apply ans_or' | with_reducible intro _ | (show scal _ _ = true; rfl) | exact wide_mul (by assumption) (by assumption) (by decide) (by decide) (by decide)))
    · have hb' : (0 : Int) < (mm : Int) := of_decide_eq_true hb
      apply s_par
      case h => (repeat' (first | exact val_var rfl | exact val_c | exact va_nil | with_reducible apply va_cons | with_reducible apply val_op0 | with_reducible apply val_un | with_reducible apply val_abs | with_reducible apply val_int| with_reducible apply val_gcd | with_reducible apply val_gcdc | with_reducible apply val_isB | with_reducible apply val_notB | with_reducible apply val_chain | with_reducible apply val_eq | with_reducible apply val_ne | with_reducible apply val_andV | with_reducible apply val_orV | with_reducible apply val_notV | with_reducible apply val_opC | with_reducible apply ans_of | with_reducible apply ans_B | with_reducible apply ans_not | with_reducible apply ans_and' | with_reducible apply ans_or' | with_reducible intro _ | (show scal _ _ = true; rfl) | exact wide_mul (by assumption) (by assumption) (by decide) (by decide) (by decide))); exact hb'
      refine hN _ _ (a % mm) (Nat.mod_lt _ (by omega)) ⟨mm, a % mm, ?_, rfl, rfl, ?_⟩
      · rw [Int.natCast_emod] <;> rfl
      · rw [Nat.gcd_comm mm (a % mm), ← Nat.gcd_rec, Nat.gcd_comm]
        exact hg
    · have hb' : ¬ (0 : Int) < (mm : Int) := of_decide_eq_false hb
      apply s_ret
      case h => (repeat' (first | exact val_var rfl | exact val_c | exact va_nil | with_reducible apply va_cons | with_reducible apply val_op0 | with_reducible apply val_un | with_reducible apply val_abs | with_reducible apply val_int| with_reducible apply val_gcd | with_reducible apply val_gcdc | with_reducible apply val_isB | with_reducible apply val_notB | with_reducible apply val_chain | with_reducible apply val_eq | with_reducible apply val_ne | with_reducible apply val_andV | with_reducible apply val_orV | with_reducible apply val_notV | with_reducible apply val_opC | with_reducible apply ans_of | with_reducible apply ans_B | with_reducible apply ans_not | with_reducible apply ans_and' | with_reducible apply ans_or' | with_reducible intro _ | (show scal _ _ = true; rfl) | exact wide_mul (by assumption) (by assumption) (by decide) (by decide) (by decide)))
      have hb0 : mm = 0 := by omega
      rw [hb0, Nat.gcd_zero_right] at hg
      rw [hg]
      exact k
theorem sc__law_ratio : FnScope N__law_ratio ["_law_num", "_law_den"] (defScope s__law_ratio) := ⟨rfl, rfl, rfl, by decide +kernel, rfl, by decide +kernel, by decide +kernel⟩

def spLRatio : Sp := fun vs H Q _ => ∃ (n d : Int), vs = [.int n, .int d] ∧ d.natAbs.log2 < 9000 ∧ d ≠ 0 ∧ ∀ p, H p = none → Q (.ref p) (upd H p (.tup [.int (ratN n d), .int (ratD n d)]))
theorem ok__law_ratio (T : Txt K mg A) : FnOk P w K mg base CX0 2 A.f__law_ratio A.d__law_ratio ["_law_num", "_law_den"] spLRatio := by
  have G_law_gcd := ok__law_gcd (P := P) (w := w) (base := base) T
  refine T.F__law_ratio.ok sc__law_ratio (fun vs H Q E h => ?_) (fun cdv Ar outer s H vs Q E hr h => ?_)
  · obtain ⟨n, d, rfl, _⟩ := h
    rfl
  · obtain ⟨n, d, rfl, hlog, hd, k⟩ := h
    refine ⟨_, (pss_cons (ps_set (i := 2) sc__law_ratio.nd rfl (Or.inl rfl) (pe_call G_law_gcd (hr.mono (by decide)) rfl T.g__law_gcd T.k__law_gcd T.b__law_gcd .nil pass0 (pa_cons (pv 0) (pa_cons (pv 1) pa_nil))))
      (pss_cons (ps_if (pt_cmpR op_lt (pv 1) pe_int (nomark _)) (pss_one (ps_set (i := 2) sc__law_ratio.nd rfl (Or.inl rfl) (pe_un un_neg (pv 2)))) pss_nil)
      (pss_one (ps_ret (pe_tup (pa_cons (pe_op op_fdivZ (pv 0) (pv 2)) (pa_cons (pe_op op_fdivZ (pv 1) (pv 2)) pa_nil))))))), ?_⟩
    apply q_set
    case h => (repeat' (first | exact val_var rfl | exact val_c | exact va_nil | with_reducible apply va_cons | with_reducible apply val_op0 | with_reducible apply val_un | with_reducible apply val_abs | with_reducible apply val_int| with_reducible apply val_gcd | with_reducible apply val_gcdc | with_reducible apply val_isB | with_reducible apply val_notB | with_reducible apply val_chain | with_reducible apply val_eq | with_reducible apply val_ne | with_reducible apply val_andV | with_reducible apply val_orV | with_reducible apply val_notV | with_reducible apply val_opC | with_reducible apply ans_of | with_reducible apply ans_B | with_reducible apply ans_not | with_reducible apply ans_and' | with_reducible apply ans_or' | with_reducible intro _ | (show scal _ _ = true; rfl) | exact wide_mul (by assumption) (by assumption) (by decide) (by decide) (by decide)))
    have hlast : ∀ σ' : L2.St, σ' = [some (.int n), some (.int d), some (.int (rdiv n d))] → (tRet (tTup (tCons (tOp (rI CDivZ fun i j => .int (i.fdiv j)) (tVar 0) (tVar 2)) (tCons (tOp (rI CDivZ fun i j => .int (i.fdiv j)) (tVar 1) (tVar 2)) tNil)))) { nx := fun _ H' => Q .non H', rt := Q } σ' H := by
      rintro σ' rfl
      refine sR ⟨_, rfl, _, rfl, _, _, rfl, rfl, ⟨rdiv_ne hd, rdiv_log hd hlog⟩, _, rfl, _, rfl, _, _, rfl, rfl, ⟨rdiv_ne hd, rdiv_log hd hlog⟩, (by show 2 ≤ sizeLine; decide), fun p hp => k p hp⟩
    refine qW ⟨_, rfl, _, _, rfl, rfl, _, rfl, ite2 (fun hlt => ?_) (fun hlt => ?_)⟩
    · apply s_set
      case h => (repeat' (first | exact val_var rfl | exact val_c | exact va_nil | with_reducible apply va_cons | with_reducible apply val_op0 | with_reducible apply val_un | with_reducible apply val_abs | with_reducible apply val_int| with_reducible apply val_gcd | with_reducible apply val_gcdc | with_reducible apply val_isB | with_reducible apply val_notB | with_reducible apply val_chain | with_reducible apply val_eq | with_reducible apply val_ne | with_reducible apply val_andV | with_reducible apply val_orV | with_reducible apply val_notV | with_reducible apply val_opC | with_reducible apply ans_of | with_reducible apply ans_B | with_reducible apply ans_not | with_reducible apply ans_and' | with_reducible apply ans_or' | with_reducible intro _ | (show scal _ _ = true; rfl) | exact wide_mul (by assumption) (by assumption) (by decide) (by decide) (by decide)))
      refine hlast _ ?_
      have hlt' : d < 0 := of_decide_eq_true hlt
      unfold rdiv
      rw [if_pos hlt']
      rfl
    · refine hlast _ ?_
      have hlt' : ¬ d < 0 := fun z => hlt (decide_eq_true z)
      unfold rdiv
      rw [if_neg hlt']
      rfl
theorem sc__law_word : FnScope N__law_word ["_law_box_here"] (defScope s__law_word) := ⟨rfl, rfl, rfl, by decide +kernel, rfl, by decide +kernel, by decide +kernel⟩

def spWord : Sp := fun vs H Q _ => ∃ b c, vs = [.ref b] ∧ BoxAt H b c ∧ ∀ l H', Wd l → BoxAt H' b c → Ext b c H H' → Q (.str (SX.S l)) H'
theorem ok__law_word (T : Txt K mg A) : FnOk P w K mg base CX0 3 A.f__law_word A.d__law_word ["_law_box_here"] spWord := by
  have G_law_take := ok__law_take (P := P) (w := w) (base := base) T
  have G_law_ratio := ok__law_ratio (P := P) (w := w) (base := base) T
  refine T.F__law_word.ok sc__law_word (fun vs H Q E h => ?_) (fun cdv Ar outer s H vs Q E hr h => ?_)
  · obtain ⟨b, c, rfl, _⟩ := h
    rfl
  · obtain ⟨b, c, rfl, B0, k⟩ := h
    refine ⟨_, (pss_cons (ps_set (i := 1) sc__law_word.nd rfl (Or.inl rfl) (pe_call G_law_take (hr.mono (by decide)) rfl T.g__law_take T.k__law_take T.b__law_take .nil pass0 (pa_cons (pv 0) (pa_cons pe_int pa_nil))))
      (pss_cons (ps_set (i := 2) sc__law_word.nd rfl (Or.inl rfl) (pe_op op_add pe_int (pe_call G_law_take (hr.mono (by decide)) rfl T.g__law_take T.k__law_take T.b__law_take .nil pass0 (pa_cons (pv 0) (pa_cons pe_int pa_nil)))))
      (pss_cons (ps_set (i := 3) sc__law_word.nd rfl (Or.inl rfl) (pe_call G_law_ratio (hr.mono (by decide)) rfl T.g__law_ratio T.k__law_ratio T.b__law_ratio .nil pass0 (pa_cons (pe_op op_add pe_int (pe_call G_law_take (hr.mono (by decide)) rfl T.g__law_take T.k__law_take T.b__law_take .nil pass0 (pa_cons (pv 0) (pa_cons (pe_op op_sub (pv 2) pe_int) pa_nil)))) (pa_cons (pv 2) pa_nil))))
      (pss_cons (ps_if (pt_cmpR op_eq (pv 1) pe_int (nomark _)) (pss_one (ps_ret pe_str)) pss_nil)
      (pss_one (ps_ret (pe_op op_add_str (pe_op op_add_str (pe_op op_add_str (pe_ix ix_list (pe_lst (pa_cons pe_str (pa_cons pe_str pa_nil))) (pe_op op_mod (pe_callTy call_int1 (by rfl) T.z_int (by decide +kernel) (pa_cons (pv 1) pa_nil)) pe_int) (fun _ _ => rfl)) (pe_callTy call_str_int (by rfl) T.z_str (by decide +kernel) (pa_cons (pe_ix ix_tup (pv 3) pe_int (fun _ _ => rfl)) pa_nil))) pe_str) (pe_callTy call_str_int (by rfl) T.z_str (by decide +kernel) (pa_cons (pe_ix ix_tup (pv 3) pe_int (fun _ _ => rfl)) pa_nil))))))))), ?_⟩
    refine qS ⟨_, rfl, b, c, 5, rfl, B0, by decide, by decide, fun x1 H1 z1 w1 B1 e1 => ?_⟩
    refine qS ⟨_, rfl, b, c, 4, rfl, B1, by decide, by decide, fun x2 H2 z2 w2 B2 e2 => ⟨_, _, rfl, rfl, ?_⟩⟩
    refine qS ⟨_, rfl, _, rfl, _, _, rfl, rfl, b, c, _, rfl, B2, by omega, lgp (n := 110) (by omega), fun x3 H3 z3 w3 B3 e3 => ⟨_, _, rfl, rfl, _, rfl, _, _, rfl, lgp (n := 110) (by omega), by omega, fun r hr => ?_⟩⟩
    have hw := wd_drawn (x := x2) (y := x3) z2 (by omega) z3 (by omega)
    have x1' : Ext b c H H1 := fun a o ab ac h => (e1 a ab ac).trans h
    have x2' : Ext b c H1 H2 := fun a o ab ac h => (e2 a ab ac).trans h
    have x3' : Ext b c H2 H3 := fun a o ab ac h => (e3 a ab ac).trans h
    have xx := ((x1'.trans x2').trans x3').trans (.of (same_upd (o := .tup [.int (ratN (1 + x3) (2 + x2)), .int (ratD (1 + x3) (2 + x2))]) hr))
    have B4 := B3.same (same_upd (o := .tup [.int (ratN (1 + x3) (2 + x2)), .int (ratD (1 + x3) (2 + x2))]) hr)
    have hR : (upd H3 r (.tup [.int (ratN (1 + x3) (2 + x2)), .int (ratD (1 + x3) (2 + x2))])) r = some (.tup [.int (ratN (1 + x3) (2 + x2)), .int (ratD (1 + x3) (2 + x2))]) := upd_same
    generalize upd H3 r (.tup [.int (ratN (1 + x3) (2 + x2)), .int (ratD (1 + x3) (2 + x2))]) = H4 at xx B4 hR ⊢
    dsimp only
    refine q_when (b := decide (V.int x1 = V.int 0)) (ans_of (val_eq (val_var rfl) val_c rfl)) (fun z => ?_) (fun z => ?_)
    · refine sR (val_c.at ?_)
      rw [e_no]
      exact k _ _ wd_no B4 xx
    · obtain ⟨n, d, hn, hd, hN, hD, hA, hB⟩ := hw
      refine sR ⟨(by show 2 ≤ sizeLine; decide), fun q hq => ⟨_, rfl, .inl ⟨_, rfl, _, _, rfl, rfl, (by decide : (0 : Int) < 2), q, _, _, _, rfl, rfl, SqL.of upd_same, pick2 (x := x1), ?_⟩⟩⟩
      have s4 : Same H4 (upd H4 q (.lst [.str "below ", .str "at least "])) := same_upd hq
      have B5 := B4.same s4
      have x5 := xx.trans (.of s4)
      have hR5 := s4 _ _ hR
      generalize upd H4 q (.lst [.str "below ", .str "at least "]) = H5 at B5 x5 hR5 ⊢
      rw [hN, hD] at hR5
      have en : Str.ofString (toString ((n : Nat) : Int)) = SX.S (TL.numL n) := SX.num_S n
      have ed : Str.ofString (toString ((d : Nat) : Int)) = SX.S (TL.numL d) := SX.num_S d
      have bn : (((n : Nat) : Int)).natAbs.log2 < 1920 := by rw [Int.natAbs_natCast]; exact Nat.lt_of_lt_of_le (log2_lt (b := 140) (by decide) (by omega)) (by decide)
      have bd : (((d : Nat) : Int)).natAbs.log2 < 1920 := by rw [Int.natAbs_natCast]; exact Nat.lt_of_lt_of_le (log2_lt (b := 140) (by decide) (by omega)) (by decide)
      have ln := numL_long (n := n) (k := 40) (by decide) (by omega)
      have ld := numL_long (n := d) (k := 40) (by decide) (by omega)
      have lk : (kTxt (decide (x1 % 2 = 1))).length ≤ 10 := by rw [k_len]; split <;> decide
      have lz : ∀ {y : List Nat}, y.length ≤ 200 → (SX.S y).length ≤ sizeLine := fun {y} h => by rw [SX.S_len]; show _ ≤ 2 ^ 24; omega
      have lz2 : ∀ {y z : List Nat}, y.length ≤ 100 → z.length ≤ 100 → (SX.S y).length + (SX.S z).length ≤ sizeLine := fun {y z} h h2 => by rw [SX.S_len, SX.S_len]; show _ ≤ 2 ^ 24; omega
      generalize decide (x1 % 2 = 1) = kd at lk ⊢
      refine ⟨_, rfl, r, _, _, _, rfl, rfl, SqT.of hR5, rfl, _, rfl, bn, ?_⟩
      rw [en]
      refine ⟨_, _, rfl, rfl, lz2 (by rw [List.length_append, List.length_singleton]; omega) (by omega), ?_⟩
      rw [SX.S_cat, e_sl]
      refine ⟨_, _, rfl, rfl, lz2 (by rw [List.length_append, List.length_append, List.length_singleton]; omega) (by decide), ?_⟩
      rw [SX.S_cat]
      refine ⟨_, rfl, r, _, _, _, rfl, rfl, SqT.of hR5, rfl, _, rfl, bd, ?_⟩
      rw [ed]
      refine ⟨_, _, rfl, rfl, lz2 (by simp only [List.length_append, List.length_singleton]; omega) (by omega), ?_⟩
      rw [SX.S_cat, show kTxt kd ++ [32] ++ TL.numL n ++ [47] ++ TL.numL d = wText kd n d by unfold wText; simp only [List.append_assoc, List.singleton_append, List.cons_append, List.nil_append]]
      refine k _ _ ?_ B5 x5
      cases kd with
      | true => exact hA
      | false => exact hB
theorem sc__law_ending : FnScope N__law_ending ["_law_rows_here"] (defScope s__law_ending) := ⟨rfl, rfl, rfl, by decide +kernel, rfl, by decide +kernel, by decide +kernel⟩

def spEnding : Sp := fun vs H Q _ => ∃ (p : Addr) (as : List Addr) (rs : List (List Tg)), vs = [.ref p] ∧ H p = some (.lst (as.map V.ref)) ∧ RowsIn H as rs ∧ RsB rs ∧ Closed rs ∧ ∀ (g : Addr) (gs : List Nat) H', Same H H' → H' g = some (.lst (natV gs)) → (∀ s, s < rs.length → (s ∈ gs ↔ ends rs rs.length s = true)) → Q (.ref g) H'
theorem ok__law_ending (T : Txt K mg A) : FnOk P w K mg base CX0 1 A.f__law_ending A.d__law_ending ["_law_rows_here"] spEnding := by
  refine T.F__law_ending.ok sc__law_ending (fun vs H Q E h => ?_) (fun cdv Ar outer s H vs Q E hr h => ?_)
  · obtain ⟨p, as, rs, rfl, _⟩ := h
    rfl
  · obtain ⟨p, as, rs, rfl, hp, hr2, hb, hc, k⟩ := h
    refine ⟨_, (pss_cons (ps_set (i := 1) sc__law_ending.nd rfl (Or.inl rfl) (pe_lst pa_nil))
      (pss_cons (ps_for PassesOwn.never rfl (pi_range1 (by rfl) T.z_range (pa_cons (pe_callB call_len_seq (by rfl) T.z_len (by decide +kernel) (pa_cons (pv 0) pa_nil)) pa_nil)) (pg_name (i := 2) sc__law_ending.nd rfl (Or.inl rfl)) (pss_one (ps_for PassesOwn.never rfl (pi_range1 (by rfl) T.z_range (pa_cons (pe_callB call_len_seq (by rfl) T.z_len (by decide +kernel) (pa_cons (pv 0) pa_nil)) pa_nil)) (pg_name (i := 3) sc__law_ending.nd rfl (Or.inl rfl)) (pss_one (ps_for PassesOwn.never rfl (pi_tup (pe_ix ix_list (pv 0) (pv 3) (fun _ _ => rfl))) (pg_name (i := 4) sc__law_ending.nd rfl (Or.inl rfl)) (pss_one (ps_if (PW.pt (pw_and (pt_cmpR op_notIn_seq (pv 3) (pv 1) (by rfl)) (pw_and1 (PW.pt (pw_or (pt_val (pe_callB call_isi (by rfl) T.z_isinstance (by decide +kernel) (pa_cons (pv 4) (pa_cons (pe_bltn (v := .ty "str") (u := .type "str") (by rfl) T.z_str (by decide +kernel) (by rfl)) pa_nil)))) (pw_or1 (pt_cmpR op_in_seq (pv 4) (pv 1) (by rfl)))))))) (pss_one (ps_expr (pe_bm PySem.F.plainAttrs_list PySem.F.slot_list_append PySem.F.type_list_append mt_append (pv 1) (pa_cons (pv 3) pa_nil)))) pss_nil)))))))
      (pss_one (ps_ret (pv 1))))), ?_⟩
    have hlA : (as.map V.ref).length = rs.length := by rw [List.length_map]; exact hr2.1
    have h20 : rs.length ≤ 20 := hb.1
    refine qS ⟨(by show 0 ≤ sizeLine; decide), fun g hg => ?_⟩
    have s0 : Same H (upd H g (.lst [])) := same_upd hg
    have hgp : ∀ {H' : Hp} {u : HO}, Same H H' → Same H (upd H' g u) := fun {H' u} s b o e => by rw [upd_ne (ne_of_none e hg)]; exact s b o e
    refine ⟨_, rfl, p, _, rfl, .inl (SqL.of (s0 _ _ hp)), (rs.length : Int), by rw [hlA], by omega, by omega, for_range (fun i σ' H' => (∃ v2 v3 v4, σ' = [some (.ref p), some (.ref g), v2, v3, v4]) ∧ Same H H' ∧ ∃ gs : List Nat, H' g = some (.lst (natV gs)) ∧ gs.length ≤ 100 * i ∧ (∀ s, s ∈ gs → s < rs.length ∧ ∃ k, ends rs k s = true) ∧ ∀ s, s < rs.length → ends rs i s = true → s ∈ gs) ⟨⟨_, _, _, rfl⟩, s0, [], upd_same, Nat.zero_le _, fun s hs => absurd hs List.not_mem_nil, fun s _ h => by cases h⟩ ?_ ?_⟩
    · rintro i σ' H' hi ⟨⟨v2, v3, v4, rfl⟩, s', gs, hgs, hl, hsd, hcp⟩
      refine ⟨_, rfl, p, _, rfl, .inl (SqL.of (s' _ _ hp)), (rs.length : Int), by rw [hlA], by omega, by omega, for_range (fun j σ' H' => (∃ v2 v3 v4, σ' = [some (.ref p), some (.ref g), v2, v3, v4]) ∧ Same H H' ∧ ∃ gs : List Nat, H' g = some (.lst (natV gs)) ∧ gs.length ≤ 100 * i + 5 * j ∧ (∀ s, s ∈ gs → s < rs.length ∧ ∃ k, ends rs k s = true) ∧ (∀ s, s < rs.length → ends rs i s = true → s ∈ gs) ∧ ∀ s, s < j → ends rs (i + 1) s = true → s ∈ gs) ⟨⟨_, _, _, rfl⟩, s', gs, hgs, by omega, hsd, hcp, fun s hs => absurd hs (Nat.not_lt_zero _)⟩ ?_ ?_⟩
      · rintro j σ2 H2 hj ⟨⟨w2, w3, w4, rfl⟩, s2, gs2, hgs2, hl2, hsd2, hcp2, hcj2⟩
        have hjn : j < rs.length := by omega
        obtain ⟨a, hia, ha⟩ := (hr2.same s2).get hjn
        have hrb := hb.2 _ (rows_mem hjn)
        have hcl := hc _ (rows_mem hjn)
        refine ⟨_, rfl, _, rfl, p, _, _, _, rfl, rfl, SqL.of (s2 _ _ hp), (by rw [Int.zero_add]; exact Lk.atI_nat hia), a, rfl, ⟨_, SqT.of ha⟩, for_tup (K := K) (a := a) (xs := (rs.getD j []).map Tg.v) (fun m σ3 H3 => (∃ w2 w4, σ3 = [some (.ref p), some (.ref g), w2, some (.int (0 + (j : Int))), w4]) ∧ Same H H3 ∧ ∃ gs : List Nat, H3 g = some (.lst (natV gs)) ∧ gs.length ≤ 100 * i + 5 * j + m ∧ (∀ s, s ∈ gs → s < rs.length ∧ ∃ k, ends rs k s = true) ∧ (∀ s, s < rs.length → ends rs i s = true → s ∈ gs) ∧ (∀ s, s < j → ends rs (i + 1) s = true → s ∈ gs) ∧ ((∃ q, q < m ∧ tgEnd rs i ((rs.getD j []).getD q (.n 0)) = true) → j ∈ gs)) ⟨⟨_, _, rfl⟩, s2, gs2, hgs2, hl2, hsd2, hcp2, hcj2, fun ⟨q, hq, _⟩ => absurd hq (Nat.not_lt_zero _)⟩ (fun m σ3 H3 _ h => by
          obtain ⟨_, s3, _⟩ := h
          obtain ⟨a', hia', ha'⟩ := (hr2.same s3).get hjn
          rw [hia] at hia'
          cases hia'
          exact SqT.of ha') ?_ ?_⟩
        · rintro m y σ3 H3 hm ⟨⟨w2, w4, rfl⟩, s3, gs3, hg3, hl3, hsd3, hcp3, hcj3, hm3⟩
          obtain ⟨hml, rfl⟩ := tg_at hm
          have hmem := tgs_mem hml
          have hnext : ∀ {gs : List Nat}, (∀ s, s ∈ gs3 → s ∈ gs) → (tgEnd rs i ((rs.getD j []).getD m (.n 0)) = true → j ∈ gs) → (∃ q, q < m + 1 ∧ tgEnd rs i ((rs.getD j []).getD q (.n 0)) = true) → j ∈ gs := fun h1 h2 ⟨q, hq, hqe⟩ => by
            rcases Nat.lt_or_ge q m with l | l
            · exact h1 _ (hm3 ⟨q, l, hqe⟩)
            · rw [show q = m by omega] at hqe
              exact h2 hqe
          generalize (rs.getD j []).getD m (.n 0) = t at hmem hnext ⊢
          have eIn : ∀ {x : Nat} {σ : L2.St} {i : Nat}, σ[i]? = some (some (.int (x : Int))) → σ[1]? = some (some (.ref g)) → ∀ neg, EvR (tOp (rIn K neg) (tVar i) (tVar 1)) σ H3 (isV (.bl (if neg then !decide (x ∈ gs3) else decide (x ∈ gs3)))) := fun {x σ i} h1 h2 neg H4 e4 Q q => ⟨_, h1, _, h2, g, _, rfl, .inl (SqL.of (e4 _ _ hg3)), rfl, flat_nat gs3, q _ H4 (Same.refl _) (by rw [in_nat]; rfl)⟩
          refine Evl.s_when (b := !decide (j ∈ gs3) && (match t with | .w _ => true | .n kk => decide (kk.toNat ∈ gs3))) (Evl.et_and (Evl.et_is (Evl.et_test (er_ev (eIn (x := j) (i := 3) (by rw [Int.zero_add]; rfl) rfl true))) rfl) fun _ => ?_) (fun z H4 e4 => ?_) (fun z H4 e4 => ?_)
          · cases t with
            | w l => exact Evl.et_is (Evl.et_or (a := true) (b := true) (Evl.et_B (er_ev (fun H5 e5 Q q => ⟨_, rfl, _, _, _, _, true, rfl, .ty "str", .base (.str _), kit_ty (by decide +kernel), q _ H5 (Same.refl _) rfl⟩))) (fun z => nomatch z)) rfl
            | n kk =>
              have hk2 := hcl kk hmem
              obtain ⟨x, rfl⟩ : ∃ x : Nat, kk = (x : Int) := ⟨kk.toNat, by omega⟩
              exact Evl.et_is (Evl.et_or (a := false) (b := decide (x ∈ gs3)) (Evl.et_B (er_ev (fun H5 e5 Q q => ⟨_, rfl, _, _, _, _, false, rfl, .ty "str", .base (.int _), kit_ty (by decide +kernel), q _ H5 (Same.refl _) rfl⟩))) (fun _ => Evl.et_is (Evl.et_test (er_ev (eIn (x := x) (i := 4) rfl rfl false))) rfl)) rfl
          · obtain ⟨z1, z2⟩ := Bool.and_eq_true_iff.mp z
            have hg4 := e4 _ _ hg3
            refine sD ⟨_, rfl, .inl ⟨rfl, _, SqL.of hg4⟩, _, rfl, g, _, _, rfl, rfl, hg4, ?_, ?_⟩
            · unfold natV
              rw [List.length_map]
              show _ < 2 ^ 24
              have hm5 := hrb.1
              omega
            · have ej : ∃ kk, ends rs kk j = true := by
                cases t with
                | w l => exact ⟨1, ends_step hmem rfl⟩
                | n kk =>
                  obtain ⟨_, q, hq⟩ := hsd3 _ (of_decide_eq_true z2)
                  exact ⟨q + 1, ends_step hmem hq⟩
              refine ⟨⟨_, _, rfl⟩, hgp (s3.trans e4), gs3 ++ [j], ?_, ?_, ?_, ?_, ?_, hnext (fun s h => List.mem_append_left _ h) (fun _ => List.mem_append_right _ (List.mem_singleton.mpr rfl))⟩
              · rw [upd_same]
                unfold natV
                rw [List.map_append, Int.zero_add]
                rfl
              · rw [List.length_append, List.length_singleton]
                omega
              · intro s hs
                rcases List.mem_append.mp hs with h | h
                · exact hsd3 s h
                · rw [List.mem_singleton.mp h]
                  exact ⟨hjn, ej⟩
              · exact fun s h1 h2 => List.mem_append_left _ (hcp3 s h1 h2)
              · exact fun s h1 h2 => List.mem_append_left _ (hcj3 s h1 h2)
          · refine ⟨⟨_, _, rfl⟩, s3.trans e4, gs3, e4 _ _ hg3, by omega, hsd3, hcp3, hcj3, hnext (fun s h => h) (fun h => ?_)⟩
            rw [Bool.and_eq_false_iff] at z
            rcases z with z | z
            · rw [Bool.not_eq_false'] at z
              exact of_decide_eq_true z
            · cases t with
              | w l => cases z
              | n kk =>
                have hk2 := hcl kk hmem
                exact absurd (hcp3 kk.toNat (by omega) h) (of_decide_eq_false z)
        · rintro σ3 H3 ⟨⟨w2, w4, rfl⟩, s3, gs3, hg3, hl3, hsd3, hcp3, hcj3, hm3⟩
          rw [List.length_map] at hl3 hm3
          refine ⟨⟨_, _, _, rfl⟩, s3, gs3, hg3, by omega, hsd3, hcp3, fun s hs h => ?_⟩
          rcases Nat.lt_or_ge s j with l | l
          · exact hcj3 s l h
          · obtain rfl : s = j := by omega
            exact hm3 (ends_has h)
      · rintro σ2 H2 ⟨⟨w2, w3, w4, rfl⟩, s2, gs2, hgs2, hl2, hsd2, hcp2, hcj2⟩
        exact ⟨⟨_, _, _, rfl⟩, s2, gs2, hgs2, by omega, hsd2, fun s hs h => hcj2 s hs h⟩
    · rintro σ' H' ⟨⟨v2, v3, v4, rfl⟩, s', gs, hgs, hl, hsd, hcp⟩
      dsimp only
      refine sR ⟨_, rfl, k g gs H' s' hgs fun s hs => ⟨fun h => ?_, fun h => hcp s hs h⟩⟩
      obtain ⟨_, kk, h2⟩ := hsd s h
      exact ends_all hc hs h2
theorem sc__law_drawn_rows : FnScope N__law_drawn_rows ["_law_box_here", "_law_size"] (defScope s__law_drawn_rows) := ⟨rfl, rfl, rfl, by decide +kernel, rfl, by decide +kernel, by decide +kernel⟩

def spDrawn : Sp := fun vs H Q _ => ∃ b c, vs = [.ref b, .int 6] ∧ BoxAt H b c ∧ ∀ p as rs H', RowsB H' b c p as rs → Ext b c H H' → rs ≠ [] → rs.length ≤ 6 → Q (.ref p) H'
structure DR (H0 H : Hp) (b c mq p : Addr) (ms : List V) (as : List Addr) (rs : List (List Tg)) : Prop where
  box : BoxAt H b c
  ext : Ext b c H0 H
  mn : H mq = some (.lst ms)
  hp : H p = some (.lst (as.map V.ref))
  rows : RowsIn H as rs
  bd : ∀ r ∈ rs, r.length ≤ 5 ∧ ∀ t ∈ r, TgB t
section
variable {H0 H H' : Hp} {b c mq p q : Addr} {ms : List V} {as : List Addr} {rs : List (List Tg)} {ys zs : List V}
theorem DR.step (d : DR H0 H b c mq p ms as rs) (hm : mq ≠ b ∧ mq ≠ c) (hp : p ≠ b ∧ p ≠ c) (B : BoxAt H' b c) (e : Ext b c H H') : DR H0 H' b c mq p ms as rs := ⟨B, d.ext.trans e, e _ _ hm.1 hm.2 d.mn, e _ _ hp.1 hp.2 d.hp, d.rows.ext d.box e, d.bd⟩
theorem DR.same (d : DR H0 H b c mq p ms as rs) (e : Same H H') : DR H0 H' b c mq p ms as rs := ⟨d.box.same e, d.ext.trans (.of e), e _ _ d.mn, e _ _ d.hp, d.rows.same e, d.bd⟩
/-- a new list changes -/
theorem DR.upd (d : DR H0 H b c mq p ms as rs) (h0 : H0 q = none) (hb : q ≠ b ∧ q ≠ c) (hm : q ≠ mq) (hp : q ≠ p) (hq : H q = some (.lst ys)) : DR H0 (upd H q (.lst zs)) b c mq p ms as rs := by
  refine ⟨?_, fun a o ab ac h => ?_, by rw [upd_ne hm.symm]; exact d.mn, by rw [upd_ne hp.symm]; exact d.hp, ⟨d.rows.1, fun i a r x y => ?_⟩, d.bd⟩
  · obtain ⟨ns, kk, st, h1, h2, r⟩ := d.box
    exact ⟨ns, kk, st, by rw [upd_ne hb.1.symm]; exact h1, by rw [upd_ne hb.2.symm]; exact h2, r⟩
  · rw [upd_ne (ne_of_none h h0)]
    exact d.ext a o ab ac h
  · have := d.rows.2 i a r x y
    rw [upd_ne (fun e => by rw [e, hq] at this; cases this)]
    exact this
end
theorem menu_at {l1 l2 : List Nat} (h1 : Wd l1) (h2 : Wd l2) {x : Int} (z : 0 ≤ x) (w : x < 3) : ∃ l, Wd l ∧ atI [V.str "no word", .str (SX.S l1), .str (SX.S l2)] x = some (.str (SX.S l)) := by
  rcases (by omega : x = 0 ∨ x = 1 ∨ x = 2) with h | h | h
  · exact ⟨cNo, wd_no, by rw [h, e_no]; rfl⟩
  · exact ⟨l1, h1, by rw [h]; rfl⟩
  · exact ⟨l2, h2, by rw [h]; rfl⟩
theorem ok__law_drawn_rows (T : Txt K mg A) : FnOk P w K mg base CX0 4 A.f__law_drawn_rows A.d__law_drawn_rows ["_law_box_here", "_law_size"] spDrawn := by
  have G_law_take := ok__law_take (P := P) (w := w) (base := base) T
  have G_law_word := ok__law_word (P := P) (w := w) (base := base) T
  refine T.F__law_drawn_rows.ok sc__law_drawn_rows (fun vs H Q E h => ?_) (fun cdv Ar outer s H vs Q E hr h => ?_)
  · obtain ⟨b, c, rfl, _⟩ := h
    rfl
  · obtain ⟨b, c, rfl, B0, k⟩ := h
    refine ⟨_, (pss_cons (ps_set (i := 2) sc__law_drawn_rows.nd rfl (Or.inl rfl) (pe_op op_add pe_int (pe_call G_law_take (hr.mono (by decide)) rfl T.g__law_take T.k__law_take T.b__law_take .nil pass0 (pa_cons (pv 0) (pa_cons (pv 1) pa_nil)))))
      (pss_cons (ps_set (i := 3) sc__law_drawn_rows.nd rfl (Or.inl rfl) (pe_lst (pa_cons pe_str (pa_cons (pe_call G_law_word (hr.mono (by decide)) rfl T.g__law_word T.k__law_word T.b__law_word .nil pass0 (pa_cons (pv 0) pa_nil)) (pa_cons (pe_call G_law_word (hr.mono (by decide)) rfl T.g__law_word T.k__law_word T.b__law_word .nil pass0 (pa_cons (pv 0) pa_nil)) pa_nil)))))
      (pss_cons (ps_set (i := 4) sc__law_drawn_rows.nd rfl (Or.inl rfl) (pe_lst pa_nil))
      (pss_cons (ps_for PassesOwn.never rfl (pi_range1 (by rfl) T.z_range (pa_cons (pv 2) pa_nil)) (pg_name (i := 5) sc__law_drawn_rows.nd rfl (Or.inl rfl)) (pss_cons (ps_set (i := 6) sc__law_drawn_rows.nd rfl (Or.inl rfl) (pe_lst pa_nil))
      (pss_cons (ps_for PassesOwn.never rfl (pi_range1 (by rfl) T.z_range (pa_cons pe_int pa_nil)) (pg_name (i := 7) sc__law_drawn_rows.nd rfl (Or.inl rfl)) (pss_cons (ps_set (i := 8) sc__law_drawn_rows.nd rfl (Or.inl rfl) (pe_call G_law_take (hr.mono (by decide)) rfl T.g__law_take T.k__law_take T.b__law_take .nil pass0 (pa_cons (pv 0) (pa_cons (pe_op op_add (pv 2) pe_int) pa_nil))))
      (Evl.pss_cut (ps_if (pt_cmpR op_ge (pv 8) (pv 2) (nomark _)) (pss_one (ps_set (i := 8) sc__law_drawn_rows.nd rfl (Or.inl rfl) (pe_ix ix_list (pv 3) (pe_call G_law_take (hr.mono (by decide)) rfl T.g__law_take T.k__law_take T.b__law_take .nil pass0 (pa_cons (pv 0) (pa_cons pe_int pa_nil))) (fun _ _ => rfl)))) pss_nil)
      (pss_one (ps_expr (pe_bm PySem.F.plainAttrs_list PySem.F.slot_list_append PySem.F.type_list_append mt_append (pv 6) (pa_cons (pv 8) pa_nil)))))))
      (pss_one (ps_expr (pe_bm PySem.F.plainAttrs_list PySem.F.slot_list_append PySem.F.type_list_append mt_append (pv 4) (pa_cons (pe_tup (pa_cons (pe_ix ix_list (pv 6) pe_int (fun _ _ => rfl)) (pa_cons (pe_ix ix_list (pv 6) pe_int (fun _ _ => rfl)) pa_nil))) pa_nil)))))))
      (pss_one (ps_ret (pv 4))))))), ?_⟩
    refine qS ⟨_, rfl, _, rfl, b, c, 6, rfl, B0, by decide, by decide, fun x1 H1 z1 w1 B1 e1 => ⟨_, _, rfl, rfl, ?_⟩⟩
    refine qS ⟨_, rfl, b, c, rfl, B1, fun l1 H2 wd1 B2 e2 => ⟨_, rfl, b, c, rfl, B2, fun l2 H3 wd2 B3 e3 => ⟨(by show 3 ≤ sizeLine; decide), fun mq hmq => ?_⟩⟩⟩
    have x1' : Ext b c H H1 := fun a o ab ac h => (e1 a ab ac).trans h
    have xx := (x1'.trans e2).trans e3
    have hmb := B3.neb hmq
    have f0 : ∀ {q : Addr} {H' : Hp}, q ≠ b ∧ q ≠ c → Ext b c H H' → H' q = none → H q = none := fun {q H'} hb e h => by
      cases z : H q with
      | none => rfl
      | some o => rw [e q o hb.1 hb.2 z] at h; cases h
    have hm0 := f0 hmb xx hmq
    refine qS ⟨(by show 0 ≤ sizeLine; decide), fun p hp => ?_⟩
    have B4 := B3.same (same_upd (o := .lst [.str "no word", .str (SX.S l1), .str (SX.S l2)]) hmq)
    have x4 := xx.trans (.of (same_upd (o := .lst [.str "no word", .str (SX.S l1), .str (SX.S l2)]) hmq))
    have hpb := B4.neb hp
    have hp0 := f0 hpb x4 hp
    have hpm : p ≠ mq := fun e => by rw [e, upd_same] at hp; cases hp
    have d0 : DR H (upd (upd H3 mq (.lst [.str "no word", .str (SX.S l1), .str (SX.S l2)])) p (.lst [])) b c mq p [.str "no word", .str (SX.S l1), .str (SX.S l2)] [] [] := ⟨B4.same (same_upd hp), x4.trans (.of (same_upd hp)), kept upd_same hp, upd_same, ⟨rfl, fun i a r x y => by cases y⟩, fun r hr => by cases hr⟩
    generalize upd (upd H3 mq (.lst [.str "no word", .str (SX.S l1), .str (SX.S l2)])) p (.lst []) = H4 at d0 ⊢
    refine ⟨_, rfl, 1 + x1, rfl, by omega, by omega, for_range (fun i σ' H' => (∃ v5 v6 v7 v8, σ' = [some (.ref b), some (.int 6), some (.int (1 + x1)), some (.ref mq), some (.ref p), v5, v6, v7, v8]) ∧ ∃ as rs, DR H H' b c mq p [.str "no word", .str (SX.S l1), .str (SX.S l2)] as rs ∧ rs.length = i) ⟨⟨_, _, _, _, rfl⟩, [], [], d0, rfl⟩ ?_ ?_⟩
    · rintro i σ' H' hi ⟨⟨v5, v6, v7, v8, rfl⟩, as, rs, d, hl⟩
      refine qS ⟨(by show 0 ≤ sizeLine; decide), fun q hq => ?_⟩
      have hqb := d.box.neb hq
      have hq0 := f0 hqb d.ext hq
      have hqm : q ≠ mq := fun e => by rw [e, d.mn] at hq; cases hq
      have hqp : q ≠ p := fun e => by rw [e, d.hp] at hq; cases hq
      have d1 := d.same (same_upd (o := .lst []) hq)
      have hq1 : (upd H' q (.lst [])) q = some (.lst []) := upd_same
      generalize upd H' q (.lst []) = H5 at d1 hq1 ⊢
      refine ⟨2, rfl, by decide, by decide, for_range (fun j σ2 H2 => (∃ w7 w8, σ2 = [some (.ref b), some (.int 6), some (.int (1 + x1)), some (.ref mq), some (.ref p), some (.int (0 + (i : Int))), some (.ref q), w7, w8]) ∧ DR H H2 b c mq p [.str "no word", .str (SX.S l1), .str (SX.S l2)] as rs ∧ ∃ r : List Tg, H2 q = some (.lst (r.map Tg.v)) ∧ r.length = j ∧ ∀ t ∈ r, TgB t) ⟨⟨_, _, rfl⟩, d1, [], hq1, rfl, fun t ht => by cases ht⟩ ?_ ?_⟩
      · rintro j σ2 H2 hj ⟨⟨w7, w8, rfl⟩, d2, r, hr, hrl, hrb⟩
        refine qS ⟨_, rfl, _, rfl, _, _, rfl, rfl, b, c, _, rfl, d2.box, by omega, lgp (n := 110) (by omega), fun x2 H6 z2 w2 B6 e6 => ?_⟩
        have x6 : Ext b c H2 H6 := fun a o ab ac h => (e6 a ab ac).trans h
        have d6 := d2.step hmb hpb B6 x6
        have hr6 := x6 _ _ hqb.1 hqb.2 hr
        refine ⟨fun σ3 H3 => ∃ (t : Tg) (w7' : Option V), TgB t ∧ σ3 = [some (.ref b), some (.int 6), some (.int (1 + x1)), some (.ref mq), some (.ref p), some (.int (0 + (i : Int))), some (.ref q), w7', some t.v] ∧ DR H H3 b c mq p [.str "no word", .str (SX.S l1), .str (SX.S l2)] as rs ∧ H3 q = some (.lst (r.map Tg.v)), ?_, ?_⟩
        · refine s_when (b := decide (1 + x1 ≤ x2)) (ans_of (val_op0 (g := fun i j => V.bl (decide (j ≤ i))) (val_var rfl) (val_var rfl))) (fun z => ?_) (fun z => ?_)
          · refine sS ⟨_, rfl, _, rfl, b, c, 3, rfl, d6.box, by decide, by decide, fun x3 H7 z3 w3 B7 e7 => ?_⟩
            have x7 : Ext b c H6 H7 := fun a o ab ac h => (e7 a ab ac).trans h
            have d7 := d6.step hmb hpb B7 x7
            obtain ⟨l, hwl, hl7⟩ := menu_at wd1 wd2 z3 w3
            exact ⟨mq, _, x3, _, rfl, rfl, SqL.of d7.mn, hl7, .w l, _, hwl, rfl, d7, x7 _ _ hqb.1 hqb.2 hr6⟩
          · exact ⟨.n x2, _, by show x2.natAbs ≤ 10 ^ 7; omega, rfl, d6, hr6⟩
        · rintro σ3 H8 ⟨t, w7', htb, rfl, d8, hr8⟩
          refine sD ⟨_, rfl, .inl ⟨rfl, _, SqL.of hr8⟩, _, rfl, q, _, _, rfl, rfl, hr8, ?_, ?_⟩
          · rw [List.length_map]
            show _ < 2 ^ 24
            omega
          · refine ⟨⟨_, _, rfl⟩, d8.upd hq0 hqb hqm hqp hr8, r ++ [t], ?_, ?_, ?_⟩
            · rw [upd_same, List.map_append]
              rfl
            · rw [List.length_append, hrl]
              rfl
            · intro y hy
              rcases List.mem_append.mp hy with h | h
              · exact hrb y h
              · rw [List.mem_singleton.mp h]
                exact htb
      · rintro σ2 H2 ⟨⟨w7, w8, rfl⟩, d2, r, hr, hrl, hrb⟩
        have hrl2 : r.length = 2 := hrl
        obtain ⟨t1, t2, rfl⟩ : ∃ t1 t2, r = [t1, t2] := by
          match r, hrl2 with
          | [x, y], _ => exact ⟨x, y, rfl⟩
        dsimp only
        refine sD ⟨_, rfl, .inl ⟨rfl, _, SqL.of d2.hp⟩, _, rfl, q, _, _, _, rfl, rfl, SqL.of hr, rfl, _, rfl, q, _, _, _, rfl, rfl, SqL.of hr, rfl, (by show 2 ≤ sizeLine; decide), fun u hu => ?_⟩
        have d3 := d2.same (same_upd (o := .tup [t1.v, t2.v]) hu)
        have hu3 : (upd H2 u (.tup [t1.v, t2.v])) u = some (.tup [t1.v, t2.v]) := upd_same
        generalize upd H2 u (.tup [t1.v, t2.v]) = H6 at d3 hu3 ⊢
        refine ⟨p, _, _, rfl, rfl, d3.hp, ?_, ?_⟩
        · rw [List.length_map, d3.rows.1, hl]
          show _ < 2 ^ 24
          omega
        · have hpu : p ≠ u := fun e => by rw [← e, d3.hp] at hu3; cases hu3
          refine ⟨⟨_, _, _, _, rfl⟩, as ++ [u], rs ++ [[t1, t2]], ⟨?_, ?_, ?_, ?_, ⟨?_, ?_⟩, ?_⟩, ?_⟩
          · obtain ⟨ns, kk, st, h1, h2, rr⟩ := d3.box
            exact ⟨ns, kk, st, by rw [upd_ne hpb.1.symm]; exact h1, by rw [upd_ne hpb.2.symm]; exact h2, rr⟩
          · exact fun a o ab ac h => by rw [upd_ne (ne_of_none h hp0)]; exact d3.ext a o ab ac h
          · rw [upd_ne hpm.symm]
            exact d3.mn
          · rw [upd_same, List.map_append]
            rfl
          · rw [List.length_append, List.length_append, d3.rows.1]
            rfl
          · intro i2 a r2 hx hy
            have ha2 : H6 a = some (.tup (r2.map Tg.v)) := by
              rcases Nat.lt_or_ge i2 as.length with l | l
              · rw [List.getElem?_append_left l] at hx
                rw [List.getElem?_append_left (by rw [← d3.rows.1]; exact l)] at hy
                exact d3.rows.2 i2 a r2 hx hy
              · rw [List.getElem?_append_right l] at hx
                rw [List.getElem?_append_right (by rw [← d3.rows.1]; exact l)] at hy
                have h0 : i2 - as.length = 0 := by
                  have := (List.getElem?_eq_some_iff.mp hx).1
                  rw [List.length_singleton] at this
                  omega
                rw [h0] at hx
                rw [← d3.rows.1, h0] at hy
                cases hx
                cases hy
                exact hu3
            rw [upd_ne (fun e => by rw [e, d3.hp] at ha2; cases ha2)]
            exact ha2
          · intro r2 hr2
            rcases List.mem_append.mp hr2 with h | h
            · exact d3.bd r2 h
            · rw [List.mem_singleton.mp h]
              exact ⟨by show 2 ≤ 5; decide, hrb⟩
          · rw [List.length_append, hl]
            rfl
    · rintro σ' H' ⟨⟨v5, v6, v7, v8, rfl⟩, as, rs, d, hl⟩
      dsimp only
      have hl6 : rs.length ≤ 6 := by omega
      refine sR ⟨_, rfl, k p as rs H' ⟨d.box, d.hp, d.rows, ⟨by omega, d.bd⟩, hpb.1, hpb.2⟩ d.ext (fun e => ?_) hl6⟩
      rw [e] at hl
      have : (0 : Nat) = (1 + x1).toNat := hl
      omega
theorem sc__law_valid_target : FnScope N__law_valid_target ["_law_target", "_law_size"] (defScope s__law_valid_target) := ⟨rfl, rfl, rfl, by decide +kernel, rfl, by decide +kernel, by decide +kernel⟩

def spValid : Sp := fun vs H Q _ => ∃ (t : Tg) (n : Nat), vs = [t.v, .int (n : Int)] ∧ TgB t ∧ ∀ H', Same H H' → Q (.bl (tgOk n t)) H'
theorem ok__law_valid_target (T : Txt K mg A) : FnOk P w K mg base CX0 1 A.f__law_valid_target A.d__law_valid_target ["_law_target", "_law_size"] spValid := by
  refine T.F__law_valid_target.ok sc__law_valid_target (fun vs H Q E h => ?_) (fun cdv Ar outer s H vs Q E hr h => ?_)
  · obtain ⟨t, n, rfl, _⟩ := h
    rfl
  · obtain ⟨t, n, rfl, ht, k⟩ := h
    refine ⟨_, (pss_cons (ps_if (pt_val (pe_callB call_isi (by rfl) T.z_isinstance (by decide +kernel) (pa_cons (pv 0) (pa_cons (pe_bltn (v := .ty "str") (u := .type "str") (by rfl) T.z_str (by decide +kernel) (by rfl)) pa_nil)))) (pss_one (ps_ret (pe_cmpR op_notIn_seq (pv 0) (pe_lst (pa_cons pe_str (pa_cons pe_str (pa_cons pe_str pa_nil)))) (by rfl)))) pss_nil)
      (pss_one (ps_ret (pe_chain op_le op_lt pe_int (pv 0) (pv 1))))), ?_⟩
    cases t with
    | n m =>
      refine qW ⟨_, rfl, _, _, _, _, false, rfl, .ty "str", .base (.int m), kit_ty (by decide +kernel), false, rfl, iteF ?_⟩
      exact sR ((val_chain (p := fun i j => decide (i ≤ j)) (q := fun i j => decide (i < j)) val_c (val_var (v := .int m) rfl) (val_var rfl)).at (k H (Same.refl _)))
    | w l =>
      refine qW ⟨_, rfl, _, _, _, _, true, rfl, .ty "str", .base (.str _), kit_ty (by decide +kernel), true, rfl, iteT ?_⟩
      refine sR ⟨_, rfl, (by show 3 ≤ sizeLine; decide), fun q hq => ⟨q, _, rfl, .inl (SqL.of upd_same), rfl, rfl, ?_⟩⟩
      have e : tgOk n (.w l) = !decide (l ∈ odds) := ht.2.2
      have k2 := k _ (same_upd (o := .lst [.str "", .str "maybe", .str "at least 2/2"]) hq)
      rw [e, ← in_odds] at k2
      exact k2
theorem sc__law_fault : FnScope N__law_fault ["_law_rows_here", "_law_first"] (defScope s__law_fault) := ⟨rfl, rfl, rfl, by decide +kernel, rfl, by decide +kernel, by decide +kernel⟩

def spFault : Sp := fun vs H Q _ => ∃ (p : Addr) (as : List Addr) (rs : List (List Tg)) (f : Int), vs = [.ref p, .int f] ∧ H p = some (.lst (as.map V.ref)) ∧ RowsIn H as rs ∧ RsB rs ∧ (∀ b s, fault rs f = some (b, s) → ∀ q H', Same H H' → H' q = some (.tup [.str (if b = true then "row" else "endless"), .int s]) → Q (.ref q) H') ∧ (fault rs f = none → ∀ H', Same H H' → Q .non H')
theorem ok__law_fault (T : Txt K mg A) : FnOk P w K mg base CX0 2 A.f__law_fault A.d__law_fault ["_law_rows_here", "_law_first"] spFault := by
  have G_law_valid_target := ok__law_valid_target (P := P) (w := w) (base := base) T
  have G_law_ending := ok__law_ending (P := P) (w := w) (base := base) T
  refine T.F__law_fault.ok sc__law_fault (fun vs H Q E h => ?_) (fun cdv Ar outer s H vs Q E hr h => ?_)
  · obtain ⟨p, as, rs, f, rfl, _⟩ := h
    rfl
  · obtain ⟨p, as, rs, f, rfl, hp, hr2, hb, ret, retN⟩ := h
    refine ⟨_, (pss_cons (ps_if (pt_cmpR op_eq (pe_callB call_len_seq (by rfl) T.z_len (by decide +kernel) (pa_cons (pv 0) pa_nil)) pe_int (nomark _)) (pss_one (ps_ret (pe_tup (pa_cons pe_str (pa_cons pe_int pa_nil))))) pss_nil)
      (pss_cons (ps_for PassesOwn.never rfl (pi_range1 (by rfl) T.z_range (pa_cons (pe_callB call_len_seq (by rfl) T.z_len (by decide +kernel) (pa_cons (pv 0) pa_nil)) pa_nil)) (pg_name (i := 2) sc__law_fault.nd rfl (Or.inl rfl)) (pss_cons (ps_set (i := 3) sc__law_fault.nd rfl (Or.inl rfl) (pe_ix ix_list (pv 0) (pv 2) (fun _ _ => rfl)))
      (pss_cons (ps_if (PW.pt (pw_or (pt_cmpR op_ge (pv 2) pe_int (nomark _)) (pw_or1 (pt_cmpR op_ne (pe_callB call_len_seq (by rfl) T.z_len (by decide +kernel) (pa_cons (pv 3) pa_nil)) pe_int (nomark _))))) (pss_one (ps_ret (pe_tup (pa_cons pe_str (pa_cons (pv 2) pa_nil))))) pss_nil)
      (pss_one (ps_for PassesOwn.never rfl (pi_tup (pv 3)) (pg_name (i := 4) sc__law_fault.nd rfl (Or.inl rfl)) (pss_one (ps_if (pt_not (pt_val (pe_call G_law_valid_target (hr.mono (by decide)) rfl T.g__law_valid_target T.k__law_valid_target T.b__law_valid_target .nil pass0 (pa_cons (pv 4) (pa_cons (pe_callB call_len_seq (by rfl) T.z_len (by decide +kernel) (pa_cons (pv 0) pa_nil)) pa_nil))))) (pss_one (ps_ret (pe_tup (pa_cons pe_str (pa_cons (pv 2) pa_nil))))) pss_nil)))))))
      (pss_cons (ps_if (PW.pt (pw_or (pt_cmpR op_lt (pv 1) pe_int (nomark _)) (pw_or1 (pt_cmpR op_ge (pv 1) (pe_callB call_len_seq (by rfl) T.z_len (by decide +kernel) (pa_cons (pv 0) pa_nil)) (nomark _))))) (pss_one (ps_ret (pe_tup (pa_cons pe_str (pa_cons (pv 1) pa_nil))))) pss_nil)
      (pss_cons (ps_set (i := 5) sc__law_fault.nd rfl (Or.inl rfl) (pe_call G_law_ending (hr.mono (by decide)) rfl T.g__law_ending T.k__law_ending T.b__law_ending .nil pass0 (pa_cons (pv 0) pa_nil)))
      (pss_cons (ps_for PassesOwn.never rfl (pi_range1 (by rfl) T.z_range (pa_cons (pe_callB call_len_seq (by rfl) T.z_len (by decide +kernel) (pa_cons (pv 0) pa_nil)) pa_nil)) (pg_name (i := 2) sc__law_fault.nd rfl (Or.inl rfl)) (pss_one (ps_if (pt_cmpR op_notIn_seq (pv 2) (pv 5) (by rfl)) (pss_one (ps_ret (pe_tup (pa_cons pe_str (pa_cons (pv 2) pa_nil))))) pss_nil)))
      (pss_one (ps_ret pe_non))))))), ?_⟩
    have hlA : (as.map V.ref).length = rs.length := by rw [List.length_map]; exact hr2.1
    have h20 : rs.length ≤ 20 := hb.1
    have vl : ∀ {σ : L2.St} {H' : Hp}, σ[0]? = some (some (.ref p)) → Same H H' → Val (tCB (fun xs H Q => ∃ p ys, xs = [V.ref p] ∧ (SqL K H p ys ∨ SqT K H p ys) ∧ Q (V.int ys.length) H) (tCons (tVar 0) tNil)) σ H' (.int (rs.length : Int)) := fun h s => val_cb (va_cons (val_var h) va_nil) fun Q q => ⟨p, _, rfl, .inl (SqL.of (s _ _ hp)), by rw [hlA]; exact q⟩
    refine q_when (b := decide (V.int (rs.length : Int) = V.int 0)) (ans_of (val_eq (vl rfl (Same.refl _)) val_c rfl)) (fun z => ?_) (fun z => ?_)
    · have e0 : rs = [] := List.eq_nil_of_length_eq_zero (by have := V.int.inj (of_decide_eq_true z); omega)
      subst e0
      exact sR ⟨(by show 2 ≤ sizeLine; decide), fun q hq => ret true 0 fault_nil q _ (same_upd hq) upd_same⟩
    have h0 : rs ≠ [] := fun e => (of_decide_eq_false z) (by rw [e]; rfl)
    refine ⟨_, rfl, p, _, rfl, .inl (SqL.of hp), (rs.length : Int), by rw [hlA], by omega, by omega, for_range (fun i σ' H' => (∃ v2 v3 v4 v5, σ' = [some (.ref p), some (.int f), v2, v3, v4, v5]) ∧ Same H H' ∧ ∀ j, j < i → badAt rs j = false) ⟨⟨_, _, _, _, rfl⟩, Same.refl _, fun j hj => absurd hj (Nat.not_lt_zero _)⟩ ?_ ?_⟩
    · rintro i σ' H' hi ⟨⟨v2, v3, v4, v5, rfl⟩, s', hbd⟩
      have hin : i < rs.length := by omega
      obtain ⟨a, hia, ha⟩ := (hr2.same s').get hin
      have hrb := hb.2 _ (rows_mem hin)
      refine qS ⟨_, rfl, _, rfl, p, _, _, _, rfl, rfl, SqL.of (s' _ _ hp), (by rw [Int.zero_add]; exact Lk.atI_nat hia), ?_⟩
      have el : ((rs.getD i []).map Tg.v).length = (rs.getD i []).length := List.length_map ..
      have bad : ∀ {H2 : Hp}, Same H H2 → badAt rs i = true → ∀ q, H2 q = none → Q (.ref q) (upd H2 q (.tup [.str "row", .int (0 + (i : Int))])) := fun {H2} s2 hbi q hq => ret true _ (fault_row hin hbi hbd) q _ (s2.trans (same_upd hq)) (by rw [upd_same, Int.zero_add]; rfl)
      refine q_when (b := decide (6 ≤ i) || !decide ((rs.getD i []).length = 2)) (ans_or' (ans_of (val_to (val_op0 (g := fun i j => V.bl (decide (j ≤ i))) (val_var rfl) val_c) (congrArg V.bl (decide_eq_decide.mpr (by omega))))) fun _ => ans_of (val_to (val_ne (y := .int 2) (val_cb (va_cons (val_var rfl) va_nil) fun Q q => ⟨a, _, rfl, .inr (SqT.of ha), q⟩) val_c rfl) ?_)) (fun z => ?_) (fun z => ?_)
      · rw [el]
        exact congrArg V.bl (congrArg not (decide_eq_decide.mpr ⟨fun h => by have := V.int.inj h; omega, fun h => by rw [h]; rfl⟩))
      · refine sR ⟨_, rfl, (by show 2 ≤ sizeLine; decide), fun q hq => bad s' ?_ q hq⟩
        unfold badAt rowBad
        rw [← Bool.or_assoc, z]
        rfl
      · refine ⟨_, rfl, a, rfl, ⟨_, SqT.of ha⟩, for_tup (K := K) (a := a) (xs := (rs.getD i []).map Tg.v) (fun m σ3 H3 => (∃ w4, σ3 = [some (.ref p), some (.int f), some (.int (0 + (i : Int))), some (.ref a), w4, v5]) ∧ Same H' H3 ∧ ∀ q, q < m → tgOk rs.length ((rs.getD i []).getD q (.n 0)) = true) ⟨⟨_, rfl⟩, Same.refl _, fun q hq => absurd hq (Nat.not_lt_zero _)⟩ (fun m σ3 H3 _ h => SqT.of (h.2.1 _ _ ha)) ?_ ?_⟩
        · rintro m y σ3 H3 hm ⟨⟨w4, rfl⟩, s3, hok⟩
          obtain ⟨hml, rfl⟩ := tg_at hm
          have hmem := tgs_mem hml
          refine Evl.s_when (b := !tgOk rs.length ((rs.getD i []).getD m (.n 0))) (Evl.et_not (Evl.et_B (er_ev (fun H4 e4 Q q => ⟨_, rfl, (vl rfl ((s'.trans s3).trans e4)) _ ⟨_, _, rfl, hrb.2 _ hmem, fun H5 s5 => q _ H5 s5 rfl⟩⟩)))) (fun z2 H4 e4 => ?_) (fun z2 H4 e4 => ?_)
          · refine sR ⟨_, rfl, (by show 2 ≤ sizeLine; decide), fun q hq => bad ((s'.trans s3).trans e4) ?_ q hq⟩
            rw [Bool.not_eq_true'] at z2
            unfold badAt rowBad
            rw [← Bool.or_assoc, z, Bool.false_or, Bool.not_eq_true', Bool.eq_false_iff]
            intro hall
            have := List.all_eq_true.mp hall _ hmem
            rw [this] at z2
            cases z2
          · rw [Bool.not_eq_false'] at z2
            refine ⟨⟨_, rfl⟩, s3.trans e4, fun q hq => ?_⟩
            rcases Nat.lt_or_ge q m with l | l
            · exact hok q l
            · rw [show q = m by omega]
              exact z2
        · rintro σ3 H3 ⟨⟨w4, rfl⟩, s3, hok⟩
          rw [el] at hok
          refine ⟨⟨_, _, _, _, rfl⟩, s'.trans s3, fun j hj => ?_⟩
          rcases Nat.lt_or_ge j i with l | l
          · exact hbd j l
          · obtain rfl : j = i := by omega
            unfold badAt rowBad
            rw [← Bool.or_assoc, z, Bool.false_or, Bool.not_eq_false', List.all_eq_true]
            intro t ht
            obtain ⟨q, hq, rfl⟩ := List.getElem_of_mem ht
            have := hok q hq
            rw [List.getD_eq_getElem?_getD, List.getElem?_eq_getElem hq] at this
            exact this
    · rintro σ' H' ⟨⟨v2, v3, v4, v5, rfl⟩, s', hbd⟩
      have hbd2 : ∀ j, j < rs.length → badAt rs j = false := fun j hj => hbd j (by omega)
      have hc := closed_of hbd2
      dsimp only
      refine q_when (b := decide (f < 0) || decide ((rs.length : Int) ≤ f)) (ans_or' (ans_of (val_op0 (g := fun i j => V.bl (decide (i < j))) (val_var rfl) val_c)) fun _ => ans_of (val_op0 (g := fun i j => V.bl (decide (j ≤ i))) (val_var rfl) (vl rfl s'))) (fun z => ?_) (fun z => ?_)
      · refine sR ⟨_, rfl, (by show 2 ≤ sizeLine; decide), fun q hq => ret true f (fault_first h0 hbd2 ?_) q _ (s'.trans (same_upd hq)) upd_same⟩
        rcases Bool.or_eq_true_iff.mp z with h | h
        · exact .inl (of_decide_eq_true h)
        · exact .inr (of_decide_eq_true h)
      · have hf : ¬ (f < 0 ∨ (rs.length : Int) ≤ f) := by
          obtain ⟨q1, q2⟩ := Bool.or_eq_false_iff.mp z
          have := of_decide_eq_false q1
          have := of_decide_eq_false q2
          omega
        refine qS ⟨_, rfl, p, as, rs, rfl, s' _ _ hp, hr2.same s', hb, hc, fun g gs H2 s2 hg hgs => ?_⟩
        have s12 := s'.trans s2
        refine ⟨_, rfl, p, _, rfl, .inl (SqL.of (s12 _ _ hp)), (rs.length : Int), by rw [hlA], by omega, by omega, for_range (fun i σ' H' => (∃ v2, σ' = [some (.ref p), some (.int f), v2, v3, v4, some (.ref g)]) ∧ H' = H2 ∧ ∀ j, j < i → ends rs rs.length j = true) ⟨⟨_, rfl⟩, rfl, fun j hj => absurd hj (Nat.not_lt_zero _)⟩ ?_ ?_⟩
        · rintro i σ3 H3 hi ⟨⟨w2, rfl⟩, rfl, he⟩
          have hin : i < rs.length := by omega
          refine s_when (b := !decide (i ∈ gs)) (ans_of (fun Q q => ⟨_, rfl, _, rfl, g, _, rfl, .inl (SqL.of hg), rfl, flat_nat gs, ?_⟩)) (fun z2 => ?_) (fun z2 => ?_)
          · rw [Int.zero_add, in_nat]
            exact q
          · rw [Bool.not_eq_true'] at z2
            have hne : ends rs rs.length i = false := by
              rw [Bool.eq_false_iff]
              exact fun h => (of_decide_eq_false z2) ((hgs i hin).mpr h)
            exact sR ⟨_, rfl, (by show 2 ≤ sizeLine; decide), fun q hq => ret false _ (fault_end h0 hbd2 hf hin hne he) q _ (s12.trans (same_upd hq)) (by rw [upd_same, Int.zero_add]; rfl)⟩
          · rw [Bool.not_eq_false'] at z2
            refine ⟨⟨_, rfl⟩, rfl, fun j hj => ?_⟩
            rcases Nat.lt_or_ge j i with l | l
            · exact he j l
            · rw [show j = i by omega]
              exact (hgs i hin).mp (of_decide_eq_true z2)
        · rintro σ3 H3 ⟨⟨w2, rfl⟩, rfl, he⟩
          dsimp only
          exact sR (val_c.at (retN (fault_none h0 hbd2 hf fun j hj => he j (by omega)) _ s12))
theorem sc__law_agrees : FnScope N__law_agrees ["_law_rows_here", "_law_first"] (defScope s__law_agrees) := ⟨rfl, rfl, rfl, by decide +kernel, rfl, by decide +kernel, by decide +kernel⟩

def spAgrees (K : PySem.W.Frag) : Sp := fun vs H Q _ => ∃ (p : Addr) (as : List Addr) (rs : List (List Tg)) (f : Int), vs = [.ref p, .int f] ∧ H p = some (.lst (as.map V.ref)) ∧ RowsIn H as rs ∧ RsB rs ∧ True ∧ ∀ H', Same H H' → Q (.bl true) H'
theorem ok__law_agrees (T : Txt K mg A) : FnOk P w K mg base CX0 11 A.f__law_agrees A.d__law_agrees ["_law_rows_here", "_law_first"] (spAgrees K) := by
  have G_law_fault := ok__law_fault (P := P) (w := w) (base := base) T
  have GRing___init__ := ok_Ring___init__ (P := P) (w := w) (base := base) T
  obtain ⟨d0, vd0, b0⟩ := T.b0_Ring
  obtain ⟨mvK, kbK⟩ := T.kb_Ring
  refine T.F__law_agrees.ok sc__law_agrees (fun vs H Q E h => ?_) (fun cdv Ar outer s H vs Q E hr h => ?_)
  · obtain ⟨p, as, rs, f, rfl, _⟩ := h
    rfl
  · obtain ⟨p, as, rs, f, rfl, hp, hr2, hb, hfb, k⟩ := h
    refine ⟨_, (pss_cons (ps_set (i := 2) sc__law_agrees.nd rfl (Or.inl rfl) (pe_call G_law_fault (hr.mono (by decide)) rfl T.g__law_fault T.k__law_fault T.b__law_fault .nil pass0 (pa_cons (pv 0) (pa_cons (pv 1) pa_nil))))
      (pss_cons (ps_set (i := 3) sc__law_agrees.nd rfl (Or.inl rfl) (pe_callTy call_list_of (by rfl) T.z_list (by decide +kernel) (pa_cons (pv 0) pa_nil)))
      (pss_cons (ps_try_as (i := 5) (Wout := fun _ _ _ _ => False) rfl rfl sc__law_agrees.nd rfl rfl ⟨rfl, by decide, Or.inl T.g_StopError⟩ takes0
          (fun W pn xe tk _ => pss_one (ps_set (i := 4) sc__law_agrees.nd rfl (Or.inl rfl) (by exact (pe_makeKS T.mk_Ring GRing___init__ (hr.mono (by decide)) rfl T.g_Ring kbK (fun σ => passAt tk σ) (by exact (pa_cons (pv 3) pa_nil)) (by exact (pk_cons (pv 1) pk_nil))))))
          (fun a oe cls d pn hz hf => pss_cons (ps_if (PW.pt (pw_or (pt_cmpR op_isN (pv 2) pe_non (nomark _)) (pw_or (pt_not (pt_val (pe_callB (call_isX hz hf) (by rfl) T.z_isinstance (by decide +kernel) (pa_cons (pv 5) (pa_cons (pe_bltn (v := .ty "ValueError") (u := .type "ValueError") (by rfl) T.z_ValueError (by decide +kernel) (by rfl)) pa_nil))))) (pw_or1 (pt_cmpR (show OpR _ (compareOp .NotEq) (rNeD K) from op_neD hr.units) (pv 3) (pv 0) (nomark _)))))) (pss_one (ps_ret pe_bl)) pss_nil)
            (pss_cons (ps_if (pt_cmpR (show OpR _ (compareOp .Eq) rEq from op_eq) (pe_ix (show IxR _ (rIxT K) from ix_tup) (pv 2) pe_int (fun _ _ => rfl)) pe_str (nomark _)) (pss_one (ps_ret (by exact (pe_and (pe_callB (call_isX hz hf) (by rfl) T.z_isinstance (by decide +kernel) (pa_cons (pv 5) (pa_cons (pe_glob (v := .ref A.C_InvalidRing) rfl T.g_InvalidRing rfl) pa_nil))) (pe_and (pe_not (pe_callB (call_isX hz hf) (by rfl) T.z_isinstance (by decide +kernel) (pa_cons (pv 5) (pa_cons (pe_glob (v := .ref A.C_Endless) rfl T.g_Endless rfl) pa_nil)))) (pe_one (pe_cmpR (show OpR _ (compareOp .Eq) rEq from op_eq) (pe_xf T.xf_InvalidRing T.no_state_InvalidRing hz hf (pv 5)) (pe_ix (show IxR _ (rIxT K) from ix_tup) (pv 2) pe_int (fun _ _ => rfl)) (nomark _)))))))) pss_nil)
              (pss_one (ps_ret (by exact (pe_and (pe_callB (call_isX hz hf) (by rfl) T.z_isinstance (by decide +kernel) (pa_cons (pv 5) (pa_cons (pe_glob (v := .ref A.C_Endless) rfl T.g_Endless rfl) pa_nil))) (pe_and (pe_not (pe_callB (call_isX hz hf) (by rfl) T.z_isinstance (by decide +kernel) (pa_cons (pv 5) (pa_cons (pe_glob (v := .ref A.C_InvalidRing) rfl T.g_InvalidRing rfl) pa_nil)))) (pe_one (pe_cmpR (show OpR _ (compareOp .Eq) rEq from op_eq) (pe_xf T.xf_Endless T.no_state_Endless hz hf (pv 5)) (pe_ix (show IxR _ (rIxT K) from ix_tup) (pv 2) pe_int (fun _ _ => rfl)) (nomark _)))))))))))
      (pss_cons (ps_if (pt_cmpR (op_neD hr.units) (pv 3) (pv 0) (nomark _)) (pss_one (ps_ret pe_bl)) pss_nil)
      (pss_cons (ps_expr (pe_bm PySem.F.plainAttrs_list PySem.F.slot_list_append PySem.F.type_list_append mt_append (pv 3) (pa_cons (pe_tup (pa_cons pe_str (pa_cons pe_str pa_nil))) pa_nil)))
      (pss_cons (ps_if (PW.pt (pw_or (pt_cmpR op_notN (pv 2) pe_non (nomark _)) (pw_or (pt_cmpR (op_neD hr.units) (pe_fld (pv 4) rfl) (pe_callTy call_tuple_of (by rfl) T.z_tuple (by decide +kernel) (pa_cons (pv 0) pa_nil)) (nomark _)) (pw_or (pt_cmpR op_ne (pe_fld (pv 4) rfl) (pv 1) (nomark _)) (pw_or1 (pt_cmpR op_ne (ClX.pe_cval (pe_glob (v := .ref A.C_Ring) rfl T.g_Ring rfl)) pe_int (nomark _))))))) (pss_one (ps_ret pe_bl)) pss_nil)
      (pss_one (ps_ret (pe_or (pe_cmpR op_ne (pv 1) pe_int (nomark _)) (pe_one (pe_cmpR op_eq (pe_fld (pe_make T.mk_Ring GRing___init__ (hr.mono (by decide)) rfl T.g_Ring b0 vd0 passL (pa_cons (pe_callTy call_list_of (by rfl) T.z_list (by decide +kernel) (pa_cons (pv 0) pa_nil)) pa_nil)) rfl) pe_int (nomark _)))))))))))), ?_⟩
    have hlA : (as.map V.ref).length = rs.length := by rw [List.length_map]; exact hr2.1
    obtain ⟨uM, hM⟩ := T.mo_Ring
    refine qS ⟨_, rfl, _, rfl, p, as, rs, f, rfl, hp, hr2, hb, fun bb s hfl q H1 s1 hq => ?_, fun hfl H1 s1 => ?_⟩
    · refine qS ⟨_, rfl, p, _, rfl, .inl (SqL.of (s1 _ _ hp)), fun p2 hp2 => ?_⟩
      have s2 := s1.trans (same_upd (o := .lst (as.map V.ref)) hp2)
      have hq2 := (same_upd (o := .lst (as.map V.ref)) hp2) _ _ hq
      have h22 : (upd H1 p2 (.lst (as.map V.ref))) p2 = some (.lst (as.map V.ref)) := upd_same
      generalize upd H1 p2 (.lst (as.map V.ref)) = H2 at s2 hq2 h22 ⊢
      refine ⟨_, rfl, _, rfl, rfl, rfl, fun o dx ho hdx hne => ?_⟩
      have sH : Same H2 (upd (upd H2 dx (.own o)) o (.ins A.C_Ring dx [])) := (same_upd hdx).trans (same_upd (by rw [upd_ne hne.symm]; exact ho))
      refine ⟨o, p2, dx, as, rs, f, rfl, upd_same, sH _ _ h22, hr2.same (s2.trans sH), hb, ?_⟩
      cases bb with
      | true =>
        refine .inl ⟨s, hfl, fun d' H3 s3 hd0 hd1 => ?_⟩
        refine ⟨true, T.exm_StopError_InvalidRing, fun _ a ha => ?_, fun z => nomatch z⟩
        have s3' := (s2.trans sH).trans s3
        have hq3 := s3 _ _ (sH _ _ hq2)
        have h23 := s3 _ _ (sH _ _ h22)
        have hp3 := s3' _ _ hp
        refine qW ⟨_, rfl, rfl, _, rfl, iteF ⟨_, rfl, _, _, true, A.C_InvalidRing, d', _, rfl, rfl, rfl, T.exk_InvalidRing, hd1, (fun u hu => hu), T.kv_InvalidRing, true, rfl, iteF ⟨_, rfl, _, rfl, rNeRows h23 hp3 (hr2.same s3') hb ⟨false, rfl, iteF ?_⟩⟩⟩⟩
        refine q_when (b := true) (ans_of (val_to (val_eq (y := .str "row") (val_ixT (val_var rfl) val_c (SqT.of hq3) rfl) val_c rfl) (congrArg V.bl (by decide +kernel)))) (fun z => ?_) (fun z => ?_)
        · refine sR ⟨_, rfl, _, _, true, A.C_InvalidRing, d', _, rfl, rfl, rfl, T.exk_InvalidRing, hd1, (fun u hu => hu), T.ki_InvalidRing, true, rfl, iteT ⟨_, rfl, _, _, false, A.C_InvalidRing, d', _, rfl, rfl, rfl, T.exk_InvalidRing, hd1, (fun u hu => hu), T.kn_InvalidRing, false, rfl, true, rfl, iteT ⟨_, rfl, rfl, rfl, d', _, .int s, rfl, hd1, rfl, _, rfl, q, _, _, _, rfl, rfl, SqT.of hq3, rfl, rfl, ?_⟩⟩⟩
          rw [decide_eq_true rfl]
          exact k _ s3'
        · cases z
      | false =>
        refine .inr (.inl ⟨s, hfl, fun d' H3 s3 hd0 hd1 => ?_⟩)
        refine ⟨true, T.exm_StopError_Endless, fun _ a ha => ?_, fun z => nomatch z⟩
        have s3' := (s2.trans sH).trans s3
        have hq3 := s3 _ _ (sH _ _ hq2)
        have h23 := s3 _ _ (sH _ _ h22)
        have hp3 := s3' _ _ hp
        refine qW ⟨_, rfl, rfl, _, rfl, iteF ⟨_, rfl, _, _, true, A.C_Endless, d', _, rfl, rfl, rfl, T.exk_Endless, hd1, (fun u hu => hu), T.kv_Endless, true, rfl, iteF ⟨_, rfl, _, rfl, rNeRows h23 hp3 (hr2.same s3') hb ⟨false, rfl, iteF ?_⟩⟩⟩⟩
        refine q_when (b := false) (ans_of (val_to (val_eq (y := .str "row") (val_ixT (val_var rfl) val_c (SqT.of hq3) rfl) val_c rfl) (congrArg V.bl (by decide +kernel)))) (fun z => ?_) (fun z => ?_)
        · cases z
        · refine sR ⟨_, rfl, _, _, true, A.C_Endless, d', _, rfl, rfl, rfl, T.exk_Endless, hd1, (fun u hu => hu), T.ki_Endless, true, rfl, iteT ⟨_, rfl, _, _, false, A.C_Endless, d', _, rfl, rfl, rfl, T.exk_Endless, hd1, (fun u hu => hu), T.kn_Endless, false, rfl, true, rfl, iteT ⟨_, rfl, rfl, rfl, d', _, .int s, rfl, hd1, rfl, _, rfl, q, _, _, _, rfl, rfl, SqT.of hq3, rfl, rfl, ?_⟩⟩⟩
          rw [decide_eq_true rfl]
          exact k _ s3'
    · refine qS ⟨_, rfl, p, _, rfl, .inl (SqL.of (s1 _ _ hp)), fun p2 hp2 => ?_⟩
      have s2 := s1.trans (same_upd (o := .lst (as.map V.ref)) hp2)
      have h22 : (upd H1 p2 (.lst (as.map V.ref))) p2 = some (.lst (as.map V.ref)) := upd_same
      generalize upd H1 p2 (.lst (as.map V.ref)) = H2 at s2 h22 ⊢
      have hp20 : H p2 = none := s1.free hp2
      refine ⟨_, rfl, _, rfl, rfl, rfl, fun o dx ho hdx hne => ?_⟩
      have sH : Same H2 (upd (upd H2 dx (.own o)) o (.ins A.C_Ring dx [])) := (same_upd hdx).trans (same_upd (by rw [upd_ne hne.symm]; exact ho))
      refine ⟨o, p2, dx, as, rs, f, rfl, upd_same, sH _ _ h22, hr2.same (s2.trans sH), hb, .inr (.inr ⟨hfl, fun t H3 keep ht ho3 => ⟨rfl, ?_⟩⟩)⟩
      have s3 : Same H2 H3 := fun b u e => keep b u (ne_of_none e ho) (sH b u e)
      have s3' := s2.trans s3
      have h23 := s3 _ _ h22
      have hop : o ≠ p2 := (ne_of_none h22 ho).symm
      have htp : t ≠ p2 := fun e => by rw [e, h23] at ht; cases ht
      dsimp only
      refine qW ⟨_, rfl, _, rfl, rNeRows h23 (s3' _ _ hp) (hr2.same s3') hb ⟨false, rfl, iteF ?_⟩⟩
      refine qD ⟨_, rfl, .inl ⟨rfl, _, SqL.of h23⟩, (by show 2 ≤ sizeLine; decide), fun u hu => ⟨p2, _, _, rfl, rfl, kept h23 hu, ?_, ?_⟩⟩
      · rw [hlA]
        show _ < 2 ^ 24
        have := hb.1
        omega
      have s4 : ∀ z, Same H (upd (upd H3 u (.tup [.str "no word", .str "no word"])) p2 z) := fun z b o' e => by
        rw [upd_ne (ne_of_none e hp20)]
        exact (same_upd hu) _ _ (s3' _ _ e)
      have ho4 : ∀ z, (upd (upd H3 u (.tup [.str "no word", .str "no word"])) p2 z) o = some (.ins A.C_Ring dx [("rows", .ref t), ("start", .int f)]) := fun z => by
        rw [upd_ne hop]
        exact (same_upd hu) _ _ ho3
      have ht4 : ∀ z, (upd (upd H3 u (.tup [.str "no word", .str "no word"])) p2 z) t = some (.tup (as.map V.ref)) := fun z => by
        rw [upd_ne htp]
        exact (same_upd hu) _ _ ht
      replace s4 := s4 (.lst (as.map V.ref ++ [.ref u]))
      replace ho4 := ho4 (.lst (as.map V.ref ++ [.ref u]))
      replace ht4 := ht4 (.lst (as.map V.ref ++ [.ref u]))
      generalize upd (upd H3 u (.tup [.str "no word", .str "no word"])) p2 (.lst (as.map V.ref ++ [.ref u])) = H4 at s4 ho4 ht4 ⊢
      have hp4 := s4 _ _ hp
      have hr4 := hr2.same s4
      dsimp only
      refine Evl.q_when (b := false) (Evl.et_is (Evl.et_or (a := false) (b := false) (t_no (b := !decide (V.non = V.non)) (fun H5 e5 Q q => ⟨_, rfl, rfl, q _ H5 (Same.refl _) rfl⟩) rfl) fun _ => Evl.et_is (Evl.et_or (a := false) (b := false) (t_no (b := false) (fun H5 e5 Q q => ⟨_, rfl, o, _, dx, _, _, rfl, e5 _ _ ho4, T.cls_Ring, T.nr_Ring, rfl, _, rfl, p, _, rfl, .inl ⟨SqL.of (e5 _ _ hp4), fun u2 hu2 => rNeRowsT (SqT.of (kept (e5 _ _ ht4) hu2)) (SqT.of upd_same) ((hr4.same e5).same (same_upd hu2)) hb (q _ _ (same_upd hu2) rfl)⟩⟩) rfl) fun _ => Evl.et_is (Evl.et_or (a := false) (b := false) (t_no (b := !decide (V.int f = V.int f)) (fun H5 e5 Q q => ⟨_, rfl, o, _, dx, _, _, rfl, e5 _ _ ho4, T.cls_Ring, T.ns_Ring, rfl, _, rfl, rfl, q _ H5 (Same.refl _) rfl⟩) (by rw [decide_eq_true rfl]; rfl)) fun _ => t_no (b := !decide (V.int 6 = V.int 6)) (fun H5 e5 Q q => ⟨_, _, _, uM, rfl, T.crd_Ring, hM, rfl, q _ H5 (Same.refl _) rfl⟩) rfl) rfl) rfl) rfl) (fun z => nomatch z) (fun _ H5 e5 => ?_)
      have s5 := s4.trans e5
      by_cases hf0 : f = 0
      · subst hf0
        refine sR ⟨_, rfl, rfl, _, rfl, iteF ?_⟩
        refine ⟨_, rfl, p, _, rfl, .inl (SqL.of (s5 _ _ hp)), fun l hl o2 dx2 ho2 hdx2 hne2 => ?_⟩
        have s6 := s5.trans (same_upd (o := .lst (as.map V.ref)) hl)
        have hl6 : (upd H5 l (.lst (as.map V.ref))) l = some (.lst (as.map V.ref)) := upd_same
        generalize upd H5 l (.lst (as.map V.ref)) = H6 at s6 hl6 ho2 hdx2 ⊢
        have sH2 : Same H6 (upd (upd H6 dx2 (.own o2)) o2 (.ins A.C_Ring dx2 [])) := (same_upd hdx2).trans (same_upd (by rw [upd_ne hne2.symm]; exact ho2))
        refine ⟨o2, l, dx2, as, rs, 0, rfl, upd_same, sH2 _ _ hl6, hr2.same (s6.trans sH2), hb, .inr (.inr ⟨hfl, fun t2 H7 keep2 ht2 ho7 => ⟨rfl, ?_⟩⟩)⟩
        have s7 : Same H6 H7 := fun b u e => keep2 b u (ne_of_none e ho2) (sH2 b u e)
        exact ⟨o2, _, dx2, _, _, rfl, ho7, T.cls_Ring, T.ns_Ring, rfl, rfl, k _ (s6.trans s7)⟩
      · refine sR ⟨_, rfl, rfl, _, rfl, ?_⟩
        rw [if_pos (by rw [decide_eq_false (fun z => hf0 (V.int.inj z))]; rfl)]
        exact k _ s5
theorem sc__law_spoilt : FnScope N__law_spoilt ["_law_box_here", "_law_given"] (defScope s__law_spoilt) := ⟨rfl, rfl, rfl, by decide +kernel, rfl, by decide +kernel, by decide +kernel⟩

def spSpoilt : Sp := fun vs H Q _ => ∃ (b c p : Addr) (as : List Addr) (rs : List (List Tg)), vs = [.ref b, .ref p] ∧ RowsB H b c p as rs ∧ rs ≠ [] ∧ rs.length ≤ 7 ∧ ∀ p' as' rs' H', RowsB H' b c p' as' rs' → rs'.length ≤ 7 → Q (.ref p') H'
theorem ok__law_spoilt (T : Txt K mg A) : FnOk P w K mg base CX0 2 A.f__law_spoilt A.d__law_spoilt ["_law_box_here", "_law_given"] spSpoilt := by
  have G_law_take := ok__law_take (P := P) (w := w) (base := base) T
  refine T.F__law_spoilt.ok sc__law_spoilt (fun vs H Q E h => ?_) (fun cdv Ar outer s H vs Q E hr h => ?_)
  · obtain ⟨b, c, p, as, rs, rfl, _⟩ := h
    rfl
  · obtain ⟨b, c, p0, as0, rs0, rfl, d0, h0, h7, k⟩ := h
    refine ⟨_, (pss_cons (ps_set (i := 2) sc__law_spoilt.nd rfl (Or.inl rfl) (pe_callTy call_list_of (by rfl) T.z_list (by decide +kernel) (pa_cons (pv 1) pa_nil)))
      (pss_cons (ps_set (i := 3) sc__law_spoilt.nd rfl (Or.inl rfl) (pe_call G_law_take (hr.mono (by decide)) rfl T.g__law_take T.k__law_take T.b__law_take .nil pass0 (pa_cons (pv 0) (pa_cons pe_int pa_nil))))
      (pss_cons (ps_set (i := 4) sc__law_spoilt.nd rfl (Or.inl rfl) (pe_call G_law_take (hr.mono (by decide)) rfl T.g__law_take T.k__law_take T.b__law_take .nil pass0 (pa_cons (pv 0) (pa_cons (pe_callB call_len_seq (by rfl) T.z_len (by decide +kernel) (pa_cons (pv 2) pa_nil)) pa_nil))))
      (pss_cons (ps_set (i := 5) sc__law_spoilt.nd rfl (Or.inl rfl) (pe_call G_law_take (hr.mono (by decide)) rfl T.g__law_take T.k__law_take T.b__law_take .nil pass0 (pa_cons (pv 0) (pa_cons pe_int pa_nil))))
      (Evl.pss_cut (ps_if (pt_cmpR op_eq (pv 3) pe_int (nomark _)) (pss_one (ps_set (i := 2) sc__law_spoilt.nd rfl (Or.inl rfl) (pe_lst pa_nil))) pss_nil)
      (Evl.pss_cut (ps_if (pt_cmpR op_eq (pv 3) pe_int (nomark _)) (pss_one (ps_while PassesOwn.never (pt_cmpR op_lt (pe_callB call_len_seq (by rfl) T.z_len (by decide +kernel) (pa_cons (pv 2) pa_nil)) pe_int (nomark _)) (pss_one (ps_expr (pe_bm PySem.F.plainAttrs_list PySem.F.slot_list_append PySem.F.type_list_append mt_append (pv 2) (pa_cons (pe_tup (pa_cons pe_int (pa_cons pe_str pa_nil))) pa_nil)))))) pss_nil)
      (Evl.pss_cut (ps_if (pt_cmpR op_eq (pv 3) pe_int (nomark _)) (pss_one (ps_asg (pe_ix ix_list (pe_lst (pa_cons (pe_tup pa_nil) (pa_cons (pe_tup (pa_cons pe_str pa_nil)) (pa_cons (pe_tup (pa_cons pe_str (pa_cons pe_int (pa_cons pe_int pa_nil)))) pa_nil)))) (pe_call G_law_take (hr.mono (by decide)) rfl T.g__law_take T.k__law_take T.b__law_take .nil pass0 (pa_cons (pv 0) (pa_cons pe_int pa_nil))) (fun _ _ => rfl)) (pg_sub (pv 2) (pv 4) set_list))) pss_nil)
      (Evl.pss_cut (ps_if (PW.pt (pw_and (pt_cmpR op_gt (pv 3) pe_int (nomark _)) (pw_and1 (pt_cmpR op_lt (pv 3) pe_int (nomark _))))) (pss_cons (ps_set (i := 6) sc__law_spoilt.nd rfl (Or.inl rfl) (pe_ix ix_list (pe_lst (pa_cons (pe_un un_neg pe_int) (pa_cons (pe_callB call_len_seq (by rfl) T.z_len (by decide +kernel) (pa_cons (pv 2) pa_nil)) (pa_cons (pe_op op_pow pe_int pe_int) (pa_cons pe_str (pa_cons pe_str (pa_cons pe_str pa_nil))))))) (pe_call G_law_take (hr.mono (by decide)) rfl T.g__law_take T.k__law_take T.b__law_take .nil pass0 (pa_cons (pv 0) (pa_cons pe_int pa_nil))) (fun _ _ => rfl)))
      (pss_one (ps_asg (pe_ifExp (pt_cmpR op_eq (pv 5) pe_int (nomark _)) (pe_tup (pa_cons (pv 6) (pa_cons pe_int pa_nil))) (pe_tup (pa_cons pe_int (pa_cons (pv 6) pa_nil)))) (pg_sub (pv 2) (pv 4) set_list)))) pss_nil)
      (Evl.pss_cut (ps_if (pt_cmpR op_eq (pv 3) pe_int (nomark _)) (pss_one (ps_asg (pe_tup (pa_cons (pv 4) (pa_cons (pv 4) pa_nil))) (pg_sub (pv 2) (pv 4) set_list))) pss_nil)
      (pss_one (ps_ret (pv 2)))))))))))), ?_⟩
    have hlA : (as0.map V.ref).length = rs0.length := by rw [List.length_map]; exact d0.rows.1
    have hpos : 0 < rs0.length := List.length_pos_iff.mpr h0
    refine qS ⟨_, rfl, p0, _, rfl, .inl (SqL.of d0.hp), fun p hp => ?_⟩
    have hpb := d0.box.neb hp
    have d1 : RowsB (upd _ p (.lst (as0.map V.ref))) b c p as0 rs0 := ⟨d0.box.same (same_upd hp), upd_same, d0.rows.same (same_upd hp), d0.bd, hpb.1, hpb.2⟩
    generalize upd _ p (.lst (as0.map V.ref)) = H1 at d1 ⊢
    refine qS ⟨_, rfl, b, c, 12, rfl, d1.box, by decide, by decide, fun x1 H2 z1 w1 B2 e2 => ?_⟩
    have d2 := d1.step B2 (fun a o ab ac h => (e2 a ab ac).trans h)
    refine qS ⟨_, rfl, _, rfl, p, _, rfl, .inl (SqL.of d2.hp), b, c, (rs0.length : Int), (by rw [hlA]; rfl), d2.box, by omega, lgp (n := 110) (by omega), fun x2 H3 z2 w2 B3 e3 => ?_⟩
    have d3 := d2.step B3 (fun a o ab ac h => (e3 a ab ac).trans h)
    refine qS ⟨_, rfl, b, c, 2, rfl, d3.box, by decide, by decide, fun x3 H4 z3 w3 B4 e4 => ?_⟩
    have d4 := d3.step B4 (fun a o ab ac h => (e4 a ab ac).trans h)
    obtain ⟨n2, rfl⟩ : ∃ n2 : Nat, x2 = (n2 : Int) := ⟨x2.toNat, by omega⟩
    have hn2 : n2 < rs0.length := by omega
    have hTA : TgB (.n (n2 : Int)) := by show (n2 : Int).natAbs ≤ 10 ^ 7; omega
    dsimp only [gName]
    have e0w : ∀ {k : Int}, [V.int k, .str "no word"] = [Tg.n k, .w cNo].map Tg.v := fun {k} => by rw [e_no]; rfl
    have hW : TgB (.w cNo) := wd_no
    have hN : ∀ {k : Int}, k.natAbs ≤ 10 ^ 7 → TgB (.n k) := fun h => h
    refine ⟨fun σ' H' => ∃ p as rs v6, σ' = [some (.ref b), some (.ref p0), some (.ref p), some (.int x1), some (.int (n2 : Int)), some (.int x3), v6] ∧ RowsB H' b c p as rs ∧ rs.length ≤ 7 ∧ (x1 = 0 ∨ n2 < rs.length), ?_, ?_⟩
    · refine s_when (b := decide (V.int x1 = V.int 0)) (ans_of (val_eq (val_var rfl) val_c rfl)) (fun z => ?_) (fun z => ?_)
      · have z0 : x1 = 0 := V.int.inj (of_decide_eq_true z)
        refine sS ⟨(by show 0 ≤ sizeLine; decide), fun q hq => ?_⟩
        have hqb := d4.box.neb hq
        exact ⟨q, [], [], _, rfl, ⟨d4.box.same (same_upd hq), upd_same, ⟨rfl, fun i a r x y => by cases y⟩, ⟨by decide, fun r hr => by cases hr⟩, hqb.1, hqb.2⟩, by decide, .inl z0⟩
      · exact ⟨p, as0, rs0, _, rfl, d4, h7, .inr hn2⟩
    clear d1 d2 d3 d4 B2 B3 B4 e2 e3 e4
    rintro σ' H' ⟨p, as, rs, v6, rfl, d, hl, hx⟩
    refine ⟨fun σ' H' => ∃ p as rs v6, σ' = [some (.ref b), some (.ref p0), some (.ref p), some (.int x1), some (.int (n2 : Int)), some (.int x3), v6] ∧ RowsB H' b c p as rs ∧ rs.length ≤ 7 ∧ (x1 = 0 ∨ n2 < rs.length), ?_, ?_⟩
    · refine s_when (b := decide (V.int x1 = V.int 1)) (ans_of (val_eq (val_var rfl) val_c rfl)) (fun z => ?_) (fun z => ⟨p, as, rs, v6, rfl, d, hl, hx⟩)
      have z1' : x1 = 1 := V.int.inj (of_decide_eq_true z)
      refine s_whileA (fun m σ' H' => ∃ as rs, σ' = [some (.ref b), some (.ref p0), some (.ref p), some (.int x1), some (.int (n2 : Int)), some (.int x3), v6] ∧ RowsB H' b c p as rs ∧ rs.length + m = 7 ∧ n2 < rs.length) (7 - rs.length) ⟨as, rs, rfl, d, by omega, by omega⟩ ?_
      rintro m σ2 H2 ⟨as2, rs2, rfl, d2, hm, hx2⟩
      have hlA2 : (as2.map V.ref).length = rs2.length := by rw [List.length_map]; exact d2.rows.1
      refine ⟨decide ((rs2.length : Int) < 7), ans_of (val_op0 (g := fun i j => V.bl (decide (i < j))) (val_cb (va_cons (val_var rfl) va_nil) fun Q q => ⟨p, _, rfl, .inl (SqL.of d2.hp), by rw [hlA2]; exact q⟩) val_c), fun zb N hNn => ?_, fun zb => ?_⟩
      · have zb' := of_decide_eq_true zb
        refine sD ⟨_, rfl, .inl ⟨rfl, _, SqL.of d2.hp⟩, (by show 2 ≤ sizeLine; decide), fun u hu => ⟨p, _, _, rfl, rfl, kept d2.hp hu, ?_, ?_⟩⟩
        · rw [hlA2]
          show _ < 2 ^ 24
          omega
        · have d3 := (d2.same (same_upd (o := .tup [.int 0, .str "no word"]) hu)).app (u := u) (r := [.n 0, .w cNo]) (by rw [upd_same, e0w]) (by omega) ⟨by decide, fun t ht => by
            rcases List.mem_cons.mp ht with rfl | ht
            · exact hN (by decide)
            · rw [List.mem_singleton.mp ht]
              exact hW⟩
          exact hNn _ _ (m - 1) (by omega) ⟨_, _, rfl, d3, by rw [List.length_append, List.length_singleton]; omega, by rw [List.length_append]; omega⟩
      · exact ⟨p, as2, rs2, v6, rfl, d2, by omega, .inr hx2⟩
    clear d hl hx
    rintro σ' H' ⟨p, as, rs, v6, rfl, d, hl, hx⟩
    refine ⟨fun σ' H' => ∃ p as rs v6, σ' = [some (.ref b), some (.ref p0), some (.ref p), some (.int x1), some (.int (n2 : Int)), some (.int x3), v6] ∧ RowsB H' b c p as rs ∧ rs.length ≤ 7 ∧ (x1 = 0 ∨ n2 < rs.length), ?_, ?_⟩
    · refine s_when (b := decide (V.int x1 = V.int 2)) (ans_of (val_eq (val_var rfl) val_c rfl)) (fun z => ?_) (fun z => ⟨p, as, rs, v6, rfl, d, hl, hx⟩)
      have z1' : x1 = 2 := V.int.inj (of_decide_eq_true z)
      have hx' : n2 < rs.length := by omega
      refine sB ⟨(by show 0 ≤ sizeLine; decide), fun u0 hu0 => ⟨(by show 1 ≤ sizeLine; decide), fun u1 hu1 => ⟨(by show 3 ≤ sizeLine; decide), fun u2 hu2 => ⟨(by show 3 ≤ sizeLine; decide), fun q hq => ?_⟩⟩⟩⟩
      have t0 : (upd H' u0 (.tup [])) u0 = some (.tup []) := upd_same
      have d1 := d.same (same_upd (o := .tup []) hu0)
      generalize upd H' u0 (.tup []) = G0 at *
      have t1 : (upd G0 u1 (.tup [.str "no word"])) u1 = some (.tup [.str "no word"]) := upd_same
      replace t0 := kept (o := .tup [.str "no word"]) t0 hu1
      replace d1 := d1.same (same_upd (o := .tup [.str "no word"]) hu1)
      generalize upd G0 u1 (.tup [.str "no word"]) = G1 at *
      have t2 : (upd G1 u2 (.tup [.str "no word", .int 0, .int 0])) u2 = some (.tup [.str "no word", .int 0, .int 0]) := upd_same
      replace t0 := kept (o := .tup [.str "no word", .int 0, .int 0]) t0 hu2
      replace t1 := kept (o := .tup [.str "no word", .int 0, .int 0]) t1 hu2
      replace d1 := d1.same (same_upd (o := .tup [.str "no word", .int 0, .int 0]) hu2)
      generalize upd G1 u2 (.tup [.str "no word", .int 0, .int 0]) = G2 at *
      have tq : (upd G2 q (.lst [.ref u0, .ref u1, .ref u2])) q = some (.lst [.ref u0, .ref u1, .ref u2]) := upd_same
      have hqb := d1.box.neb hq
      replace t0 := kept (o := .lst [.ref u0, .ref u1, .ref u2]) t0 hq
      replace t1 := kept (o := .lst [.ref u0, .ref u1, .ref u2]) t1 hq
      replace t2 := kept (o := .lst [.ref u0, .ref u1, .ref u2]) t2 hq
      replace d1 := d1.same (same_upd (o := .lst [.ref u0, .ref u1, .ref u2]) hq)
      generalize upd G2 q (.lst [.ref u0, .ref u1, .ref u2]) = G3 at *
      refine ⟨_, rfl, b, c, 3, rfl, d1.box, by decide, by decide, fun x4 H2 z4 w4 B2 e2 => ?_⟩
      have x2' : Ext b c G3 H2 := fun a o ab ac h => (e2 a ab ac).trans h
      have d2 := d1.step B2 x2'
      have tb : ∀ {u : Addr} {xs : List V}, G3 u = some (.tup xs) → H2 u = some (.tup xs) := fun {u xs} h => by
        obtain ⟨ns, kk, st, h1, h2, _⟩ := d1.box
        exact x2' _ _ (fun e => by rw [e, h1] at h; cases h) (fun e => by rw [e, h2] at h; cases h) h
      have pick3 : ∃ (u : Addr) (r : List Tg), atI [V.ref u0, .ref u1, .ref u2] x4 = some (.ref u) ∧ H2 u = some (.tup (r.map Tg.v)) ∧ r.length ≤ 5 ∧ ∀ t ∈ r, TgB t := by
        rcases (by omega : x4 = 0 ∨ x4 = 1 ∨ x4 = 2) with h | h | h
        · exact ⟨u0, [], by rw [h]; rfl, tb t0, by decide, fun t ht => by cases ht⟩
        · refine ⟨u1, [.w cNo], by rw [h]; rfl, by rw [tb t1, e_no]; rfl, by decide, fun t ht => ?_⟩
          rw [List.mem_singleton.mp ht]
          exact hW
        · refine ⟨u2, [.w cNo, .n 0, .n 0], by rw [h]; rfl, by rw [tb t2, e_no]; rfl, by decide, fun t ht => ?_⟩
          simp only [List.mem_cons, List.not_mem_nil, or_false] at ht
          rcases ht with rfl | rfl | rfl
          · exact hW
          · exact hN (by decide)
          · exact hN (by decide)
      obtain ⟨u, r, hix, hu, hr1, hr3⟩ := pick3
      refine ⟨q, _, x4, _, rfl, rfl, SqL.of (x2' _ _ hqb.1 hqb.2 tq), hix, ?_⟩
      refine ⟨_, rfl, _, rfl, p, _, _, n2, rfl, rfl, d2.hp, ix_as d2 hx', ?_⟩
      exact ⟨p, _, _, v6, rfl, d2.put hu ⟨hr1, hr3⟩, by rw [List.length_set]; exact hl, .inr (by rw [List.length_set]; exact hx')⟩
    clear d hl hx
    rintro σ' H' ⟨p, as, rs, v6, rfl, d, hl, hx⟩
    refine ⟨fun σ' H' => ∃ p as rs v6, σ' = [some (.ref b), some (.ref p0), some (.ref p), some (.int x1), some (.int (n2 : Int)), some (.int x3), v6] ∧ RowsB H' b c p as rs ∧ rs.length ≤ 7 ∧ (x1 = 0 ∨ n2 < rs.length), ?_, ?_⟩
    · refine s_when (b := decide (2 < x1) && decide (x1 < 6)) (ans_and' (ans_of (val_op0 (g := fun i j => V.bl (decide (j < i))) (val_var rfl) val_c)) fun _ => ans_of (val_op0 (g := fun i j => V.bl (decide (i < j))) (val_var rfl) val_c)) (fun z => ?_) (fun z => ⟨p, as, rs, v6, rfl, d, hl, hx⟩)
      obtain ⟨za, zb⟩ := Bool.and_eq_true_iff.mp z
      have za' := of_decide_eq_true za
      have hx' : n2 < rs.length := by omega
      have hlA2 : (as.map V.ref).length = rs.length := by rw [List.length_map]; exact d.rows.1
      refine qS ⟨1, rfl, _, rfl, p, _, rfl, .inl (SqL.of d.hp), _, _, rfl, rfl, ⟨by decide, by decide, by decide⟩, (by show 6 ≤ sizeLine; decide), fun q hq => ?_⟩
      rw [hlA2]
      have d1 := d.same (same_upd (o := .lst [.int (-1), .int (rs.length : Int), .int (10 ^ 6), .str "", .str "maybe", .str "at least 2/2"]) hq)
      have hqb := d.box.neb hq
      have tq : (upd H' q (.lst [.int (-1), .int (rs.length : Int), .int (10 ^ 6), .str "", .str "maybe", .str "at least 2/2"])) q = some (.lst [.int (-1), .int (rs.length : Int), .int (10 ^ 6), .str "", .str "maybe", .str "at least 2/2"]) := upd_same
      refine ⟨_, rfl, b, c, 6, rfl, d1.box, by decide, by decide, fun x4 H2 z4 w4 B2 e2 => ?_⟩
      have x2' : Ext b c _ H2 := fun a o ab ac h => (e2 a ab ac).trans h
      have d2 := d1.step B2 x2'
      obtain ⟨t, htb, hix⟩ := odd_at (n := rs.length) (by omega) z4 w4
      refine ⟨q, _, x4, _, rfl, rfl, SqL.of (x2' _ _ hqb.1 hqb.2 tq), hix, ?_⟩
      clear tq d1 x2' e2
      have fin : ∀ {r : List Tg} {u : Addr}, H2 u = none → (r.length ≤ 5 ∧ ∀ t ∈ r, TgB t) → (fun σ' H' => ∃ p as rs v6, σ' = [some (.ref b), some (.ref p0), some (.ref p), some (.int x1), some (.int (n2 : Int)), some (.int x3), v6] ∧ RowsB H' b c p as rs ∧ rs.length ≤ 7 ∧ (x1 = 0 ∨ n2 < rs.length)) [some (.ref b), some (.ref p0), some (.ref p), some (.int x1), some (.int (n2 : Int)), some (.int x3), some t.v] (upd (upd H2 u (.tup (r.map Tg.v))) p (.lst ((as.map V.ref).set n2 (.ref u)))) := fun {r u} hu hr => ⟨p, _, _, _, rfl, (d2.same (same_upd hu)).put upd_same hr, by rw [List.length_set]; exact hl, .inr (by rw [List.length_set]; exact hx')⟩
      have t0b : TgB (.n 0) := hN (by decide)
      refine sB ?_
      refine (ans_of (val_eq (val_var rfl) val_c rfl) : Ans _ _ H2 (decide (V.int x3 = V.int 0))) _ ?_
      split
      · refine ⟨_, rfl, (by show 2 ≤ sizeLine; decide), fun u hu => ⟨_, rfl, _, rfl, p, _, _, n2, rfl, rfl, kept d2.hp hu, ix_as d2 hx', ?_⟩⟩
        exact fin (r := [t, .n 0]) hu ⟨(by show 2 ≤ 5; decide), fun y hy => by
          rcases List.mem_cons.mp hy with rfl | hy
          · exact htb
          · rw [List.mem_singleton.mp hy]
            exact t0b⟩
      · refine ⟨_, rfl, (by show 2 ≤ sizeLine; decide), fun u hu => ⟨_, rfl, _, rfl, p, _, _, n2, rfl, rfl, kept d2.hp hu, ix_as d2 hx', ?_⟩⟩
        exact fin (r := [.n 0, t]) hu ⟨(by show 2 ≤ 5; decide), fun y hy => by
          rcases List.mem_cons.mp hy with rfl | hy
          · exact t0b
          · rw [List.mem_singleton.mp hy]
            exact htb⟩
    clear d hl hx
    rintro σ' H' ⟨p, as, rs, v6, rfl, d, hl, hx⟩
    refine ⟨fun σ' H' => ∃ p as rs v6, σ' = [some (.ref b), some (.ref p0), some (.ref p), some (.int x1), some (.int (n2 : Int)), some (.int x3), v6] ∧ RowsB H' b c p as rs ∧ rs.length ≤ 7 ∧ (x1 = 0 ∨ n2 < rs.length), ?_, ?_⟩
    · refine s_when (b := decide (V.int x1 = V.int 6)) (ans_of (val_eq (val_var rfl) val_c rfl)) (fun z => ?_) (fun z => ⟨p, as, rs, v6, rfl, d, hl, hx⟩)
      have z1' : x1 = 6 := V.int.inj (of_decide_eq_true z)
      have hx' : n2 < rs.length := by omega
      refine sB ⟨_, rfl, _, rfl, (by show 2 ≤ sizeLine; decide), fun u hu => ⟨_, rfl, _, rfl, p, _, _, n2, rfl, rfl, kept d.hp hu, ix_as d hx', ?_⟩⟩
      exact ⟨p, _, _, v6, rfl, (d.same (same_upd hu)).put (r := [.n (n2 : Int), .n (n2 : Int)]) upd_same ⟨(by show 2 ≤ 5; decide), fun y hy => by
        simp only [List.mem_cons, List.not_mem_nil, or_false] at hy
        rcases hy with rfl | rfl <;> exact hTA⟩, by rw [List.length_set]; exact hl, .inr (by rw [List.length_set]; exact hx')⟩
    clear d hl hx
    rintro σ' H' ⟨p, as, rs, v6, rfl, d, hl, hx⟩
    exact sR ⟨_, rfl, k p as rs H' d hl⟩
theorem sc_law : FnScope N_law ["_law_script"] (defScope s_law) := ⟨rfl, rfl, rfl, by decide +kernel, rfl, by decide +kernel, by decide +kernel⟩

def spLaw (K : PySem.W.Frag) : Sp := fun vs H Q _ => ∃ (a : Addr) (ns : List Int), vs = [.ref a] ∧ SqL K H a (ns.map V.int) ∧ ns.length ≤ 63 ∧ ∀ H', Q (.bl true) H'
theorem ok_law (T : Txt K mg A) : FnOk P w K mg base CX0 13 A.f_law A.d_law ["_law_script"] (spLaw K) := by
  have G_law_box := ok__law_box (P := P) (w := w) (base := base) T
  have G_law_take := ok__law_take (P := P) (w := w) (base := base) T
  have G_law_drawn_rows := ok__law_drawn_rows (P := P) (w := w) (base := base) T
  have G_law_agrees := ok__law_agrees (P := P) (w := w) (base := base) T
  have G_law_spoilt := ok__law_spoilt (P := P) (w := w) (base := base) T
  refine T.F_law.ok sc_law (fun vs H Q E h => ?_) (fun cdv Ar outer s H vs Q E hr h => ?_)
  · obtain ⟨a, ns, rfl, _⟩ := h
    rfl
  · obtain ⟨a, ns, rfl, hS, hlen, k⟩ := h
    refine ⟨_, (pss_cons (ps_set (i := 1) sc_law.nd rfl (Or.inl rfl) (pe_call G_law_box (hr.mono (by decide)) rfl T.g__law_box T.k__law_box T.b__law_box .nil pass0 (pa_cons (pv 0) pa_nil)))
      (pss_cons (ps_set (i := 2) sc_law.nd rfl (Or.inl rfl) (pe_call G_law_drawn_rows (hr.mono (by decide)) rfl T.g__law_drawn_rows T.k__law_drawn_rows T.b__law_drawn_rows .nil pass0 (pa_cons (pv 1) (pa_cons pe_int pa_nil))))
      (pss_cons (ps_set (i := 3) sc_law.nd rfl (Or.inl rfl) (pe_ix ix_list (pe_lst (pa_cons pe_int (pa_cons pe_int (pa_cons pe_int (pa_cons pe_int (pa_cons pe_int (pa_cons (pe_un un_neg pe_int) (pa_cons (pe_callB call_len_seq (by rfl) T.z_len (by decide +kernel) (pa_cons (pv 2) pa_nil)) (pa_cons (pe_op op_sub (pe_callB call_len_seq (by rfl) T.z_len (by decide +kernel) (pa_cons (pv 2) pa_nil)) pe_int) pa_nil))))))))) (pe_call G_law_take (hr.mono (by decide)) rfl T.g__law_take T.k__law_take T.b__law_take .nil pass0 (pa_cons (pv 1) (pa_cons pe_int pa_nil))) (fun _ _ => rfl)))
      (pss_cons (ps_if (pt_not (pt_val (pe_call G_law_agrees (hr.mono (by decide)) rfl T.g__law_agrees T.k__law_agrees T.b__law_agrees .nil pass0 (pa_cons (pv 2) (pa_cons (pv 3) pa_nil))))) (pss_one (ps_ret pe_bl)) pss_nil)
      (pss_cons (ps_for PassesOwn.never rfl (pi_range1 (by rfl) T.z_range (pa_cons pe_int pa_nil)) (pg_name (i := 4) sc_law.nd rfl (Or.inl rfl)) (pss_cons (ps_set (i := 2) sc_law.nd rfl (Or.inl rfl) (pe_call G_law_spoilt (hr.mono (by decide)) rfl T.g__law_spoilt T.k__law_spoilt T.b__law_spoilt .nil pass0 (pa_cons (pv 1) (pa_cons (pv 2) pa_nil))))
      (pss_cons (ps_if (pt_not (pt_val (pe_call G_law_agrees (hr.mono (by decide)) rfl T.g__law_agrees T.k__law_agrees T.b__law_agrees .nil pass0 (pa_cons (pv 2) (pa_cons (pv 3) pa_nil))))) (pss_one (ps_ret pe_bl)) pss_nil)
      (pss_one (ps_if (pt_cmpR (op_eqD hr.units) (pv 2) (pe_lst pa_nil) (nomark _)) (pss_one (ps_ret pe_bl)) pss_nil)))))
      (Evl.pss_cut (ps_if (pt_cmpR op_eq (pe_call G_law_take (hr.mono (by decide)) rfl T.g__law_take T.k__law_take T.b__law_take .nil pass0 (pa_cons (pv 1) (pa_cons pe_int pa_nil))) pe_int (nomark _)) (pss_cons (ps_while PassesOwn.never (pt_cmpR op_lt (pe_callB call_len_seq (by rfl) T.z_len (by decide +kernel) (pa_cons (pv 2) pa_nil)) pe_int (nomark _)) (pss_one (ps_expr (pe_bm PySem.F.plainAttrs_list PySem.F.slot_list_append PySem.F.type_list_append mt_append (pv 2) (pa_cons (pe_tup (pa_cons pe_int (pa_cons pe_str pa_nil))) pa_nil)))))
      (pss_one (ps_set (i := 2) sc_law.nd rfl (Or.inl rfl) (pe_call G_law_spoilt (hr.mono (by decide)) rfl T.g__law_spoilt T.k__law_spoilt T.b__law_spoilt .nil pass0 (pa_cons (pv 1) (pa_cons (pv 2) pa_nil)))))) pss_nil)
      (pss_one (ps_ret (pe_call G_law_agrees (hr.mono (by decide)) rfl T.g__law_agrees T.k__law_agrees T.b__law_agrees .nil pass0 (pa_cons (pv 2) (pa_cons (pv 3) pa_nil))))))))))), ?_⟩
    refine qS ⟨_, rfl, a, ns, rfl, hS, hlen, fun b c H1 s1 hb hc B1 => ?_⟩
    refine qS ⟨_, rfl, b, c, rfl, B1, fun p as rs H2 d2 x2 h0 h6 => ?_⟩
    have hlA : (as.map V.ref).length = rs.length := by rw [List.length_map]; exact d2.rows.1
    refine qS ⟨1, rfl, _, rfl, p, _, rfl, .inl (SqL.of d2.hp), _, rfl, p, _, rfl, .inl (SqL.of d2.hp), _, _, rfl, rfl, (by show 8 ≤ sizeLine; decide), fun q hq => ?_⟩
    rw [hlA]
    have d3 := d2.same (same_upd (o := .lst [.int 0, .int 0, .int 0, .int 0, .int 1, .int (-1), .int (rs.length : Int), .int ((rs.length : Int) - 1)]) hq)
    have hqb := d2.box.neb hq
    have tq : (upd H2 q (.lst [.int 0, .int 0, .int 0, .int 0, .int 1, .int (-1), .int (rs.length : Int), .int ((rs.length : Int) - 1)])) q = some (.lst [.int 0, .int 0, .int 0, .int 0, .int 1, .int (-1), .int (rs.length : Int), .int ((rs.length : Int) - 1)]) := upd_same
    refine ⟨_, rfl, b, c, 8, rfl, d3.box, by decide, by decide, fun x H3 z w B3 e3 => ?_⟩
    have x3' : Ext b c _ H3 := fun a o ab ac h => (e3 a ab ac).trans h
    have d4 := d3.step B3 x3'
    obtain ⟨f, hix, _⟩ := pick [0, 0, 0, 0, 1, -1, (rs.length : Int), (rs.length : Int) - 1] (-1) 20 (fun y hy => by
      simp only [List.mem_cons, List.not_mem_nil, or_false] at hy
      rcases hy with rfl | rfl | rfl | rfl | rfl | rfl | rfl | rfl <;> omega) z w
    refine ⟨q, _, x, _, rfl, rfl, SqL.of (x3' _ _ hqb.1 hqb.2 tq), hix, ?_⟩
    clear d2 d3 tq x3' e3
    have ag : ∀ {p : Addr} {as : List Addr} {rs : List (List Tg)} {v4 : Option V} {H : Hp}, RowsB H b c p as rs → Evl.EvT (tNot (tB (tCall (spAgrees K) [] E0 (tCons (tVar 2) (tCons (tVar 3) tNil))))) [some (.ref a), some (.ref b), some (.ref p), some (.int f), v4] H false := fun {p as rs v4 H} d => t_notB (fun H4 e4 Q q => ⟨_, rfl, _, rfl, p, as, rs, f, rfl, e4 _ _ d.hp, d.rows.same e4, d.bd, trivial, fun H5 s5 => q _ H5 s5 rfl⟩) rfl
    refine Evl.q_when (b := false) (ag d4) (fun z => nomatch z) (fun _ H4 e4 => ?_)
    refine ⟨2, rfl, by decide, by decide, for_range (fun i σ' H' => ∃ p as rs v4, σ' = [some (.ref a), some (.ref b), some (.ref p), some (.int f), v4] ∧ RowsB H' b c p as rs ∧ rs ≠ [] ∧ rs.length ≤ 7) ⟨p, as, rs, _, rfl, d4.same e4, h0, by omega⟩ ?_ ?_⟩
    · rintro i σ' H' hi ⟨p, as, rs, v4, rfl, d, h0, h7⟩
      refine qS ⟨_, rfl, _, rfl, b, c, p, as, rs, rfl, d, h0, h7, fun p' as' rs' H2 d2 h72 => ?_⟩
      refine Evl.q_when (b := false) (ag d2) (fun z => nomatch z) (fun _ H5 e5 => ?_)
      have d5 := d2.same e5
      refine Evl.s_when (b := decide (rs' = [])) (Evl.et_test (er_ev (fun H6 e6 Q q => ⟨_, rfl, (by show 0 ≤ sizeLine; decide), fun l hl => rEqNil (kept (e6 _ _ d5.hp) hl) upd_same ((d5.rows.same e6).same (same_upd hl)) d5.bd (q _ _ (same_upd hl) rfl)⟩))) (fun z H6 e6 => ?_) (fun z H6 e6 => ?_)
      · exact sR (val_c.at (k _))
      · exact ⟨p', as', rs', _, rfl, d5.same e6, of_decide_eq_false z, h72⟩
    · rintro σ' H' ⟨p, as, rs, v4, rfl, d, h0, h7⟩
      dsimp only
      refine ⟨fun σ' H' => ∃ p as rs, σ' = [some (.ref a), some (.ref b), some (.ref p), some (.int f), v4] ∧ RowsB H' b c p as rs, ?_, ?_⟩
      · refine sW ⟨_, rfl, b, c, 3, rfl, d.box, by decide, by decide, fun m H5 m0 m1 B5 e5 => ⟨rfl, _, rfl, ite2 (fun _ => ?_) (fun _ => ?_)⟩⟩
        · have d5 := d.step B5 (fun a o ab ac h => (e5 a ab ac).trans h)
          refine q_whileA (fun m σ' H' => ∃ as rs, σ' = [some (.ref a), some (.ref b), some (.ref p), some (.int f), v4] ∧ RowsB H' b c p as rs ∧ rs.length + m = 7) (7 - rs.length) ⟨as, rs, rfl, d5, by omega⟩ ?_
          rintro m σ2 H2 ⟨as2, rs2, rfl, d2, hm⟩
          have hlA2 : (as2.map V.ref).length = rs2.length := by rw [List.length_map]; exact d2.rows.1
          refine ⟨decide ((rs2.length : Int) < 7), ans_of (val_op0 (g := fun i j => V.bl (decide (i < j))) (val_cb (va_cons (val_var rfl) va_nil) fun Q q => ⟨p, _, rfl, .inl (SqL.of d2.hp), by rw [hlA2]; exact q⟩) val_c), fun zb N hNn => ?_, fun zb => ?_⟩
          · have zb' := of_decide_eq_true zb
            refine sD ⟨_, rfl, .inl ⟨rfl, _, SqL.of d2.hp⟩, (by show 2 ≤ sizeLine; decide), fun u hu => ⟨p, _, _, rfl, rfl, kept d2.hp hu, ?_, ?_⟩⟩
            · rw [hlA2]
              show _ < 2 ^ 24
              omega
            · have d3 := (d2.same (same_upd (o := .tup [.int 0, .str "no word"]) hu)).app (u := u) (r := [.n 0, .w cNo]) (by rw [upd_same, e_no]; rfl) (by omega) ⟨(by show 2 ≤ 5; decide), fun t ht => by
                rcases List.mem_cons.mp ht with rfl | ht
                · show (0 : Int).natAbs ≤ 10 ^ 7
                  decide
                · rw [List.mem_singleton.mp ht]
                  exact wd_no⟩
              exact hNn _ _ (m - 1) (by omega) ⟨_, _, rfl, d3, by rw [List.length_append, List.length_singleton]; omega⟩
          · have zb' := of_decide_eq_false zb
            refine sS ⟨_, rfl, _, rfl, b, c, p, as2, rs2, rfl, d2, (fun e => by rw [e] at zb'; exact zb' (by decide)), by omega, fun p' as' rs' H3 d3 h73 => ⟨p', as', rs', rfl, d3⟩⟩
        · exact ⟨p, as, rs, rfl, d.step B5 (fun a o ab ac h => (e5 a ab ac).trans h)⟩
      · rintro σ2 H2 ⟨p, as, rs, rfl, d⟩
        exact sR ⟨_, rfl, _, rfl, p, as, rs, f, rfl, d.hp, d.rows, d.bd, trivial, fun H5 s5 => k _⟩
end
theorem all_mk {l : PySem.W.OpenLaw} {w : World} {K : PySem.W.Frag} {h : Heap} {mg : Str → Option Value} {fa : Addr} (X : K.In h) (G : h.Ns mainGlobals mg) (hfa : mg "law" = some (.ref fa))
    {C_StopError : Addr} (aC_StopError : PySem.W.nsIn K mainGlobals "StopError" = some (some (.ref C_StopError)))
    {C_InvalidWord : Addr} (aC_InvalidWord : PySem.W.nsIn K mainGlobals "InvalidWord" = some (some (.ref C_InvalidWord)))
    {C_InvalidRing : Addr} (aC_InvalidRing : PySem.W.nsIn K mainGlobals "InvalidRing" = some (some (.ref C_InvalidRing)))
    {C_Endless : Addr} (aC_Endless : PySem.W.nsIn K mainGlobals "Endless" = some (some (.ref C_Endless)))
    {C_Ring : Addr} (aC_Ring : PySem.W.nsIn K mainGlobals "Ring" = some (some (.ref C_Ring)))
    {f0 : Addr} {od0 an0 : Option Addr} {sl0 : Array (Option Value)} {oc0 kV0 dc0 pm0 cd0 ct0 : Value}
    (a0 : PySem.W.findIn K (.ref C_InvalidWord) "__init__" = some (some (.ref f0))) (i0 : PySem.W.isFn K (.ref f0) = true) (t0 : PySem.W.typeIn K (.ref f0) = some (.type "function"))
    (l0 : K.lookup f0 = some ⟨oc0, od0, .func (PySem.W.fnOf "__init__" "InvalidWord.__init__" (defArgs s_InvalidWord___init__) (defBody s_InvalidWord___init__) (defScope s_InvalidWord___init__) .none kV0 dc0 pm0 an0 cd0 ct0), sl0⟩) (c0 : PySem.W.codeIn K cd0 "InvalidWord.__init__" = true) (k0 : PySem.W.keepIn K (.ref f0) = true)
    {f1 : Addr} {od1 an1 : Option Addr} {sl1 : Array (Option Value)} {oc1 kV1 dc1 pm1 cd1 ct1 : Value}
    (a1 : PySem.W.findIn K (.ref C_InvalidRing) "__init__" = some (some (.ref f1))) (i1 : PySem.W.isFn K (.ref f1) = true) (t1 : PySem.W.typeIn K (.ref f1) = some (.type "function"))
    (l1 : K.lookup f1 = some ⟨oc1, od1, .func (PySem.W.fnOf "__init__" "InvalidRing.__init__" (defArgs s_InvalidRing___init__) (defBody s_InvalidRing___init__) (defScope s_InvalidRing___init__) .none kV1 dc1 pm1 an1 cd1 ct1), sl1⟩) (c1 : PySem.W.codeIn K cd1 "InvalidRing.__init__" = true) (k1 : PySem.W.keepIn K (.ref f1) = true)
    {f2 : Addr} {od2 an2 : Option Addr} {sl2 : Array (Option Value)} {oc2 kV2 dc2 pm2 cd2 ct2 : Value}
    (a2 : PySem.W.findIn K (.ref C_Endless) "__init__" = some (some (.ref f2))) (i2 : PySem.W.isFn K (.ref f2) = true) (t2 : PySem.W.typeIn K (.ref f2) = some (.type "function"))
    (l2 : K.lookup f2 = some ⟨oc2, od2, .func (PySem.W.fnOf "__init__" "Endless.__init__" (defArgs s_Endless___init__) (defBody s_Endless___init__) (defScope s_Endless___init__) .none kV2 dc2 pm2 an2 cd2 ct2), sl2⟩) (c2 : PySem.W.codeIn K cd2 "Endless.__init__" = true) (k2 : PySem.W.keepIn K (.ref f2) = true)
    {f3 : Addr} {od3 an3 : Option Addr} {sl3 : Array (Option Value)} {oc3 kV3 dc3 pm3 cd3 ct3 : Value}
    (a3 : PySem.W.nsIn K mainGlobals "is_share" = some (some (.ref f3)))
    (l3 : K.lookup f3 = some ⟨oc3, od3, .func (PySem.W.fnOf "is_share" "is_share" (defArgs s_is_share) (defBody s_is_share) (defScope s_is_share) .none kV3 dc3 pm3 an3 cd3 ct3), sl3⟩) (c3 : PySem.W.codeIn K cd3 "is_share" = true) (k3 : PySem.W.keepIn K (.ref f3) = true)
    {f4 : Addr} {od4 an4 : Option Addr} {sl4 : Array (Option Value)} {oc4 kV4 dc4 pm4 cd4 ct4 : Value}
    (a4 : PySem.W.nsIn K mainGlobals "is_integer" = some (some (.ref f4)))
    (l4 : K.lookup f4 = some ⟨oc4, od4, .func (PySem.W.fnOf "is_integer" "is_integer" (defArgs s_is_integer) (defBody s_is_integer) (defScope s_is_integer) .none kV4 dc4 pm4 an4 cd4 ct4), sl4⟩) (c4 : PySem.W.codeIn K cd4 "is_integer" = true) (k4 : PySem.W.keepIn K (.ref f4) = true)
    {f5 : Addr} {od5 an5 : Option Addr} {sl5 : Array (Option Value)} {oc5 kV5 dc5 pm5 cd5 ct5 : Value}
    (a5 : PySem.W.nsIn K mainGlobals "read_word" = some (some (.ref f5)))
    (l5 : K.lookup f5 = some ⟨oc5, od5, .func (PySem.W.fnOf "read_word" "read_word" (defArgs s_read_word) (defBody s_read_word) (defScope s_read_word) .none kV5 dc5 pm5 an5 cd5 ct5), sl5⟩) (c5 : PySem.W.codeIn K cd5 "read_word" = true) (k5 : PySem.W.keepIn K (.ref f5) = true)
    {f6 : Addr} {od6 an6 : Option Addr} {sl6 : Array (Option Value)} {oc6 kV6 dc6 pm6 cd6 ct6 : Value}
    (a6 : PySem.W.nsIn K mainGlobals "is_word" = some (some (.ref f6)))
    (l6 : K.lookup f6 = some ⟨oc6, od6, .func (PySem.W.fnOf "is_word" "is_word" (defArgs s_is_word) (defBody s_is_word) (defScope s_is_word) .none kV6 dc6 pm6 an6 cd6 ct6), sl6⟩) (c6 : PySem.W.codeIn K cd6 "is_word" = true) (k6 : PySem.W.keepIn K (.ref f6) = true)
    {f7 : Addr} {od7 an7 : Option Addr} {sl7 : Array (Option Value)} {oc7 kV7 dc7 pm7 cd7 ct7 : Value}
    (a7 : PySem.W.nsIn K mainGlobals "is_number" = some (some (.ref f7)))
    (l7 : K.lookup f7 = some ⟨oc7, od7, .func (PySem.W.fnOf "is_number" "is_number" (defArgs s_is_number) (defBody s_is_number) (defScope s_is_number) .none kV7 dc7 pm7 an7 cd7 ct7), sl7⟩) (c7 : PySem.W.codeIn K cd7 "is_number" = true) (k7 : PySem.W.keepIn K (.ref f7) = true)
    {f8 : Addr} {od8 an8 : Option Addr} {sl8 : Array (Option Value)} {oc8 kV8 dc8 pm8 cd8 ct8 : Value}
    (a8 : PySem.W.nsIn K mainGlobals "_read_share" = some (some (.ref f8)))
    (l8 : K.lookup f8 = some ⟨oc8, od8, .func (PySem.W.fnOf "_read_share" "_read_share" (defArgs s__read_share) (defBody s__read_share) (defScope s__read_share) .none kV8 dc8 pm8 an8 cd8 ct8), sl8⟩) (c8 : PySem.W.codeIn K cd8 "_read_share" = true) (k8 : PySem.W.keepIn K (.ref f8) = true)
    {f9 : Addr} {od9 an9 : Option Addr} {sl9 : Array (Option Value)} {oc9 dc9 pm9 cd9 ct9 : Value}
    (a9 : PySem.W.findIn K (.ref C_Ring) "__init__" = some (some (.ref f9))) (i9 : PySem.W.isFn K (.ref f9) = true) (t9 : PySem.W.typeIn K (.ref f9) = some (.type "function"))
    {D9 : Addr} {tw9_0 : Tok} (w9_0 : PySem.W.nsIn K D9 "start" = some (some (.int 0 tw9_0)))
    (l9 : K.lookup f9 = some ⟨oc9, od9, .func (PySem.W.fnOf "__init__" "Ring.__init__" (defArgs s_Ring___init__) (defBody s_Ring___init__) (defScope s_Ring___init__) .none (.ref D9) dc9 pm9 an9 cd9 ct9), sl9⟩) (c9 : PySem.W.codeIn K cd9 "Ring.__init__" = true) (k9 : PySem.W.keepIn K (.ref f9) = true)
    {f10 : Addr} {od10 an10 : Option Addr} {sl10 : Array (Option Value)} {oc10 kV10 dc10 pm10 cd10 ct10 : Value}
    (a10 : PySem.W.nsIn K mainGlobals "_check_rows" = some (some (.ref f10)))
    (l10 : K.lookup f10 = some ⟨oc10, od10, .func (PySem.W.fnOf "_check_rows" "_check_rows" (defArgs s__check_rows) (defBody s__check_rows) (defScope s__check_rows) .none kV10 dc10 pm10 an10 cd10 ct10), sl10⟩) (c10 : PySem.W.codeIn K cd10 "_check_rows" = true) (k10 : PySem.W.keepIn K (.ref f10) = true)
    {f11 : Addr} {od11 an11 : Option Addr} {sl11 : Array (Option Value)} {oc11 kV11 dc11 pm11 cd11 ct11 : Value}
    (a11 : PySem.W.nsIn K mainGlobals "_is_target" = some (some (.ref f11)))
    (l11 : K.lookup f11 = some ⟨oc11, od11, .func (PySem.W.fnOf "_is_target" "_is_target" (defArgs s__is_target) (defBody s__is_target) (defScope s__is_target) .none kV11 dc11 pm11 an11 cd11 ct11), sl11⟩) (c11 : PySem.W.codeIn K cd11 "_is_target" = true) (k11 : PySem.W.keepIn K (.ref f11) = true)
    {f12 : Addr} {od12 an12 : Option Addr} {sl12 : Array (Option Value)} {oc12 kV12 dc12 pm12 cd12 ct12 : Value}
    (a12 : PySem.W.nsIn K mainGlobals "_is_state" = some (some (.ref f12)))
    (l12 : K.lookup f12 = some ⟨oc12, od12, .func (PySem.W.fnOf "_is_state" "_is_state" (defArgs s__is_state) (defBody s__is_state) (defScope s__is_state) .none kV12 dc12 pm12 an12 cd12 ct12), sl12⟩) (c12 : PySem.W.codeIn K cd12 "_is_state" = true) (k12 : PySem.W.keepIn K (.ref f12) = true)
    {f13 : Addr} {od13 an13 : Option Addr} {sl13 : Array (Option Value)} {oc13 kV13 dc13 pm13 cd13 ct13 : Value}
    (a13 : PySem.W.nsIn K mainGlobals "_check_ways_out" = some (some (.ref f13)))
    (l13 : K.lookup f13 = some ⟨oc13, od13, .func (PySem.W.fnOf "_check_ways_out" "_check_ways_out" (defArgs s__check_ways_out) (defBody s__check_ways_out) (defScope s__check_ways_out) .none kV13 dc13 pm13 an13 cd13 ct13), sl13⟩) (c13 : PySem.W.codeIn K cd13 "_check_ways_out" = true) (k13 : PySem.W.keepIn K (.ref f13) = true)
    {f14 : Addr} {od14 an14 : Option Addr} {sl14 : Array (Option Value)} {oc14 kV14 dc14 pm14 cd14 ct14 : Value}
    (a14 : PySem.W.nsIn K mainGlobals "_law_box" = some (some (.ref f14)))
    (l14 : K.lookup f14 = some ⟨oc14, od14, .func (PySem.W.fnOf "_law_box" "_law_box" (defArgs s__law_box) (defBody s__law_box) (defScope s__law_box) .none kV14 dc14 pm14 an14 cd14 ct14), sl14⟩) (c14 : PySem.W.codeIn K cd14 "_law_box" = true) (k14 : PySem.W.keepIn K (.ref f14) = true)
    {f15 : Addr} {od15 an15 : Option Addr} {sl15 : Array (Option Value)} {oc15 kV15 dc15 pm15 cd15 ct15 : Value}
    (a15 : PySem.W.nsIn K mainGlobals "_law_take" = some (some (.ref f15)))
    (l15 : K.lookup f15 = some ⟨oc15, od15, .func (PySem.W.fnOf "_law_take" "_law_take" (defArgs s__law_take) (defBody s__law_take) (defScope s__law_take) .none kV15 dc15 pm15 an15 cd15 ct15), sl15⟩) (c15 : PySem.W.codeIn K cd15 "_law_take" = true) (k15 : PySem.W.keepIn K (.ref f15) = true)
    {f16 : Addr} {od16 an16 : Option Addr} {sl16 : Array (Option Value)} {oc16 kV16 dc16 pm16 cd16 ct16 : Value}
    (a16 : PySem.W.nsIn K mainGlobals "_law_gcd" = some (some (.ref f16)))
    (l16 : K.lookup f16 = some ⟨oc16, od16, .func (PySem.W.fnOf "_law_gcd" "_law_gcd" (defArgs s__law_gcd) (defBody s__law_gcd) (defScope s__law_gcd) .none kV16 dc16 pm16 an16 cd16 ct16), sl16⟩) (c16 : PySem.W.codeIn K cd16 "_law_gcd" = true) (k16 : PySem.W.keepIn K (.ref f16) = true)
    {f17 : Addr} {od17 an17 : Option Addr} {sl17 : Array (Option Value)} {oc17 kV17 dc17 pm17 cd17 ct17 : Value}
    (a17 : PySem.W.nsIn K mainGlobals "_law_ratio" = some (some (.ref f17)))
    (l17 : K.lookup f17 = some ⟨oc17, od17, .func (PySem.W.fnOf "_law_ratio" "_law_ratio" (defArgs s__law_ratio) (defBody s__law_ratio) (defScope s__law_ratio) .none kV17 dc17 pm17 an17 cd17 ct17), sl17⟩) (c17 : PySem.W.codeIn K cd17 "_law_ratio" = true) (k17 : PySem.W.keepIn K (.ref f17) = true)
    {f18 : Addr} {od18 an18 : Option Addr} {sl18 : Array (Option Value)} {oc18 kV18 dc18 pm18 cd18 ct18 : Value}
    (a18 : PySem.W.nsIn K mainGlobals "_law_word" = some (some (.ref f18)))
    (l18 : K.lookup f18 = some ⟨oc18, od18, .func (PySem.W.fnOf "_law_word" "_law_word" (defArgs s__law_word) (defBody s__law_word) (defScope s__law_word) .none kV18 dc18 pm18 an18 cd18 ct18), sl18⟩) (c18 : PySem.W.codeIn K cd18 "_law_word" = true) (k18 : PySem.W.keepIn K (.ref f18) = true)
    {f19 : Addr} {od19 an19 : Option Addr} {sl19 : Array (Option Value)} {oc19 kV19 dc19 pm19 cd19 ct19 : Value}
    (a19 : PySem.W.nsIn K mainGlobals "_law_ending" = some (some (.ref f19)))
    (l19 : K.lookup f19 = some ⟨oc19, od19, .func (PySem.W.fnOf "_law_ending" "_law_ending" (defArgs s__law_ending) (defBody s__law_ending) (defScope s__law_ending) .none kV19 dc19 pm19 an19 cd19 ct19), sl19⟩) (c19 : PySem.W.codeIn K cd19 "_law_ending" = true) (k19 : PySem.W.keepIn K (.ref f19) = true)
    {f20 : Addr} {od20 an20 : Option Addr} {sl20 : Array (Option Value)} {oc20 kV20 dc20 pm20 cd20 ct20 : Value}
    (a20 : PySem.W.nsIn K mainGlobals "_law_drawn_rows" = some (some (.ref f20)))
    (l20 : K.lookup f20 = some ⟨oc20, od20, .func (PySem.W.fnOf "_law_drawn_rows" "_law_drawn_rows" (defArgs s__law_drawn_rows) (defBody s__law_drawn_rows) (defScope s__law_drawn_rows) .none kV20 dc20 pm20 an20 cd20 ct20), sl20⟩) (c20 : PySem.W.codeIn K cd20 "_law_drawn_rows" = true) (k20 : PySem.W.keepIn K (.ref f20) = true)
    {f21 : Addr} {od21 an21 : Option Addr} {sl21 : Array (Option Value)} {oc21 kV21 dc21 pm21 cd21 ct21 : Value}
    (a21 : PySem.W.nsIn K mainGlobals "_law_valid_target" = some (some (.ref f21)))
    (l21 : K.lookup f21 = some ⟨oc21, od21, .func (PySem.W.fnOf "_law_valid_target" "_law_valid_target" (defArgs s__law_valid_target) (defBody s__law_valid_target) (defScope s__law_valid_target) .none kV21 dc21 pm21 an21 cd21 ct21), sl21⟩) (c21 : PySem.W.codeIn K cd21 "_law_valid_target" = true) (k21 : PySem.W.keepIn K (.ref f21) = true)
    {f22 : Addr} {od22 an22 : Option Addr} {sl22 : Array (Option Value)} {oc22 kV22 dc22 pm22 cd22 ct22 : Value}
    (a22 : PySem.W.nsIn K mainGlobals "_law_fault" = some (some (.ref f22)))
    (l22 : K.lookup f22 = some ⟨oc22, od22, .func (PySem.W.fnOf "_law_fault" "_law_fault" (defArgs s__law_fault) (defBody s__law_fault) (defScope s__law_fault) .none kV22 dc22 pm22 an22 cd22 ct22), sl22⟩) (c22 : PySem.W.codeIn K cd22 "_law_fault" = true) (k22 : PySem.W.keepIn K (.ref f22) = true)
    {f23 : Addr} {od23 an23 : Option Addr} {sl23 : Array (Option Value)} {oc23 kV23 dc23 pm23 cd23 ct23 : Value}
    (a23 : PySem.W.nsIn K mainGlobals "_law_agrees" = some (some (.ref f23)))
    (l23 : K.lookup f23 = some ⟨oc23, od23, .func (PySem.W.fnOf "_law_agrees" "_law_agrees" (defArgs s__law_agrees) (defBody s__law_agrees) (defScope s__law_agrees) .none kV23 dc23 pm23 an23 cd23 ct23), sl23⟩) (c23 : PySem.W.codeIn K cd23 "_law_agrees" = true) (k23 : PySem.W.keepIn K (.ref f23) = true)
    {f24 : Addr} {od24 an24 : Option Addr} {sl24 : Array (Option Value)} {oc24 kV24 dc24 pm24 cd24 ct24 : Value}
    (a24 : PySem.W.nsIn K mainGlobals "_law_spoilt" = some (some (.ref f24)))
    (l24 : K.lookup f24 = some ⟨oc24, od24, .func (PySem.W.fnOf "_law_spoilt" "_law_spoilt" (defArgs s__law_spoilt) (defBody s__law_spoilt) (defScope s__law_spoilt) .none kV24 dc24 pm24 an24 cd24 ct24), sl24⟩) (c24 : PySem.W.codeIn K cd24 "_law_spoilt" = true) (k24 : PySem.W.keepIn K (.ref f24) = true)
    {f25 : Addr} {od25 an25 : Option Addr} {sl25 : Array (Option Value)} {oc25 kV25 dc25 pm25 cd25 ct25 : Value}
    (a25 : PySem.W.nsIn K mainGlobals "law" = some (some (.ref f25)))
    (l25 : K.lookup f25 = some ⟨oc25, od25, .func (PySem.W.fnOf "law" "law" (defArgs s_law) (defBody s_law) (defScope s_law) .none kV25 dc25 pm25 an25 cd25 ct25), sl25⟩) (c25 : PySem.W.codeIn K cd25 "law" = true) (k25 : PySem.W.keepIn K (.ref f25) = true)
    (z_ValueError : PySem.W.nsIn K mainGlobals "ValueError" = some none)
    (z_abs : PySem.W.nsIn K mainGlobals "abs" = some none)
    (z_all : PySem.W.nsIn K mainGlobals "all" = some none)
    (z_any : PySem.W.nsIn K mainGlobals "any" = some none)
    (z_bool : PySem.W.nsIn K mainGlobals "bool" = some none)
    (z_enumerate : PySem.W.nsIn K mainGlobals "enumerate" = some none)
    (z_gcd : PySem.W.nsIn K mainGlobals "gcd" = some (some (.builtin "math.gcd")))
    (z_int : PySem.W.nsIn K mainGlobals "int" = some none)
    (z_isinstance : PySem.W.nsIn K mainGlobals "isinstance" = some none)
    (z_len : PySem.W.nsIn K mainGlobals "len" = some none)
    (z_list : PySem.W.nsIn K mainGlobals "list" = some none)
    (z_range : PySem.W.nsIn K mainGlobals "range" = some none)
    (z_str : PySem.W.nsIn K mainGlobals "str" = some none)
    (z_tuple : PySem.W.nsIn K mainGlobals "tuple" = some none)
    {nmInvalidWord qInvalidWord : Str} {NInvalidWord : Addr} {bsInvalidWord bmInvalidWord subInvalidWord : List Value} {snInvalidWord : List Str} {abInvalidWord : Bool} {colInvalidWord : Option Bool} {ddInvalidWord : Option Addr} {m0InvalidWord m1InvalidWord m2InvalidWord m3InvalidWord m5InvalidWord : Option Value} (x_xl_InvalidWord : K.lookup C_InvalidWord = some (excClassObj nmInvalidWord qInvalidWord C_InvalidWord NInvalidWord bsInvalidWord bmInvalidWord true snInvalidWord subInvalidWord abInvalidWord colInvalidWord ddInvalidWord m0InvalidWord m1InvalidWord m2InvalidWord m3InvalidWord m5InvalidWord "ValueError.__new__"))
    (x_ve_InvalidWord : PySem.HandSPX.refsVE bmInvalidWord = true)
    (x_sa_InvalidWord : PySem.W.findIn K (.ref C_InvalidWord) "__setattr__" = some (some (.builtin "object.__setattr__")))
    (x_ga_InvalidWord : PySem.W.findIn K (.ref C_InvalidWord) "__getattribute__" = some (some (.builtin "BaseException.__getattribute__")))
    (x_gg_InvalidWord : PySem.W.findIn K (.ref C_InvalidWord) "__getattr__" = some none)
    (x_exb_InvalidWord : PySem.W.subIn K (.ref C_InvalidWord) (.type "BaseException") = some true)
    (x_ty_InvalidWord : PySem.W.typeIn K (.ref C_InvalidWord) = some (.type "type"))
    (x_kp_InvalidWord : PySem.W.keepIn K (.ref C_InvalidWord) = true)
    (x_hd_InvalidWord : PySem.W.hasDictIn K C_InvalidWord = true)
    (x_cl_InvalidWord : (PySem.W.clsIn K C_InvalidWord).isSome = true)
    (x_ha_InvalidWord : PySem.W.findIn K (.ref C_InvalidWord) "__class__" = some (some (.builtin "object.__class__")))
    (x_hn_InvalidWord : PySem.W.specialIn K (.builtin "object.__class__") "__get__" = some (some (.builtin "getset_descriptor.__get__")))
    (x_ht_InvalidWord : PySem.W.takesIn K (.builtin "object.__class__") = some true)
    (x_hm_InvalidWord : PySem.W.mroIn K C_InvalidWord (.type "object") = some true)
    (x_no_word_InvalidWord : PySem.W.findIn K (.ref C_InvalidWord) "word" = some none)
    (x_ki_InvalidWord : PySem.W.kitOne K (.ref C_InvalidWord) (.ref C_InvalidWord) = some true)
    (x_kv_InvalidWord : PySem.W.kitOne K (.ref C_InvalidWord) (.type "ValueError") = some true)
    (x_ex_self_InvalidWord : PySem.W.exmOne K (.ref C_InvalidWord) (.ref C_InvalidWord) = some true)
    (x_exm_StopError_InvalidWord : PySem.W.exmOne K (.ref C_InvalidWord) (.ref C_StopError) = some true)
    {tkNO_WORD : Tok} (x_c_NO_WORD : PySem.W.nsIn K mainGlobals "NO_WORD" = some (some (.str "no word" tkNO_WORD)))
    {tkDIGITS : Tok} (x_c_DIGITS : PySem.W.nsIn K mainGlobals "DIGITS" = some (some (.str "0123456789" tkDIGITS)))
    {tkMOST_DIGITS : Tok} (x_c_MOST_DIGITS : PySem.W.nsIn K mainGlobals "MOST_DIGITS" = some (some (.int 30 tkMOST_DIGITS)))
    {aKI : Addr} (x_c_KINDS1 : PySem.W.nsIn K mainGlobals "KINDS" = some (some (.ref aKI)))
    {dKI : Option Addr} {nKI : Nat} {sKI : Array (Option Value)} {tKI1 tKI2 : Tok} (x_c_KINDS2 : K.lookup aKI = some ⟨.type "tuple", dKI, .seq #[.str "at least" tKI1, .str "below" tKI2] nKI, sKI⟩)
    {nmInvalidRing qInvalidRing : Str} {NInvalidRing : Addr} {bsInvalidRing bmInvalidRing subInvalidRing : List Value} {snInvalidRing : List Str} {abInvalidRing : Bool} {colInvalidRing : Option Bool} {ddInvalidRing : Option Addr} {m0InvalidRing m1InvalidRing m2InvalidRing m3InvalidRing m5InvalidRing : Option Value} (x_xl_InvalidRing : K.lookup C_InvalidRing = some (excClassObj nmInvalidRing qInvalidRing C_InvalidRing NInvalidRing bsInvalidRing bmInvalidRing true snInvalidRing subInvalidRing abInvalidRing colInvalidRing ddInvalidRing m0InvalidRing m1InvalidRing m2InvalidRing m3InvalidRing m5InvalidRing "ValueError.__new__"))
    (x_ve_InvalidRing : PySem.HandSPX.refsVE bmInvalidRing = true)
    (x_sa_InvalidRing : PySem.W.findIn K (.ref C_InvalidRing) "__setattr__" = some (some (.builtin "object.__setattr__")))
    (x_ga_InvalidRing : PySem.W.findIn K (.ref C_InvalidRing) "__getattribute__" = some (some (.builtin "BaseException.__getattribute__")))
    (x_gg_InvalidRing : PySem.W.findIn K (.ref C_InvalidRing) "__getattr__" = some none)
    (x_exb_InvalidRing : PySem.W.subIn K (.ref C_InvalidRing) (.type "BaseException") = some true)
    (x_ty_InvalidRing : PySem.W.typeIn K (.ref C_InvalidRing) = some (.type "type"))
    (x_kp_InvalidRing : PySem.W.keepIn K (.ref C_InvalidRing) = true)
    (x_hd_InvalidRing : PySem.W.hasDictIn K C_InvalidRing = true)
    (x_cl_InvalidRing : (PySem.W.clsIn K C_InvalidRing).isSome = true)
    (x_ha_InvalidRing : PySem.W.findIn K (.ref C_InvalidRing) "__class__" = some (some (.builtin "object.__class__")))
    (x_hn_InvalidRing : PySem.W.specialIn K (.builtin "object.__class__") "__get__" = some (some (.builtin "getset_descriptor.__get__")))
    (x_ht_InvalidRing : PySem.W.takesIn K (.builtin "object.__class__") = some true)
    (x_hm_InvalidRing : PySem.W.mroIn K C_InvalidRing (.type "object") = some true)
    (x_no_state_InvalidRing : PySem.W.findIn K (.ref C_InvalidRing) "state" = some none)
    (x_ki_InvalidRing : PySem.W.kitOne K (.ref C_InvalidRing) (.ref C_InvalidRing) = some true)
    (x_kv_InvalidRing : PySem.W.kitOne K (.ref C_InvalidRing) (.type "ValueError") = some true)
    (x_ex_self_InvalidRing : PySem.W.exmOne K (.ref C_InvalidRing) (.ref C_InvalidRing) = some true)
    (x_exm_StopError_InvalidRing : PySem.W.exmOne K (.ref C_InvalidRing) (.ref C_StopError) = some true)
    {nmEndless qEndless : Str} {NEndless : Addr} {bsEndless bmEndless subEndless : List Value} {snEndless : List Str} {abEndless : Bool} {colEndless : Option Bool} {ddEndless : Option Addr} {m0Endless m1Endless m2Endless m3Endless m5Endless : Option Value} (x_xl_Endless : K.lookup C_Endless = some (excClassObj nmEndless qEndless C_Endless NEndless bsEndless bmEndless true snEndless subEndless abEndless colEndless ddEndless m0Endless m1Endless m2Endless m3Endless m5Endless "ValueError.__new__"))
    (x_ve_Endless : PySem.HandSPX.refsVE bmEndless = true)
    (x_sa_Endless : PySem.W.findIn K (.ref C_Endless) "__setattr__" = some (some (.builtin "object.__setattr__")))
    (x_ga_Endless : PySem.W.findIn K (.ref C_Endless) "__getattribute__" = some (some (.builtin "BaseException.__getattribute__")))
    (x_gg_Endless : PySem.W.findIn K (.ref C_Endless) "__getattr__" = some none)
    (x_exb_Endless : PySem.W.subIn K (.ref C_Endless) (.type "BaseException") = some true)
    (x_ty_Endless : PySem.W.typeIn K (.ref C_Endless) = some (.type "type"))
    (x_kp_Endless : PySem.W.keepIn K (.ref C_Endless) = true)
    (x_hd_Endless : PySem.W.hasDictIn K C_Endless = true)
    (x_cl_Endless : (PySem.W.clsIn K C_Endless).isSome = true)
    (x_ha_Endless : PySem.W.findIn K (.ref C_Endless) "__class__" = some (some (.builtin "object.__class__")))
    (x_hn_Endless : PySem.W.specialIn K (.builtin "object.__class__") "__get__" = some (some (.builtin "getset_descriptor.__get__")))
    (x_ht_Endless : PySem.W.takesIn K (.builtin "object.__class__") = some true)
    (x_hm_Endless : PySem.W.mroIn K C_Endless (.type "object") = some true)
    (x_no_state_Endless : PySem.W.findIn K (.ref C_Endless) "state" = some none)
    (x_ki_Endless : PySem.W.kitOne K (.ref C_Endless) (.ref C_Endless) = some true)
    (x_kv_Endless : PySem.W.kitOne K (.ref C_Endless) (.type "ValueError") = some true)
    (x_ex_self_Endless : PySem.W.exmOne K (.ref C_Endless) (.ref C_Endless) = some true)
    (x_exm_StopError_Endless : PySem.W.exmOne K (.ref C_Endless) (.ref C_StopError) = some true)
    (x_rd_Ring : PySem.W.readsIn K C_Ring (.type "type") = true)
    (x_cg_Ring : PySem.W.specialIn K (.ref C_Ring) "__getattribute__" = some (some (.builtin "type.__getattribute__")))
    {tkMO : Tok} (x_mo1_Ring : PySem.W.findCls K (.ref C_Ring) (.type "type") "MOST" = some (.val (.int 6 tkMO)))
    (x_mk0_Ring : PySem.W.makesIn K C_Ring = true)
    (x_kp_Ring : PySem.W.keepIn K (.ref C_Ring) = true)
    (x_pg_Ring : PySem.W.plainGet K C_Ring Str.empty = true)
    (x_hd_Ring : PySem.W.hasDictIn K C_Ring = true)
    (x_po_Ring : PySem.W.plainOver K C_Ring = true)
    (x_sa_Ring : PySem.W.findIn K (.ref C_Ring) "__setattr__" = some (some (.builtin "object.__setattr__")))
    (x_nr_Ring : PySem.W.findIn K (.ref C_Ring) "rows" = some none)
    (x_ns_Ring : PySem.W.findIn K (.ref C_Ring) "start" = some none)
    (x_kn_InvalidRing : PySem.W.kitOne K (.ref C_InvalidRing) (.ref C_Endless) = some false)
    (x_kn_Endless : PySem.W.kitOne K (.ref C_Endless) (.ref C_InvalidRing) = some false)
    : ∃ fd : FuncData, (∀ (s : Shared) (v : Value), BindsTo s fd ⟨[v], []⟩ [("_law_script", v)]) ∧ ∀ base : Heap, K.In base → base.Ns mainGlobals mg → FnOk l.prog w K mg base CX0 13 fa fd ["_law_script"] (spLaw K) := by
  have e := hfa.symm.trans (PySem.W.mg_of X G a25)
  cases e
  have F0 := fun_mk (st := s_InvalidWord___init__) l0 c0 k0
  have F1 := fun_mk (st := s_InvalidRing___init__) l1 c1 k1
  have F2 := fun_mk (st := s_Endless___init__) l2 c2 k2
  have F3 := fun_mk (st := s_is_share) l3 c3 k3
  have F4 := fun_mk (st := s_is_integer) l4 c4 k4
  have F5 := fun_mk (st := s_read_word) l5 c5 k5
  have F6 := fun_mk (st := s_is_word) l6 c6 k6
  have F7 := fun_mk (st := s_is_number) l7 c7 k7
  have F8 := fun_mk (st := s__read_share) l8 c8 k8
  have F9 : FunD K "__init__" "Ring.__init__" (defArgs s_Ring___init__) (defBody s_Ring___init__) (defScope s_Ring___init__) [] [("start", .int 0)] f9 _ := ⟨⟨oc9, od9, .none, .ref D9, dc9, pm9, an9, cd9, ct9, sl9, rfl, l9, c9, .inl ⟨rfl, rfl⟩, .inr ⟨D9, rfl, (kwd_cons w9_0 ⟨_, rfl⟩ kwd_nil)⟩⟩, k9⟩
  have F10 := fun_mk (st := s__check_rows) l10 c10 k10
  have F11 := fun_mk (st := s__is_target) l11 c11 k11
  have F12 := fun_mk (st := s__is_state) l12 c12 k12
  have F13 := fun_mk (st := s__check_ways_out) l13 c13 k13
  have F14 := fun_mk (st := s__law_box) l14 c14 k14
  have F15 := fun_mk (st := s__law_take) l15 c15 k15
  have F16 := fun_mk (st := s__law_gcd) l16 c16 k16
  have F17 := fun_mk (st := s__law_ratio) l17 c17 k17
  have F18 := fun_mk (st := s__law_word) l18 c18 k18
  have F19 := fun_mk (st := s__law_ending) l19 c19 k19
  have F20 := fun_mk (st := s__law_drawn_rows) l20 c20 k20
  have F21 := fun_mk (st := s__law_valid_target) l21 c21 k21
  have F22 := fun_mk (st := s__law_fault) l22 c22 k22
  have F23 := fun_mk (st := s__law_agrees) l23 c23 k23
  have F24 := fun_mk (st := s__law_spoilt) l24 c24 k24
  have F25 := fun_mk (st := s_law) l25 c25 k25
  have T : Txt K mg ⟨f0, PySem.W.fnOf "__init__" "InvalidWord.__init__" (defArgs s_InvalidWord___init__) (defBody s_InvalidWord___init__) (defScope s_InvalidWord___init__) .none kV0 dc0 pm0 an0 cd0 ct0, f1, PySem.W.fnOf "__init__" "InvalidRing.__init__" (defArgs s_InvalidRing___init__) (defBody s_InvalidRing___init__) (defScope s_InvalidRing___init__) .none kV1 dc1 pm1 an1 cd1 ct1, f2, PySem.W.fnOf "__init__" "Endless.__init__" (defArgs s_Endless___init__) (defBody s_Endless___init__) (defScope s_Endless___init__) .none kV2 dc2 pm2 an2 cd2 ct2, f3, PySem.W.fnOf "is_share" "is_share" (defArgs s_is_share) (defBody s_is_share) (defScope s_is_share) .none kV3 dc3 pm3 an3 cd3 ct3, f4, PySem.W.fnOf "is_integer" "is_integer" (defArgs s_is_integer) (defBody s_is_integer) (defScope s_is_integer) .none kV4 dc4 pm4 an4 cd4 ct4, f5, PySem.W.fnOf "read_word" "read_word" (defArgs s_read_word) (defBody s_read_word) (defScope s_read_word) .none kV5 dc5 pm5 an5 cd5 ct5, f6, PySem.W.fnOf "is_word" "is_word" (defArgs s_is_word) (defBody s_is_word) (defScope s_is_word) .none kV6 dc6 pm6 an6 cd6 ct6, f7, PySem.W.fnOf "is_number" "is_number" (defArgs s_is_number) (defBody s_is_number) (defScope s_is_number) .none kV7 dc7 pm7 an7 cd7 ct7, f8, PySem.W.fnOf "_read_share" "_read_share" (defArgs s__read_share) (defBody s__read_share) (defScope s__read_share) .none kV8 dc8 pm8 an8 cd8 ct8, f9, PySem.W.fnOf "__init__" "Ring.__init__" (defArgs s_Ring___init__) (defBody s_Ring___init__) (defScope s_Ring___init__) .none (.ref D9) dc9 pm9 an9 cd9 ct9, f10, PySem.W.fnOf "_check_rows" "_check_rows" (defArgs s__check_rows) (defBody s__check_rows) (defScope s__check_rows) .none kV10 dc10 pm10 an10 cd10 ct10, f11, PySem.W.fnOf "_is_target" "_is_target" (defArgs s__is_target) (defBody s__is_target) (defScope s__is_target) .none kV11 dc11 pm11 an11 cd11 ct11, f12, PySem.W.fnOf "_is_state" "_is_state" (defArgs s__is_state) (defBody s__is_state) (defScope s__is_state) .none kV12 dc12 pm12 an12 cd12 ct12, f13, PySem.W.fnOf "_check_ways_out" "_check_ways_out" (defArgs s__check_ways_out) (defBody s__check_ways_out) (defScope s__check_ways_out) .none kV13 dc13 pm13 an13 cd13 ct13, f14, PySem.W.fnOf "_law_box" "_law_box" (defArgs s__law_box) (defBody s__law_box) (defScope s__law_box) .none kV14 dc14 pm14 an14 cd14 ct14, f15, PySem.W.fnOf "_law_take" "_law_take" (defArgs s__law_take) (defBody s__law_take) (defScope s__law_take) .none kV15 dc15 pm15 an15 cd15 ct15, f16, PySem.W.fnOf "_law_gcd" "_law_gcd" (defArgs s__law_gcd) (defBody s__law_gcd) (defScope s__law_gcd) .none kV16 dc16 pm16 an16 cd16 ct16, f17, PySem.W.fnOf "_law_ratio" "_law_ratio" (defArgs s__law_ratio) (defBody s__law_ratio) (defScope s__law_ratio) .none kV17 dc17 pm17 an17 cd17 ct17, f18, PySem.W.fnOf "_law_word" "_law_word" (defArgs s__law_word) (defBody s__law_word) (defScope s__law_word) .none kV18 dc18 pm18 an18 cd18 ct18, f19, PySem.W.fnOf "_law_ending" "_law_ending" (defArgs s__law_ending) (defBody s__law_ending) (defScope s__law_ending) .none kV19 dc19 pm19 an19 cd19 ct19, f20, PySem.W.fnOf "_law_drawn_rows" "_law_drawn_rows" (defArgs s__law_drawn_rows) (defBody s__law_drawn_rows) (defScope s__law_drawn_rows) .none kV20 dc20 pm20 an20 cd20 ct20, f21, PySem.W.fnOf "_law_valid_target" "_law_valid_target" (defArgs s__law_valid_target) (defBody s__law_valid_target) (defScope s__law_valid_target) .none kV21 dc21 pm21 an21 cd21 ct21, f22, PySem.W.fnOf "_law_fault" "_law_fault" (defArgs s__law_fault) (defBody s__law_fault) (defScope s__law_fault) .none kV22 dc22 pm22 an22 cd22 ct22, f23, PySem.W.fnOf "_law_agrees" "_law_agrees" (defArgs s__law_agrees) (defBody s__law_agrees) (defScope s__law_agrees) .none kV23 dc23 pm23 an23 cd23 ct23, f24, PySem.W.fnOf "_law_spoilt" "_law_spoilt" (defArgs s__law_spoilt) (defBody s__law_spoilt) (defScope s__law_spoilt) .none kV24 dc24 pm24 an24 cd24 ct24, fa, PySem.W.fnOf "law" "law" (defArgs s_law) (defBody s_law) (defScope s_law) .none kV25 dc25 pm25 an25 cd25 ct25, C_StopError, C_InvalidWord, C_InvalidRing, C_Endless, C_Ring⟩ := {
    F_InvalidWord___init__ := F0
    k_InvalidWord___init__ := k0
    b_InvalidWord___init__ := F0.binds (ps := ["self", "word"]) (fun _ _ _ _ _ _ us hl => (match us, hl with | [_, _], _ => rfl))
    m_InvalidWord___init__ := a0
    i_InvalidWord___init__ := i0
    t_InvalidWord___init__ := t0
    F_InvalidRing___init__ := F1
    k_InvalidRing___init__ := k1
    b_InvalidRing___init__ := F1.binds (ps := ["self", "state"]) (fun _ _ _ _ _ _ us hl => (match us, hl with | [_, _], _ => rfl))
    m_InvalidRing___init__ := a1
    i_InvalidRing___init__ := i1
    t_InvalidRing___init__ := t1
    F_Endless___init__ := F2
    k_Endless___init__ := k2
    b_Endless___init__ := F2.binds (ps := ["self", "state"]) (fun _ _ _ _ _ _ us hl => (match us, hl with | [_, _], _ => rfl))
    m_Endless___init__ := a2
    i_Endless___init__ := i2
    t_Endless___init__ := t2
    F_is_share := F3
    k_is_share := k3
    b_is_share := F3.binds (ps := ["value"]) (fun _ _ _ _ _ _ us hl => (match us, hl with | [_], _ => rfl))
    g_is_share := PySem.W.mg_of X G a3
    F_is_integer := F4
    k_is_integer := k4
    b_is_integer := F4.binds (ps := ["value"]) (fun _ _ _ _ _ _ us hl => (match us, hl with | [_], _ => rfl))
    g_is_integer := PySem.W.mg_of X G a4
    F_read_word := F5
    k_read_word := k5
    b_read_word := F5.binds (ps := ["word"]) (fun _ _ _ _ _ _ us hl => (match us, hl with | [_], _ => rfl))
    g_read_word := PySem.W.mg_of X G a5
    F_is_word := F6
    k_is_word := k6
    b_is_word := F6.binds (ps := ["text"]) (fun _ _ _ _ _ _ us hl => (match us, hl with | [_], _ => rfl))
    g_is_word := PySem.W.mg_of X G a6
    F_is_number := F7
    k_is_number := k7
    b_is_number := F7.binds (ps := ["text"]) (fun _ _ _ _ _ _ us hl => (match us, hl with | [_], _ => rfl))
    g_is_number := PySem.W.mg_of X G a7
    F__read_share := F8
    k__read_share := k8
    b__read_share := F8.binds (ps := ["word", "text"]) (fun _ _ _ _ _ _ us hl => (match us, hl with | [_, _], _ => rfl))
    g__read_share := PySem.W.mg_of X G a8
    F_Ring___init__ := F9
    k_Ring___init__ := k9
    m_Ring___init__ := a9
    i_Ring___init__ := i9
    t_Ring___init__ := t9
    F__check_rows := F10
    k__check_rows := k10
    b__check_rows := F10.binds (ps := ["rows"]) (fun _ _ _ _ _ _ us hl => (match us, hl with | [_], _ => rfl))
    g__check_rows := PySem.W.mg_of X G a10
    F__is_target := F11
    k__is_target := k11
    b__is_target := F11.binds (ps := ["target", "states"]) (fun _ _ _ _ _ _ us hl => (match us, hl with | [_, _], _ => rfl))
    g__is_target := PySem.W.mg_of X G a11
    F__is_state := F12
    k__is_state := k12
    b__is_state := F12.binds (ps := ["number", "states"]) (fun _ _ _ _ _ _ us hl => (match us, hl with | [_, _], _ => rfl))
    g__is_state := PySem.W.mg_of X G a12
    F__check_ways_out := F13
    k__check_ways_out := k13
    b__check_ways_out := F13.binds (ps := ["rows"]) (fun _ _ _ _ _ _ us hl => (match us, hl with | [_], _ => rfl))
    g__check_ways_out := PySem.W.mg_of X G a13
    F__law_box := F14
    k__law_box := k14
    b__law_box := F14.binds (ps := ["_law_script"]) (fun _ _ _ _ _ _ us hl => (match us, hl with | [_], _ => rfl))
    g__law_box := PySem.W.mg_of X G a14
    F__law_take := F15
    k__law_take := k15
    b__law_take := F15.binds (ps := ["_law_box_here", "_law_size"]) (fun _ _ _ _ _ _ us hl => (match us, hl with | [_, _], _ => rfl))
    g__law_take := PySem.W.mg_of X G a15
    F__law_gcd := F16
    k__law_gcd := k16
    b__law_gcd := F16.binds (ps := ["_law_a", "_law_b"]) (fun _ _ _ _ _ _ us hl => (match us, hl with | [_, _], _ => rfl))
    g__law_gcd := PySem.W.mg_of X G a16
    F__law_ratio := F17
    k__law_ratio := k17
    b__law_ratio := F17.binds (ps := ["_law_num", "_law_den"]) (fun _ _ _ _ _ _ us hl => (match us, hl with | [_, _], _ => rfl))
    g__law_ratio := PySem.W.mg_of X G a17
    F__law_word := F18
    k__law_word := k18
    b__law_word := F18.binds (ps := ["_law_box_here"]) (fun _ _ _ _ _ _ us hl => (match us, hl with | [_], _ => rfl))
    g__law_word := PySem.W.mg_of X G a18
    F__law_ending := F19
    k__law_ending := k19
    b__law_ending := F19.binds (ps := ["_law_rows_here"]) (fun _ _ _ _ _ _ us hl => (match us, hl with | [_], _ => rfl))
    g__law_ending := PySem.W.mg_of X G a19
    F__law_drawn_rows := F20
    k__law_drawn_rows := k20
    b__law_drawn_rows := F20.binds (ps := ["_law_box_here", "_law_size"]) (fun _ _ _ _ _ _ us hl => (match us, hl with | [_, _], _ => rfl))
    g__law_drawn_rows := PySem.W.mg_of X G a20
    F__law_valid_target := F21
    k__law_valid_target := k21
    b__law_valid_target := F21.binds (ps := ["_law_target", "_law_size"]) (fun _ _ _ _ _ _ us hl => (match us, hl with | [_, _], _ => rfl))
    g__law_valid_target := PySem.W.mg_of X G a21
    F__law_fault := F22
    k__law_fault := k22
    b__law_fault := F22.binds (ps := ["_law_rows_here", "_law_first"]) (fun _ _ _ _ _ _ us hl => (match us, hl with | [_, _], _ => rfl))
    g__law_fault := PySem.W.mg_of X G a22
    F__law_agrees := F23
    k__law_agrees := k23
    b__law_agrees := F23.binds (ps := ["_law_rows_here", "_law_first"]) (fun _ _ _ _ _ _ us hl => (match us, hl with | [_, _], _ => rfl))
    g__law_agrees := PySem.W.mg_of X G a23
    F__law_spoilt := F24
    k__law_spoilt := k24
    b__law_spoilt := F24.binds (ps := ["_law_box_here", "_law_given"]) (fun _ _ _ _ _ _ us hl => (match us, hl with | [_, _], _ => rfl))
    g__law_spoilt := PySem.W.mg_of X G a24
    F_law := F25
    k_law := k25
    b_law := F25.binds (ps := ["_law_script"]) (fun _ _ _ _ _ _ us hl => (match us, hl with | [_], _ => rfl))
    g_law := PySem.W.mg_of X G a25
    z_ValueError := PySem.W.mg_none_of X G z_ValueError
    z_abs := PySem.W.mg_none_of X G z_abs
    z_all := PySem.W.mg_none_of X G z_all
    z_any := PySem.W.mg_none_of X G z_any
    z_bool := PySem.W.mg_none_of X G z_bool
    z_enumerate := PySem.W.mg_none_of X G z_enumerate
    g_gcd := PySem.W.mg_of X G z_gcd
    z_int := PySem.W.mg_none_of X G z_int
    z_isinstance := PySem.W.mg_none_of X G z_isinstance
    z_len := PySem.W.mg_none_of X G z_len
    z_list := PySem.W.mg_none_of X G z_list
    z_range := PySem.W.mg_none_of X G z_range
    z_str := PySem.W.mg_none_of X G z_str
    z_tuple := PySem.W.mg_none_of X G z_tuple
    g_StopError := PySem.W.mg_of X G aC_StopError
    g_InvalidWord := PySem.W.mg_of X G aC_InvalidWord
    g_InvalidRing := PySem.W.mg_of X G aC_InvalidRing
    g_Endless := PySem.W.mg_of X G aC_Endless
    g_Ring := PySem.W.mg_of X G aC_Ring
    sa_InvalidWord := x_sa_InvalidWord
    ga_InvalidWord := x_ga_InvalidWord
    gg_InvalidWord := x_gg_InvalidWord
    exb_InvalidWord := x_exb_InvalidWord
    ty_InvalidWord := x_ty_InvalidWord
    kp_InvalidWord := x_kp_InvalidWord
    hd_InvalidWord := x_hd_InvalidWord
    cl_InvalidWord := x_cl_InvalidWord
    ha_InvalidWord := x_ha_InvalidWord
    hn_InvalidWord := x_hn_InvalidWord
    ht_InvalidWord := x_ht_InvalidWord
    hm_InvalidWord := x_hm_InvalidWord
    no_word_InvalidWord := x_no_word_InvalidWord
    ki_InvalidWord := x_ki_InvalidWord
    kv_InvalidWord := x_kv_InvalidWord
    oex_InvalidWord := ⟨⟨_, _, _, _, _, _, _, _, _, _, _, _, _, _, _, x_xl_InvalidWord, x_ve_InvalidWord⟩, x_sa_InvalidWord, x_exb_InvalidWord, x_ty_InvalidWord, x_kp_InvalidWord⟩
    exk_InvalidWord := ⟨x_cl_InvalidWord, x_ga_InvalidWord, x_gg_InvalidWord, x_exb_InvalidWord, x_ha_InvalidWord, x_hn_InvalidWord, x_ht_InvalidWord, x_hm_InvalidWord⟩
    xf_InvalidWord := ⟨x_ga_InvalidWord, x_gg_InvalidWord, x_exb_InvalidWord, x_hd_InvalidWord⟩
    ex_self_InvalidWord := x_ex_self_InvalidWord
    exm_StopError_InvalidWord := x_exm_StopError_InvalidWord
    c_NO_WORD := ⟨_, PySem.W.mg_of X G x_c_NO_WORD⟩
    c_DIGITS := ⟨_, PySem.W.mg_of X G x_c_DIGITS⟩
    c_MOST_DIGITS := ⟨_, PySem.W.mg_of X G x_c_MOST_DIGITS⟩
    c_KINDS := ⟨aKI, PySem.W.mg_of X G x_c_KINDS1, fun _ => .inr ⟨_, _, _, x_c_KINDS2, rfl, rfl, (by show 2 ≤ sizeLine; decide), .cons ⟨tKI1, by rw [← e_at]⟩ (.cons ⟨tKI2, by rw [← e_be]⟩ .nil)⟩⟩
    sa_InvalidRing := x_sa_InvalidRing
    ga_InvalidRing := x_ga_InvalidRing
    gg_InvalidRing := x_gg_InvalidRing
    exb_InvalidRing := x_exb_InvalidRing
    ty_InvalidRing := x_ty_InvalidRing
    kp_InvalidRing := x_kp_InvalidRing
    hd_InvalidRing := x_hd_InvalidRing
    cl_InvalidRing := x_cl_InvalidRing
    ha_InvalidRing := x_ha_InvalidRing
    hn_InvalidRing := x_hn_InvalidRing
    ht_InvalidRing := x_ht_InvalidRing
    hm_InvalidRing := x_hm_InvalidRing
    no_state_InvalidRing := x_no_state_InvalidRing
    ki_InvalidRing := x_ki_InvalidRing
    kv_InvalidRing := x_kv_InvalidRing
    oex_InvalidRing := ⟨⟨_, _, _, _, _, _, _, _, _, _, _, _, _, _, _, x_xl_InvalidRing, x_ve_InvalidRing⟩, x_sa_InvalidRing, x_exb_InvalidRing, x_ty_InvalidRing, x_kp_InvalidRing⟩
    exk_InvalidRing := ⟨x_cl_InvalidRing, x_ga_InvalidRing, x_gg_InvalidRing, x_exb_InvalidRing, x_ha_InvalidRing, x_hn_InvalidRing, x_ht_InvalidRing, x_hm_InvalidRing⟩
    xf_InvalidRing := ⟨x_ga_InvalidRing, x_gg_InvalidRing, x_exb_InvalidRing, x_hd_InvalidRing⟩
    ex_self_InvalidRing := x_ex_self_InvalidRing
    exm_StopError_InvalidRing := x_exm_StopError_InvalidRing
    sa_Endless := x_sa_Endless
    ga_Endless := x_ga_Endless
    gg_Endless := x_gg_Endless
    exb_Endless := x_exb_Endless
    ty_Endless := x_ty_Endless
    kp_Endless := x_kp_Endless
    hd_Endless := x_hd_Endless
    cl_Endless := x_cl_Endless
    ha_Endless := x_ha_Endless
    hn_Endless := x_hn_Endless
    ht_Endless := x_ht_Endless
    hm_Endless := x_hm_Endless
    no_state_Endless := x_no_state_Endless
    ki_Endless := x_ki_Endless
    kv_Endless := x_kv_Endless
    oex_Endless := ⟨⟨_, _, _, _, _, _, _, _, _, _, _, _, _, _, _, x_xl_Endless, x_ve_Endless⟩, x_sa_Endless, x_exb_Endless, x_ty_Endless, x_kp_Endless⟩
    exk_Endless := ⟨x_cl_Endless, x_ga_Endless, x_gg_Endless, x_exb_Endless, x_ha_Endless, x_hn_Endless, x_ht_Endless, x_hm_Endless⟩
    xf_Endless := ⟨x_ga_Endless, x_gg_Endless, x_exb_Endless, x_hd_Endless⟩
    ex_self_Endless := x_ex_self_Endless
    exm_StopError_Endless := x_exm_StopError_Endless
    rd_Ring := x_rd_Ring
    cg_Ring := x_cg_Ring
    mo_Ring := ⟨_, x_mo1_Ring, ⟨_, rfl⟩⟩
    mk0_Ring := x_mk0_Ring
    kp_Ring := x_kp_Ring
    pg_Ring := x_pg_Ring
    hd_Ring := x_hd_Ring
    po_Ring := x_po_Ring
    sa_Ring := x_sa_Ring
    nr_Ring := x_nr_Ring
    ns_Ring := x_ns_Ring
    kn_InvalidRing := x_kn_InvalidRing
    kn_Endless := x_kn_Endless }
  exact ⟨_, fun s v => .of_eq rfl, fun base _ _ => ok_law T⟩
theorem walk {l : PySem.W.OpenLaw} {q : Program} {loose : List Str} {XP : (Str → Option Value) → Heap → Prop} {YP : World → Heap → Prop} {d : DefRec} {K : Params → PySem.W.Frag} (hn : l.most = some 63) (hdf : d.params.defaults = [])
    (hY : ∀ (w : World) (h : Heap), YP w h → (K w.params).In h)
    (F : ∀ (w : World) (mg : Str → Option Value) (fa : Addr) (h : Heap), (K w.params).In h → h.Ns mainGlobals mg → mg d.name = some (.ref fa) →
      ∃ fd : FuncData, (∀ (s : Shared) (u : Value), BindsTo s fd ⟨[u], []⟩ [("_law_script", u)]) ∧ ∀ base : Heap, (K w.params).In base → base.Ns mainGlobals mg → FnOk l.prog w (K w.params) mg base CX0 13 fa fd ["_law_script"] (spLaw (K w.params))) :
    PySem.W.WalkO q loose XP YP l.row.toRowW d [] (fun f vs => PySem.call f vs) :=
  L2.walk_of (n := 63) (k := 13) (x := "_law_script") (CX := fun _ => CX0) (sp := fun w => spLaw (K w.params)) hn (by decide) hdf ⟨rfl, by decide, by decide⟩ hY F (fun _ _ a ns hl _ hS => ⟨a, ns, rfl, hS, hl, fun _ => rfl⟩) fun _ _ _ _ _ z => z
end Pf

open PySem PySem.W PyProof.Rows in
set_option maxRecDepth 100000 in
set_option maxHeartbeats 0 in
theorem PySem.Challenge.cw_lookstop_k52_rings_accepted_or_refused_holds : PySem.Challenge.rw_lookstop_k52_rings_accepted_or_refused.Holds := by
  w_on; o_law; k_head; (case hw => w_witness2)
  k_fill
  refine Pf.walk (l := PySem.Challenge.rw_lookstop_k52_rings_accepted_or_refused) rfl rfl (fun w h Y => PySem.W.kIn_of Y) ?F
  case F =>
    intro w mg fa h KX G hmg
    refine' Pf.all_mk KX G hmg (aC_StopError := ?aC_StopError) (aC_InvalidWord := ?aC_InvalidWord) (aC_InvalidRing := ?aC_InvalidRing) (aC_Endless := ?aC_Endless) (aC_Ring := ?aC_Ring) (a0 := ?a0) (i0 := ?i0) (t0 := ?t0) (l0 := ?l0) (c0 := ?c0) (k0 := ?k0) (a1 := ?a1) (i1 := ?i1) (t1 := ?t1) (l1 := ?l1) (c1 := ?c1) (k1 := ?k1) (a2 := ?a2) (i2 := ?i2) (t2 := ?t2) (l2 := ?l2) (c2 := ?c2) (k2 := ?k2) (a3 := ?a3) (l3 := ?l3) (c3 := ?c3) (k3 := ?k3) (a4 := ?a4) (l4 := ?l4) (c4 := ?c4) (k4 := ?k4) (a5 := ?a5) (l5 := ?l5) (c5 := ?c5) (k5 := ?k5) (a6 := ?a6) (l6 := ?l6) (c6 := ?c6) (k6 := ?k6) (a7 := ?a7) (l7 := ?l7) (c7 := ?c7) (k7 := ?k7) (a8 := ?a8) (l8 := ?l8) (c8 := ?c8) (k8 := ?k8) (a9 := ?a9) (i9 := ?i9) (t9 := ?t9) (l9 := ?l9) (c9 := ?c9) (k9 := ?k9) (w9_0 := ?w9_0) (a10 := ?a10) (l10 := ?l10) (c10 := ?c10) (k10 := ?k10) (a11 := ?a11) (l11 := ?l11) (c11 := ?c11) (k11 := ?k11) (a12 := ?a12) (l12 := ?l12) (c12 := ?c12) (k12 := ?k12) (a13 := ?a13) (l13 := ?l13) (c13 := ?c13) (k13 := ?k13) (a14 := ?a14) (l14 := ?l14) (c14 := ?c14) (k14 := ?k14) (a15 := ?a15) (l15 := ?l15) (c15 := ?c15) (k15 := ?k15) (a16 := ?a16) (l16 := ?l16) (c16 := ?c16) (k16 := ?k16) (a17 := ?a17) (l17 := ?l17) (c17 := ?c17) (k17 := ?k17) (a18 := ?a18) (l18 := ?l18) (c18 := ?c18) (k18 := ?k18) (a19 := ?a19) (l19 := ?l19) (c19 := ?c19) (k19 := ?k19) (a20 := ?a20) (l20 := ?l20) (c20 := ?c20) (k20 := ?k20) (a21 := ?a21) (l21 := ?l21) (c21 := ?c21) (k21 := ?k21) (a22 := ?a22) (l22 := ?l22) (c22 := ?c22) (k22 := ?k22) (a23 := ?a23) (l23 := ?l23) (c23 := ?c23) (k23 := ?k23) (a24 := ?a24) (l24 := ?l24) (c24 := ?c24) (k24 := ?k24) (a25 := ?a25) (l25 := ?l25) (c25 := ?c25) (k25 := ?k25) (z_ValueError := ?z_ValueError) (z_abs := ?z_abs) (z_all := ?z_all) (z_any := ?z_any) (z_bool := ?z_bool) (z_enumerate := ?z_enumerate) (z_gcd := ?z_gcd) (z_int := ?z_int) (z_isinstance := ?z_isinstance) (z_len := ?z_len) (z_list := ?z_list) (z_range := ?z_range) (z_str := ?z_str) (z_tuple := ?z_tuple) (x_xl_InvalidWord := ?x_xl_InvalidWord) (x_ve_InvalidWord := ?x_ve_InvalidWord) (x_sa_InvalidWord := ?x_sa_InvalidWord) (x_ga_InvalidWord := ?x_ga_InvalidWord) (x_gg_InvalidWord := ?x_gg_InvalidWord) (x_exb_InvalidWord := ?x_exb_InvalidWord) (x_ty_InvalidWord := ?x_ty_InvalidWord) (x_kp_InvalidWord := ?x_kp_InvalidWord) (x_hd_InvalidWord := ?x_hd_InvalidWord) (x_cl_InvalidWord := ?x_cl_InvalidWord) (x_ha_InvalidWord := ?x_ha_InvalidWord) (x_hn_InvalidWord := ?x_hn_InvalidWord) (x_ht_InvalidWord := ?x_ht_InvalidWord) (x_hm_InvalidWord := ?x_hm_InvalidWord) (x_no_word_InvalidWord := ?x_no_word_InvalidWord) (x_ki_InvalidWord := ?x_ki_InvalidWord) (x_kv_InvalidWord := ?x_kv_InvalidWord) (x_ex_self_InvalidWord := ?x_ex_self_InvalidWord) (x_exm_StopError_InvalidWord := ?x_exm_StopError_InvalidWord) (x_c_NO_WORD := ?x_c_NO_WORD) (x_c_DIGITS := ?x_c_DIGITS) (x_c_MOST_DIGITS := ?x_c_MOST_DIGITS) (x_c_KINDS1 := ?x_c_KINDS1) (x_c_KINDS2 := ?x_c_KINDS2) (x_xl_InvalidRing := ?x_xl_InvalidRing) (x_ve_InvalidRing := ?x_ve_InvalidRing) (x_sa_InvalidRing := ?x_sa_InvalidRing) (x_ga_InvalidRing := ?x_ga_InvalidRing) (x_gg_InvalidRing := ?x_gg_InvalidRing) (x_exb_InvalidRing := ?x_exb_InvalidRing) (x_ty_InvalidRing := ?x_ty_InvalidRing) (x_kp_InvalidRing := ?x_kp_InvalidRing) (x_hd_InvalidRing := ?x_hd_InvalidRing) (x_cl_InvalidRing := ?x_cl_InvalidRing) (x_ha_InvalidRing := ?x_ha_InvalidRing) (x_hn_InvalidRing := ?x_hn_InvalidRing) (x_ht_InvalidRing := ?x_ht_InvalidRing) (x_hm_InvalidRing := ?x_hm_InvalidRing) (x_no_state_InvalidRing := ?x_no_state_InvalidRing) (x_ki_InvalidRing := ?x_ki_InvalidRing) (x_kv_InvalidRing := ?x_kv_InvalidRing) (x_ex_self_InvalidRing := ?x_ex_self_InvalidRing) (x_exm_StopError_InvalidRing := ?x_exm_StopError_InvalidRing) (x_xl_Endless := ?x_xl_Endless) (x_ve_Endless := ?x_ve_Endless) (x_sa_Endless := ?x_sa_Endless) (x_ga_Endless := ?x_ga_Endless) (x_gg_Endless := ?x_gg_Endless) (x_exb_Endless := ?x_exb_Endless) (x_ty_Endless := ?x_ty_Endless) (x_kp_Endless := ?x_kp_Endless) (x_hd_Endless := ?x_hd_Endless) (x_cl_Endless := ?x_cl_Endless) (x_ha_Endless := ?x_ha_Endless) (x_hn_Endless := ?x_hn_Endless) (x_ht_Endless := ?x_ht_Endless) (x_hm_Endless := ?x_hm_Endless) (x_no_state_Endless := ?x_no_state_Endless) (x_ki_Endless := ?x_ki_Endless) (x_kv_Endless := ?x_kv_Endless) (x_ex_self_Endless := ?x_ex_self_Endless) (x_exm_StopError_Endless := ?x_exm_StopError_Endless) (x_rd_Ring := ?x_rd_Ring) (x_cg_Ring := ?x_cg_Ring) (x_mo1_Ring := ?x_mo1_Ring) (x_mk0_Ring := ?x_mk0_Ring) (x_kp_Ring := ?x_kp_Ring) (x_pg_Ring := ?x_pg_Ring) (x_hd_Ring := ?x_hd_Ring) (x_po_Ring := ?x_po_Ring) (x_sa_Ring := ?x_sa_Ring) (x_nr_Ring := ?x_nr_Ring) (x_ns_Ring := ?x_ns_Ring) (x_kn_InvalidRing := ?x_kn_InvalidRing) (x_kn_Endless := ?x_kn_Endless)
    (case aC_StopError => k_is)
    (case aC_InvalidWord => k_is)
    (case aC_InvalidRing => k_is)
    (case aC_Endless => k_is)
    (case aC_Ring => k_is)
    (case a0 => k_is)
    (case i0 => k_is)
    (case t0 => k_is)
    (case l0 => k_is)
    (case c0 => k_is)
    (case k0 => k_is)
    (case a1 => k_is)
    (case i1 => k_is)
    (case t1 => k_is)
    (case l1 => k_is)
    (case c1 => k_is)
    (case k1 => k_is)
    (case a2 => k_is)
    (case i2 => k_is)
    (case t2 => k_is)
    (case l2 => k_is)
    (case c2 => k_is)
    (case k2 => k_is)
    (case a3 => k_is)
    (case l3 => k_is)
    (case c3 => k_is)
    (case k3 => k_is)
    (case a4 => k_is)
    (case l4 => k_is)
    (case c4 => k_is)
    (case k4 => k_is)
    (case a5 => k_is)
    (case l5 => k_is)
    (case c5 => k_is)
    (case k5 => k_is)
    (case a6 => k_is)
    (case l6 => k_is)
    (case c6 => k_is)
    (case k6 => k_is)
    (case a7 => k_is)
    (case l7 => k_is)
    (case c7 => k_is)
    (case k7 => k_is)
    (case a8 => k_is)
    (case l8 => k_is)
    (case c8 => k_is)
    (case k8 => k_is)
    (case a9 => k_is)
    (case i9 => k_is)
    (case t9 => k_is)
    (case l9 => k_is)
    (case c9 => k_is)
    (case k9 => k_is)
    (case w9_0 => k_is)
    (case a10 => k_is)
    (case l10 => k_is)
    (case c10 => k_is)
    (case k10 => k_is)
    (case a11 => k_is)
    (case l11 => k_is)
    (case c11 => k_is)
    (case k11 => k_is)
    (case a12 => k_is)
    (case l12 => k_is)
    (case c12 => k_is)
    (case k12 => k_is)
    (case a13 => k_is)
    (case l13 => k_is)
    (case c13 => k_is)
    (case k13 => k_is)
    (case a14 => k_is)
    (case l14 => k_is)
    (case c14 => k_is)
    (case k14 => k_is)
    (case a15 => k_is)
    (case l15 => k_is)
    (case c15 => k_is)
    (case k15 => k_is)
    (case a16 => k_is)
    (case l16 => k_is)
    (case c16 => k_is)
    (case k16 => k_is)
    (case a17 => k_is)
    (case l17 => k_is)
    (case c17 => k_is)
    (case k17 => k_is)
    (case a18 => k_is)
    (case l18 => k_is)
    (case c18 => k_is)
    (case k18 => k_is)
    (case a19 => k_is)
    (case l19 => k_is)
    (case c19 => k_is)
    (case k19 => k_is)
    (case a20 => k_is)
    (case l20 => k_is)
    (case c20 => k_is)
    (case k20 => k_is)
    (case a21 => k_is)
    (case l21 => k_is)
    (case c21 => k_is)
    (case k21 => k_is)
    (case a22 => k_is)
    (case l22 => k_is)
    (case c22 => k_is)
    (case k22 => k_is)
    (case a23 => k_is)
    (case l23 => k_is)
    (case c23 => k_is)
    (case k23 => k_is)
    (case a24 => k_is)
    (case l24 => k_is)
    (case c24 => k_is)
    (case k24 => k_is)
    (case a25 => k_is)
    (case l25 => k_is)
    (case c25 => k_is)
    (case k25 => k_is)
    (case z_ValueError => k_is)
    (case z_abs => k_is)
    (case z_all => k_is)
    (case z_any => k_is)
    (case z_bool => k_is)
    (case z_enumerate => k_is)
    (case z_gcd => k_is)
    (case z_int => k_is)
    (case z_isinstance => k_is)
    (case z_len => k_is)
    (case z_list => k_is)
    (case z_range => k_is)
    (case z_str => k_is)
    (case z_tuple => k_is)
    (case x_xl_InvalidWord => first | k_is | kit_is | rfl)
    (case x_ve_InvalidWord => first | rfl | decide +kernel)
    (case x_sa_InvalidWord => first | k_is | kit_is | rfl)
    (case x_ga_InvalidWord => first | k_is | kit_is | rfl)
    (case x_gg_InvalidWord => first | k_is | kit_is | rfl)
    (case x_exb_InvalidWord => first | k_is | kit_is | rfl)
    (case x_ty_InvalidWord => first | k_is | kit_is | rfl)
    (case x_kp_InvalidWord => first | k_is | kit_is | rfl)
    (case x_hd_InvalidWord => first | k_is | kit_is | rfl)
    (case x_cl_InvalidWord => first | k_is | rfl | decide +kernel)
    (case x_ha_InvalidWord => first | k_is | kit_is | rfl)
    (case x_hn_InvalidWord => first | k_is | kit_is | rfl)
    (case x_ht_InvalidWord => first | k_is | kit_is | rfl)
    (case x_hm_InvalidWord => first | k_is | kit_is | rfl)
    (case x_no_word_InvalidWord => first | k_is | kit_is | rfl)
    (case x_ki_InvalidWord => first | k_is | kit_is | rfl)
    (case x_kv_InvalidWord => first | k_is | kit_is | rfl)
    (case x_ex_self_InvalidWord => first | k_is | kit_is | rfl)
    (case x_exm_StopError_InvalidWord => first | k_is | kit_is | rfl)
    (case x_c_NO_WORD => first | k_is | kit_is | rfl)
    (case x_c_DIGITS => first | k_is | kit_is | rfl)
    (case x_c_MOST_DIGITS => first | k_is | kit_is | rfl)
    (case x_c_KINDS1 => first | k_is | kit_is | rfl)
    (case x_c_KINDS2 => first | k_is | kit_is | rfl)
    (case x_xl_InvalidRing => first | k_is | kit_is | rfl)
    (case x_ve_InvalidRing => first | rfl | decide +kernel)
    (case x_sa_InvalidRing => first | k_is | kit_is | rfl)
    (case x_ga_InvalidRing => first | k_is | kit_is | rfl)
    (case x_gg_InvalidRing => first | k_is | kit_is | rfl)
    (case x_exb_InvalidRing => first | k_is | kit_is | rfl)
    (case x_ty_InvalidRing => first | k_is | kit_is | rfl)
    (case x_kp_InvalidRing => first | k_is | kit_is | rfl)
    (case x_hd_InvalidRing => first | k_is | kit_is | rfl)
    (case x_cl_InvalidRing => first | k_is | rfl | decide +kernel)
    (case x_ha_InvalidRing => first | k_is | kit_is | rfl)
    (case x_hn_InvalidRing => first | k_is | kit_is | rfl)
    (case x_ht_InvalidRing => first | k_is | kit_is | rfl)
    (case x_hm_InvalidRing => first | k_is | kit_is | rfl)
    (case x_no_state_InvalidRing => first | k_is | kit_is | rfl)
    (case x_ki_InvalidRing => first | k_is | kit_is | rfl)
    (case x_kv_InvalidRing => first | k_is | kit_is | rfl)
    (case x_ex_self_InvalidRing => first | k_is | kit_is | rfl)
    (case x_exm_StopError_InvalidRing => first | k_is | kit_is | rfl)
    (case x_xl_Endless => first | k_is | kit_is | rfl)
    (case x_ve_Endless => first | rfl | decide +kernel)
    (case x_sa_Endless => first | k_is | kit_is | rfl)
    (case x_ga_Endless => first | k_is | kit_is | rfl)
    (case x_gg_Endless => first | k_is | kit_is | rfl)
    (case x_exb_Endless => first | k_is | kit_is | rfl)
    (case x_ty_Endless => first | k_is | kit_is | rfl)
    (case x_kp_Endless => first | k_is | kit_is | rfl)
    (case x_hd_Endless => first | k_is | kit_is | rfl)
    (case x_cl_Endless => first | k_is | rfl | decide +kernel)
    (case x_ha_Endless => first | k_is | kit_is | rfl)
    (case x_hn_Endless => first | k_is | kit_is | rfl)
    (case x_ht_Endless => first | k_is | kit_is | rfl)
    (case x_hm_Endless => first | k_is | kit_is | rfl)
    (case x_no_state_Endless => first | k_is | kit_is | rfl)
    (case x_ki_Endless => first | k_is | kit_is | rfl)
    (case x_kv_Endless => first | k_is | kit_is | rfl)
    (case x_ex_self_Endless => first | k_is | kit_is | rfl)
    (case x_exm_StopError_Endless => first | k_is | kit_is | rfl)
    (case x_rd_Ring => first | k_is | kit_is | rfl)
    (case x_cg_Ring => first | k_is | kit_is | rfl)
    (case x_mo1_Ring => first | k_is | kit_is | rfl)
    (case x_mk0_Ring => first | k_is | kit_is | rfl)
    (case x_kp_Ring => first | k_is | kit_is | rfl)
    (case x_pg_Ring => first | k_is | kit_is | rfl)
    (case x_hd_Ring => first | k_is | kit_is | rfl)
    (case x_po_Ring => first | k_is | kit_is | rfl)
    (case x_sa_Ring => first | k_is | kit_is | rfl)
    (case x_nr_Ring => first | k_is | kit_is | rfl)
    (case x_ns_Ring => first | k_is | kit_is | rfl)
    (case x_kn_InvalidRing => first | k_is | kit_is | rfl)
    (case x_kn_Endless => first | k_is | kit_is | rfl)
