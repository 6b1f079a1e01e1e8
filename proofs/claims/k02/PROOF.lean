import PyProof.Rows.All
import Wide.All
import OpenK.AllK
import Wide.FinOn
import HandS.ForMost
import HandS.ForExc
import HandS.Steps
import HandS.Style
import HandS.Wide
import HandS.Gcd
import HandS.IsInst
import HandS.ExcInit
import HandS.Defaults
import HandS.Star
import HandS.Evl
import HandS.ExcField
import HandS.ExcIs
import HandS.ExcOwn
import HandS.RevRange
import KE.KExcIs
import HandS.Slots
import HandS.SlotsOwn
import HandS.Property
import HandS.ClsMeth
import KE.KOpsOwn
import PyProof.InstNe
import HandS.TupAny
import HandS.FStr
import HandS.Text
import HandS.Codes
import KE.BitLaws
import KE.GoesMore
import KE.KMathGC
import PySem.Challenge.RW_lookstop_k02_sums_and_products
set_option Elab.async false
set_option linter.all false
set_option maxRecDepth 100000
set_option maxHeartbeats 4000000
/-! Lk: short words for values (Val, Ans of HandS.Steps), own rules for great numbers, the laws' box of draws. -/
namespace Lk
open PySem L2
def ValA (ta : TA) (σ : L2.St) (H : Hp) (vs : List V) : Prop := ∀ Q : List V → Hp → Prop, Q vs H → ta σ H Q
def ifs (C : Prop) (D : Decidable C) : Bool := @decide C D
section
variable {σ : L2.St} {H : Hp} {i : Nat} {v x y z : V} {ta tb tc te tv : TE} {a b c : Bool} {K : PySem.W.Frag} {t u : TT} {k l m n : Int}
theorem val_op0 {g : Int → Int → V} (ha : Val ta σ H (.int k)) (hb : Val tb σ H (.int l)) : Val (tOp (rI0 g) ta tb) σ H (g k l) := fun Q q => ha _ (hb _ ⟨k, l, rfl, rfl, q⟩)
theorem val_opC {C : Int → Int → Prop} {g : Int → Int → V} (ha : Val ta σ H (.int k)) (hb : Val tb σ H (.int l)) (hc : C k l) : Val (tOp (rI C g) ta tb) σ H (g k l) := fun Q q => ha _ (hb _ ⟨k, l, rfl, rfl, hc, q⟩)
theorem val_un {g : Int → V} (ha : Val ta σ H (.int k)) : Val (tUn (rU g) ta) σ H (g k) := fun Q q => ha _ ⟨k, rfl, q⟩
theorem val_eq (ha : Val ta σ H x) (hb : Val tb σ H y) (hs : scal x y = true) : Val (tOp rEq ta tb) σ H (.bl (decide (x = y))) := fun Q q => ha _ (hb _ ⟨hs, q⟩)
theorem val_ne (ha : Val ta σ H x) (hb : Val tb σ H y) (hs : scal x y = true) : Val (tOp rNe ta tb) σ H (.bl (!decide (x = y))) := fun Q q => ha _ (hb _ ⟨hs, q⟩)
theorem val_isB (ha : Val ta σ H (.bl a)) (hb : Val tb σ H (.bl b)) : Val (tOp rIsB ta tb) σ H (.bl (decide (a = b))) := fun Q q => ha _ (hb _ ⟨a, b, rfl, rfl, q⟩)
theorem val_notB (ha : Val ta σ H (.bl a)) (hb : Val tb σ H (.bl b)) : Val (tOp rNotB ta tb) σ H (.bl (!decide (a = b))) := fun Q q => ha _ (hb _ ⟨a, b, rfl, rfl, q⟩)
theorem val_andV (ha : Val ta σ H (.bl a)) (hb : a = true → Val tb σ H (.bl b)) : Val (tAndV ta tb) σ H (.bl (a && b)) := fun Q q => ha _ ⟨a, rfl, by
  cases a with
  | true => exact hb rfl Q q
  | false => exact q⟩
theorem val_orV (ha : Val ta σ H (.bl a)) (hb : a = false → Val tb σ H (.bl b)) : Val (tOrV ta tb) σ H (.bl (a || b)) := fun Q q => ha _ ⟨a, rfl, by
  cases a with
  | true => exact q
  | false => exact hb rfl Q q⟩
theorem val_notV (ha : Val ta σ H (.bl a)) : Val (tNotV ta) σ H (.bl (!a)) := fun Q q => ha _ ⟨a, rfl, q⟩
theorem val_chain {p q : Int → Int → Bool} (ha : Val ta σ H (.int k)) (hb : Val tb σ H (.int l)) (hc : Val tc σ H (.int m)) : Val (tChain (rI0 fun i j => .bl (p i j)) (rI0 fun i j => .bl (q i j)) ta tb tc) σ H (.bl (p k l && q l m)) := fun Q h => ha _ (hb _ ⟨k, l, rfl, rfl, p k l, rfl, by
  cases hp : p k l with
  | true => exact hc _ ⟨l, m, rfl, rfl, by rw [hp] at h; exact h⟩
  | false => rw [hp] at h; exact h⟩)
theorem val_if (ht : Ans t σ H b) (h1 : b = true → Val ta σ H v) (h2 : b = false → Val tb σ H v) : Val (tIf t ta tb) σ H v := fun Q q => ht _ (by
  cases b with
  | true => exact h1 rfl Q q
  | false => exact h2 rfl Q q)
theorem va_nil : ValA tNil σ H [] := fun _ q => q
theorem va_cons {tr : TA} {vs : List V} (ha : Val ta σ H x) (hr : ValA tr σ H vs) : ValA (tCons ta tr) σ H (x :: vs) := fun _ q => ha _ (hr _ q)
theorem val_cb {r : List V → Hp → VK → Prop} {tr : TA} {vs : List V} (h : ValA tr σ H vs) (hr : ∀ Q : VK, Q z H → r vs H Q) : Val (tCB r tr) σ H z := fun Q q => h _ (hr Q q)
theorem val_call {sp : Sp} {dvs vs : List V} {E : XK} {tr : TA} (h : ValA tr σ H vs) (hr : ∀ Q : VK, Q z H → sp (vs ++ dvs) H Q E) : Val (tCall sp dvs E tr) σ H z := fun Q q => h _ (hr Q q)
theorem val_gcd (ha : Val ta σ H (.int k)) (hb : Val tb σ H (.int l)) : Val (tCB rGcd (tCons ta (tCons tb tNil))) σ H (.int ((Nat.gcd k.natAbs l.natAbs : Nat) : Int)) := fun Q q => ha _ (hb _ ⟨k, l, rfl, q⟩)
theorem iabs (k : Int) : (if k < 0 then -k else k) = ((k.natAbs : Nat) : Int) := by
  by_cases h : k < 0
  · rw [if_pos h]; omega
  · rw [if_neg h]; omega
theorem val_abs (ha : Val ta σ H (.int k)) : Val (tCB (fun xs H Q => ∃ i, xs = [V.int i] ∧ Q (V.int (if i < 0 then -i else i)) H) (tCons ta tNil)) σ H (.int ((k.natAbs : Nat) : Int)) := fun Q q => ha _ ⟨k, rfl, by rw [iabs]; exact q⟩
theorem val_int (ha : Val ta σ H (.int k)) : Val (tCB (fun xs H Q => (∃ i, xs = [V.int i] ∧ Q (V.int i) H) ∨ ∃ k, xs = [V.bl k] ∧ Q (V.int (if k then 1 else 0)) H) (tCons ta tNil)) σ H (.int k) := fun Q q => ha _ (.inl ⟨k, rfl, q⟩)
theorem val_ixL {p : Addr} {xs : List V} (ha : Val ta σ H (.ref p)) (hb : Val tb σ H (.int k)) (hs : SqL K H p xs) (hx : atI xs k = some v) : Val (tOp (rIxL K) ta tb) σ H v := fun Q q => ha _ (hb _ ⟨p, xs, k, v, rfl, rfl, hs, hx, q⟩)
theorem val_ixT {p : Addr} {xs : List V} (ha : Val ta σ H (.ref p)) (hb : Val tb σ H (.int k)) (hs : SqT K H p xs) (hx : atI xs k = some v) : Val (tOp (rIxT K) ta tb) σ H v := fun Q q => ha _ (hb _ ⟨p, xs, k, v, rfl, rfl, hs, hx, q⟩)
theorem val_to {w : V} (h : Val te σ H w) (e : w = v) : Val te σ H v := e ▸ h
theorem atI_nat {xs : List V} {j : Nat} (h : xs[j]? = some v) : atI xs (j : Int) = some v := by
  have hj : j < xs.length := (List.getElem?_eq_some_iff.mp h).1
  unfold atI ixN
  rw [if_pos (Int.natCast_nonneg j), if_pos (by omega)]
  exact h
theorem atI_of {xs : List V} (h0 : 0 ≤ k) (h : xs[k.toNat]? = some v) : atI xs k = some v := by
  have e : ((k.toNat : Nat) : Int) = k := Int.toNat_of_nonneg h0
  rw [← e]
  exact atI_nat h

theorem ans_of (ha : Val te σ H (.bl a)) : Ans (tTest te) σ H a := fun Q q => ha _ ⟨a, rfl, q⟩
theorem ans_B (ha : Val te σ H (.bl a)) : Ans (tB te) σ H a := fun Q q => ha _ ⟨a, rfl, q⟩
theorem ans_and' (ha : Ans t σ H a) (hb : a = true → Ans u σ H b) : Ans (tAnd t u) σ H (a && b) := fun Q q => ha _ (by
  cases a with
  | true => exact hb rfl Q q
  | false => exact q)
theorem ans_or' (ha : Ans t σ H a) (hb : a = false → Ans u σ H b) : Ans (tOr t u) σ H (a || b) := fun Q q => ha _ (by
  cases a with
  | true => exact q
  | false => exact hb rfl Q q)

variable {D : Ends} {t1 t2 t3 : TS}
theorem q_set (h : Val te σ H v) (q : t2 D (σ.set i (some v)) H) : tSeq (tAsg te (gName i)) t2 D σ H := h _ q
theorem s_set (h : Val te σ H v) (q : D.nx (σ.set i (some v)) H) : tAsg te (gName i) D σ H := h _ q
theorem s_ret (h : Val te σ H v) (q : D.rt v H) : tRet te D σ H := h _ q
theorem q_if (h : Ans t σ H b) (h1 : b = true → t1 { D with nx := t3 D } σ H) (h2 : b = false → t2 { D with nx := t3 D } σ H) : tSeq (tIfS t t1 t2) t3 D σ H := h _ (by
  cases b with
  | true => exact h1 rfl
  | false => exact h2 rfl)
theorem s_if (h : Ans t σ H b) (h1 : b = true → t1 D σ H) (h2 : b = false → t2 D σ H) : tIfS t t1 t2 D σ H := h _ (by
  cases b with
  | true => exact h1 rfl
  | false => exact h2 rfl)
/-- an if without else -/
theorem q_when (h : Ans t σ H b) (h1 : b = true → t1 { D with nx := t3 D } σ H) (h2 : b = false → t3 D σ H) : tSeq (tIfS t t1 tNext) t3 D σ H := q_if h h1 h2
theorem s_when (h : Ans t σ H b) (h1 : b = true → t1 D σ H) (h2 : b = false → D.nx σ H) : tIfS t t1 tNext D σ H := s_if h h1 h2
theorem q_whileA (W : Nat → L2.St → Hp → Prop) (m0 : Nat) (h0 : W m0 σ H)
    (hs : ∀ m σ' H', W m σ' H' → ∃ b, Ans t σ' H' b ∧ (b = true → ∀ N : L2.St → Hp → Prop, (∀ σ2 H2 m', m' < m → W m' σ2 H2 → N σ2 H2) → t1 { D with nx := N, ct := N, bk := t2 D } σ' H') ∧ (b = false → t2 D σ' H')) : tSeq (tWhile t t1) t2 D σ H :=
  ⟨W, ⟨m0, h0⟩, fun m σ' H' w => by
    obtain ⟨b, hb, h1, h2⟩ := hs m σ' H' w
    refine hb _ ?_
    cases b with
    | true => exact ⟨fun σ2 H2 => ∃ m', m' < m ∧ W m' σ2 H2, fun _ _ n => n, h1 rfl _ fun σ2 H2 m' l w' => ⟨m', l, w'⟩⟩
    | false => exact h2 rfl⟩
/-! the same by the reading itself -/
theorem qS {te : TE} (h : te σ H fun x H1 => t2 D (σ.set i (some x)) H1) : tSeq (tAsg te (gName i)) t2 D σ H := h
theorem sS {te : TE} (h : te σ H fun x H1 => D.nx (σ.set i (some x)) H1) : tAsg te (gName i) D σ H := h
theorem qB {te to ti : TE} {r : TSet} (h : te σ H fun x H1 => to σ H1 fun o H2 => ti σ H2 fun j H3 => r o j x H3 fun H4 => t2 D σ H4) : tSeq (tAsg te (gSub to ti r)) t2 D σ H := h
theorem sB {te to ti : TE} {r : TSet} (h : te σ H fun x H1 => to σ H1 fun o H2 => ti σ H2 fun j H3 => r o j x H3 fun H4 => D.nx σ H4) : tAsg te (gSub to ti r) D σ H := h
theorem qI (h : t σ H fun b H1 => if b = true then t1 { D with nx := t3 D } σ H1 else t2 { D with nx := t3 D } σ H1) : tSeq (tIfS t t1 t2) t3 D σ H := h
theorem sI (h : t σ H fun b H1 => if b = true then t1 D σ H1 else t2 D σ H1) : tIfS t t1 t2 D σ H := h
theorem qW (h : t σ H fun b H1 => if b = true then t1 { D with nx := t3 D } σ H1 else t3 D σ H1) : tSeq (tIfS t t1 tNext) t3 D σ H := h
theorem sW (h : t σ H fun b H1 => if b = true then t1 D σ H1 else D.nx σ H1) : tIfS t t1 tNext D σ H := h
theorem qD {te : TE} (h : te σ H fun _ H1 => t2 D σ H1) : tSeq (tDrop te) t2 D σ H := h
theorem sD {te : TE} (h : te σ H fun _ H1 => D.nx σ H1) : tDrop te D σ H := h
theorem sR {te : TE} (h : te σ H D.rt) : tRet te D σ H := h
theorem qU2 {te : TE} {i j : Nat} {p : Addr} {x y : V} (h : Val te σ H (.ref p)) (ht : SqT K H p [x, y]) (q : t2 D ((σ.set i (some x)).set j (some y)) H) : tSeq (tAsg te (gTup K 2 (gCons (gName i) (gCons (gName j) gNil)))) t2 D σ H :=
  h _ ⟨p, _, rfl, ht, rfl, x, [y], rfl, y, [], rfl, rfl, q⟩
theorem call_of {sp : Sp} {dvs vs : List V} {E : XK} {tr : TA} {Q : VK} (h : ValA tr σ H vs) (hr : sp (vs ++ dvs) H Q E) : tCall sp dvs E tr σ H Q := h _ hr
theorem q_call {sp : Sp} {dvs vs : List V} {E : XK} {tr : TA} (h : ValA tr σ H vs) (hr : sp (vs ++ dvs) H (fun x H1 => t2 D (σ.set i (some x)) H1) E) : tSeq (tAsg (tCall sp dvs E tr) (gName i)) t2 D σ H := h _ hr
theorem s_rcall {sp : Sp} {dvs vs : List V} {E : XK} {tr : TA} (h : ValA tr σ H vs) (hr : sp (vs ++ dvs) H D.rt E) : tRet (tCall sp dvs E tr) D σ H := h _ hr
theorem va_at {ta : TA} {vs : List V} {Q : List V → Hp → Prop} (h : ValA ta σ H vs) (q : Q vs H) : ta σ H Q := h Q q
theorem va_atC {ta : TE} {tr : TA} {vs : List V} {Q : List V → Hp → Prop} (h : ValA (tCons ta tr) σ H vs) (q : Q vs H) : tCons ta tr σ H Q := h Q q
theorem s_par {i j : Nat} {tr : TA} {v w : V} (h : ValA tr σ H [v, w]) (q : D.nx ((σ.set i (some v)).set j (some w)) H) : tPar i j tr D σ H := h _ ⟨v, w, rfl, q⟩
theorem q_par {i j : Nat} {tr : TA} {v w : V} (h : ValA tr σ H [v, w]) (q : t2 D ((σ.set i (some v)).set j (some w)) H) : tSeq (tPar i j tr) t2 D σ H := h _ ⟨v, w, rfl, q⟩
end

theorem _root_.L2.Val.at {te : TE} {σ : L2.St} {H : Hp} {v : V} {Q : VK} (h : Val te σ H v) (q : Q v H) : te σ H Q := h Q q
/-! ### == of pairs of ints -/
theorem eqv_pair {a b c d : Int} : PyData.eqv (.tuple [.int a, .int b]) (.tuple [.int c, .int d]) = (a == c && b == d) := by
  simp [PyData.eqv, PyData.eqvAll]
theorem rEq2 {K : PySem.W.Frag} {H : Hp} {p q : Addr} {a b c d : Int} {Q : VK} (hp : H p = some (.tup [.int a, .int b])) (hq : H q = some (.tup [.int c, .int d])) (k : Q (.bl (a == c && b == d)) H) : rEqD K (.ref p) (.ref q) H Q :=
  ⟨.tuple [.int a, .int b], .tuple [.int c, .int d], .tup (SqT.of hp) (.cons (.int a) (.cons (.int b) .nil)), .tup (SqT.of hq) (.cons (.int c) (.cons (.int d) .nil)), rfl, rfl, by rw [eqv_pair]; exact k⟩
theorem rNe2 {K : PySem.W.Frag} {H : Hp} {p q : Addr} {a b c d : Int} {Q : VK} (hp : H p = some (.tup [.int a, .int b])) (hq : H q = some (.tup [.int c, .int d])) (k : Q (.bl (!(a == c && b == d))) H) : rNeD K (.ref p) (.ref q) H Q :=
  ⟨.tuple [.int a, .int b], .tuple [.int c, .int d], .tup (SqT.of hp) (.cons (.int a) (.cons (.int b) .nil)), .tup (SqT.of hq) (.cons (.int c) (.cons (.int d) .nil)), rfl, rfl, by rw [eqv_pair]; exact k⟩

/-! ### // of great ints by a divisor of either sign -/
section
variable {X : Cx}
def CDivZ (_ j : Int) : Prop := j ≠ 0 ∧ j.natAbs.log2 < 9000
theorem op_fdivZ : OpR X (binaryOp .FloorDiv) (rI CDivZ fun i j => .int (i.fdiv j)) := opI fun i j _ _ _ _ _ hc q => PyProof.Rows.floordiv_int hc.1 q (.inl (PyProof.noPylong_of_log2 hc.2))
end
/-- a def with defaults, called with keywords (no keyword-only parameters) -/
theorem kbinds1 {K : PySem.W.Frag} {x qual : Str} {params : Arguments} {body : List Stmt} {scope : Scope} {dvs : List V} {kws : List (Str × V)} {f : Addr} {fd : FuncData} {ps : List Str} (F : FunD K x qual params body scope dvs kws f fd) (n : Nat) (ks : List Str)
    (g : {α : Type} → List α → List α → List α → List α) (hd : dvs ≠ []) (hrel : ∀ {vs ds zs : List V} {us its ws : List Value}, Vals vs us → Vals ds its → Vals zs ws → Vals (g vs ds zs) (g us its ws))
    (h : ∀ (T : Addr) (kV doc pm : Value) (an : Option Addr) (cdv ct : Value) (us its ws : List Value), us.length = n → its.length = dvs.length → ws.length = ks.length →
      ∃ k, bindArgs (PySem.W.fnOf x qual params body scope (.ref T) kV doc pm an cdv ct) ⟨us, ks.zip ws⟩ = seqItems? (.ref T) >>= k ∧ k (some its.toArray) = pure (ps.zip (g us its ws))) :
    ∃ its : List Value, KBn K fd ps n ks (fun us ws => g us its ws) (fun vs zs => g vs dvs zs) := by
  obtain ⟨oc, od, dV, kV, doc, pm, an, cdv, ct, osl, rfl, lk, hcd, hD, hK⟩ := F.ex
  rcases hD with ⟨e, _⟩ | ⟨_, T, o, its, m, rfl, lT, oT, rT⟩
  · exact absurd e hd
  · refine ⟨its, ⟨fun s us ws X l1 l2 => ?_, fun r1 r2 => hrel r1 rT r2⟩⟩
    obtain ⟨k, e1, e2⟩ := h T kV doc pm an cdv ct us its ws l1 rT.length.symm l2
    refine BindsTo.of_looks fun M => ?_
    rw [e1]
    exact looks_items X lT oT (.of_pure e2)
theorem vals_nil {us : List Value} (h : Vals [] us) : us = [] := by
  cases h
  rfl
/-- a new object leaves the elder ones as they are -/
theorem kept {H : Hp} {p q : Addr} {o u : HO} (h : H p = some u) (hq : H q = none) : (upd H q o) p = some u := (upd_ne (ne_of_none h hq)).trans h
theorem passF {X : Cx} : Passes CX0 X (fun _ _ _ => False) := fun _ _ _ _ _ _ _ h => h.elim
theorem log2_lt {n b : Nat} (h0 : 0 < b) (h : n < 2 ^ b) : n.log2 < b := PySem.Flt.log2_lt_of h0 h

theorem lgp {x : Int} {n : Nat} (h : x.natAbs < 2 ^ n) (h0 : 0 < n := by decide) (h9 : n ≤ 9000 := by decide) : x.natAbs.log2 < 9000 := Nat.lt_of_lt_of_le (log2_lt h0 h) h9

/-! ### lists of a few written ints, asked by a draw -/
theorem pick (xs : List Int) (lo hi : Int) (hb : ∀ x ∈ xs, lo ≤ x ∧ x ≤ hi) {d : Int} (h0 : 0 ≤ d) (h1 : d < (xs.length : Int)) : ∃ s, atI (xs.map V.int) d = some (V.int s) ∧ lo ≤ s ∧ s ≤ hi := by
  have hd : d.toNat < xs.length := by omega
  have hm : xs[d.toNat] ∈ xs := List.getElem_mem hd
  obtain ⟨h2, h3⟩ := hb _ hm
  exact ⟨xs[d.toNat], atI_of h0 (by rw [List.getElem?_map, List.getElem?_eq_getElem hd]; rfl), h2, h3⟩

theorem pickP (xs : List Int) (P : Int → Prop) (hb : ∀ x ∈ xs, P x) {d : Int} (h0 : 0 ≤ d) (h1 : d < (xs.length : Int)) : ∃ s, atI (xs.map V.int) d = some (V.int s) ∧ P s ∧ ixN xs.length d = some d.toNat := by
  have hd : d.toNat < xs.length := by omega
  refine ⟨xs[d.toNat], atI_of h0 (by rw [List.getElem?_map, List.getElem?_eq_getElem hd]; rfl), hb _ (List.getElem_mem hd), ?_⟩
  unfold ixN
  rw [if_pos h0, if_pos h1]

/-! ### the laws' box: a list of cells, a place, a state -/
/-- the box stands at b, its cells at c -/
def BoxAt (H : Hp) (b c : Addr) : Prop := ∃ (ns : List Int) (k s : Int), H b = some (.lst [.ref c, .int k, .int s]) ∧ H c = some (.lst (ns.map V.int)) ∧ ns.length ≤ 63 ∧ (∀ x ∈ ns, 0 ≤ x) ∧ 0 ≤ k ∧ 0 ≤ s ∧ s < 2147483647
/-- all else stands as it stood -/
def Ext (b c : Addr) (H H' : Hp) : Prop := ∀ a o, a ≠ b → a ≠ c → H a = some o → H' a = some o
theorem BoxAt.ne {H : Hp} {b c : Addr} (h : BoxAt H b c) : b ≠ c := by
  obtain ⟨ns, k, s, h1, h2, _⟩ := h
  intro e
  rw [← e, h1] at h2
  cases ns with
  | nil => cases h2
  | cons n ns => cases h2
theorem BoxAt.same {H H' : Hp} {b c : Addr} (h : BoxAt H b c) (e : Same H H') : BoxAt H' b c := by
  obtain ⟨ns, k, s, h1, h2, r⟩ := h
  exact ⟨ns, k, s, e _ _ h1, e _ _ h2, r⟩
theorem BoxAt.neb {H : Hp} {b c p : Addr} (h : BoxAt H b c) (hp : H p = none) : p ≠ b ∧ p ≠ c := by
  obtain ⟨ns, k, s, h1, h2, r⟩ := h
  exact ⟨fun e => (by rw [e, h1] at hp; cases hp), fun e => (by rw [e, h2] at hp; cases hp)⟩
theorem Ext.refl {b c : Addr} {H : Hp} : Ext b c H H := fun _ _ _ _ h => h
theorem Ext.trans {b c : Addr} {H H1 H2 : Hp} (e : Ext b c H H1) (f : Ext b c H1 H2) : Ext b c H H2 := fun a o x y h => f a o x y (e a o x y h)
theorem Ext.of {b c : Addr} {H H1 : Hp} (e : Same H H1) : Ext b c H H1 := fun a o _ _ h => e a o h
theorem same_upd {H : Hp} {p : Addr} {o : HO} (hp : H p = none) : Same H (upd H p o) := fun b u e => by
  rw [upd_ne (ne_of_none e hp)]
  exact e

def spBox (K : PySem.W.Frag) : Sp := fun vs H Q _ => ∃ (a : Addr) (ns : List Int), vs = [.ref a] ∧ SqL K H a (ns.map V.int) ∧ ns.length ≤ 63 ∧ ∀ b c H', Same H H' → H b = none → H c = none → BoxAt H' b c → Q (.ref b) H'
def spTake : Sp := fun vs H Q _ => ∃ (b c : Addr) (n : Int), vs = [.ref b, .int n] ∧ BoxAt H b c ∧ 0 < n ∧ n.natAbs.log2 < 9000 ∧ ∀ (d : Int) H', 0 ≤ d → d < n → BoxAt H' b c → (∀ a, a ≠ b → a ≠ c → H' a = H a) → Q (.int d) H'
def spGcd : Sp := fun vs H Q _ => ∃ (m n : Int), vs = [.int m, .int n] ∧ Q (.int ((Nat.gcd m.natAbs n.natAbs : Nat) : Int)) H
theorem val_gcdc {σ : L2.St} {H : Hp} {ta tb : TE} {k l : Int} {E : XK} (ha : Val ta σ H (.int k)) (hb : Val tb σ H (.int l)) : Val (tCall spGcd [] E (tCons ta (tCons tb tNil))) σ H (.int ((Nat.gcd k.natAbs l.natAbs : Nat) : Int)) := fun Q q => ha _ (hb _ ⟨k, l, rfl, q⟩)
end Lk
/-! own exceptions with a field, caught: what the class must say, isinstance of the caught one -/
namespace Lk
open PySem L2
structure ExcK (K : PySem.W.Frag) (D : Addr) : Prop where
  cl : (PySem.W.clsIn K D).isSome = true
  ga : PySem.W.findIn K (.ref D) "__getattribute__" = some (some (.builtin "BaseException.__getattribute__"))
  gg : PySem.W.findIn K (.ref D) "__getattr__" = some none
  ex : PySem.W.subIn K (.ref D) (.type "BaseException") = some true
  ha : PySem.W.findIn K (.ref D) "__class__" = some (some (.builtin "object.__class__"))
  hn : PySem.W.specialIn K (.builtin "object.__class__") "__get__" = some (some (.builtin "getset_descriptor.__get__"))
  ht : PySem.W.takesIn K (.builtin "object.__class__") = some true
  hm : PySem.W.mroIn K D (.type "object") = some true
def rIsX (K : PySem.W.Frag) (a : Addr) (cls : Value) (d : Option Addr) : List V → Hp → VK → Prop := fun xs H Q => ∃ (c : V) (cv : Value) (b : Bool) (D dd : Addr) (fs : List (Str × V)),
  xs = [.ref a, c] ∧ cls = .ref D ∧ d = some dd ∧ ExcK K D ∧ H dd = some (.xd fs) ∧ (∀ u, RelV c u → u = cv) ∧ PySem.W.kitOne K (.ref D) cv = some b ∧ Q (.bl b) H
theorem call_isX {X : Cx} {a : Addr} {cls : Value} {d : Option Addr} {oe : Obj} {pn : List (Addr × Obj)} (hz : Zc cls d oe) (hf : ∃ vs, oe.data = .fields vs) : CallR (X.suite a ((a, oe) :: pn)) (.builtin "isinstance") (rIsX X.K a cls d) := by
  intro pins s σ H xs us Q I r h
  obtain ⟨c, cv, b, D, dd, fs, rfl, rfl, rfl, T, ea, hcv, e, q⟩ := h
  cases r with
  | cons rx rr =>
    cases rr with
    | cons rt rr =>
      cases rr
      cases rx
      have ec := hcv _ rt
      subst ec
      obtain ⟨hget, _⟩ := I.pin (a, oe) (List.mem_append.mpr (.inl List.mem_cons_self))
      obtain ⟨vs, hv⟩ := hf
      have hx : ObjOk X.prog X.w H s.heap dd (.xd fs) := I.hok dd _ ea
      obtain ⟨mA, hns, hr⟩ := hx
      obtain ⟨od, ho, hl⟩ := lookIn_ns hns
      have J : PySem.W.InstAt s.heap a oe D (some od) := ⟨hget, hz.1, by unfold PySem.W.notCls; rw [hv] <;> rfl, by rw [hz.2]; exact ho⟩
      exact PySem.W.kia_one (PySem.W.kitx_exc T.cl T.ga T.gg T.ex T.ha T.hn T.ht T.hm) I.kIn J e (fun z => nomatch z) fun tk => ⟨.bl b, H, I.tok tk, rfl, q⟩
/-- __init__(self, v): self.f = v, of an exception's class -/
def spExcInit (C : Addr) (f : Str) : Sp := fun vs H Q _ => ∃ (a : Addr) (v : V), vs = [.ref a, v] ∧ H a = some (exo a C none) ∧ ∀ dx, H dx = none → dx ≠ a → Q .non (upd (upd H dx (exd dx [(f, v)])) a (exo a C (some dx)))
/-- what is raised: an error of the class C whose field f is v -/
def Raised (C : Addr) (f : Str) (v : V) (H : Hp) (E : XK) : Prop := ∀ d H', Same H H' → H d = none → H' d = some (.xd [(f, v)]) → E (.ref C) (some d) H'
theorem raised_end {C a d : Addr} {f : Str} {v : V} {H : Hp} {E : XK} (ha : H a = none) (hd : H d = none) (hda : d ≠ a) (k : Raised C f v H E) : E (.ref C) (some d) (upd (del (upd (upd (upd H a (exo a C none)) d (exd d [(f, v)])) a (exo a C (some d))) a) d (.xd [(f, v)])) := by
  refine k d _ (fun b o e => ?_) hd upd_same
  have hb : b ≠ a := ne_of_none e ha
  have hbd : b ≠ d := ne_of_none e hd
  rw [upd_ne hbd, del_ne hb, upd_ne hb, upd_ne hbd, upd_ne hb]
  exact e
end Lk
/-! ratios: the mathematics -/
namespace Lk
/-- the signed greatest common divisor that ratio divides by -/
def rdiv (n d : Int) : Int := if d < 0 then -((Nat.gcd n.natAbs d.natAbs : Nat) : Int) else ((Nat.gcd n.natAbs d.natAbs : Nat) : Int)
def ratN (n d : Int) : Int := n.fdiv (rdiv n d)
def ratD (n d : Int) : Int := d.fdiv (rdiv n d)
/-- a/b is in lowest terms -/
def Low (a b : Int) : Prop := 1 ≤ b ∧ Nat.gcd a.natAbs b.natAbs = 1
theorem rdiv_ne {n d : Int} (hd : d ≠ 0) : rdiv n d ≠ 0 := by
  have hg : 0 < Nat.gcd n.natAbs d.natAbs := Nat.gcd_pos_of_pos_right _ (by omega)
  unfold rdiv
  split <;> omega
theorem rdiv_natAbs (n d : Int) : (rdiv n d).natAbs = Nat.gcd n.natAbs d.natAbs := by
  unfold rdiv
  split <;> omega
theorem fdiv_of_mul {a b c : Int} (hb : b ≠ 0) (h : a = c * b) : a.fdiv b = c := by
  rw [h]
  exact Int.mul_fdiv_cancel _ hb
theorem dvd_rdiv_left (n d : Int) : rdiv n d ∣ n := Int.natAbs_dvd_natAbs.mp (by rw [rdiv_natAbs]; exact Nat.gcd_dvd_left _ _)
theorem dvd_rdiv_right (n d : Int) : rdiv n d ∣ d := Int.natAbs_dvd_natAbs.mp (by rw [rdiv_natAbs]; exact Nat.gcd_dvd_right _ _)
theorem ratN_mul {n d : Int} (hd : d ≠ 0) : ratN n d * rdiv n d = n := by
  obtain ⟨c, hc⟩ := dvd_rdiv_left n d
  have : ratN n d = c := fdiv_of_mul (rdiv_ne hd) (by rw [Int.mul_comm]; exact hc)
  rw [this, Int.mul_comm]
  exact hc.symm
theorem ratD_mul {n d : Int} (hd : d ≠ 0) : ratD n d * rdiv n d = d := by
  obtain ⟨c, hc⟩ := dvd_rdiv_right n d
  have : ratD n d = c := fdiv_of_mul (rdiv_ne hd) (by rw [Int.mul_comm]; exact hc)
  rw [this, Int.mul_comm]
  exact hc.symm
theorem rat_low {n d : Int} (hd : d ≠ 0) : Low (ratN n d) (ratD n d) := by
  have h1 := ratN_mul (n := n) hd
  have h2 := ratD_mul (n := n) hd
  have h3 := rdiv_ne (n := n) hd
  have hg := rdiv_natAbs n d
  have gpos : 0 < Nat.gcd n.natAbs d.natAbs := Nat.gcd_pos_of_pos_right _ (by omega)
  constructor
  · by_cases hneg : d < 0
    · have hr : rdiv n d < 0 := by
        unfold rdiv
        rw [if_pos hneg]
        omega
      by_cases hb : 1 ≤ ratD n d
      · exact hb
      · have : 0 ≤ ratD n d * rdiv n d := Int.mul_nonneg_of_nonpos_of_nonpos (by omega) (by omega)
        omega
    · have hr : 0 < rdiv n d := by
        unfold rdiv
        rw [if_neg hneg]
        omega
      by_cases hb : 1 ≤ ratD n d
      · exact hb
      · have : ratD n d * rdiv n d ≤ 0 := Int.mul_nonpos_of_nonpos_of_nonneg (by omega) (by omega)
        omega
  · have e1 : (ratN n d).natAbs * Nat.gcd n.natAbs d.natAbs = n.natAbs := by rw [← hg, ← Int.natAbs_mul, h1]
    have e2 : (ratD n d).natAbs * Nat.gcd n.natAbs d.natAbs = d.natAbs := by rw [← hg, ← Int.natAbs_mul, h2]
    have e3 : Nat.gcd ((ratN n d).natAbs * Nat.gcd n.natAbs d.natAbs) ((ratD n d).natAbs * Nat.gcd n.natAbs d.natAbs) = Nat.gcd n.natAbs d.natAbs := by rw [e1, e2]
    rw [Nat.gcd_mul_right] at e3
    exact Nat.eq_of_mul_eq_mul_right gpos (by rw [Nat.one_mul]; exact e3)
theorem rat_cross {n d : Int} (hd : d ≠ 0) : ratN n d * d = n * ratD n d := by
  have h1 := ratN_mul (n := n) hd
  have h2 := ratD_mul (n := n) hd
  have e : ratN n d * (ratD n d * rdiv n d) = ratN n d * rdiv n d * ratD n d := by
    rw [Int.mul_assoc, Int.mul_comm (rdiv n d)]
  rw [h2, h1] at e
  exact e
theorem low_unique {a b c d : Int} (h1 : Low a b) (h2 : Low c d) (h : a * d = c * b) : a = c ∧ b = d := by
  obtain ⟨b1, g1⟩ := h1
  obtain ⟨d1, g2⟩ := h2
  have hN : a.natAbs * d.natAbs = c.natAbs * b.natAbs := by rw [← Int.natAbs_mul, h, Int.natAbs_mul]
  have x1 : b.natAbs ∣ d.natAbs := Nat.Coprime.dvd_of_dvd_mul_left (show Nat.Coprime b.natAbs a.natAbs from (Nat.gcd_comm _ _).trans g1) ⟨c.natAbs, by rw [hN, Nat.mul_comm]⟩
  have x2 : d.natAbs ∣ b.natAbs := Nat.Coprime.dvd_of_dvd_mul_left (show Nat.Coprime d.natAbs c.natAbs from (Nat.gcd_comm _ _).trans g2) ⟨a.natAbs, by rw [← hN, Nat.mul_comm]⟩
  have e : b.natAbs = d.natAbs := Nat.dvd_antisymm x1 x2
  have e2 : b = d := by omega
  subst e2
  exact ⟨Int.eq_of_mul_eq_mul_right (by omega) h, rfl⟩
theorem low_rat {a b : Int} (h : Low a b) : ratN a b = a ∧ ratD a b = b := by
  have hb : b ≠ 0 := by
    have := h.1
    omega
  have e := low_unique (rat_low (n := a) hb) h (rat_cross hb)
  exact e
theorem rat_neg {n d : Int} (hd : d ≠ 0) : ratN (-n) (-d) = ratN n d ∧ ratD (-n) (-d) = ratD n d := by
  have hd' : -d ≠ 0 := by omega
  refine low_unique (rat_low hd') (rat_low hd) ?_
  have h1 := rat_cross (n := n) hd
  have h2 := rat_cross (n := -n) hd'
  have e1 : ratN (-n) (-d) * d = n * ratD (-n) (-d) := by
    rw [Int.mul_neg, Int.neg_mul] at h2
    omega
  -- multiply by d
  have e2 : (ratN (-n) (-d) * ratD n d) * d = (ratN n d * ratD (-n) (-d)) * d := by
    rw [Int.mul_right_comm, e1, Int.mul_right_comm (ratN n d), h1, Int.mul_right_comm]
  exact Int.eq_of_mul_eq_mul_right hd e2
theorem rat_one (n : Int) : ratN n 1 = n ∧ ratD n 1 = 1 := low_rat ⟨by omega, by simp⟩
theorem rdiv_log {n d : Int} (hd : d ≠ 0) (h : d.natAbs.log2 < 9000) : (rdiv n d).natAbs.log2 < 9000 := by
  rw [rdiv_natAbs]
  have hle : Nat.gcd n.natAbs d.natAbs ≤ d.natAbs := Nat.gcd_le_right _ (by omega)
  have hlt : d.natAbs < 2 ^ 9000 := (Nat.log2_lt (by omega)).mp h
  by_cases h0 : Nat.gcd n.natAbs d.natAbs = 0
  · rw [h0]
    decide
  · exact (Nat.log2_lt h0).mpr (Nat.lt_of_le_of_lt hle hlt)
theorem ratN_le {n d : Int} (hd : d ≠ 0) : (ratN n d).natAbs ≤ n.natAbs := by
  have h1 := ratN_mul (n := n) hd
  have e : (ratN n d).natAbs * (rdiv n d).natAbs = n.natAbs := by rw [← Int.natAbs_mul, h1]
  have h3 := rdiv_ne (n := n) hd
  rw [← e]
  exact Nat.le_mul_of_pos_right _ (by omega)
theorem ratD_le {n d : Int} (hd : d ≠ 0) : (ratD n d).natAbs ≤ d.natAbs := by
  have h1 := ratD_mul (n := n) hd
  have e : (ratD n d).natAbs * (rdiv n d).natAbs = d.natAbs := by rw [← Int.natAbs_mul, h1]
  have h3 := rdiv_ne (n := n) hd
  have h4 : (ratD n d).natAbs ≤ (ratD n d).natAbs * (rdiv n d).natAbs := Nat.le_mul_of_pos_right _ (by omega)
  omega
end Lk
/-! defs with a star parameter, called with plain arguments -/
namespace Lk
open PySem L2
def starSp (n : Nat) (sp : Sp) : Sp := fun vs H Q E => ∃ ws rest, vs = ws ++ rest ∧ ws.length = n ∧ rest.length ≤ sizeLine ∧ ∀ p, H p = Option.none → sp (ws ++ [V.ref p]) (upd H p (.tup rest)) Q E
section
variable {P : Program} {w : World} {K : PySem.W.Frag} {mg : Str → Option Value} {base : Heap}
theorem okStar {CX : CXT} {x qual pv : Str} {st : Stmt} {f : Addr} {fd : FuncData} {N ps : List Str} {k : Nat} {sp : Sp} (F : Fun K x qual st f fd) (S : FnScope N (ps ++ [pv]) (defScope st)) (hCX : StX.CXUp CX)
    (hb : ∀ (kV doc pm : Value) (an : Option Addr) (cdv ct : Value) (us rest : List Value), us.length = ps.length → bindArgs (PySem.W.fnOf x qual (defArgs st) (defBody st) (defScope st) .none kV doc pm an cdv ct) ⟨us ++ rest, []⟩ = (newTuple rest >>= fun t => pure (ps.zip us ++ [(pv, t)])))
    (hbody : ∀ (cdv : Value) (A : Around) (outer : List Env) (s : Shared) (H : Hp) (vs : List V) (Q : VK) (E : XK), Room k (A.deeper (PyProof.Rows.envOfC qual (defScope st) s.heap.objs.size f cdv)) → sp vs H Q E →
      ∃ t, PSs (cxOf CX P w K mg base N qual (defScope st) f cdv A outer s H E) (defBody st) t ∧ t { nx := fun _ H' => Q .non H', rt := Q } (L2.start N vs) H) : FnR P w K mg base CX (k + 1) f (starSp ps.length sp) := by
  obtain ⟨oc, od, kV, doc, pm, an, cdv, ct, osl, rfl, lk, hcd⟩ := F.ex
  exact StX.fn_star lk hcd S hCX (hb kV doc pm an cdv ct) fun A outer s H vs Q E hr hsp => hbody cdv A outer s H vs Q E hr hsp
end
section
variable {X : Cx} {CX : CXT} {k : Nat} {f : Addr} {sp : Sp} {E : XK} {x : Str} {e : Expr} {es : List Expr} {t : TA} {p pos : Pos}
def tCallR (sp : Sp) (E : XK) (t : TA) : TE := fun σ H Q => t σ H fun vs H1 => sp vs H1 Q E
theorem pe_callR (F : FnR X.prog X.w X.K X.mg X.base CX k f sp) (hr : Room k X.A) (hg : Gl X x) (hm : X.mg x = some (.ref f)) (hk : PySem.W.keepIn X.K (.ref f) = true) (hx : Passes CX X E) (ha : PA X (e :: es) t) (hdb : (x == ("__debug__" : Str)) = false := by decide)
    (he : starEach (e :: es) X.env = (false, eval e X.env) :: starEach es X.env := by rfl) (hpl : (backTo pos (starEach es X.env)).any (·.1) = false := by rfl) :
    PE X (.Call (.Name x p) (e :: es) [] pos) (tCallR sp E t) := by
  refine ⟨fun pins s σ H Q I h => ?_⟩
  refine wpAny_Call_Name_kw (ld_glob I hg hm ?_ hdb)
  refine PySem.W.callWith_K (h₀ := X.base) I.ok.mod.kin hk (thn (ha.run pos pins s σ H _ I h) fun us s1 ⟨vs, H1, I1, r, q⟩ => ⟨I1.kIn, ?_⟩) he hpl
  exact wpAny_call (run_fnR F hr hx I1 r q)
theorem pe_callR0 (F : FnR X.prog X.w X.K X.mg X.base CX k f sp) (hr : Room k X.A) (hg : Gl X x) (hm : X.mg x = some (.ref f)) (hk : PySem.W.keepIn X.K (.ref f) = true) (hx : Passes CX X E) (hdb : (x == ("__debug__" : Str)) = false := by decide) :
    PE X (.Call (.Name x p) [] [] pos) (tCallR sp E tNil) := by
  refine ⟨fun pins s σ H Q I h => ?_⟩
  refine wpAny_Call_Name_kw (ld_glob I hg hm ?_ hdb)
  exact PySem.W.callWith_K0 I.kIn hk (wpAny_call (run_fnR F hr hx I .nil h))
theorem callR_of {σ : L2.St} {H : Hp} {vs : List V} {Q : VK} (h : ValA t σ H vs) (hr : sp vs H Q E) : tCallR sp E t σ H Q := h _ hr
end
end Lk
/-! sums and products of ratios -/
namespace Lk
def sStep (z q : Int × Int) : Int × Int := (ratN (z.1 * q.2 + q.1 * z.2) (z.2 * q.2), ratD (z.1 * q.2 + q.1 * z.2) (z.2 * q.2))
def uStep (z q : Int × Int) : Int × Int := (z.1 * q.2 + q.1 * z.2, z.2 * q.2)
def sumR (l : List (Int × Int)) : Int × Int := l.foldl sStep (0, 1)
def sumU (l : List (Int × Int)) : Int × Int := l.foldl uStep (0, 1)
def pStep (z q : Int × Int) : Int × Int := (ratN (z.1 * q.1) (z.2 * q.2), ratD (z.1 * q.1) (z.2 * q.2))
def vStep (z q : Int × Int) : Int × Int := (z.1 * q.1, z.2 * q.2)
def prodR (l : List (Int × Int)) : Int × Int := l.foldl pStep (1, 1)
def prodU (l : List (Int × Int)) : Int × Int := l.foldl vStep (1, 1)
def Rel (z u : Int × Int) : Prop := Low z.1 z.2 ∧ 1 ≤ u.2 ∧ z.1 * u.2 = u.1 * z.2
theorem rel_s {z u q : Int × Int} (h : Rel z u) (hq : 1 ≤ q.2) : Rel (sStep z q) (uStep u q) := by
  obtain ⟨h1, h2, h3⟩ := h
  have hz := h1.1
  have hd : z.2 * q.2 ≠ 0 := Int.mul_ne_zero (by omega) (by omega)
  refine ⟨rat_low hd, ?_, ?_⟩
  · show 1 ≤ u.2 * q.2
    have := Int.mul_pos (show 0 < u.2 by omega) (show 0 < q.2 by omega)
    omega
  · have hc := rat_cross (n := z.1 * q.2 + q.1 * z.2) hd
    show ratN (z.1 * q.2 + q.1 * z.2) (z.2 * q.2) * (u.2 * q.2) = (u.1 * q.2 + q.1 * u.2) * ratD (z.1 * q.2 + q.1 * z.2) (z.2 * q.2)
    refine Int.eq_of_mul_eq_mul_right (show z.2 ≠ 0 by omega) ?_
    generalize ratN (z.1 * q.2 + q.1 * z.2) (z.2 * q.2) = N at hc ⊢
    generalize ratD (z.1 * q.2 + q.1 * z.2) (z.2 * q.2) = D at hc ⊢
    grind
theorem rel_p {z u q : Int × Int} (h : Rel z u) (hq : 1 ≤ q.2) : Rel (pStep z q) (vStep u q) := by
  obtain ⟨h1, h2, h3⟩ := h
  have hz := h1.1
  have hd : z.2 * q.2 ≠ 0 := Int.mul_ne_zero (by omega) (by omega)
  refine ⟨rat_low hd, ?_, ?_⟩
  · show 1 ≤ u.2 * q.2
    have := Int.mul_pos (show 0 < u.2 by omega) (show 0 < q.2 by omega)
    omega
  · have hc := rat_cross (n := z.1 * q.1) hd
    show ratN (z.1 * q.1) (z.2 * q.2) * (u.2 * q.2) = (u.1 * q.1) * ratD (z.1 * q.1) (z.2 * q.2)
    refine Int.eq_of_mul_eq_mul_right (show z.2 ≠ 0 by omega) ?_
    generalize ratN (z.1 * q.1) (z.2 * q.2) = N at hc ⊢
    generalize ratD (z.1 * q.1) (z.2 * q.2) = D at hc ⊢
    grind
theorem rel_fold {f g : Int × Int → Int × Int → Int × Int} (hs : ∀ z u q, Rel z u → 1 ≤ q.2 → Rel (f z q) (g u q)) : ∀ (l : List (Int × Int)) (z u : Int × Int), (∀ q ∈ l, 1 ≤ q.2) → Rel z u → Rel (l.foldl f z) (l.foldl g u)
  | [], _, _, _, h => h
  | q :: l, z, u, hl, h => rel_fold hs l _ _ (fun x hx => hl x (List.mem_cons_of_mem _ hx)) (hs z u q h (hl q (List.mem_cons_self ..)))
theorem sum_rel (l : List (Int × Int)) (hl : ∀ q ∈ l, 1 ≤ q.2) : Rel (sumR l) (sumU l) := rel_fold (f := sStep) (g := uStep) (fun z u q h hq => rel_s h hq) l (0, 1) (0, 1) hl ⟨⟨by decide, by decide⟩, by decide, by decide⟩
theorem prod_rel (l : List (Int × Int)) (hl : ∀ q ∈ l, 1 ≤ q.2) : Rel (prodR l) (prodU l) := rel_fold (f := pStep) (g := vStep) (fun z u q h hq => rel_p h hq) l (1, 1) (1, 1) hl ⟨⟨by decide, by decide⟩, by decide, by decide⟩
theorem foldl_perm {α β : Type} {f : β → α → β} (hf : ∀ z x y, f (f z x) y = f (f z y) x) {l m : List α} (h : List.Perm l m) : ∀ z, l.foldl f z = m.foldl f z := by
  induction h with
  | nil => intro z; rfl
  | cons x _ ih => intro z; exact ih _
  | swap x y l => intro z; show List.foldl f (f (f z y) x) l = List.foldl f (f (f z x) y) l; rw [hf]
  | trans _ _ h1 h2 => intro z; exact (h1 z).trans (h2 z)
theorem u_comm (z x y : Int × Int) : uStep (uStep z x) y = uStep (uStep z y) x := by
  unfold uStep
  refine Prod.ext ?_ ?_
  · dsimp only
    grind
  · dsimp only
    grind
theorem v_comm (z x y : Int × Int) : vStep (vStep z x) y = vStep (vStep z y) x := by
  unfold vStep
  refine Prod.ext ?_ ?_
  · dsimp only
    grind
  · dsimp only
    grind
/-- sizes: behind i terms both parts lie below 2 ^ (112 i + 1) -/
def Sz (i : Nat) (z : Int × Int) : Prop := z.1.natAbs < 2 ^ (112 * i + 1) ∧ z.2.natAbs < 2 ^ (112 * i + 1)
theorem mul_lt {a b : Int} {m n : Nat} (ha : a.natAbs < 2 ^ m) (hb : b.natAbs < 2 ^ n) : (a * b).natAbs < 2 ^ (m + n) := by
  rw [Int.natAbs_mul, Nat.pow_add]
  exact Nat.mul_lt_mul'' ha hb
theorem pow_grow (i : Nat) : 2 * 2 ^ (112 * i + 1 + 110) ≤ 2 ^ (112 * (i + 1) + 1) := by
  have e : ∀ n : Nat, 2 * 2 ^ n = 2 ^ (n + 1) := fun n => by rw [Nat.pow_succ, Nat.mul_comm]
  rw [e]
  exact Nat.pow_le_pow_right (by decide) (by omega)
theorem sz_u {i : Nat} {z q : Int × Int} (h : Sz i z) (h1 : q.1.natAbs < 2 ^ 110) (h2 : q.2.natAbs < 2 ^ 110) : Sz (i + 1) (uStep z q) := by
  have a := mul_lt h.1 h2
  have b := mul_lt h.2 h1
  have c := mul_lt h.2 h2
  have g := pow_grow i
  refine ⟨?_, ?_⟩
  · show (z.1 * q.2 + q.1 * z.2).natAbs < _
    rw [Int.mul_comm z.2 q.1] at b
    omega
  · show (z.2 * q.2).natAbs < _
    omega
theorem sz_v {i : Nat} {z q : Int × Int} (h : Sz i z) (h1 : q.1.natAbs < 2 ^ 110) (h2 : q.2.natAbs < 2 ^ 110) : Sz (i + 1) (vStep z q) := by
  have a := mul_lt h.1 h1
  have c := mul_lt h.2 h2
  have g := pow_grow i
  refine ⟨?_, ?_⟩
  · show (z.1 * q.1).natAbs < _
    omega
  · show (z.2 * q.2).natAbs < _
    omega
theorem sz_s {i : Nat} {z q : Int × Int} (h : Sz i z) (h0 : z.2 * q.2 ≠ 0) (h1 : q.1.natAbs < 2 ^ 110) (h2 : q.2.natAbs < 2 ^ 110) : Sz (i + 1) (sStep z q) := by
  obtain ⟨a, b⟩ := sz_u h h1 h2
  exact ⟨Nat.lt_of_le_of_lt (ratN_le h0) a, Nat.lt_of_le_of_lt (ratD_le h0) b⟩
theorem sz_p {i : Nat} {z q : Int × Int} (h : Sz i z) (h0 : z.2 * q.2 ≠ 0) (h1 : q.1.natAbs < 2 ^ 110) (h2 : q.2.natAbs < 2 ^ 110) : Sz (i + 1) (pStep z q) := by
  obtain ⟨a, b⟩ := sz_v h h1 h2
  exact ⟨Nat.lt_of_le_of_lt (ratN_le h0) a, Nat.lt_of_le_of_lt (ratD_le h0) b⟩
theorem foldl_take {α β : Type} (f : β → α → β) (z : β) {l : List α} {i : Nat} {x : α} (h : l[i]? = some x) : (l.take (i + 1)).foldl f z = f ((l.take i).foldl f z) x := by
  rw [List.take_add_one, h, Option.toList_some, List.foldl_append]
  rfl
end Lk
namespace Pf
open PySem L2 Lk
def top (i : Nat) : Stmt := PySem.Challenge.pw_lookstop_k02_sums_and_products.main.body.getD i (.Pass ⟨0, 0, 0, 0⟩)
abbrev s_InvalidRatio___init__ : Stmt := (inClass (top 3) 0)
abbrev N_InvalidRatio___init__ : List Str := ["self", "value"]
abbrev s_ratio : Stmt := (top 7)
abbrev N_ratio : List Str := ["num", "den", "divisor"]
abbrev s_add : Stmt := (top 8)
abbrev N_add : List Str := ["terms", "total", "num", "den"]
abbrev s_multiply : Stmt := (top 9)
abbrev N_multiply : List Str := ["factors", "total", "num", "den"]
abbrev s__law_box : Stmt := (top 11)
abbrev N__law_box : List Str := ["_law_script", "_law_cell"]
abbrev s__law_take : Stmt := (top 12)
abbrev N__law_take : List Str := ["_law_box_here", "_law_size", "_law_cells", "_law_worth", "_law_at", "_law_digit", "_law_stirred"]
abbrev s__law_gcd : Stmt := (top 13)
abbrev N__law_gcd : List Str := ["_law_a", "_law_b"]
abbrev s__law_ratio : Stmt := (top 14)
abbrev N__law_ratio : List Str := ["_law_num", "_law_den", "_law_divisor"]
abbrev s__law_any_ratio : Stmt := (top 15)
abbrev N__law_any_ratio : List Str := ["_law_box_here", "_law_size"]
abbrev s__law_is_integer : Stmt := (top 16)
abbrev N__law_is_integer : List Str := ["_law_value"]
abbrev s__law_is_ratio : Stmt := (top 17)
abbrev N__law_is_ratio : List Str := ["_law_value"]
abbrev s__law_is_sum : Stmt := (top 18)
abbrev N__law_is_sum : List Str := ["_law_found", "_law_terms", "_law_top", "_law_bottom", "_law_term"]
abbrev s__law_is_product : Stmt := (top 19)
abbrev N__law_is_product : List Str := ["_law_found", "_law_factors", "_law_top", "_law_bottom", "_law_factor"]
abbrev s_law : Stmt := (top 20)
abbrev N_law : List Str := ["_law_script", "_law_box_here", "_law_a", "_law_b", "_law_c", "_law_d", "_law_e", "_law_some"]
structure Adr where
  f_InvalidRatio___init__ : Addr
  d_InvalidRatio___init__ : FuncData
  f_ratio : Addr
  d_ratio : FuncData
  f_add : Addr
  d_add : FuncData
  f_multiply : Addr
  d_multiply : FuncData
  f__law_box : Addr
  d__law_box : FuncData
  f__law_take : Addr
  d__law_take : FuncData
  f__law_gcd : Addr
  d__law_gcd : FuncData
  f__law_ratio : Addr
  d__law_ratio : FuncData
  f__law_any_ratio : Addr
  d__law_any_ratio : FuncData
  f__law_is_integer : Addr
  d__law_is_integer : FuncData
  f__law_is_ratio : Addr
  d__law_is_ratio : FuncData
  f__law_is_sum : Addr
  d__law_is_sum : FuncData
  f__law_is_product : Addr
  d__law_is_product : FuncData
  f_law : Addr
  d_law : FuncData
  C_StopError : Addr
  C_InvalidRatio : Addr
structure Txt (K : PySem.W.Frag) (mg : Str → Option Value) (A : Adr) : Prop where
  F_InvalidRatio___init__ : Fun K "__init__" "InvalidRatio.__init__" s_InvalidRatio___init__ A.f_InvalidRatio___init__ A.d_InvalidRatio___init__
  k_InvalidRatio___init__ : PySem.W.keepIn K (.ref A.f_InvalidRatio___init__) = true
  b_InvalidRatio___init__ : Binds K A.d_InvalidRatio___init__ ["self", "value"] []
  m_InvalidRatio___init__ : PySem.W.findIn K (.ref A.C_InvalidRatio) "__init__" = some (some (.ref A.f_InvalidRatio___init__))
  i_InvalidRatio___init__ : PySem.W.isFn K (.ref A.f_InvalidRatio___init__) = true
  t_InvalidRatio___init__ : PySem.W.typeIn K (.ref A.f_InvalidRatio___init__) = some (.type "function")
  F_ratio : FunD K "ratio" "ratio" (defArgs s_ratio) (defBody s_ratio) (defScope s_ratio) [.int 1] [] A.f_ratio A.d_ratio
  k_ratio : PySem.W.keepIn K (.ref A.f_ratio) = true
  b1_ratio : ∃ ds, Vals (([.int 1] : List V).drop 0) ds ∧ Binds K A.d_ratio ["num", "den"] ds
  b2_ratio : ∃ ds, Vals (([.int 1] : List V).drop 1) ds ∧ Binds K A.d_ratio ["num", "den"] ds
  g_ratio : mg "ratio" = some (.ref A.f_ratio)
  F_add : Fun K "add" "add" s_add A.f_add A.d_add
  k_add : PySem.W.keepIn K (.ref A.f_add) = true
  g_add : mg "add" = some (.ref A.f_add)
  F_multiply : Fun K "multiply" "multiply" s_multiply A.f_multiply A.d_multiply
  k_multiply : PySem.W.keepIn K (.ref A.f_multiply) = true
  g_multiply : mg "multiply" = some (.ref A.f_multiply)
  F__law_box : Fun K "_law_box" "_law_box" s__law_box A.f__law_box A.d__law_box
  k__law_box : PySem.W.keepIn K (.ref A.f__law_box) = true
  b__law_box : Binds K A.d__law_box ["_law_script"] []
  g__law_box : mg "_law_box" = some (.ref A.f__law_box)
  F__law_take : Fun K "_law_take" "_law_take" s__law_take A.f__law_take A.d__law_take
  k__law_take : PySem.W.keepIn K (.ref A.f__law_take) = true
  b__law_take : Binds K A.d__law_take ["_law_box_here", "_law_size"] []
  g__law_take : mg "_law_take" = some (.ref A.f__law_take)
  F__law_gcd : Fun K "_law_gcd" "_law_gcd" s__law_gcd A.f__law_gcd A.d__law_gcd
  k__law_gcd : PySem.W.keepIn K (.ref A.f__law_gcd) = true
  b__law_gcd : Binds K A.d__law_gcd ["_law_a", "_law_b"] []
  g__law_gcd : mg "_law_gcd" = some (.ref A.f__law_gcd)
  F__law_ratio : Fun K "_law_ratio" "_law_ratio" s__law_ratio A.f__law_ratio A.d__law_ratio
  k__law_ratio : PySem.W.keepIn K (.ref A.f__law_ratio) = true
  b__law_ratio : Binds K A.d__law_ratio ["_law_num", "_law_den"] []
  g__law_ratio : mg "_law_ratio" = some (.ref A.f__law_ratio)
  F__law_any_ratio : Fun K "_law_any_ratio" "_law_any_ratio" s__law_any_ratio A.f__law_any_ratio A.d__law_any_ratio
  k__law_any_ratio : PySem.W.keepIn K (.ref A.f__law_any_ratio) = true
  b__law_any_ratio : Binds K A.d__law_any_ratio ["_law_box_here"] []
  g__law_any_ratio : mg "_law_any_ratio" = some (.ref A.f__law_any_ratio)
  F__law_is_integer : Fun K "_law_is_integer" "_law_is_integer" s__law_is_integer A.f__law_is_integer A.d__law_is_integer
  k__law_is_integer : PySem.W.keepIn K (.ref A.f__law_is_integer) = true
  b__law_is_integer : Binds K A.d__law_is_integer ["_law_value"] []
  g__law_is_integer : mg "_law_is_integer" = some (.ref A.f__law_is_integer)
  F__law_is_ratio : Fun K "_law_is_ratio" "_law_is_ratio" s__law_is_ratio A.f__law_is_ratio A.d__law_is_ratio
  k__law_is_ratio : PySem.W.keepIn K (.ref A.f__law_is_ratio) = true
  b__law_is_ratio : Binds K A.d__law_is_ratio ["_law_value"] []
  g__law_is_ratio : mg "_law_is_ratio" = some (.ref A.f__law_is_ratio)
  F__law_is_sum : Fun K "_law_is_sum" "_law_is_sum" s__law_is_sum A.f__law_is_sum A.d__law_is_sum
  k__law_is_sum : PySem.W.keepIn K (.ref A.f__law_is_sum) = true
  b__law_is_sum : Binds K A.d__law_is_sum ["_law_found", "_law_terms"] []
  g__law_is_sum : mg "_law_is_sum" = some (.ref A.f__law_is_sum)
  F__law_is_product : Fun K "_law_is_product" "_law_is_product" s__law_is_product A.f__law_is_product A.d__law_is_product
  k__law_is_product : PySem.W.keepIn K (.ref A.f__law_is_product) = true
  b__law_is_product : Binds K A.d__law_is_product ["_law_found", "_law_factors"] []
  g__law_is_product : mg "_law_is_product" = some (.ref A.f__law_is_product)
  F_law : Fun K "law" "law" s_law A.f_law A.d_law
  k_law : PySem.W.keepIn K (.ref A.f_law) = true
  b_law : Binds K A.d_law ["_law_script"] []
  g_law : mg "law" = some (.ref A.f_law)
  g_StopError : mg "StopError" = some (.ref A.C_StopError)
  g_InvalidRatio : mg "InvalidRatio" = some (.ref A.C_InvalidRatio)
  sa_InvalidRatio : PySem.W.findIn K (.ref A.C_InvalidRatio) "__setattr__" = some (some (.builtin "object.__setattr__"))
  ga_InvalidRatio : PySem.W.findIn K (.ref A.C_InvalidRatio) "__getattribute__" = some (some (.builtin "BaseException.__getattribute__"))
  gg_InvalidRatio : PySem.W.findIn K (.ref A.C_InvalidRatio) "__getattr__" = some none
  exb_InvalidRatio : PySem.W.subIn K (.ref A.C_InvalidRatio) (.type "BaseException") = some true
  ty_InvalidRatio : PySem.W.typeIn K (.ref A.C_InvalidRatio) = some (.type "type")
  kp_InvalidRatio : PySem.W.keepIn K (.ref A.C_InvalidRatio) = true
  hd_InvalidRatio : PySem.W.hasDictIn K A.C_InvalidRatio = true
  cl_InvalidRatio : (PySem.W.clsIn K A.C_InvalidRatio).isSome = true
  ha_InvalidRatio : PySem.W.findIn K (.ref A.C_InvalidRatio) "__class__" = some (some (.builtin "object.__class__"))
  hn_InvalidRatio : PySem.W.specialIn K (.builtin "object.__class__") "__get__" = some (some (.builtin "getset_descriptor.__get__"))
  ht_InvalidRatio : PySem.W.takesIn K (.builtin "object.__class__") = some true
  hm_InvalidRatio : PySem.W.mroIn K A.C_InvalidRatio (.type "object") = some true
  no_value_InvalidRatio : PySem.W.findIn K (.ref A.C_InvalidRatio) "value" = some none
  ki_InvalidRatio : PySem.W.kitOne K (.ref A.C_InvalidRatio) (.ref A.C_InvalidRatio) = some true
  kv_InvalidRatio : PySem.W.kitOne K (.ref A.C_InvalidRatio) (.type "ValueError") = some true
  oex_InvalidRatio : OexC K A.C_InvalidRatio
  exk_InvalidRatio : ExcK K A.C_InvalidRatio
  xf_InvalidRatio : XfC K A.C_InvalidRatio
  ex_self_InvalidRatio : PySem.W.exmOne K (.ref A.C_InvalidRatio) (.ref A.C_InvalidRatio) = some true
  exm_StopError_InvalidRatio : PySem.W.exmOne K (.ref A.C_InvalidRatio) (.ref A.C_StopError) = some true
  c_ZERO : ∃ a, mg "ZERO" = some (.ref a) ∧ ∀ H, SqT K H a [.int 0, .int 1]
  c_ONE : ∃ a, mg "ONE" = some (.ref a) ∧ ∀ H, SqT K H a [.int 1, .int 1]
  z_abs : mg "abs" = none
  z_bool : mg "bool" = none
  g_gcd : mg "gcd" = some (.builtin "math.gcd")
  z_int : mg "int" = none
  z_isinstance : mg "isinstance" = none
  z_len : mg "len" = none
  z_tuple : mg "tuple" = none
section
variable {P : Program} {w : World} {K : PySem.W.Frag} {mg : Str → Option Value} {base : Heap} {A : Adr}
theorem sc_InvalidRatio___init__ : FnScope N_InvalidRatio___init__ ["self", "value"] (defScope s_InvalidRatio___init__) := ⟨rfl, rfl, rfl, by decide +kernel, rfl, by decide +kernel, by decide +kernel⟩
theorem ok_InvalidRatio___init__ (T : Txt K mg A) : FnOk P w K mg base CX0 1 A.f_InvalidRatio___init__ A.d_InvalidRatio___init__ ["self", "value"] (spExcInit A.C_InvalidRatio "value") := by
  refine T.F_InvalidRatio___init__.ok sc_InvalidRatio___init__ (fun vs H Q E h => ?_) (fun cdv Ar outer s H vs Q E hr h => ?_)
  · obtain ⟨a, v, rfl, _⟩ := h
    rfl
  · obtain ⟨a, v, rfl, ha, k⟩ := h
    refine ⟨_, (pss_one (ps_ost (pv 0) (pv 1))), ?_⟩
    exact ⟨_, rfl, _, rfl, a, A.C_InvalidRatio, rfl, T.oex_InvalidRatio, T.no_value_InvalidRatio, .inl ⟨ha, k⟩⟩
theorem sc_ratio : FnScope N_ratio ["num", "den"] (defScope s_ratio) := ⟨rfl, rfl, rfl, by decide +kernel, rfl, by decide +kernel, by decide +kernel⟩

def spRatio (K : PySem.W.Frag) (C : Addr) : Sp := fun vs H Q E => ∃ (n d : Int), vs = [.int n, .int d] ∧ d.natAbs.log2 < 9000 ∧
  ((d = 0 ∧ ∀ p, H p = none → Raised C "value" (.ref p) (upd H p (.tup [.int n, .int 0])) E) ∨ (d ≠ 0 ∧ ∀ p, H p = none → Q (.ref p) (upd H p (.tup [.int (ratN n d), .int (ratD n d)]))))
theorem ok_ratio (T : Txt K mg A) : FnOk P w K mg base (L2.CX P w) 3 A.f_ratio A.d_ratio ["num", "den"] (spRatio K A.C_InvalidRatio) := by
  have GInvalidRatio___init__ := ok_InvalidRatio___init__ (P := P) (w := w) (base := base) T
  refine T.F_ratio.ok sc_ratio (fun vs H Q E h => ?_) (fun cdv Ar outer s H vs Q E hr h => ?_)
  · obtain ⟨n, d, rfl, _⟩ := h
    rfl
  · obtain ⟨n, d, rfl, hlog, k⟩ := h
    refine ⟨_, (pss_cons (ps_if (pt_cmpR op_eq (pv 1) pe_int (nomark _)) (pss_one (ps_raise rfl (takes_of rfl rfl rfl rfl) (pmk_oex T.oex_InvalidRatio T.m_InvalidRatio___init__ T.t_InvalidRatio___init__ GInvalidRatio___init__ hr T.b_InvalidRatio___init__ .nil passF rfl T.g_InvalidRatio (pa_cons (pe_tup (pa_cons (pv 0) (pa_cons (pv 1) pa_nil))) pa_nil)))) pss_nil)
      (pss_cons (ps_set (i := 2) sc_ratio.nd rfl (Or.inl rfl) (pe_callBfun cr_gcd (by rfl) T.g_gcd (pa_cons (pv 0) (pa_cons (pv 1) pa_nil))))
      (pss_cons (ps_if (pt_cmpR op_lt (pv 1) pe_int (nomark _)) (pss_one (ps_set (i := 2) sc_ratio.nd rfl (Or.inl rfl) (pe_un un_neg (pv 2)))) pss_nil)
      (pss_one (ps_ret (pe_tup (pa_cons (pe_op op_fdivZ (pv 0) (pv 2)) (pa_cons (pe_op op_fdivZ (pv 1) (pv 2)) pa_nil)))))))), ?_⟩
    rcases k with ⟨rfl, k⟩ | ⟨hd, k⟩
    · refine qW ⟨_, rfl, rfl, _, rfl, iteT ?_⟩
      refine ⟨_, rfl, _, rfl, (by show 2 ≤ sizeLine; decide), fun p hp => ⟨(by show 1 ≤ 1000; decide), fun a ha => ?_⟩⟩
      refine ⟨a, _, rfl, upd_same, fun dx hdx hda => ?_⟩
      have hdx0 : (upd H p (.tup [.int n, .int 0])) dx = none := by rw [upd_ne hda] at hdx; exact hdx
      refine ⟨rfl, dx, [("value", .ref p)], upd_same, ?_, hdx0, ?_⟩
      · rw [upd_ne hda]
        exact upd_same
      · exact raised_end ha hdx0 hda (k p hp)
    · refine qW ⟨_, rfl, rfl, _, rfl, ite2 (fun z => absurd (V.int.inj (of_decide_eq_true z)) hd) (fun _ => ?_)⟩
      apply q_set
      case h => (repeat' (first | exact val_var rfl | exact val_c | exact va_nil | with_reducible apply va_cons | with_reducible apply val_op0 | with_reducible apply val_un | with_reducible apply val_abs | with_reducible apply val_int| with_reducible apply val_gcd | with_reducible apply val_gcdc | with_reducible apply val_isB | with_reducible apply val_notB | with_reducible apply val_chain | with_reducible apply val_eq | with_reducible apply val_ne | with_reducible apply val_andV | with_reducible apply val_orV | with_reducible apply val_notV | with_reducible apply val_opC | with_reducible apply ans_of | with_reducible apply ans_B | with_reducible apply ans_not | with_reducible apply ans_and' | with_reducible apply ans_or' | with_reducible intro _ | (show scal _ _ = true; rfl) | exact wide_mul (by assumption) (by assumption) (by decide) (by decide) (by decide)))
      have hlast : ∀ σ' : L2.St, σ' = [some (.int n), some (.int d), some (.int (rdiv n d))] → (tRet (tTup (tCons (tOp (rI CDivZ fun i j => .int (i.fdiv j)) (tVar 0) (tVar 2)) (tCons (tOp (rI CDivZ fun i j => .int (i.fdiv j)) (tVar 1) (tVar 2)) tNil)))) { nx := fun _ H' => Q .non H', rt := Q } σ' H := by
        rintro σ' rfl
        refine sR ⟨_, rfl, _, rfl, _, _, rfl, rfl, ⟨rdiv_ne hd, rdiv_log hd hlog⟩, _, rfl, _, rfl, _, _, rfl, rfl, ⟨rdiv_ne hd, rdiv_log hd hlog⟩, (by show 2 ≤ sizeLine; decide), fun p hp => k p hp⟩
      refine qW ⟨_, rfl, _, _, rfl, rfl, _, rfl, ite2 (fun hlt => ?_) (fun hlt => ?_)⟩
      · apply s_set
        case h => (repeat' (first | exact val_var rfl | exact val_c | exact va_nil | with_reducible apply va_cons | with_reducible apply val_op0 | with_reducible apply val_un | with_reducible apply val_abs | with_reducible apply val_int| with_reducible apply val_gcd | with_reducible apply val_gcdc | with_reducible apply val_isB | with_reducible apply val_notB | with_reducible apply val_chain | with_reducible apply val_eq | with_reducible apply val_ne | with_reducible apply val_andV | with_reducible apply val_orV | with_reducible apply val_notV | with_reducible apply val_opC | with_reducible apply ans_of | with_reducible apply ans_B | with_reducible apply ans_not | with_reducible apply ans_and' | with_reducible apply ans_or' | with_reducible intro _ | (show scal _ _ = true; rfl) | exact wide_mul (by assumption) (by assumption) (by decide) (by decide) (by decide)))
        refine hlast _ ?_
        have hlt' : d < 0 := of_decide_eq_true hlt
        unfold rdiv
        rw [if_pos hlt']
        rfl
      · refine hlast _ ?_
        have hlt' : ¬ d < 0 := fun z => hlt (decide_eq_true z)
        unfold rdiv
        rw [if_neg hlt']
        rfl
theorem sc_add : FnScope N_add ["terms"] (defScope s_add) := ⟨rfl, rfl, rfl, by decide +kernel, rfl, by decide +kernel, by decide +kernel⟩

/-- at each of the addresses a pair of ints, the denominator at least 1, below 2 ^ 110 -/
def Rats (H : Hp) (as : List Addr) (qs : List (Int × Int)) : Prop := as.length = qs.length ∧ ∀ (i : Nat) (a : Addr) (q : Int × Int), as[i]? = some a → qs[i]? = some q → H a = some (.tup [.int q.1, .int q.2]) ∧ 1 ≤ q.2 ∧ q.1.natAbs < 2 ^ 110 ∧ q.2.natAbs < 2 ^ 110
theorem Rats.same {H H' : Hp} {as : List Addr} {qs : List (Int × Int)} (h : Rats H as qs) (e : Same H H') : Rats H' as qs := ⟨h.1, fun i a q x y => ⟨e _ _ (h.2 i a q x y).1, (h.2 i a q x y).2⟩⟩
theorem Rats.den {H : Hp} {as : List Addr} {qs : List (Int × Int)} (h : Rats H as qs) : ∀ q ∈ qs, 1 ≤ q.2 := fun q hq => by
  obtain ⟨i, hi⟩ := List.getElem?_of_mem hq
  have hl := (List.getElem?_eq_some_iff.mp hi).1
  exact (h.2 i _ q (List.getElem?_eq_getElem (show i < as.length by rw [h.1]; exact hl)) hi).2.1
theorem Rats.lt {H : Hp} {as : List Addr} {qs : List (Int × Int)} (h : Rats H as qs) : ∀ q ∈ qs, q.1.natAbs < 2 ^ 110 ∧ q.2.natAbs < 2 ^ 110 := fun q hq => by
  obtain ⟨i, hi⟩ := List.getElem?_of_mem hq
  have hl := (List.getElem?_eq_some_iff.mp hi).1
  exact (h.2 i _ q (List.getElem?_eq_getElem (show i < as.length by rw [h.1]; exact hl)) hi).2.2
theorem Rats.cons {H : Hp} {a : Addr} {n d : Int} {as : List Addr} {qs : List (Int × Int)} (h : H a = some (.tup [.int n, .int d])) (h1 : 1 ≤ d) (h2 : n.natAbs < 2 ^ 110) (h3 : d.natAbs < 2 ^ 110) (r : Rats H as qs) : Rats H (a :: as) ((n, d) :: qs) := by
  refine ⟨by rw [List.length_cons, List.length_cons, r.1], fun i b q x y => ?_⟩
  cases i with
  | zero =>
    cases x
    cases y
    exact ⟨h, h1, h2, h3⟩
  | succ i => exact r.2 i b q x y
theorem Rats.nil {H : Hp} : Rats H [] [] := ⟨rfl, fun i b q x y => (by cases x)⟩
/-- add, multiply: the fold of the terms -/
def spFold (K : PySem.W.Frag) (F : List (Int × Int) → Int × Int) : Sp := fun vs H Q _ => ∃ (p : Addr) (as : List Addr) (qs : List (Int × Int)), vs = [.ref p] ∧ H p = some (.tup (as.map V.ref)) ∧ Rats H as qs ∧ as.length ≤ 20 ∧ ∀ r H', Same H H' → SqT K H' r [.int (F qs).1, .int (F qs).2] → Q (.ref r) H'
theorem ok_add (T : Txt K mg A) : FnR P w K mg base CX0 5 A.f_add (starSp 0 (spFold K sumR)) := by
  have Gratio := ok_ratio (P := P) (w := w) (base := base) T
  obtain ⟨ds2, vd2, b2⟩ := T.b2_ratio
  have ed2 := vals_nil vd2
  subst ed2
  obtain ⟨aC, gC, sC⟩ := T.c_ZERO
  refine okStar (ps := []) T.F_add sc_add StX.cxUp_none (fun kV doc pm an cdv ct us rest h => (match us, rest, h with | [], [], _ => rfl | [], _ :: _, _ => rfl)) (fun cdv Ar outer s H vs Q E hr h => ?_)
  obtain ⟨p, as, qs, rfl, hp, hr2, hl, k⟩ := h
    
  refine ⟨_, PSs.nox (pss_cons (ps_set (i := 1) sc_add.nd rfl (Or.inl rfl) (pe_glob (v := .ref aC) rfl gC rfl))
      (pss_cons (ps_for PassesOwn.never rfl (pi_tup (pv 0)) (pg_tup (by rfl) (pgs_cons (pg_name (i := 2) sc_add.nd rfl (Or.inl rfl)) (pgs_cons (pg_name (i := 3) sc_add.nd rfl (Or.inl rfl)) pgs_nil))) (pss_one (ps_set (i := 1) sc_add.nd rfl (Or.inl rfl) (pe_call Gratio (hr.mono (by decide)) rfl T.g_ratio T.k_ratio b2 .nil passL (pa_cons (pe_op op_add (pe_op op_mulW (pe_ix ix_tup (pv 1) pe_int (fun _ _ => rfl)) (pv 3)) (pe_op op_mulW (pv 2) (pe_ix ix_tup (pv 1) pe_int (fun _ _ => rfl)))) (pa_cons (pe_op op_mulW (pe_ix ix_tup (pv 1) pe_int (fun _ _ => rfl)) (pv 3)) pa_nil))))))
      (pss_one (ps_ret (pv 1))))), ?_⟩
  refine qS ?_
  have z0 : Sz 0 ((0 : Int), (1 : Int)) := ⟨by decide, by decide⟩
  have r0 : Rel ((0 : Int), (1 : Int)) ((0 : Int), (1 : Int)) := ⟨⟨by decide, by decide⟩, by decide, by decide⟩
  refine ⟨_, rfl, p, rfl, ⟨_, SqT.of hp⟩, for_tup (K := K) (a := p) (xs := as.map V.ref) (fun i σ H' => ∃ (t : Addr) (v2 v3 : Option V), σ = [some (.ref p), some (.ref t), v2, v3] ∧ Same H H' ∧ SqT K H' t [.int ((qs.take i).foldl sStep (0, 1)).1, .int ((qs.take i).foldl sStep (0, 1)).2] ∧ Sz i ((qs.take i).foldl sStep (0, 1)) ∧ Rel ((qs.take i).foldl sStep (0, 1)) ((qs.take i).foldl uStep (0, 1)))
    ⟨aC, none, none, rfl, Same.refl _, sC _, z0, r0⟩ (fun i σ H' _ ⟨_, _, _, _, s, _⟩ => SqT.of (s _ _ hp)) ?_ ?_⟩
  · rintro i y σ H' hi ⟨t, v2, v3, rfl, s1, ht, hsz, hrel⟩
    rw [List.getElem?_map] at hi
    obtain ⟨a, ha, rfl⟩ : ∃ a, as[i]? = some a ∧ V.ref a = y := by
      cases e : as[i]? with
      | none => rw [e] at hi; cases hi
      | some a => rw [e] at hi; exact ⟨a, rfl, Option.some.inj hi⟩
    have hi2 : i < qs.length := by
      rw [← hr2.1]
      exact (List.getElem?_eq_some_iff.mp ha).1
    have hq : qs[i]? = some qs[i] := List.getElem?_eq_getElem hi2
    generalize qs[i] = q at hq
    obtain ⟨hA, hq1, hq2, hq3⟩ := (hr2.same s1).2 i a q ha hq
    refine ⟨a, _, rfl, SqT.of hA, rfl, _, _, rfl, _, _, rfl, rfl, ?_⟩
    dsimp only [gName]
    have e1 := foldl_take sStep (0, 1) hq
    have e2 := foldl_take uStep (0, 1) hq
    generalize (qs.take i).foldl sStep (0, 1) = z at ht hsz hrel e1
    generalize (qs.take i).foldl uStep (0, 1) = u at hrel e2
    have hz1 := hrel.1.1
    have hz0 : z.2 * q.2 ≠ 0 := Int.mul_ne_zero (by omega) (by omega)
    have hT := ht
    have hi20 : i < 20 := by
      have := (List.getElem?_eq_some_iff.mp ha).1
      omega
    have hz3 : z.1.natAbs < 2 ^ 3000 := Nat.lt_of_lt_of_le hsz.1 (Nat.pow_le_pow_right (by decide) (by omega))
    have hz4 : z.2.natAbs < 2 ^ 3000 := Nat.lt_of_lt_of_le hsz.2 (Nat.pow_le_pow_right (by decide) (by omega))
    have hdd := wide_lt hz4 hq3
    refine sS (call_of (vs := [.int (z.1 * q.2 + q.1 * z.2), .int (z.2 * q.2)]) ?_ ⟨_, _, rfl, lgp hdd, .inr ⟨hz0, fun r hr => ?_⟩⟩)
    · (repeat' (first | (exact val_ixT (val_var rfl) val_c hT rfl) | exact val_var rfl | exact val_c | exact va_nil | with_reducible apply va_cons | with_reducible apply val_op0 | with_reducible apply val_un | with_reducible apply val_abs | with_reducible apply val_int| with_reducible apply val_gcd | with_reducible apply val_gcdc | with_reducible apply val_isB | with_reducible apply val_notB | with_reducible apply val_chain | with_reducible apply val_eq | with_reducible apply val_ne | with_reducible apply val_andV | with_reducible apply val_orV | with_reducible apply val_notV | with_reducible apply val_opC | with_reducible apply ans_of | with_reducible apply ans_B | with_reducible apply ans_not | with_reducible apply ans_and' | with_reducible apply ans_or' | with_reducible intro _ | (show scal _ _ = true; rfl) | exact wide_mul (by assumption) (by assumption) (by decide) (by decide) (by decide)))
    · refine ⟨r, _, _, rfl, L2.Same.trans s1 (same_upd hr), ?_, ?_, ?_⟩
      · rw [e1]
        exact SqT.of upd_same
      · rw [e1]
        exact sz_s hsz hz0 hq2 hq3
      · rw [e1, e2]
        exact rel_s hrel hq1
  · rintro σ H' ⟨t, v2, v3, rfl, s1, ht, hsz, hrel⟩
    dsimp only
    apply s_ret
    case h => (repeat' (first | exact val_var rfl | exact val_c | exact va_nil | with_reducible apply va_cons | with_reducible apply val_op0 | with_reducible apply val_un | with_reducible apply val_abs | with_reducible apply val_int| with_reducible apply val_gcd | with_reducible apply val_gcdc | with_reducible apply val_isB | with_reducible apply val_notB | with_reducible apply val_chain | with_reducible apply val_eq | with_reducible apply val_ne | with_reducible apply val_andV | with_reducible apply val_orV | with_reducible apply val_notV | with_reducible apply val_opC | with_reducible apply ans_of | with_reducible apply ans_B | with_reducible apply ans_not | with_reducible apply ans_and' | with_reducible apply ans_or' | with_reducible intro _ | (show scal _ _ = true; rfl) | exact wide_mul (by assumption) (by assumption) (by decide) (by decide) (by decide)))
    rw [List.length_map, List.take_of_length_le (by rw [hr2.1]; exact Nat.le_refl _)] at ht
    exact k t H' s1 ht
theorem sc_multiply : FnScope N_multiply ["factors"] (defScope s_multiply) := ⟨rfl, rfl, rfl, by decide +kernel, rfl, by decide +kernel, by decide +kernel⟩
theorem ok_multiply (T : Txt K mg A) : FnR P w K mg base CX0 5 A.f_multiply (starSp 0 (spFold K prodR)) := by
  have Gratio := ok_ratio (P := P) (w := w) (base := base) T
  obtain ⟨ds2, vd2, b2⟩ := T.b2_ratio
  have ed2 := vals_nil vd2
  subst ed2
  obtain ⟨aC, gC, sC⟩ := T.c_ONE
  refine okStar (ps := []) T.F_multiply sc_multiply StX.cxUp_none (fun kV doc pm an cdv ct us rest h => (match us, rest, h with | [], [], _ => rfl | [], _ :: _, _ => rfl)) (fun cdv Ar outer s H vs Q E hr h => ?_)
  obtain ⟨p, as, qs, rfl, hp, hr2, hl, k⟩ := h
    
  refine ⟨_, PSs.nox (pss_cons (ps_set (i := 1) sc_multiply.nd rfl (Or.inl rfl) (pe_glob (v := .ref aC) rfl gC rfl))
      (pss_cons (ps_for PassesOwn.never rfl (pi_tup (pv 0)) (pg_tup (by rfl) (pgs_cons (pg_name (i := 2) sc_multiply.nd rfl (Or.inl rfl)) (pgs_cons (pg_name (i := 3) sc_multiply.nd rfl (Or.inl rfl)) pgs_nil))) (pss_one (ps_set (i := 1) sc_multiply.nd rfl (Or.inl rfl) (pe_call Gratio (hr.mono (by decide)) rfl T.g_ratio T.k_ratio b2 .nil passL (pa_cons (pe_op op_mulW (pe_ix ix_tup (pv 1) pe_int (fun _ _ => rfl)) (pv 2)) (pa_cons (pe_op op_mulW (pe_ix ix_tup (pv 1) pe_int (fun _ _ => rfl)) (pv 3)) pa_nil))))))
      (pss_one (ps_ret (pv 1))))), ?_⟩
  refine qS ?_
  have z0 : Sz 0 ((1 : Int), (1 : Int)) := ⟨by decide, by decide⟩
  have r0 : Rel ((1 : Int), (1 : Int)) ((1 : Int), (1 : Int)) := ⟨⟨by decide, by decide⟩, by decide, by decide⟩
  refine ⟨_, rfl, p, rfl, ⟨_, SqT.of hp⟩, for_tup (K := K) (a := p) (xs := as.map V.ref) (fun i σ H' => ∃ (t : Addr) (v2 v3 : Option V), σ = [some (.ref p), some (.ref t), v2, v3] ∧ Same H H' ∧ SqT K H' t [.int ((qs.take i).foldl pStep (1, 1)).1, .int ((qs.take i).foldl pStep (1, 1)).2] ∧ Sz i ((qs.take i).foldl pStep (1, 1)) ∧ Rel ((qs.take i).foldl pStep (1, 1)) ((qs.take i).foldl vStep (1, 1)))
    ⟨aC, none, none, rfl, Same.refl _, sC _, z0, r0⟩ (fun i σ H' _ ⟨_, _, _, _, s, _⟩ => SqT.of (s _ _ hp)) ?_ ?_⟩
  · rintro i y σ H' hi ⟨t, v2, v3, rfl, s1, ht, hsz, hrel⟩
    rw [List.getElem?_map] at hi
    obtain ⟨a, ha, rfl⟩ : ∃ a, as[i]? = some a ∧ V.ref a = y := by
      cases e : as[i]? with
      | none => rw [e] at hi; cases hi
      | some a => rw [e] at hi; exact ⟨a, rfl, Option.some.inj hi⟩
    have hi2 : i < qs.length := by
      rw [← hr2.1]
      exact (List.getElem?_eq_some_iff.mp ha).1
    have hq : qs[i]? = some qs[i] := List.getElem?_eq_getElem hi2
    generalize qs[i] = q at hq
    obtain ⟨hA, hq1, hq2, hq3⟩ := (hr2.same s1).2 i a q ha hq
    refine ⟨a, _, rfl, SqT.of hA, rfl, _, _, rfl, _, _, rfl, rfl, ?_⟩
    dsimp only [gName]
    have e1 := foldl_take pStep (1, 1) hq
    have e2 := foldl_take vStep (1, 1) hq
    generalize (qs.take i).foldl pStep (1, 1) = z at ht hsz hrel e1
    generalize (qs.take i).foldl vStep (1, 1) = u at hrel e2
    have hz1 := hrel.1.1
    have hz0 : z.2 * q.2 ≠ 0 := Int.mul_ne_zero (by omega) (by omega)
    have hT := ht
    have hi20 : i < 20 := by
      have := (List.getElem?_eq_some_iff.mp ha).1
      omega
    have hz3 : z.1.natAbs < 2 ^ 3000 := Nat.lt_of_lt_of_le hsz.1 (Nat.pow_le_pow_right (by decide) (by omega))
    have hz4 : z.2.natAbs < 2 ^ 3000 := Nat.lt_of_lt_of_le hsz.2 (Nat.pow_le_pow_right (by decide) (by omega))
    have hdd := wide_lt hz4 hq3
    refine sS (call_of (vs := [.int (z.1 * q.1), .int (z.2 * q.2)]) ?_ ⟨_, _, rfl, lgp hdd, .inr ⟨hz0, fun r hr => ?_⟩⟩)
    · (repeat' (first | (exact val_ixT (val_var rfl) val_c hT rfl) | exact val_var rfl | exact val_c | exact va_nil | with_reducible apply va_cons | with_reducible apply val_op0 | with_reducible apply val_un | with_reducible apply val_abs | with_reducible apply val_int| with_reducible apply val_gcd | with_reducible apply val_gcdc | with_reducible apply val_isB | with_reducible apply val_notB | with_reducible apply val_chain | with_reducible apply val_eq | with_reducible apply val_ne | with_reducible apply val_andV | with_reducible apply val_orV | with_reducible apply val_notV | with_reducible apply val_opC | with_reducible apply ans_of | with_reducible apply ans_B | with_reducible apply ans_not | with_reducible apply ans_and' | with_reducible apply ans_or' | with_reducible intro _ | (show scal _ _ = true; rfl) | exact wide_mul (by assumption) (by assumption) (by decide) (by decide) (by decide)))
    · refine ⟨r, _, _, rfl, L2.Same.trans s1 (same_upd hr), ?_, ?_, ?_⟩
      · rw [e1]
        exact SqT.of upd_same
      · rw [e1]
        exact sz_p hsz hz0 hq2 hq3
      · rw [e1, e2]
        exact rel_p hrel hq1
  · rintro σ H' ⟨t, v2, v3, rfl, s1, ht, hsz, hrel⟩
    dsimp only
    apply s_ret
    case h => (repeat' (first | exact val_var rfl | exact val_c | exact va_nil | with_reducible apply va_cons | with_reducible apply val_op0 | with_reducible apply val_un | with_reducible apply val_abs | with_reducible apply val_int| with_reducible apply val_gcd | with_reducible apply val_gcdc | with_reducible apply val_isB | with_reducible apply val_notB | with_reducible apply val_chain | with_reducible apply val_eq | with_reducible apply val_ne | with_reducible apply val_andV | with_reducible apply val_orV | with_reducible apply val_notV | with_reducible apply val_opC | with_reducible apply ans_of | with_reducible apply ans_B | with_reducible apply ans_not | with_reducible apply ans_and' | with_reducible apply ans_or' | with_reducible intro _ | (show scal _ _ = true; rfl) | exact wide_mul (by assumption) (by assumption) (by decide) (by decide) (by decide)))
    rw [List.length_map, List.take_of_length_le (by rw [hr2.1]; exact Nat.le_refl _)] at ht
    exact k t H' s1 ht
theorem sc__law_box : FnScope N__law_box ["_law_script"] (defScope s__law_box) := ⟨rfl, rfl, rfl, by decide +kernel, rfl, by decide +kernel, by decide +kernel⟩
theorem ok__law_box (T : Txt K mg A) : FnOk P w K mg base CX0 1 A.f__law_box A.d__law_box ["_law_script"] (spBox K) := by
  refine T.F__law_box.ok sc__law_box (fun vs H Q E h => ?_) (fun cdv Ar outer s H vs Q E hr h => ?_)
  · obtain ⟨a, ns, rfl, _⟩ := h
    rfl
  · obtain ⟨a, ns, rfl, hS, hlen, k⟩ := h
    refine ⟨_, (pss_one (ps_ret (pe_lst (pa_cons (pe_lc (own := [("_law_cell", 1)]) (g := gName 1) (tt := tYes) rfl sc__law_box.nd (pi_list (pe_slice sl_list (pv 0) po_none (po_some pe_int))) (blkOk_by (own := [("_law_cell", 1)]) (N := N__law_box) (sc := defScope s__law_box) (by decide +kernel)) (fun _ _ _ _ _ => (pg_name (i := 1) sc__law_box.nd rfl (Or.inl rfl))) (fun _ _ _ _ _ => pts_nil) (fun _ _ _ _ _ => (pe_callB call_abs (by rfl) T.z_abs (by decide +kernel) (pa_cons (pe_callTy call_int1 (by rfl) T.z_int (by decide +kernel) (pa_cons (pv 1) pa_nil)) pa_nil)))) (pa_cons pe_int (pa_cons pe_int pa_nil)))))), ?_⟩
    refine ⟨_, rfl, 63, rfl, a, _, rfl, hS, fun p hp => ?_⟩
    have ecut : cutV (ns.map V.int) none (some 63) = (ns.map V.int) := by
      unfold cutV
      have e63 : ∀ n, HT.sIx n n (some (63 : Int)) = min 63 n := fun n => HT.sIx_nat n n 63
      rw [show HT.sIx (ns.map V.int).length 0 none = 0 from rfl, e63, List.length_map]
      rw [List.drop_zero, List.take_of_length_le]
      rw [List.length_map]
      omega
    rw [ecut]
    refine ⟨p, rfl, ⟨_, SqL.of upd_same⟩, fun D hD => ?_⟩
    have hDp : D ≠ p := fun e => (by rw [e, upd_same] at hD; cases hD)
    have hD0 : H D = none := by rw [upd_ne hDp] at hD; exact hD
    refine lc_list (K := K) (a := p) (xs := ns.map V.int) (fun i H' => Same H H' ∧ H' p = some (.lst (ns.map V.int)) ∧ ∃ ms : List Int, H' D = some (.lst (ms.map V.int)) ∧ ms.length = i ∧ ∀ x ∈ ms, 0 ≤ x)
      ⟨Same.trans (same_upd hp) (same_upd hD), by rw [upd_ne hDp.symm, upd_same], [], upd_same, rfl, fun x hx => (by cases hx)⟩
      (fun i H' _ h => SqL.of h.2.1) ?_ ?_
    · rintro i y H' hi ⟨s1, h1, ms, h2, hl, h3⟩
      have hi63 : i < ns.length := by
        have q := (List.getElem?_eq_some_iff.mp hi).1
        rw [List.length_map] at q
        exact q
      obtain ⟨u, rfl⟩ : ∃ u, y = V.int u := by
        rw [List.getElem?_map] at hi
        cases e : ns[i]? with
        | none =>
          rw [e] at hi
          cases hi
        | some u =>
          rw [e] at hi
          exact ⟨u, (Option.some.inj hi).symm⟩
      refine ⟨rfl, ?_⟩
      refine ⟨_, rfl, .inl ⟨u, rfl, u, rfl, ?_⟩⟩
      rw [iabs]
      refine ⟨_, h2, ?_, (fun b o e => by rw [upd_ne (ne_of_none e hD0)]; exact s1 b o e), ?_, ms ++ [((u.natAbs : Nat) : Int)], ?_, ?_, ?_⟩
      · rw [List.length_map, hl]
        exact small1000 (by omega)
      · rw [upd_ne hDp.symm]
        exact h1
      · rw [List.map_append]
        exact upd_same
      · rw [List.length_append, hl]
        rfl
      · intro x hx
        rcases List.mem_append.mp hx with hx | hx
        · exact h3 x hx
        · rw [List.mem_singleton.mp hx]
          exact Int.natCast_nonneg _
    · rintro H' ⟨s1, h1, ms, h2, hl, h3⟩
      refine ⟨?_, fun b hb => ?_⟩
      · show 3 ≤ sizeLine
        decide
      · have hbD : b ≠ D := fun e => (by rw [e, h2] at hb; cases hb)
        refine k b D _ (Same.trans s1 (same_upd hb)) (s1.free hb) hD0 ⟨ms, 0, 1, upd_same, ?_, ?_, h3, by omega, by omega, by omega⟩
        · rw [upd_ne hbD.symm]
          exact h2
        · rw [hl, List.length_map]
          omega
theorem sc__law_take : FnScope N__law_take ["_law_box_here", "_law_size"] (defScope s__law_take) := ⟨rfl, rfl, rfl, by decide +kernel, rfl, by decide +kernel, by decide +kernel⟩
theorem ok__law_take (T : Txt K mg A) : FnOk P w K mg base CX0 1 A.f__law_take A.d__law_take ["_law_box_here", "_law_size"] spTake := by
  refine T.F__law_take.ok sc__law_take (fun vs H Q E h => ?_) (fun cdv Ar outer s H vs Q E hr h => ?_)
  · obtain ⟨b, c, n, rfl, _⟩ := h
    rfl
  · obtain ⟨b, c, n, rfl, hB, hn, hlog, k⟩ := h
    refine ⟨_, (pss_cons (ps_set (i := 2) sc__law_take.nd rfl (Or.inl rfl) (pe_ix ix_list (pv 0) pe_int (fun _ _ => rfl)))
      (pss_cons (ps_set (i := 3) sc__law_take.nd rfl (Or.inl rfl) pe_int)
      (Evl.pss_cut (ps_if (pt_cmpR op_gt (pe_callB call_len_seq (by rfl) T.z_len (by decide +kernel) (pa_cons (pv 2) pa_nil)) pe_int (nomark _)) (pss_cons (ps_set (i := 4) sc__law_take.nd rfl (Or.inl rfl) (pe_op op_mod (pe_callTy call_int1 (by rfl) T.z_int (by decide +kernel) (pa_cons (pe_ix ix_list (pv 0) pe_int (fun _ _ => rfl)) pa_nil)) (pe_callB call_len_seq (by rfl) T.z_len (by decide +kernel) (pa_cons (pv 2) pa_nil))))
      (pss_cons (ps_if (pt_cmpR op_ge (pe_ix ix_list (pv 2) (pv 4) (fun _ _ => rfl)) (pe_op op_pow pe_int pe_int) (nomark _)) (pss_cons (ps_set (i := 5) sc__law_take.nd rfl (Or.inl rfl) (pe_op op_mod (pe_callTy call_int1 (by rfl) T.z_int (by decide +kernel) (pa_cons (pe_ix ix_list (pv 2) (pv 4) (fun _ _ => rfl)) pa_nil)) (pv 1)))
      (pss_cons (ps_asg (pe_op op_fdivW (pe_ix ix_list (pv 2) (pv 4) (fun _ _ => rfl)) (pv 1)) (pg_sub (pv 2) (pv 4) set_list))
      (pss_one (ps_ret (pv 5))))) pss_nil)
      (pss_cons (ps_asg (pe_op op_add (pe_ix ix_list (pv 0) pe_int (fun _ _ => rfl)) pe_int) (pg_sub (pv 0) pe_int set_list))
      (pss_one (ps_set (i := 3) sc__law_take.nd rfl (Or.inl rfl) (pe_op op_add (pe_op op_mulW (pe_ix ix_list (pv 2) (pv 4) (fun _ _ => rfl)) pe_int) pe_int)))))) pss_nil)
      (pss_cons (ps_asg (pe_op op_mod (pe_callTy call_int1 (by rfl) T.z_int (by decide +kernel) (pa_cons (pe_op op_add (pe_op op_mulW (pe_ix ix_list (pv 0) pe_int (fun _ _ => rfl)) pe_int) (pv 3)) pa_nil)) pe_int) (pg_sub (pv 0) pe_int set_list))
      (pss_cons (ps_set (i := 6) sc__law_take.nd rfl (Or.inl rfl) (pe_op op_mod (pe_callTy call_int1 (by rfl) T.z_int (by decide +kernel) (pa_cons (pe_op op_add (pe_op op_mulW (pe_ix ix_list (pv 0) pe_int (fun _ _ => rfl)) pe_int) (pe_op op_fdivW (pe_ix ix_list (pv 0) pe_int (fun _ _ => rfl)) pe_int)) pa_nil)) pe_int))
      (pss_one (ps_ret (pe_op op_mod (pe_callTy call_int1 (by rfl) T.z_int (by decide +kernel) (pa_cons (pe_op op_fdivW (pv 6) pe_int) pa_nil)) (pv 1))))))))), ?_⟩
    have hbc := hB.ne
    obtain ⟨ns, kk, s, h1, h2, hl, h0, k0, s0, s1⟩ := hB
    have hlen : (ns.map V.int).length = ns.length := List.length_map ..
    refine qS ⟨_, rfl, b, _, _, _, rfl, rfl, SqL.of h1, rfl, ?_⟩
    apply q_set
    case h => (repeat' (first | exact val_var rfl | exact val_c | exact va_nil | with_reducible apply va_cons | with_reducible apply val_op0 | with_reducible apply val_un | with_reducible apply val_abs | with_reducible apply val_int| with_reducible apply val_gcd | with_reducible apply val_gcdc | with_reducible apply val_isB | with_reducible apply val_notB | with_reducible apply val_chain | with_reducible apply val_eq | with_reducible apply val_ne | with_reducible apply val_andV | with_reducible apply val_orV | with_reducible apply val_notV | with_reducible apply val_opC | with_reducible apply ans_of | with_reducible apply ans_B | with_reducible apply ans_not | with_reducible apply ans_and' | with_reducible apply ans_or' | with_reducible intro _ | (show scal _ _ = true; rfl) | exact wide_mul (by assumption) (by assumption) (by decide) (by decide) (by decide)))
    refine ⟨fun σ' H' => ∃ (w k' : Int) (v4 v5 : Option V), σ' = [some (.ref b), some (.int n), some (.ref c), some (.int w), v4, v5, none] ∧ 0 ≤ k' ∧ H' b = some (.lst [.ref c, .int k', .int s]) ∧ H' c = some (.lst (ns.map V.int)) ∧ ∀ a, a ≠ b → a ≠ c → H' a = H a, ?_, ?_⟩
    · refine sW ⟨_, rfl, c, _, rfl, .inl (SqL.of h2), _, _, rfl, rfl, _, rfl, ite2 (fun hp => ?_) (fun hp => ?_)⟩
      · have hp' : (0 : Int) < ((ns.map V.int).length : Int) := of_decide_eq_true hp
        refine qS ⟨_, rfl, b, _, _, _, rfl, rfl, SqL.of h1, rfl, .inl ⟨_, rfl, _, rfl, c, _, rfl, .inl (SqL.of h2), _, _, rfl, rfl, hp', ?_⟩⟩
        obtain ⟨x, hx, hx0, hix⟩ := pickP ns (fun x => 0 ≤ x) h0 (d := kk % ((ns.map V.int).length : Int)) (Int.emod_nonneg _ (by omega)) (by rw [← hlen]; exact Int.emod_lt_of_pos _ hp')
        refine qW ⟨_, rfl, _, rfl, c, _, _, _, rfl, rfl, SqL.of h2, hx, _, _, rfl, rfl, ⟨by decide, by decide, by decide⟩, _, _, rfl, rfl, _, rfl, ite2 (fun hq => ?_) (fun hq => ?_)⟩
        · refine qS ⟨_, rfl, _, rfl, c, _, _, _, rfl, rfl, SqL.of h2, hx, .inl ⟨_, rfl, _, rfl, _, _, rfl, rfl, hn, ?_⟩⟩
          refine qB ⟨_, rfl, _, rfl, c, _, _, _, rfl, rfl, SqL.of h2, hx, _, rfl, _, _, rfl, rfl, ⟨hn, hlog⟩, _, rfl, _, rfl, c, _, _, _, rfl, rfl, h2, (by have q := hix; rw [← hlen] at q; exact q), ?_⟩
          refine ⟨_, rfl, ?_⟩
          refine k _ _ (Int.emod_nonneg _ (by omega)) (Int.emod_lt_of_pos _ hn) ⟨ns.set (kk % ((ns.map V.int).length : Int)).toNat (x / n), kk, s, ?_, ?_, ?_, ?_, k0, s0, s1⟩ (fun a hab hac => upd_ne hac)
          · rw [upd_ne hbc]
            exact h1
          · rw [List.map_set]
            exact upd_same
          · rw [List.length_set]
            exact hl
          · intro y hy
            rcases List.mem_or_eq_of_mem_set hy with hy | hy
            · exact h0 y hy
            · rw [hy]
              exact Int.ediv_nonneg hx0 (by omega)
        · refine qB ⟨_, rfl, b, _, _, _, rfl, rfl, SqL.of h1, rfl, _, _, rfl, rfl, _, rfl, b, _, _, 1, rfl, rfl, h1, rfl, ?_⟩
          refine sS ⟨_, rfl, _, rfl, c, _, _, _, rfl, rfl, SqL.of ((upd_ne hbc.symm).trans h2), hx, _, _, rfl, rfl, ?_, _, _, rfl, rfl, ?_⟩
          · have hx18 : ¬ (10 : Int) ^ (18 : Int).toNat ≤ x := fun z => hq (decide_eq_true z)
            have hx18' : x < 10 ^ 18 := by
              rw [show (18 : Int).toNat = 18 from rfl] at hx18
              omega
            exact wide_mul (a := 70) (b := 20) (by omega) (by decide) (by decide) (by decide) (by decide)
          · exact ⟨_, kk + 1, _, _, rfl, by omega, upd_same, (upd_ne hbc.symm).trans h2, fun a hab hac => upd_ne hab⟩
      · exact ⟨_, kk, _, _, rfl, k0, h1, h2, fun a _ _ => rfl⟩
    · rintro σ' H' ⟨w, k', v4, v5, rfl, hk', hb, hc, he⟩
      refine qB ⟨_, rfl, b, _, _, _, rfl, rfl, SqL.of hb, rfl, _, _, rfl, rfl, wide_mul (a := 40) (b := 20) (by omega) (by decide) (by decide) (by decide) (by decide), _, rfl, _, _, rfl, rfl, .inl ⟨_, rfl, _, _, rfl, rfl, (by decide : (0 : Int) < 2147483647), _, rfl, b, _, _, 2, rfl, rfl, hb, rfl, ?_⟩⟩
      dsimp only
      have e0 := Int.emod_nonneg (s * 48271 + w) (by decide : (2147483647 : Int) ≠ 0)
      have e1 := Int.emod_lt_of_pos (s * 48271 + w) (by decide : (0 : Int) < 2147483647)
      generalize (s * 48271 + w) % 2147483647 = s' at e0 e1 ⊢
      have hb' : (upd H' b (.lst ([.ref c, .int k', .int s].set 2 (.int s')))) b = some (.lst [.ref c, .int k', .int s']) := upd_same
      refine qS ⟨_, rfl, b, _, _, _, rfl, rfl, SqL.of hb', rfl, _, _, rfl, rfl, wide_mul (a := 40) (b := 20) (by omega) (by decide) (by decide) (by decide) (by decide), _, rfl, b, _, _, _, rfl, rfl, SqL.of hb', rfl, _, _, rfl, rfl, ⟨by decide, by decide⟩, _, _, rfl, rfl, .inl ⟨_, rfl, _, _, rfl, rfl, (by decide : (0 : Int) < 2147483629), ?_⟩⟩
      refine ⟨_, rfl, _, _, rfl, rfl, ⟨by decide, by decide⟩, .inl ⟨_, rfl, _, rfl, _, _, rfl, rfl, hn, ?_⟩⟩
      exact k _ _ (Int.emod_nonneg _ (by omega)) (Int.emod_lt_of_pos _ hn) ⟨ns, k', s', hb', (upd_ne hbc.symm).trans hc, hl, h0, hk', e0, e1⟩ (fun a hab hac => (upd_ne hab).trans (he a hab hac))
theorem sc__law_gcd : FnScope N__law_gcd ["_law_a", "_law_b"] (defScope s__law_gcd) := ⟨rfl, rfl, rfl, by decide +kernel, rfl, by decide +kernel, by decide +kernel⟩
theorem ok__law_gcd (T : Txt K mg A) : FnOk P w K mg base CX0 1 A.f__law_gcd A.d__law_gcd ["_law_a", "_law_b"] spGcd := by
  refine T.F__law_gcd.ok sc__law_gcd (fun vs H Q E h => ?_) (fun cdv Ar outer s H vs Q E hr h => ?_)
  · obtain ⟨m, n, rfl, _⟩ := h
    rfl
  · obtain ⟨m, n, rfl, k⟩ := h
    refine ⟨_, (pss_cons (ps_set (i := 0) sc__law_gcd.nd rfl (Or.inl rfl) (pe_callB call_abs (by rfl) T.z_abs (by decide +kernel) (pa_cons (pv 0) pa_nil)))
      (pss_cons (ps_set (i := 1) sc__law_gcd.nd rfl (Or.inl rfl) (pe_callB call_abs (by rfl) T.z_abs (by decide +kernel) (pa_cons (pv 1) pa_nil)))
      (pss_cons (ps_while PassesOwn.never (pt_cmpR op_gt (pv 1) pe_int (nomark _)) (pss_one (ps_par (i := 0) (j := 1) (by rfl) sc__law_gcd.nd rfl rfl (by decide) rfl rfl (pa_cons (pv 1) (pa_cons (pe_op op_mod (pe_callTy call_int1 (by rfl) T.z_int (by decide +kernel) (pa_cons (pv 0) pa_nil)) (pv 1)) pa_nil)) (by rfl))))
      (pss_one (ps_ret (pv 0)))))), ?_⟩
    apply q_set
    case h => (repeat' (first | exact val_var rfl | exact val_c | exact va_nil | with_reducible apply va_cons | with_reducible apply val_op0 | with_reducible apply val_un | with_reducible apply val_abs | with_reducible apply val_int| with_reducible apply val_gcd | with_reducible apply val_gcdc | with_reducible apply val_isB | with_reducible apply val_notB | with_reducible apply val_chain | with_reducible apply val_eq | with_reducible apply val_ne | with_reducible apply val_andV | with_reducible apply val_orV | with_reducible apply val_notV | with_reducible apply val_opC | with_reducible apply ans_of | with_reducible apply ans_B | with_reducible apply ans_not | with_reducible apply ans_and' | with_reducible apply ans_or' | with_reducible intro _ | (show scal _ _ = true; rfl) | exact wide_mul (by assumption) (by assumption) (by decide) (by decide) (by decide)))
    apply q_set
    case h => (repeat' (first | exact val_var rfl | exact val_c | exact va_nil | with_reducible apply va_cons | with_reducible apply val_op0 | with_reducible apply val_un | with_reducible apply val_abs | with_reducible apply val_int| with_reducible apply val_gcd | with_reducible apply val_gcdc | with_reducible apply val_isB | with_reducible apply val_notB | with_reducible apply val_chain | with_reducible apply val_eq | with_reducible apply val_ne | with_reducible apply val_andV | with_reducible apply val_orV | with_reducible apply val_notV | with_reducible apply val_opC | with_reducible apply ans_of | with_reducible apply ans_B | with_reducible apply ans_not | with_reducible apply ans_and' | with_reducible apply ans_or' | with_reducible intro _ | (show scal _ _ = true; rfl) | exact wide_mul (by assumption) (by assumption) (by decide) (by decide) (by decide)))
    refine q_whileA (fun mm σ' H' => ∃ a b : Nat, σ' = [some (.int (a : Int)), some (.int (b : Int))] ∧ H' = H ∧ mm = b ∧ Nat.gcd a b = Nat.gcd m.natAbs n.natAbs) n.natAbs ⟨_, _, rfl, rfl, rfl, rfl⟩ ?_
    rintro mm σ' H' ⟨a, b, rfl, rfl, rfl, hg⟩
    refine ⟨decide ((0 : Int) < (mm : Int)), ?_, fun hb N hN => ?_, fun hb => ?_⟩
    · (repeat' (first | exact val_var rfl | exact val_c | exact va_nil | with_reducible apply va_cons | with_reducible apply val_op0 | with_reducible apply val_un | with_reducible apply val_abs | with_reducible apply val_int| with_reducible apply val_gcd | with_reducible apply val_gcdc | with_reducible apply val_isB | with_reducible apply val_notB | with_reducible apply val_chain | with_reducible apply val_eq | with_reducible apply val_ne | with_reducible apply val_andV | with_reducible apply val_orV | with_reducible apply val_notV | with_reducible apply val_opC | with_reducible apply ans_of | with_reducible apply ans_B | with_reducible apply ans_not | with_reducible apply ans_and' | with_reducible apply ans_or' | with_reducible intro _ | (show scal _ _ = true; rfl) | exact wide_mul (by assumption) (by assumption) (by decide) (by decide) (by decide)))
    · have hb' : (0 : Int) < (mm : Int) := of_decide_eq_true hb
      apply s_par
      case h => (repeat' (first | exact val_var rfl | exact val_c | exact va_nil | with_reducible apply va_cons | with_reducible apply val_op0 | with_reducible apply val_un | with_reducible apply val_abs | with_reducible apply val_int| with_reducible apply val_gcd | with_reducible apply val_gcdc | with_reducible apply val_isB | with_reducible apply val_notB | with_reducible apply val_chain | with_reducible apply val_eq | with_reducible apply val_ne | with_reducible apply val_andV | with_reducible apply val_orV | with_reducible apply val_notV | with_reducible apply val_opC | with_reducible apply ans_of | with_reducible apply ans_B | with_reducible apply ans_not | with_reducible apply ans_and' | with_reducible apply ans_or' | with_reducible intro _ | (show scal _ _ = true; rfl) | exact wide_mul (by assumption) (by assumption) (by decide) (by decide) (by decide))); exact hb'
      refine hN _ _ (a % mm) (Nat.mod_lt _ (by omega)) ⟨mm, a % mm, ?_, rfl, rfl, ?_⟩
      · rw [Int.natCast_emod] <;> rfl
      · rw [Nat.gcd_comm mm (a % mm), ← Nat.gcd_rec, Nat.gcd_comm]
        exact hg
    · have hb' : ¬ (0 : Int) < (mm : Int) := of_decide_eq_false hb
      apply s_ret
      case h => (repeat' (first | exact val_var rfl | exact val_c | exact va_nil | with_reducible apply va_cons | with_reducible apply val_op0 | with_reducible apply val_un | with_reducible apply val_abs | with_reducible apply val_int| with_reducible apply val_gcd | with_reducible apply val_gcdc | with_reducible apply val_isB | with_reducible apply val_notB | with_reducible apply val_chain | with_reducible apply val_eq | with_reducible apply val_ne | with_reducible apply val_andV | with_reducible apply val_orV | with_reducible apply val_notV | with_reducible apply val_opC | with_reducible apply ans_of | with_reducible apply ans_B | with_reducible apply ans_not | with_reducible apply ans_and' | with_reducible apply ans_or' | with_reducible intro _ | (show scal _ _ = true; rfl) | exact wide_mul (by assumption) (by assumption) (by decide) (by decide) (by decide)))
      have hb0 : mm = 0 := by omega
      rw [hb0, Nat.gcd_zero_right] at hg
      rw [hg]
      exact k
theorem sc__law_ratio : FnScope N__law_ratio ["_law_num", "_law_den"] (defScope s__law_ratio) := ⟨rfl, rfl, rfl, by decide +kernel, rfl, by decide +kernel, by decide +kernel⟩

def spLRatio : Sp := fun vs H Q _ => ∃ (n d : Int), vs = [.int n, .int d] ∧ d.natAbs.log2 < 9000 ∧ d ≠ 0 ∧ ∀ p, H p = none → Q (.ref p) (upd H p (.tup [.int (ratN n d), .int (ratD n d)]))
theorem ok__law_ratio (T : Txt K mg A) : FnOk P w K mg base CX0 2 A.f__law_ratio A.d__law_ratio ["_law_num", "_law_den"] spLRatio := by
  have G_law_gcd := ok__law_gcd (P := P) (w := w) (base := base) T
  refine T.F__law_ratio.ok sc__law_ratio (fun vs H Q E h => ?_) (fun cdv Ar outer s H vs Q E hr h => ?_)
  · obtain ⟨n, d, rfl, _⟩ := h
    rfl
  · obtain ⟨n, d, rfl, hlog, hd, k⟩ := h
    refine ⟨_, (pss_cons (ps_set (i := 2) sc__law_ratio.nd rfl (Or.inl rfl) (pe_call G_law_gcd (hr.mono (by decide)) rfl T.g__law_gcd T.k__law_gcd T.b__law_gcd .nil pass0 (pa_cons (pv 0) (pa_cons (pv 1) pa_nil))))
      (pss_cons (ps_if (pt_cmpR op_lt (pv 1) pe_int (nomark _)) (pss_one (ps_set (i := 2) sc__law_ratio.nd rfl (Or.inl rfl) (pe_un un_neg (pv 2)))) pss_nil)
      (pss_one (ps_ret (pe_tup (pa_cons (pe_op op_fdivZ (pv 0) (pv 2)) (pa_cons (pe_op op_fdivZ (pv 1) (pv 2)) pa_nil))))))), ?_⟩
    apply q_set
    case h => (repeat' (first | exact val_var rfl | exact val_c | exact va_nil | with_reducible apply va_cons | with_reducible apply val_op0 | with_reducible apply val_un | with_reducible apply val_abs | with_reducible apply val_int| with_reducible apply val_gcd | with_reducible apply val_gcdc | with_reducible apply val_isB | with_reducible apply val_notB | with_reducible apply val_chain | with_reducible apply val_eq | with_reducible apply val_ne | with_reducible apply val_andV | with_reducible apply val_orV | with_reducible apply val_notV | with_reducible apply val_opC | with_reducible apply ans_of | with_reducible apply ans_B | with_reducible apply ans_not | with_reducible apply ans_and' | with_reducible apply ans_or' | with_reducible intro _ | (show scal _ _ = true; rfl) | exact wide_mul (by assumption) (by assumption) (by decide) (by decide) (by decide)))
    have hlast : ∀ σ' : L2.St, σ' = [some (.int n), some (.int d), some (.int (rdiv n d))] → (tRet (tTup (tCons (tOp (rI CDivZ fun i j => .int (i.fdiv j)) (tVar 0) (tVar 2)) (tCons (tOp (rI CDivZ fun i j => .int (i.fdiv j)) (tVar 1) (tVar 2)) tNil)))) { nx := fun _ H' => Q .non H', rt := Q } σ' H := by
      rintro σ' rfl
      refine sR ⟨_, rfl, _, rfl, _, _, rfl, rfl, ⟨rdiv_ne hd, rdiv_log hd hlog⟩, _, rfl, _, rfl, _, _, rfl, rfl, ⟨rdiv_ne hd, rdiv_log hd hlog⟩, (by show 2 ≤ sizeLine; decide), fun p hp => k p hp⟩
    refine qW ⟨_, rfl, _, _, rfl, rfl, _, rfl, ite2 (fun hlt => ?_) (fun hlt => ?_)⟩
    · apply s_set
      case h => (repeat' (first | exact val_var rfl | exact val_c | exact va_nil | with_reducible apply va_cons | with_reducible apply val_op0 | with_reducible apply val_un | with_reducible apply val_abs | with_reducible apply val_int| with_reducible apply val_gcd | with_reducible apply val_gcdc | with_reducible apply val_isB | with_reducible apply val_notB | with_reducible apply val_chain | with_reducible apply val_eq | with_reducible apply val_ne | with_reducible apply val_andV | with_reducible apply val_orV | with_reducible apply val_notV | with_reducible apply val_opC | with_reducible apply ans_of | with_reducible apply ans_B | with_reducible apply ans_not | with_reducible apply ans_and' | with_reducible apply ans_or' | with_reducible intro _ | (show scal _ _ = true; rfl) | exact wide_mul (by assumption) (by assumption) (by decide) (by decide) (by decide)))
      refine hlast _ ?_
      have hlt' : d < 0 := of_decide_eq_true hlt
      unfold rdiv
      rw [if_pos hlt']
      rfl
    · refine hlast _ ?_
      have hlt' : ¬ d < 0 := fun z => hlt (decide_eq_true z)
      unfold rdiv
      rw [if_neg hlt']
      rfl
theorem sc__law_any_ratio : FnScope N__law_any_ratio ["_law_box_here"] (defScope s__law_any_ratio) := ⟨rfl, rfl, rfl, by decide +kernel, rfl, by decide +kernel, by decide +kernel⟩

def spAnyRatio : Sp := fun vs H Q _ => ∃ b c, vs = [.ref b] ∧ BoxAt H b c ∧ ∀ p n d H', Low n d → n.natAbs < 2 ^ 110 → d.natAbs < 2 ^ 110 → H p = none → BoxAt H' b c → Ext b c H H' → H' p = some (.tup [.int n, .int d]) → Q (.ref p) H'
theorem lg30 {n : Int} (h0 : 0 ≤ n) (h1 : n ≤ 10 ^ 30 * 2 + 1) : n.natAbs.log2 < 9000 := Nat.lt_of_lt_of_le (log2_lt (b := 140) (by decide) (by omega)) (by decide)
theorem ok__law_any_ratio (T : Txt K mg A) : FnOk P w K mg base CX0 3 A.f__law_any_ratio A.d__law_any_ratio ["_law_box_here"] spAnyRatio := by
  have G_law_take := ok__law_take (P := P) (w := w) (base := base) T
  have G_law_ratio := ok__law_ratio (P := P) (w := w) (base := base) T
  refine T.F__law_any_ratio.ok sc__law_any_ratio (fun vs H Q E h => ?_) (fun cdv Ar outer s H vs Q E hr h => ?_)
  · obtain ⟨b, c, rfl, _⟩ := h
    rfl
  · obtain ⟨b, c, rfl, B1, k⟩ := h
    refine ⟨_, (pss_cons (ps_set (i := 1) sc__law_any_ratio.nd rfl (Or.inl rfl) (pe_ix ix_list (pe_lst (pa_cons pe_int (pa_cons pe_int (pa_cons (pe_op op_pow pe_int pe_int) (pa_cons (pe_op op_pow pe_int pe_int) pa_nil))))) (pe_call G_law_take (hr.mono (by decide)) rfl T.g__law_take T.k__law_take T.b__law_take .nil pass0 (pa_cons (pv 0) (pa_cons pe_int pa_nil))) (fun _ _ => rfl)))
      (pss_one (ps_ret (pe_call G_law_ratio (hr.mono (by decide)) rfl T.g__law_ratio T.k__law_ratio T.b__law_ratio .nil pass0 (pa_cons (pe_op op_sub (pe_call G_law_take (hr.mono (by decide)) rfl T.g__law_take T.k__law_take T.b__law_take .nil pass0 (pa_cons (pv 0) (pa_cons (pe_op op_add (pe_op op_mulW pe_int (pv 1)) pe_int) pa_nil))) (pv 1)) (pa_cons (pe_op op_add pe_int (pe_call G_law_take (hr.mono (by decide)) rfl T.g__law_take T.k__law_take T.b__law_take .nil pass0 (pa_cons (pv 0) (pa_cons (pv 1) pa_nil)))) pa_nil)))))), ?_⟩
    refine qS ⟨_, _, rfl, rfl, ⟨by decide, by decide, by decide⟩, _, _, rfl, rfl, ⟨by decide, by decide, by decide⟩, (by show 4 ≤ sizeLine; decide), fun p hp => ?_⟩
    refine ⟨_, rfl, b, c, 4, rfl, B1.same (same_upd hp), by decide, by decide, fun x H2 x0 x1 B2 e2 => ?_⟩
    obtain ⟨sz, hsz, z0, z1⟩ := pick [4, 30, 10 ^ 9, 10 ^ 30] 4 (10 ^ 30) (by decide) x0 x1
    refine ⟨p, _, x, _, rfl, rfl, SqL.of ((e2 p (B1.neb hp).1 (B1.neb hp).2).trans upd_same), hsz, ?_⟩
    refine sR ⟨_, rfl, _, rfl, _, _, rfl, rfl, wide_mul (a := 10) (b := 200) (by decide) (by omega) (by decide) (by decide) (by decide), _, _, rfl, rfl, b, c, _, rfl, B2, by omega, lg30 (by omega) (by omega), fun u H3 u0 u1 B3 e3 => ⟨_, rfl, _, _, rfl, rfl, ?_⟩⟩
    refine ⟨_, rfl, _, rfl, b, c, _, rfl, B3, by omega, lg30 (by omega) (by omega), fun v H4 v0 v1 B4 e4 => ⟨_, _, rfl, rfl, _, _, rfl, lgp (n := 110) (by omega), by omega, fun r hr => ?_⟩⟩
    have hd : (1 + v : Int) ≠ 0 := by omega
    have hN := ratN_le (n := u - sz) hd
    have hD := ratD_le (n := u - sz) hd
    have x2 : Ext b c H H2 := fun a o ab ac h => (e2 a ab ac).trans (kept h hp)
    have x3 : Ext b c H2 H3 := fun a o ab ac h => (e3 a ab ac).trans h
    have x4 : Ext b c H3 H4 := fun a o ab ac h => (e4 a ab ac).trans h
    have xx := ((x2.trans x3).trans x4)
    have hr0 : H r = none := by
      cases q : H r with
      | none => rfl
      | some o =>
        have := xx r o (B4.neb hr).1 (B4.neb hr).2 q
        rw [hr] at this
        cases this
    exact k r _ _ _ (rat_low hd) (by omega) (by omega) hr0 (B4.same (same_upd hr)) (xx.trans (.of (same_upd hr))) upd_same
theorem sc__law_is_integer : FnScope N__law_is_integer ["_law_value"] (defScope s__law_is_integer) := ⟨rfl, rfl, rfl, by decide +kernel, rfl, by decide +kernel, by decide +kernel⟩

def spIsInt : Sp := fun vs H Q _ => ∃ n : Int, vs = [.int n] ∧ Q (.bl true) H
theorem ok__law_is_integer (T : Txt K mg A) : FnOk P w K mg base CX0 1 A.f__law_is_integer A.d__law_is_integer ["_law_value"] spIsInt := by
  refine T.F__law_is_integer.ok sc__law_is_integer (fun vs H Q E h => ?_) (fun cdv Ar outer s H vs Q E hr h => ?_)
  · obtain ⟨n, rfl, _⟩ := h
    rfl
  · obtain ⟨n, rfl, k⟩ := h
    refine ⟨_, (pss_one (ps_ret (pe_and (pe_callB call_isi (by rfl) T.z_isinstance (by decide +kernel) (pa_cons (pv 0) (pa_cons (pe_bltn (v := .ty "int") (u := .type "int") (by rfl) T.z_int (by decide +kernel) (by rfl)) pa_nil))) (pe_one (pe_not (pe_callB call_isi (by rfl) T.z_isinstance (by decide +kernel) (pa_cons (pv 0) (pa_cons (pe_bltn (v := .ty "bool") (u := .type "bool") (by rfl) T.z_bool (by decide +kernel) (by rfl)) pa_nil)))))))), ?_⟩
    exact sR ⟨_, rfl, _, _, _, _, true, rfl, .ty "int", .base (.int _), kit_ty (by decide +kernel), true, rfl, iteT ⟨_, rfl, _, _, _, _, false, rfl, .ty "bool", .base (.int _), kit_ty (by decide +kernel), false, rfl, k⟩⟩
theorem sc__law_is_ratio : FnScope N__law_is_ratio ["_law_value"] (defScope s__law_is_ratio) := ⟨rfl, rfl, rfl, by decide +kernel, rfl, by decide +kernel, by decide +kernel⟩

def lowB (n d : Int) : Bool := decide (1 ≤ d) && decide (V.int ((Nat.gcd n.natAbs d.natAbs : Nat) : Int) = V.int 1)
theorem lowB_of {n d : Int} (h : Low n d) : lowB n d = true := by
  unfold lowB
  rw [decide_eq_true h.1, h.2]
  rfl
theorem ty2 {K : PySem.W.Frag} {H : Hp} {t : Addr} {vs : List V} (h : SqT K H t vs) : TyX K H (.ref t) (.type "tuple") := by
  rcases h with (h | ⟨w, h⟩) | ⟨w, its, n, h, hc, _⟩
  · exact .base (.tup h)
  · exact .fTuple h
  · exact .kTuple h hc
def spIsRatio (K : PySem.W.Frag) : Sp := fun vs H Q _ => ∃ (p : Addr) (n d : Int), vs = [.ref p] ∧ SqT K H p [.int n, .int d] ∧ Q (.bl (lowB n d)) H
theorem ok__law_is_ratio (T : Txt K mg A) : FnOk P w K mg base CX0 2 A.f__law_is_ratio A.d__law_is_ratio ["_law_value"] (spIsRatio K) := by
  have G_law_is_integer := ok__law_is_integer (P := P) (w := w) (base := base) T
  have G_law_gcd := ok__law_gcd (P := P) (w := w) (base := base) T
  refine T.F__law_is_ratio.ok sc__law_is_ratio (fun vs H Q E h => ?_) (fun cdv Ar outer s H vs Q E hr h => ?_)
  · obtain ⟨p, n, d, rfl, _⟩ := h
    rfl
  · obtain ⟨p, n, d, rfl, hS, k⟩ := h
    refine ⟨_, (pss_cons (ps_if (PW.pt (pw_or (pt_not (pt_val (pe_callB call_isi (by rfl) T.z_isinstance (by decide +kernel) (pa_cons (pv 0) (pa_cons (pe_bltn (v := .ty "tuple") (u := .type "tuple") (by rfl) T.z_tuple (by decide +kernel) (by rfl)) pa_nil))))) (pw_or1 (pt_cmpR op_ne (pe_callB call_len_seq (by rfl) T.z_len (by decide +kernel) (pa_cons (pv 0) pa_nil)) pe_int (nomark _))))) (pss_one (ps_ret pe_bl)) pss_nil)
      (pss_cons (ps_if (PW.pt (pw_or (pt_not (pt_val (pe_call G_law_is_integer (hr.mono (by decide)) rfl T.g__law_is_integer T.k__law_is_integer T.b__law_is_integer .nil pass0 (pa_cons (pe_ix ix_tup (pv 0) pe_int (fun _ _ => rfl)) pa_nil)))) (pw_or1 (pt_not (pt_val (pe_call G_law_is_integer (hr.mono (by decide)) rfl T.g__law_is_integer T.k__law_is_integer T.b__law_is_integer .nil pass0 (pa_cons (pe_ix ix_tup (pv 0) pe_int (fun _ _ => rfl)) pa_nil))))))) (pss_one (ps_ret pe_bl)) pss_nil)
      (pss_one (ps_ret (pe_and (pe_cmpR op_ge (pe_ix ix_tup (pv 0) pe_int (fun _ _ => rfl)) pe_int (nomark _)) (pe_one (pe_cmpR op_eq (pe_call G_law_gcd (hr.mono (by decide)) rfl T.g__law_gcd T.k__law_gcd T.b__law_gcd .nil pass0 (pa_cons (pe_ix ix_tup (pv 0) pe_int (fun _ _ => rfl)) (pa_cons (pe_ix ix_tup (pv 0) pe_int (fun _ _ => rfl)) pa_nil))) pe_int (nomark _)))))))), ?_⟩
    refine qW ⟨_, rfl, _, _, _, _, true, rfl, .ty "tuple", ty2 hS, kit_ty (by decide +kernel), true, rfl, iteF ⟨_, rfl, p, _, rfl, .inr hS, rfl, _, rfl, iteF ?_⟩⟩
    refine qW ⟨_, rfl, p, _, _, _, rfl, rfl, hS, rfl, n, rfl, true, rfl, iteF ⟨_, rfl, p, _, _, _, rfl, rfl, hS, rfl, d, rfl, true, rfl, iteF ?_⟩⟩
    apply s_ret
    case h => (repeat' (first | (exact val_ixT (val_var rfl) val_c hS rfl) | exact val_var rfl | exact val_c | exact va_nil | with_reducible apply va_cons | with_reducible apply val_op0 | with_reducible apply val_un | with_reducible apply val_abs | with_reducible apply val_int| with_reducible apply val_gcd | with_reducible apply val_gcdc | with_reducible apply val_isB | with_reducible apply val_notB | with_reducible apply val_chain | with_reducible apply val_eq | with_reducible apply val_ne | with_reducible apply val_andV | with_reducible apply val_orV | with_reducible apply val_notV | with_reducible apply val_opC | with_reducible apply ans_of | with_reducible apply ans_B | with_reducible apply ans_not | with_reducible apply ans_and' | with_reducible apply ans_or' | with_reducible intro _ | (show scal _ _ = true; rfl) | exact wide_mul (by assumption) (by assumption) (by decide) (by decide) (by decide)))
    exact k
theorem sc__law_is_sum : FnScope N__law_is_sum ["_law_found", "_law_terms"] (defScope s__law_is_sum) := ⟨rfl, rfl, rfl, by decide +kernel, rfl, by decide +kernel, by decide +kernel⟩

def spIsFold (K : PySem.W.Frag) (F : List (Int × Int) → Int × Int) : Sp := fun vs H Q _ => ∃ (r l : Addr) (n d : Int) (as : List Addr) (qs : List (Int × Int)), vs = [.ref r, .ref l] ∧ SqT K H r [.int n, .int d] ∧ Low n d ∧ n.natAbs < 2 ^ 3000 ∧ d.natAbs < 2 ^ 3000 ∧ H l = some (.lst (as.map V.ref)) ∧ Rats H as qs ∧ as.length ≤ 20 ∧ Q (.bl (decide (V.int (n * (F qs).2) = V.int ((F qs).1 * d)))) H
theorem ok__law_is_sum (T : Txt K mg A) : FnOk P w K mg base CX0 3 A.f__law_is_sum A.d__law_is_sum ["_law_found", "_law_terms"] (spIsFold K sumU) := by
  have G_law_is_ratio := ok__law_is_ratio (P := P) (w := w) (base := base) T
  refine T.F__law_is_sum.ok sc__law_is_sum (fun vs H Q E h => ?_) (fun cdv Ar outer s H vs Q E hr h => ?_)
  · obtain ⟨r, l, n, d, as, qs, rfl, _⟩ := h
    rfl
  · obtain ⟨r, l, n, d, as, qs, rfl, hR, hlow, hn, hd, hL, hr2, hl, k⟩ := h
    refine ⟨_, (pss_cons (ps_set (i := 2) sc__law_is_sum.nd rfl (Or.inl rfl) pe_int)
      (pss_cons (ps_set (i := 3) sc__law_is_sum.nd rfl (Or.inl rfl) pe_int)
      (pss_cons (ps_for PassesOwn.never rfl (pi_list (pv 1)) (pg_name (i := 4) sc__law_is_sum.nd rfl (Or.inl rfl)) (pss_cons (ps_set (i := 2) sc__law_is_sum.nd rfl (Or.inl rfl) (pe_op op_add (pe_op op_mulW (pv 2) (pe_ix ix_tup (pv 4) pe_int (fun _ _ => rfl))) (pe_op op_mulW (pe_ix ix_tup (pv 4) pe_int (fun _ _ => rfl)) (pv 3))))
      (pss_one (ps_set (i := 3) sc__law_is_sum.nd rfl (Or.inl rfl) (pe_op op_mulW (pv 3) (pe_ix ix_tup (pv 4) pe_int (fun _ _ => rfl)))))))
      (pss_one (ps_ret (pe_and (pe_call G_law_is_ratio (hr.mono (by decide)) rfl T.g__law_is_ratio T.k__law_is_ratio T.b__law_is_ratio .nil pass0 (pa_cons (pv 0) pa_nil)) (pe_one (pe_cmpR op_eq (pe_op op_mulW (pe_ix ix_tup (pv 0) pe_int (fun _ _ => rfl)) (pv 3)) (pe_op op_mulW (pv 2) (pe_ix ix_tup (pv 0) pe_int (fun _ _ => rfl))) (nomark _))))))))), ?_⟩
    apply q_set
    case h => (repeat' (first | exact val_var rfl | exact val_c | exact va_nil | with_reducible apply va_cons | with_reducible apply val_op0 | with_reducible apply val_un | with_reducible apply val_abs | with_reducible apply val_int| with_reducible apply val_gcd | with_reducible apply val_gcdc | with_reducible apply val_isB | with_reducible apply val_notB | with_reducible apply val_chain | with_reducible apply val_eq | with_reducible apply val_ne | with_reducible apply val_andV | with_reducible apply val_orV | with_reducible apply val_notV | with_reducible apply val_opC | with_reducible apply ans_of | with_reducible apply ans_B | with_reducible apply ans_not | with_reducible apply ans_and' | with_reducible apply ans_or' | with_reducible intro _ | (show scal _ _ = true; rfl) | exact wide_mul (by assumption) (by assumption) (by decide) (by decide) (by decide)))
    apply q_set
    case h => (repeat' (first | exact val_var rfl | exact val_c | exact va_nil | with_reducible apply va_cons | with_reducible apply val_op0 | with_reducible apply val_un | with_reducible apply val_abs | with_reducible apply val_int| with_reducible apply val_gcd | with_reducible apply val_gcdc | with_reducible apply val_isB | with_reducible apply val_notB | with_reducible apply val_chain | with_reducible apply val_eq | with_reducible apply val_ne | with_reducible apply val_andV | with_reducible apply val_orV | with_reducible apply val_notV | with_reducible apply val_opC | with_reducible apply ans_of | with_reducible apply ans_B | with_reducible apply ans_not | with_reducible apply ans_and' | with_reducible apply ans_or' | with_reducible intro _ | (show scal _ _ = true; rfl) | exact wide_mul (by assumption) (by assumption) (by decide) (by decide) (by decide)))
    have z0 : Sz 0 ((0 : Int), (1 : Int)) := ⟨by decide, by decide⟩
    refine ⟨_, rfl, l, rfl, ⟨_, SqL.of hL⟩, for_list (K := K) (a := l) (xs := as.map V.ref) (fun i σ H' => ∃ (v4 : Option V), σ = [some (.ref r), some (.ref l), some (.int ((qs.take i).foldl uStep (0, 1)).1), some (.int ((qs.take i).foldl uStep (0, 1)).2), v4] ∧ H' = H ∧ Sz i ((qs.take i).foldl uStep (0, 1)))
      ⟨none, rfl, rfl, z0⟩ (fun i σ H' _ ⟨_, _, e, _⟩ => e ▸ SqL.of hL) ?_ ?_⟩
    · rintro i y σ H' hi ⟨v4, rfl, rfl, hsz⟩
      rw [List.getElem?_map] at hi
      obtain ⟨a, ha, rfl⟩ : ∃ a, as[i]? = some a ∧ V.ref a = y := by
        cases e : as[i]? with
        | none => rw [e] at hi; cases hi
        | some a => rw [e] at hi; exact ⟨a, rfl, Option.some.inj hi⟩
      have hi2 : i < qs.length := by
        rw [← hr2.1]
        exact (List.getElem?_eq_some_iff.mp ha).1
      have hq : qs[i]? = some qs[i] := List.getElem?_eq_getElem hi2
      generalize qs[i] = q at hq
      obtain ⟨hA, hq1, hq2, hq3⟩ := hr2.2 i a q ha hq
      dsimp only [gName]
      have e1 := foldl_take uStep (0, 1) hq
      generalize (qs.take i).foldl uStep (0, 1) = z at hsz e1 ⊢
      have hT := SqT.of hA (K := K)
      have hi20 : i < 20 := by
        have := (List.getElem?_eq_some_iff.mp ha).1
        omega
      have hz3 : z.1.natAbs < 2 ^ 3000 := Nat.lt_of_lt_of_le hsz.1 (Nat.pow_le_pow_right (by decide) (by omega))
      have hz4 : z.2.natAbs < 2 ^ 3000 := Nat.lt_of_lt_of_le hsz.2 (Nat.pow_le_pow_right (by decide) (by omega))
      apply q_set
      case h => (repeat' (first | (exact val_ixT (val_var rfl) val_c hT rfl) | exact val_var rfl | exact val_c | exact va_nil | with_reducible apply va_cons | with_reducible apply val_op0 | with_reducible apply val_un | with_reducible apply val_abs | with_reducible apply val_int| with_reducible apply val_gcd | with_reducible apply val_gcdc | with_reducible apply val_isB | with_reducible apply val_notB | with_reducible apply val_chain | with_reducible apply val_eq | with_reducible apply val_ne | with_reducible apply val_andV | with_reducible apply val_orV | with_reducible apply val_notV | with_reducible apply val_opC | with_reducible apply ans_of | with_reducible apply ans_B | with_reducible apply ans_not | with_reducible apply ans_and' | with_reducible apply ans_or' | with_reducible intro _ | (show scal _ _ = true; rfl) | exact wide_mul (by assumption) (by assumption) (by decide) (by decide) (by decide)))
      apply s_set
      case h => (repeat' (first | (exact val_ixT (val_var rfl) val_c hT rfl) | exact val_var rfl | exact val_c | exact va_nil | with_reducible apply va_cons | with_reducible apply val_op0 | with_reducible apply val_un | with_reducible apply val_abs | with_reducible apply val_int| with_reducible apply val_gcd | with_reducible apply val_gcdc | with_reducible apply val_isB | with_reducible apply val_notB | with_reducible apply val_chain | with_reducible apply val_eq | with_reducible apply val_ne | with_reducible apply val_andV | with_reducible apply val_orV | with_reducible apply val_notV | with_reducible apply val_opC | with_reducible apply ans_of | with_reducible apply ans_B | with_reducible apply ans_not | with_reducible apply ans_and' | with_reducible apply ans_or' | with_reducible intro _ | (show scal _ _ = true; rfl) | exact wide_mul (by assumption) (by assumption) (by decide) (by decide) (by decide)))
      refine ⟨some (.ref a), ?_, rfl, ?_⟩
      · rw [e1]
        rfl
      · rw [e1]
        exact sz_u hsz hq2 hq3
    · rintro σ H' ⟨v4, rfl, rfl, hsz⟩
      rw [List.length_map, List.take_of_length_le (by rw [hr2.1]; exact Nat.le_refl _)] at hsz ⊢
      have hS := hR
      have hz3 : (sumU qs).1.natAbs < 2 ^ 3000 := Nat.lt_of_lt_of_le hsz.1 (Nat.pow_le_pow_right (by decide) (by omega))
      have hz4 : (sumU qs).2.natAbs < 2 ^ 3000 := Nat.lt_of_lt_of_le hsz.2 (Nat.pow_le_pow_right (by decide) (by omega))
      dsimp only
      refine sR ⟨_, rfl, r, n, d, rfl, hR, true, (by rw [lowB_of hlow]), iteT ?_⟩
      refine Val.at (v := .bl (decide (V.int (n * (sumU qs).2) = V.int ((sumU qs).1 * d)))) ?_ k
      (repeat' (first | (exact val_ixT (val_var rfl) val_c hS rfl) | exact val_var rfl | exact val_c | exact va_nil | with_reducible apply va_cons | with_reducible apply val_op0 | with_reducible apply val_un | with_reducible apply val_abs | with_reducible apply val_int| with_reducible apply val_gcd | with_reducible apply val_gcdc | with_reducible apply val_isB | with_reducible apply val_notB | with_reducible apply val_chain | with_reducible apply val_eq | with_reducible apply val_ne | with_reducible apply val_andV | with_reducible apply val_orV | with_reducible apply val_notV | with_reducible apply val_opC | with_reducible apply ans_of | with_reducible apply ans_B | with_reducible apply ans_not | with_reducible apply ans_and' | with_reducible apply ans_or' | with_reducible intro _ | (show scal _ _ = true; rfl) | exact wide_mul (by assumption) (by assumption) (by decide) (by decide) (by decide)))
theorem sc__law_is_product : FnScope N__law_is_product ["_law_found", "_law_factors"] (defScope s__law_is_product) := ⟨rfl, rfl, rfl, by decide +kernel, rfl, by decide +kernel, by decide +kernel⟩
theorem ok__law_is_product (T : Txt K mg A) : FnOk P w K mg base CX0 3 A.f__law_is_product A.d__law_is_product ["_law_found", "_law_factors"] (spIsFold K prodU) := by
  have G_law_is_ratio := ok__law_is_ratio (P := P) (w := w) (base := base) T
  refine T.F__law_is_product.ok sc__law_is_product (fun vs H Q E h => ?_) (fun cdv Ar outer s H vs Q E hr h => ?_)
  · obtain ⟨r, l, n, d, as, qs, rfl, _⟩ := h
    rfl
  · obtain ⟨r, l, n, d, as, qs, rfl, hR, hlow, hn, hd, hL, hr2, hl, k⟩ := h
    refine ⟨_, (pss_cons (ps_set (i := 2) sc__law_is_product.nd rfl (Or.inl rfl) pe_int)
      (pss_cons (ps_set (i := 3) sc__law_is_product.nd rfl (Or.inl rfl) pe_int)
      (pss_cons (ps_for PassesOwn.never rfl (pi_list (pv 1)) (pg_name (i := 4) sc__law_is_product.nd rfl (Or.inl rfl)) (pss_cons (ps_set (i := 2) sc__law_is_product.nd rfl (Or.inl rfl) (pe_op op_mulW (pv 2) (pe_ix ix_tup (pv 4) pe_int (fun _ _ => rfl))))
      (pss_one (ps_set (i := 3) sc__law_is_product.nd rfl (Or.inl rfl) (pe_op op_mulW (pv 3) (pe_ix ix_tup (pv 4) pe_int (fun _ _ => rfl)))))))
      (pss_one (ps_ret (pe_and (pe_call G_law_is_ratio (hr.mono (by decide)) rfl T.g__law_is_ratio T.k__law_is_ratio T.b__law_is_ratio .nil pass0 (pa_cons (pv 0) pa_nil)) (pe_one (pe_cmpR op_eq (pe_op op_mulW (pe_ix ix_tup (pv 0) pe_int (fun _ _ => rfl)) (pv 3)) (pe_op op_mulW (pv 2) (pe_ix ix_tup (pv 0) pe_int (fun _ _ => rfl))) (nomark _))))))))), ?_⟩
    apply q_set
    case h => (repeat' (first | exact val_var rfl | exact val_c | exact va_nil | with_reducible apply va_cons | with_reducible apply val_op0 | with_reducible apply val_un | with_reducible apply val_abs | with_reducible apply val_int| with_reducible apply val_gcd | with_reducible apply val_gcdc | with_reducible apply val_isB | with_reducible apply val_notB | with_reducible apply val_chain | with_reducible apply val_eq | with_reducible apply val_ne | with_reducible apply val_andV | with_reducible apply val_orV | with_reducible apply val_notV | with_reducible apply val_opC | with_reducible apply ans_of | with_reducible apply ans_B | with_reducible apply ans_not | with_reducible apply ans_and' | with_reducible apply ans_or' | with_reducible intro _ | (show scal _ _ = true; rfl) | exact wide_mul (by assumption) (by assumption) (by decide) (by decide) (by decide)))
    apply q_set
    case h => (repeat' (first | exact val_var rfl | exact val_c | exact va_nil | with_reducible apply va_cons | with_reducible apply val_op0 | with_reducible apply val_un | with_reducible apply val_abs | with_reducible apply val_int| with_reducible apply val_gcd | with_reducible apply val_gcdc | with_reducible apply val_isB | with_reducible apply val_notB | with_reducible apply val_chain | with_reducible apply val_eq | with_reducible apply val_ne | with_reducible apply val_andV | with_reducible apply val_orV | with_reducible apply val_notV | with_reducible apply val_opC | with_reducible apply ans_of | with_reducible apply ans_B | with_reducible apply ans_not | with_reducible apply ans_and' | with_reducible apply ans_or' | with_reducible intro _ | (show scal _ _ = true; rfl) | exact wide_mul (by assumption) (by assumption) (by decide) (by decide) (by decide)))
    have z0 : Sz 0 ((1 : Int), (1 : Int)) := ⟨by decide, by decide⟩
    refine ⟨_, rfl, l, rfl, ⟨_, SqL.of hL⟩, for_list (K := K) (a := l) (xs := as.map V.ref) (fun i σ H' => ∃ (v4 : Option V), σ = [some (.ref r), some (.ref l), some (.int ((qs.take i).foldl vStep (1, 1)).1), some (.int ((qs.take i).foldl vStep (1, 1)).2), v4] ∧ H' = H ∧ Sz i ((qs.take i).foldl vStep (1, 1)))
      ⟨none, rfl, rfl, z0⟩ (fun i σ H' _ ⟨_, _, e, _⟩ => e ▸ SqL.of hL) ?_ ?_⟩
    · rintro i y σ H' hi ⟨v4, rfl, rfl, hsz⟩
      rw [List.getElem?_map] at hi
      obtain ⟨a, ha, rfl⟩ : ∃ a, as[i]? = some a ∧ V.ref a = y := by
        cases e : as[i]? with
        | none => rw [e] at hi; cases hi
        | some a => rw [e] at hi; exact ⟨a, rfl, Option.some.inj hi⟩
      have hi2 : i < qs.length := by
        rw [← hr2.1]
        exact (List.getElem?_eq_some_iff.mp ha).1
      have hq : qs[i]? = some qs[i] := List.getElem?_eq_getElem hi2
      generalize qs[i] = q at hq
      obtain ⟨hA, hq1, hq2, hq3⟩ := hr2.2 i a q ha hq
      dsimp only [gName]
      have e1 := foldl_take vStep (1, 1) hq
      generalize (qs.take i).foldl vStep (1, 1) = z at hsz e1 ⊢
      have hT := SqT.of hA (K := K)
      have hi20 : i < 20 := by
        have := (List.getElem?_eq_some_iff.mp ha).1
        omega
      have hz3 : z.1.natAbs < 2 ^ 3000 := Nat.lt_of_lt_of_le hsz.1 (Nat.pow_le_pow_right (by decide) (by omega))
      have hz4 : z.2.natAbs < 2 ^ 3000 := Nat.lt_of_lt_of_le hsz.2 (Nat.pow_le_pow_right (by decide) (by omega))
      apply q_set
      case h => (repeat' (first | (exact val_ixT (val_var rfl) val_c hT rfl) | exact val_var rfl | exact val_c | exact va_nil | with_reducible apply va_cons | with_reducible apply val_op0 | with_reducible apply val_un | with_reducible apply val_abs | with_reducible apply val_int| with_reducible apply val_gcd | with_reducible apply val_gcdc | with_reducible apply val_isB | with_reducible apply val_notB | with_reducible apply val_chain | with_reducible apply val_eq | with_reducible apply val_ne | with_reducible apply val_andV | with_reducible apply val_orV | with_reducible apply val_notV | with_reducible apply val_opC | with_reducible apply ans_of | with_reducible apply ans_B | with_reducible apply ans_not | with_reducible apply ans_and' | with_reducible apply ans_or' | with_reducible intro _ | (show scal _ _ = true; rfl) | exact wide_mul (by assumption) (by assumption) (by decide) (by decide) (by decide)))
      apply s_set
      case h => (repeat' (first | (exact val_ixT (val_var rfl) val_c hT rfl) | exact val_var rfl | exact val_c | exact va_nil | with_reducible apply va_cons | with_reducible apply val_op0 | with_reducible apply val_un | with_reducible apply val_abs | with_reducible apply val_int| with_reducible apply val_gcd | with_reducible apply val_gcdc | with_reducible apply val_isB | with_reducible apply val_notB | with_reducible apply val_chain | with_reducible apply val_eq | with_reducible apply val_ne | with_reducible apply val_andV | with_reducible apply val_orV | with_reducible apply val_notV | with_reducible apply val_opC | with_reducible apply ans_of | with_reducible apply ans_B | with_reducible apply ans_not | with_reducible apply ans_and' | with_reducible apply ans_or' | with_reducible intro _ | (show scal _ _ = true; rfl) | exact wide_mul (by assumption) (by assumption) (by decide) (by decide) (by decide)))
      refine ⟨some (.ref a), ?_, rfl, ?_⟩
      · rw [e1]
        rfl
      · rw [e1]
        exact sz_v hsz hq2 hq3
    · rintro σ H' ⟨v4, rfl, rfl, hsz⟩
      rw [List.length_map, List.take_of_length_le (by rw [hr2.1]; exact Nat.le_refl _)] at hsz ⊢
      have hS := hR
      have hz3 : (prodU qs).1.natAbs < 2 ^ 3000 := Nat.lt_of_lt_of_le hsz.1 (Nat.pow_le_pow_right (by decide) (by omega))
      have hz4 : (prodU qs).2.natAbs < 2 ^ 3000 := Nat.lt_of_lt_of_le hsz.2 (Nat.pow_le_pow_right (by decide) (by omega))
      dsimp only
      refine sR ⟨_, rfl, r, n, d, rfl, hR, true, (by rw [lowB_of hlow]), iteT ?_⟩
      refine Val.at (v := .bl (decide (V.int (n * (prodU qs).2) = V.int ((prodU qs).1 * d)))) ?_ k
      (repeat' (first | (exact val_ixT (val_var rfl) val_c hS rfl) | exact val_var rfl | exact val_c | exact va_nil | with_reducible apply va_cons | with_reducible apply val_op0 | with_reducible apply val_un | with_reducible apply val_abs | with_reducible apply val_int| with_reducible apply val_gcd | with_reducible apply val_gcdc | with_reducible apply val_isB | with_reducible apply val_notB | with_reducible apply val_chain | with_reducible apply val_eq | with_reducible apply val_ne | with_reducible apply val_andV | with_reducible apply val_orV | with_reducible apply val_notV | with_reducible apply val_opC | with_reducible apply ans_of | with_reducible apply ans_B | with_reducible apply ans_not | with_reducible apply ans_and' | with_reducible apply ans_or' | with_reducible intro _ | (show scal _ _ = true; rfl) | exact wide_mul (by assumption) (by assumption) (by decide) (by decide) (by decide)))
theorem sc_law : FnScope N_law ["_law_script"] (defScope s_law) := ⟨rfl, rfl, rfl, by decide +kernel, rfl, by decide +kernel, by decide +kernel⟩

def spLaw (K : PySem.W.Frag) : Sp := fun vs H Q _ => ∃ (a : Addr) (ns : List Int), vs = [.ref a] ∧ SqL K H a (ns.map V.int) ∧ ns.length ≤ 63 ∧ ∀ H', Q (.bl true) H'
theorem tupS {K : PySem.W.Frag} {H H' : Hp} {a : Addr} {vs : List V} (e : Same H H') (h : SqT K H a vs) : SqT K H' a vs :=
  h.elim (fun h => .inl (h.elim (fun h => .inl (e _ _ h)) fun ⟨o, h⟩ => .inr ⟨o, e _ _ h⟩)) fun h => .inr h
theorem rNe2T {K : PySem.W.Frag} {H : Hp} {p q : Addr} {a b c d : Int} {Q : VK} (hp : SqT K H p [.int a, .int b]) (hq : SqT K H q [.int c, .int d]) (k : Q (.bl (!(a == c && b == d))) H) : rNeD K (.ref p) (.ref q) H Q :=
  ⟨.tuple [.int a, .int b], .tuple [.int c, .int d], .tup hp (.cons (.int a) (.cons (.int b) .nil)), .tup hq (.cons (.int c) (.cons (.int d) .nil)), rfl, rfl, by rw [eqv_pair]; exact k⟩
theorem fold_call {K : PySem.W.Frag} {F : List (Int × Int) → Int × Int} {as : List Addr} {qs : List (Int × Int)} {H : Hp} {Q : VK} {E : XK} (hR : Rats H as qs) (hl : as.length ≤ 20) (k : ∀ r H', Same H H' → SqT K H' r [.int (F qs).1, .int (F qs).2] → Q (.ref r) H') : starSp 0 (spFold K F) (as.map V.ref) H Q E :=
  ⟨[], as.map V.ref, rfl, rfl, by rw [List.length_map]; exact Nat.le_of_lt (small1000 (by omega)), fun p hp => ⟨p, as, qs, rfl, upd_same, hR.same (same_upd hp), hl, fun r H' s h => k r H' (L2.Same.trans (same_upd hp) s) h⟩⟩
theorem test_fold {K : PySem.W.Frag} {F G : List (Int × Int) → Int × Int} (hF : ∀ l, (∀ q ∈ l, 1 ≤ q.2) → Rel (F l) (G l)) (hG : ∀ l m, List.Perm l m → G l = G m) (hz : ∀ l m, List.Perm l m → (∀ q ∈ l, 1 ≤ q.2 ∧ q.1.natAbs < 2 ^ 110 ∧ q.2.natAbs < 2 ^ 110) → l.length ≤ 20 → (F l).1.natAbs < 2 ^ 3000 ∧ (F l).2.natAbs < 2 ^ 3000)
    {ta tl : TA} {σ : L2.St} {H : Hp} {E E' : XK} {as bs : List Addr} {qs rs : List (Int × Int)} (va : ∀ H, ValA ta σ H (as.map V.ref)) (vb : ∀ H, ValA tl σ H (bs.map V.ref)) (hA : Rats H as qs) (hB : Rats H bs rs) (la : as.length ≤ 20) (lb : bs.length ≤ 20) (hp : List.Perm qs rs) :
    Evl.EvT (tNot (tB (tCall (spIsFold K G) [] E (tCons (tCallR (starSp 0 (spFold K F)) E' ta) (tCons (tLst tl) tNil))))) σ H false := by
  intro H1 e1 Q k
  refine va H1 _ (fold_call (hA.same e1) la fun r H2 s2 hr => vb H2 _ ⟨?_, fun l hl => ?_⟩)
  · rw [List.length_map]
    exact Nat.le_of_lt (small1000 (by omega))
  have hq := hF qs hA.den
  have hbd := hz qs rs hp (fun q hq => ⟨hA.den q hq, hA.lt q hq⟩) (by rw [← hA.1]; exact la)
  refine ⟨r, l, _, _, bs, rs, rfl, tupS (same_upd hl) hr, hq.1, hbd.1, hbd.2, upd_same, (hB.same e1).same (L2.Same.trans s2 (same_upd hl)), lb, true, ?_, ?_⟩
  · rw [decide_eq_true (by rw [← hG qs rs hp, hq.2.2])]
  · exact k _ (L2.Same.trans s2 (same_upd hl))
theorem sz_foldS : ∀ (l : List (Int × Int)) (i : Nat) (z u : Int × Int), (∀ q ∈ l, 1 ≤ q.2 ∧ q.1.natAbs < 2 ^ 110 ∧ q.2.natAbs < 2 ^ 110) → Rel z u → Sz i z → Sz (i + l.length) (l.foldl sStep z)
  | [], _, _, _, _, _, h => h
  | q :: l, i, z, u, hl, hr, h => by
    obtain ⟨h1, h2, h3⟩ := hl q (List.mem_cons_self ..)
    have h0 : z.2 * q.2 ≠ 0 := Int.mul_ne_zero (by have := hr.1.1; omega) (by omega)
    have e := sz_foldS l (i + 1) (sStep z q) (uStep u q) (fun x hx => hl x (List.mem_cons_of_mem _ hx)) (rel_s hr h1) (sz_s h h0 h2 h3)
    rw [List.length_cons, show i + (l.length + 1) = i + 1 + l.length by omega]
    exact e
theorem sz_foldP : ∀ (l : List (Int × Int)) (i : Nat) (z u : Int × Int), (∀ q ∈ l, 1 ≤ q.2 ∧ q.1.natAbs < 2 ^ 110 ∧ q.2.natAbs < 2 ^ 110) → Rel z u → Sz i z → Sz (i + l.length) (l.foldl pStep z)
  | [], _, _, _, _, _, h => h
  | q :: l, i, z, u, hl, hr, h => by
    obtain ⟨h1, h2, h3⟩ := hl q (List.mem_cons_self ..)
    have h0 : z.2 * q.2 ≠ 0 := Int.mul_ne_zero (by have := hr.1.1; omega) (by omega)
    have e := sz_foldP l (i + 1) (pStep z q) (vStep u q) (fun x hx => hl x (List.mem_cons_of_mem _ hx)) (rel_p hr h1) (sz_p h h0 h2 h3)
    rw [List.length_cons, show i + (l.length + 1) = i + 1 + l.length by omega]
    exact e
theorem sz_3000 {i : Nat} {z : Int × Int} (h : Sz i z) (hi : i ≤ 20) : z.1.natAbs < 2 ^ 3000 ∧ z.2.natAbs < 2 ^ 3000 :=
  ⟨Nat.lt_of_lt_of_le h.1 (Nat.pow_le_pow_right (by decide) (by omega)), Nat.lt_of_lt_of_le h.2 (Nat.pow_le_pow_right (by decide) (by omega))⟩
theorem sum_z (l m : List (Int × Int)) (_ : List.Perm l m) (hl : ∀ q ∈ l, 1 ≤ q.2 ∧ q.1.natAbs < 2 ^ 110 ∧ q.2.natAbs < 2 ^ 110) (h : l.length ≤ 20) : (sumR l).1.natAbs < 2 ^ 3000 ∧ (sumR l).2.natAbs < 2 ^ 3000 :=
  sz_3000 (sz_foldS l 0 (0, 1) (0, 1) hl ⟨⟨by decide, by decide⟩, by decide, by decide⟩ ⟨by decide, by decide⟩) (by omega)
theorem prod_z (l m : List (Int × Int)) (_ : List.Perm l m) (hl : ∀ q ∈ l, 1 ≤ q.2 ∧ q.1.natAbs < 2 ^ 110 ∧ q.2.natAbs < 2 ^ 110) (h : l.length ≤ 20) : (prodR l).1.natAbs < 2 ^ 3000 ∧ (prodR l).2.natAbs < 2 ^ 3000 :=
  sz_3000 (sz_foldP l 0 (1, 1) (1, 1) hl ⟨⟨by decide, by decide⟩, by decide, by decide⟩ ⟨by decide, by decide⟩) (by omega)
theorem sum_p (l m : List (Int × Int)) (h : List.Perm l m) : sumU l = sumU m := foldl_perm u_comm h _
theorem prod_p (l m : List (Int × Int)) (h : List.Perm l m) : prodU l = prodU m := foldl_perm v_comm h _
section
variable {K : PySem.W.Frag} {ta tl : TA} {σ : L2.St} {H : Hp} {E E' : XK} {as bs : List Addr} {qs rs : List (Int × Int)}
theorem test_sum (va : ∀ H, ValA ta σ H (as.map V.ref)) (vb : ∀ H, ValA tl σ H (bs.map V.ref)) (hA : Rats H as qs) (hB : Rats H bs rs) (hp : List.Perm qs rs) (la : as.length ≤ 20) (lb : bs.length ≤ 20) :
    Evl.EvT (tNot (tB (tCall (spIsFold K sumU) [] E (tCons (tCallR (starSp 0 (spFold K sumR)) E' ta) (tCons (tLst tl) tNil))))) σ H false := test_fold sum_rel sum_p sum_z va vb hA hB la lb hp
theorem test_prod (va : ∀ H, ValA ta σ H (as.map V.ref)) (vb : ∀ H, ValA tl σ H (bs.map V.ref)) (hA : Rats H as qs) (hB : Rats H bs rs) (hp : List.Perm qs rs) (la : as.length ≤ 20) (lb : bs.length ≤ 20) :
    Evl.EvT (tNot (tB (tCall (spIsFold K prodU) [] E (tCons (tCallR (starSp 0 (spFold K prodR)) E' ta) (tCons (tLst tl) tNil))))) σ H false := test_fold prod_rel prod_p prod_z va vb hA hB la lb hp
theorem test_none {F : List (Int × Int) → Int × Int} {x y : Int} (h : F [] = (x, y)) : Evl.EvT (tTest (tOp (rNeD K) (tCallR (starSp 0 (spFold K F)) E tNil) (tTup (tCons (tC (.int x)) (tCons (tC (.int y)) tNil))))) σ H false := by
  intro H1 e1 Q k
  refine fold_call (as := []) Rats.nil (by decide) fun r H2 s2 hr => ⟨(by show 2 ≤ sizeLine; decide), fun p hp => rNe2T (tupS (same_upd hp) hr) (SqT.of upd_same) ⟨false, ?_, ?_⟩⟩
  · rw [h, beq_self_eq_true, beq_self_eq_true]
    rfl
  · exact k _ (L2.Same.trans s2 (same_upd hp))
theorem test_one {F : List (Int × Int) → Int × Int} {i : Nat} {p : Addr} {n d : Int} (hσ : σ[i]? = some (some (.ref p))) (hA : Rats H [p] [(n, d)]) (h : F [(n, d)] = (n, d)) : Evl.EvT (tTest (tOp (rNeD K) (tCallR (starSp 0 (spFold K F)) E (tCons (tVar i) tNil)) (tVar i))) σ H false := by
  intro H1 e1 Q k
  refine ⟨_, hσ, fold_call (as := [p]) (hA.same e1) (by show 1 ≤ 20; decide) fun r H2 s2 hr => ⟨_, hσ, rNe2T hr (SqT.of (s2 _ _ ((hA.same e1).2 0 p (n, d) rfl rfl).1)) ⟨false, ?_, k _ s2⟩⟩⟩
  rw [h, beq_self_eq_true, beq_self_eq_true]
  rfl
end
theorem ev_foldv {K : PySem.W.Frag} {F G : List (Int × Int) → Int × Int} (hF : ∀ l, (∀ q ∈ l, 1 ≤ q.2) → Rel (F l) (G l)) (hG : ∀ l m, List.Perm l m → G l = G m) (hz : ∀ l m, List.Perm l m → (∀ q ∈ l, 1 ≤ q.2 ∧ q.1.natAbs < 2 ^ 110 ∧ q.2.natAbs < 2 ^ 110) → l.length ≤ 20 → (F l).1.natAbs < 2 ^ 3000 ∧ (F l).2.natAbs < 2 ^ 3000)
    {ta : TA} {σ : L2.St} {H : Hp} {E E' : XK} {as : List Addr} {qs : List (Int × Int)} {i : Nat} {l : Addr} (va : ∀ H, ValA ta σ H (as.map V.ref)) (hi : σ[i]? = some (some (.ref l))) (hl : H l = some (.lst (as.map V.ref))) (hA : Rats H as qs) (la : as.length ≤ 20) :
    Evl.Ev (tCall (spIsFold K G) [] E (tCons (tCallR (starSp 0 (spFold K F)) E' ta) (tCons (tVar i) tNil))) σ H (.bl true) := by
  intro H1 e1 Q k
  refine va H1 _ (fold_call (hA.same e1) la fun r H2 s2 hr => ⟨_, hi, ?_⟩)
  have hq := hF qs hA.den
  have hbd := hz qs qs (.refl _) (fun q hq => ⟨hA.den q hq, hA.lt q hq⟩) (by rw [← hA.1]; exact la)
  refine ⟨r, l, _, _, as, qs, rfl, hr, hq.1, hbd.1, hbd.2, s2 _ _ (e1 _ _ hl), (hA.same e1).same s2, la, ?_⟩
  rw [decide_eq_true (by rw [hq.2.2])]
  exact k _ s2
theorem sum_one {n d : Int} (h : Low n d) : sumR [(n, d)] = (n, d) := by
  show (ratN (0 * d + n * 1) (1 * d), ratD (0 * d + n * 1) (1 * d)) = (n, d)
  rw [Int.zero_mul, Int.zero_add, Int.mul_one, Int.one_mul, (low_rat h).1, (low_rat h).2]
theorem prod_one {n d : Int} (h : Low n d) : prodR [(n, d)] = (n, d) := by
  show (ratN (1 * n) (1 * d), ratD (1 * n) (1 * d)) = (n, d)
  rw [Int.one_mul, Int.one_mul, (low_rat h).1, (low_rat h).2]
/-- what is known of one ratio of the law's -/
structure RA (H : Hp) (b c p : Addr) (n d : Int) : Prop where
  at_ : H p = some (.tup [.int n, .int d])
  low : Low n d
  h1 : n.natAbs < 2 ^ 110
  h2 : d.natAbs < 2 ^ 110
  nb : p ≠ b
  nc : p ≠ c
theorem RA.ext {H H' : Hp} {b c p : Addr} {n d : Int} (r : RA H b c p n d) (e : Ext b c H H') : RA H' b c p n d := ⟨e _ _ r.nb r.nc r.at_, r.low, r.h1, r.h2, r.nb, r.nc⟩
theorem RA.cons {H : Hp} {b c p : Addr} {n d : Int} {as : List Addr} {qs : List (Int × Int)} (r : RA H b c p n d) (q : Rats H as qs) : Rats H (p :: as) ((n, d) :: qs) := Rats.cons r.at_ r.low.1 r.h1 r.h2 q
theorem ok_law (T : Txt K mg A) : FnOk P w K mg base CX0 7 A.f_law A.d_law ["_law_script"] (spLaw K) := by
  have G_law_box := ok__law_box (P := P) (w := w) (base := base) T
  have G_law_take := ok__law_take (P := P) (w := w) (base := base) T
  have G_law_any_ratio := ok__law_any_ratio (P := P) (w := w) (base := base) T
  have G_law_is_sum := ok__law_is_sum (P := P) (w := w) (base := base) T
  have G_law_is_product := ok__law_is_product (P := P) (w := w) (base := base) T
  have Gadd := ok_add (P := P) (w := w) (base := base) T
  have Gmultiply := ok_multiply (P := P) (w := w) (base := base) T
  refine T.F_law.ok sc_law (fun vs H Q E h => ?_) (fun cdv Ar outer s H vs Q E hr h => ?_)
  · obtain ⟨a, ns, rfl, _⟩ := h
    rfl
  · obtain ⟨a, ns, rfl, hS, hlen, k⟩ := h
    refine ⟨_, (pss_cons (ps_set (i := 1) sc_law.nd rfl (Or.inl rfl) (pe_call G_law_box (hr.mono (by decide)) rfl T.g__law_box T.k__law_box T.b__law_box .nil pass0 (pa_cons (pv 0) pa_nil)))
      (pss_cons (ps_set (i := 2) sc_law.nd rfl (Or.inl rfl) (pe_call G_law_any_ratio (hr.mono (by decide)) rfl T.g__law_any_ratio T.k__law_any_ratio T.b__law_any_ratio .nil pass0 (pa_cons (pv 1) pa_nil)))
      (pss_cons (ps_set (i := 3) sc_law.nd rfl (Or.inl rfl) (pe_call G_law_any_ratio (hr.mono (by decide)) rfl T.g__law_any_ratio T.k__law_any_ratio T.b__law_any_ratio .nil pass0 (pa_cons (pv 1) pa_nil)))
      (pss_cons (ps_set (i := 4) sc_law.nd rfl (Or.inl rfl) (pe_call G_law_any_ratio (hr.mono (by decide)) rfl T.g__law_any_ratio T.k__law_any_ratio T.b__law_any_ratio .nil pass0 (pa_cons (pv 1) pa_nil)))
      (Evl.pss_cut (ps_if (pt_cmpR op_eq (pe_call G_law_take (hr.mono (by decide)) rfl T.g__law_take T.k__law_take T.b__law_take .nil pass0 (pa_cons (pv 1) (pa_cons pe_int pa_nil))) pe_int (nomark _)) (pss_one (ps_set (i := 3) sc_law.nd rfl (Or.inl rfl) (pe_tup (pa_cons (pe_un un_neg (pe_ix ix_tup (pv 2) pe_int (fun _ _ => rfl))) (pa_cons (pe_ix ix_tup (pv 2) pe_int (fun _ _ => rfl)) pa_nil))))) pss_nil)
      (pss_cons (ps_if (PW.pt (pw_or (pt_cmpR (op_neD hr.units) (pe_callR0 Gadd (hr.mono (by decide)) rfl T.g_add T.k_add pass0) (pe_tup (pa_cons pe_int (pa_cons pe_int pa_nil))) (nomark _)) (pw_or (pt_cmpR (op_neD hr.units) (pe_callR0 Gmultiply (hr.mono (by decide)) rfl T.g_multiply T.k_multiply pass0) (pe_tup (pa_cons pe_int (pa_cons pe_int pa_nil))) (nomark _)) (pw_or (pt_cmpR (op_neD hr.units) (pe_callR Gadd (hr.mono (by decide)) rfl T.g_add T.k_add pass0 (pa_cons (pv 2) pa_nil)) (pv 2) (nomark _)) (pw_or1 (pt_cmpR (op_neD hr.units) (pe_callR Gmultiply (hr.mono (by decide)) rfl T.g_multiply T.k_multiply pass0 (pa_cons (pv 2) pa_nil)) (pv 2) (nomark _))))))) (pss_one (ps_ret pe_bl)) pss_nil)
      (pss_cons (ps_if (PW.pt (pw_or (pt_not (pt_val (pe_call G_law_is_sum (hr.mono (by decide)) rfl T.g__law_is_sum T.k__law_is_sum T.b__law_is_sum .nil pass0 (pa_cons (pe_callR Gadd (hr.mono (by decide)) rfl T.g_add T.k_add pass0 (pa_cons (pv 2) (pa_cons (pv 3) pa_nil))) (pa_cons (pe_lst (pa_cons (pv 2) (pa_cons (pv 3) pa_nil))) pa_nil))))) (pw_or1 (pt_not (pt_val (pe_call G_law_is_sum (hr.mono (by decide)) rfl T.g__law_is_sum T.k__law_is_sum T.b__law_is_sum .nil pass0 (pa_cons (pe_callR Gadd (hr.mono (by decide)) rfl T.g_add T.k_add pass0 (pa_cons (pv 2) (pa_cons (pv 3) (pa_cons (pv 4) pa_nil)))) (pa_cons (pe_lst (pa_cons (pv 2) (pa_cons (pv 3) (pa_cons (pv 4) pa_nil)))) pa_nil)))))))) (pss_one (ps_ret pe_bl)) pss_nil)
      (pss_cons (ps_if (PW.pt (pw_or (pt_not (pt_val (pe_call G_law_is_product (hr.mono (by decide)) rfl T.g__law_is_product T.k__law_is_product T.b__law_is_product .nil pass0 (pa_cons (pe_callR Gmultiply (hr.mono (by decide)) rfl T.g_multiply T.k_multiply pass0 (pa_cons (pv 2) (pa_cons (pv 3) pa_nil))) (pa_cons (pe_lst (pa_cons (pv 2) (pa_cons (pv 3) pa_nil))) pa_nil))))) (pw_or1 (pt_not (pt_val (pe_call G_law_is_product (hr.mono (by decide)) rfl T.g__law_is_product T.k__law_is_product T.b__law_is_product .nil pass0 (pa_cons (pe_callR Gmultiply (hr.mono (by decide)) rfl T.g_multiply T.k_multiply pass0 (pa_cons (pv 4) (pa_cons (pv 2) (pa_cons (pv 3) pa_nil)))) (pa_cons (pe_lst (pa_cons (pv 2) (pa_cons (pv 3) (pa_cons (pv 4) pa_nil)))) pa_nil)))))))) (pss_one (ps_ret pe_bl)) pss_nil)
      (pss_cons (ps_if (PW.pt (pw_or (pt_not (pt_val (pe_call G_law_is_sum (hr.mono (by decide)) rfl T.g__law_is_sum T.k__law_is_sum T.b__law_is_sum .nil pass0 (pa_cons (pe_callR Gadd (hr.mono (by decide)) rfl T.g_add T.k_add pass0 (pa_cons (pv 2) (pa_cons (pv 2) pa_nil))) (pa_cons (pe_lst (pa_cons (pv 2) (pa_cons (pv 2) pa_nil))) pa_nil))))) (pw_or1 (pt_not (pt_val (pe_call G_law_is_product (hr.mono (by decide)) rfl T.g__law_is_product T.k__law_is_product T.b__law_is_product .nil pass0 (pa_cons (pe_callR Gmultiply (hr.mono (by decide)) rfl T.g_multiply T.k_multiply pass0 (pa_cons (pv 3) (pa_cons (pv 3) pa_nil))) (pa_cons (pe_lst (pa_cons (pv 3) (pa_cons (pv 3) pa_nil))) pa_nil)))))))) (pss_one (ps_ret pe_bl)) pss_nil)
      (pss_cons (ps_set (i := 5) sc_law.nd rfl (Or.inl rfl) (pe_call G_law_any_ratio (hr.mono (by decide)) rfl T.g__law_any_ratio T.k__law_any_ratio T.b__law_any_ratio .nil pass0 (pa_cons (pv 1) pa_nil)))
      (pss_cons (ps_set (i := 6) sc_law.nd rfl (Or.inl rfl) (pe_call G_law_any_ratio (hr.mono (by decide)) rfl T.g__law_any_ratio T.k__law_any_ratio T.b__law_any_ratio .nil pass0 (pa_cons (pv 1) pa_nil)))
      (pss_cons (ps_if (PW.pt (pw_or (pt_not (pt_val (pe_call G_law_is_sum (hr.mono (by decide)) rfl T.g__law_is_sum T.k__law_is_sum T.b__law_is_sum .nil pass0 (pa_cons (pe_callR Gadd (hr.mono (by decide)) rfl T.g_add T.k_add pass0 (pa_cons (pv 5) (pa_cons (pv 4) (pa_cons (pv 3) (pa_cons (pv 2) pa_nil))))) (pa_cons (pe_lst (pa_cons (pv 2) (pa_cons (pv 3) (pa_cons (pv 4) (pa_cons (pv 5) pa_nil))))) pa_nil))))) (pw_or1 (pt_not (pt_val (pe_call G_law_is_product (hr.mono (by decide)) rfl T.g__law_is_product T.k__law_is_product T.b__law_is_product .nil pass0 (pa_cons (pe_callR Gmultiply (hr.mono (by decide)) rfl T.g_multiply T.k_multiply pass0 (pa_cons (pv 5) (pa_cons (pv 4) (pa_cons (pv 3) (pa_cons (pv 2) pa_nil))))) (pa_cons (pe_lst (pa_cons (pv 2) (pa_cons (pv 3) (pa_cons (pv 4) (pa_cons (pv 5) pa_nil))))) pa_nil)))))))) (pss_one (ps_ret pe_bl)) pss_nil)
      (pss_cons (ps_if (pt_not (pt_val (pe_call G_law_is_sum (hr.mono (by decide)) rfl T.g__law_is_sum T.k__law_is_sum T.b__law_is_sum .nil pass0 (pa_cons (pe_callR Gadd (hr.mono (by decide)) rfl T.g_add T.k_add pass0 (pa_cons (pv 2) (pa_cons (pv 3) (pa_cons (pv 4) (pa_cons (pv 5) (pa_cons (pv 6) pa_nil)))))) (pa_cons (pe_lst (pa_cons (pv 2) (pa_cons (pv 3) (pa_cons (pv 4) (pa_cons (pv 5) (pa_cons (pv 6) pa_nil)))))) pa_nil))))) (pss_one (ps_ret pe_bl)) pss_nil)
      (pss_cons (ps_if (pt_not (pt_val (pe_call G_law_is_product (hr.mono (by decide)) rfl T.g__law_is_product T.k__law_is_product T.b__law_is_product .nil pass0 (pa_cons (pe_callR Gmultiply (hr.mono (by decide)) rfl T.g_multiply T.k_multiply pass0 (pa_cons (pv 2) (pa_cons (pv 3) (pa_cons (pv 4) (pa_cons (pv 5) (pa_cons (pv 6) pa_nil)))))) (pa_cons (pe_lst (pa_cons (pv 2) (pa_cons (pv 3) (pa_cons (pv 4) (pa_cons (pv 5) (pa_cons (pv 6) pa_nil)))))) pa_nil))))) (pss_one (ps_ret pe_bl)) pss_nil)
      (pss_cons (ps_set (i := 7) sc_law.nd rfl (Or.inl rfl) (pe_lst (pa_cons (pv 2) (pa_cons (pv 3) (pa_cons (pv 4) (pa_cons (pv 5) (pa_cons (pv 6) (pa_cons (pv 2) pa_nil))))))))
      (pss_cons (ps_if (PW.pt (pw_or (pt_not (pt_val (pe_call G_law_is_sum (hr.mono (by decide)) rfl T.g__law_is_sum T.k__law_is_sum T.b__law_is_sum .nil pass0 (pa_cons (pe_callR Gadd (hr.mono (by decide)) rfl T.g_add T.k_add pass0 (pa_cons (pv 2) (pa_cons (pv 3) (pa_cons (pv 4) (pa_cons (pv 5) (pa_cons (pv 6) (pa_cons (pv 2) pa_nil))))))) (pa_cons (pv 7) pa_nil))))) (pw_or1 (pt_not (pt_val (pe_call G_law_is_product (hr.mono (by decide)) rfl T.g__law_is_product T.k__law_is_product T.b__law_is_product .nil pass0 (pa_cons (pe_callR Gmultiply (hr.mono (by decide)) rfl T.g_multiply T.k_multiply pass0 (pa_cons (pv 2) (pa_cons (pv 3) (pa_cons (pv 4) (pa_cons (pv 5) (pa_cons (pv 6) (pa_cons (pv 2) pa_nil))))))) (pa_cons (pv 7) pa_nil)))))))) (pss_one (ps_ret pe_bl)) pss_nil)
      (pss_cons (ps_set (i := 7) sc_law.nd rfl (Or.inl rfl) (pe_lst (pa_cons (pv 2) (pa_cons (pv 3) (pa_cons (pv 4) (pa_cons (pv 5) (pa_cons (pv 6) (pa_cons (pv 2) (pa_cons (pv 3) (pa_cons (pv 4) (pa_cons (pv 5) (pa_cons (pv 6) (pa_cons (pv 5) pa_nil)))))))))))))
      (pss_cons (ps_if (pt_not (pt_val (pe_call G_law_is_sum (hr.mono (by decide)) rfl T.g__law_is_sum T.k__law_is_sum T.b__law_is_sum .nil pass0 (pa_cons (pe_callR Gadd (hr.mono (by decide)) rfl T.g_add T.k_add pass0 (pa_cons (pv 2) (pa_cons (pv 3) (pa_cons (pv 4) (pa_cons (pv 5) (pa_cons (pv 6) (pa_cons (pv 2) (pa_cons (pv 3) (pa_cons (pv 4) (pa_cons (pv 5) (pa_cons (pv 6) (pa_cons (pv 5) pa_nil)))))))))))) (pa_cons (pv 7) pa_nil))))) (pss_one (ps_ret pe_bl)) pss_nil)
      (pss_one (ps_ret (pe_call G_law_is_product (hr.mono (by decide)) rfl T.g__law_is_product T.k__law_is_product T.b__law_is_product .nil pass0 (pa_cons (pe_callR Gmultiply (hr.mono (by decide)) rfl T.g_multiply T.k_multiply pass0 (pa_cons (pv 2) (pa_cons (pv 3) (pa_cons (pv 4) (pa_cons (pv 5) (pa_cons (pv 6) (pa_cons (pv 2) (pa_cons (pv 3) (pa_cons (pv 4) (pa_cons (pv 5) (pa_cons (pv 6) (pa_cons (pv 5) pa_nil)))))))))))) (pa_cons (pv 7) pa_nil))))))))))))))))))))))), ?_⟩
    refine qS ⟨_, rfl, a, ns, rfl, hS, hlen, fun b c H1 s1 hb hc B1 => ?_⟩
    refine qS ⟨_, rfl, b, c, rfl, B1, fun p1 n1 d1 H2 l1 u1 v1 hp1 B2 e2 hP1 => ?_⟩
    have A2 : RA H2 b c p1 n1 d1 := ⟨hP1, l1, u1, v1, (B1.neb hp1).1, (B1.neb hp1).2⟩
    refine qS ⟨_, rfl, b, c, rfl, B2, fun p2 n2 d2 H3 l2 u2 v2 hp2 B3 e3 hP2 => ?_⟩
    have A3 := A2.ext e3
    have C3 : RA H3 b c p2 n2 d2 := ⟨hP2, l2, u2, v2, (B2.neb hp2).1, (B2.neb hp2).2⟩
    refine qS ⟨_, rfl, b, c, rfl, B3, fun p3 n3 d3 H4 l3 u3 v3 hp3 B4 e4 hP3 => ?_⟩
    have A4 := A3.ext e4
    have C4 := C3.ext e4
    have D4 : RA H4 b c p3 n3 d3 := ⟨hP3, l3, u3, v3, (B3.neb hp3).1, (B3.neb hp3).2⟩
    refine ⟨fun σ' H' => ∃ (q : Addr) (u v : Int), σ' = [some (.ref a), some (.ref b), some (.ref p1), some (.ref q), some (.ref p3), none, none, none] ∧ BoxAt H' b c ∧ RA H' b c p1 n1 d1 ∧ RA H' b c q u v ∧ RA H' b c p3 n3 d3, ?_, ?_⟩
    · refine sW ⟨_, rfl, b, c, 3, rfl, B4, by decide, by decide, fun m H5 m0 m1 B5 e5 => ⟨rfl, _, rfl, ite2 (fun _ => ?_) (fun _ => ?_)⟩⟩
      · have x5 : Ext b c H4 H5 := fun a o ab ac h => (e5 a ab ac).trans h
        have A5 := A4.ext x5
        have hT := SqT.of A5.at_ (K := K)
        refine sS ⟨_, rfl, p1, _, _, _, rfl, rfl, hT, rfl, n1, rfl, _, rfl, p1, _, _, _, rfl, rfl, hT, rfl, (by show 2 ≤ sizeLine; decide), fun r hr => ?_⟩
        refine ⟨r, -n1, d1, rfl, B5.same (same_upd hr), A5.ext (.of (same_upd hr)), ⟨upd_same, ⟨l1.1, by rw [Int.natAbs_neg]; exact l1.2⟩, by rw [Int.natAbs_neg]; exact u1, v1, (B5.neb hr).1, (B5.neb hr).2⟩, (D4.ext x5).ext (.of (same_upd hr))⟩
      · have x5 : Ext b c H4 H5 := fun a o ab ac h => (e5 a ab ac).trans h
        exact ⟨p2, n2, d2, rfl, B5, A4.ext x5, C4.ext x5, D4.ext x5⟩
    clear A2 A3 C3 A4 C4 D4 B1 B2 B3 B4 hP1 hP2 hP3
    rintro σ' H5 ⟨q, n2', d2', rfl, B5, A5, C5, D5⟩
    refine Evl.q_when (b := false) (Evl.et_or (test_none rfl) fun _ => Evl.et_or (test_none rfl) fun _ => Evl.et_or (test_one rfl (A5.cons Rats.nil) (sum_one A5.low)) fun _ => test_one rfl (A5.cons Rats.nil) (prod_one A5.low)) (fun z => nomatch z) (fun _ H6 e6 => ?_)
    have A6 := A5.ext (.of e6)
    have C6 := C5.ext (.of e6)
    have D6 := D5.ext (.of e6)
    have B6 := B5.same e6
    refine Evl.q_when (b := false) (Evl.et_or (test_sum (as := [p1, q]) (bs := [p1, q]) (fun _ => va_cons (val_var rfl) (va_cons (val_var rfl) (va_nil))) (fun _ => va_cons (val_var rfl) (va_cons (val_var rfl) (va_nil))) (A6.cons (C6.cons Rats.nil)) (A6.cons (C6.cons Rats.nil)) (.refl _) (by show 2 ≤ 20; decide) (by show 2 ≤ 20; decide)) fun _ => test_sum (as := [p1, q, p3]) (bs := [p1, q, p3]) (fun _ => va_cons (val_var rfl) (va_cons (val_var rfl) (va_cons (val_var rfl) (va_nil)))) (fun _ => va_cons (val_var rfl) (va_cons (val_var rfl) (va_cons (val_var rfl) (va_nil)))) (A6.cons (C6.cons (D6.cons Rats.nil))) (A6.cons (C6.cons (D6.cons Rats.nil))) (.refl _) (by show 3 ≤ 20; decide) (by show 3 ≤ 20; decide)) (fun z => nomatch z) (fun _ H7 e7 => ?_)
    have A7 := A6.ext (.of e7)
    have C7 := C6.ext (.of e7)
    have D7 := D6.ext (.of e7)
    have B7 := B6.same e7
    refine Evl.q_when (b := false) (Evl.et_or (test_prod (as := [p1, q]) (bs := [p1, q]) (fun _ => va_cons (val_var rfl) (va_cons (val_var rfl) (va_nil))) (fun _ => va_cons (val_var rfl) (va_cons (val_var rfl) (va_nil))) (A7.cons (C7.cons Rats.nil)) (A7.cons (C7.cons Rats.nil)) (.refl _) (by show 2 ≤ 20; decide) (by show 2 ≤ 20; decide)) fun _ => test_prod (as := [p3, p1, q]) (bs := [p1, q, p3]) (fun _ => va_cons (val_var rfl) (va_cons (val_var rfl) (va_cons (val_var rfl) (va_nil)))) (fun _ => va_cons (val_var rfl) (va_cons (val_var rfl) (va_cons (val_var rfl) (va_nil)))) (D7.cons (A7.cons (C7.cons Rats.nil))) (A7.cons (C7.cons (D7.cons Rats.nil))) (List.perm_append_comm (l₁ := [_]) (l₂ := [_, _])) (by show 3 ≤ 20; decide) (by show 3 ≤ 20; decide)) (fun z => nomatch z) (fun _ H8 e8 => ?_)
    have A8 := A7.ext (.of e8)
    have C8 := C7.ext (.of e8)
    have D8 := D7.ext (.of e8)
    have B8 := B7.same e8
    refine Evl.q_when (b := false) (Evl.et_or (test_sum (as := [p1, p1]) (bs := [p1, p1]) (fun _ => va_cons (val_var rfl) (va_cons (val_var rfl) (va_nil))) (fun _ => va_cons (val_var rfl) (va_cons (val_var rfl) (va_nil))) (A8.cons (A8.cons Rats.nil)) (A8.cons (A8.cons Rats.nil)) (.refl _) (by show 2 ≤ 20; decide) (by show 2 ≤ 20; decide)) fun _ => test_prod (as := [q, q]) (bs := [q, q]) (fun _ => va_cons (val_var rfl) (va_cons (val_var rfl) (va_nil))) (fun _ => va_cons (val_var rfl) (va_cons (val_var rfl) (va_nil))) (C8.cons (C8.cons Rats.nil)) (C8.cons (C8.cons Rats.nil)) (.refl _) (by show 2 ≤ 20; decide) (by show 2 ≤ 20; decide)) (fun z => nomatch z) (fun _ H9 e9 => ?_)
    have A9 := A8.ext (.of e9)
    have C9 := C8.ext (.of e9)
    have D9 := D8.ext (.of e9)
    have B9 := B8.same e9
    refine qS ⟨_, rfl, b, c, rfl, B9, fun p4 n4 d4 H10 l4 u4 v4 hp4 B10 e10 hP4 => ?_⟩
    have A10 := A9.ext e10
    have C10 := C9.ext e10
    have D10 := D9.ext e10
    have F10 : RA H10 b c p4 n4 d4 := ⟨hP4, l4, u4, v4, (B9.neb hp4).1, (B9.neb hp4).2⟩
    refine qS ⟨_, rfl, b, c, rfl, B10, fun p5 n5 d5 H11 l5 u5 v5 hp5 B11 e11 hP5 => ?_⟩
    have A11 := A10.ext e11
    have C11 := C10.ext e11
    have D11 := D10.ext e11
    have F11 := F10.ext e11
    have G11 : RA H11 b c p5 n5 d5 := ⟨hP5, l5, u5, v5, (B10.neb hp5).1, (B10.neb hp5).2⟩
    dsimp only [List.set]
    refine Evl.q_when (b := false) (Evl.et_or (test_sum (as := [p4, p3, q, p1]) (bs := [p1, q, p3, p4]) (fun _ => va_cons (val_var rfl) (va_cons (val_var rfl) (va_cons (val_var rfl) (va_cons (val_var rfl) (va_nil))))) (fun _ => va_cons (val_var rfl) (va_cons (val_var rfl) (va_cons (val_var rfl) (va_cons (val_var rfl) (va_nil))))) (F11.cons (D11.cons (C11.cons (A11.cons Rats.nil)))) (A11.cons (C11.cons (D11.cons (F11.cons Rats.nil)))) (List.reverse_perm [(n1, d1), (n2', d2'), (n3, d3), (n4, d4)]) (by show 4 ≤ 20; decide) (by show 4 ≤ 20; decide)) fun _ => test_prod (as := [p4, p3, q, p1]) (bs := [p1, q, p3, p4]) (fun _ => va_cons (val_var rfl) (va_cons (val_var rfl) (va_cons (val_var rfl) (va_cons (val_var rfl) (va_nil))))) (fun _ => va_cons (val_var rfl) (va_cons (val_var rfl) (va_cons (val_var rfl) (va_cons (val_var rfl) (va_nil))))) (F11.cons (D11.cons (C11.cons (A11.cons Rats.nil)))) (A11.cons (C11.cons (D11.cons (F11.cons Rats.nil)))) (List.reverse_perm [(n1, d1), (n2', d2'), (n3, d3), (n4, d4)]) (by show 4 ≤ 20; decide) (by show 4 ≤ 20; decide)) (fun z => nomatch z) (fun _ H12 e12 => ?_)
    have A12 := A11.ext (.of e12)
    have C12 := C11.ext (.of e12)
    have D12 := D11.ext (.of e12)
    have F12 := F11.ext (.of e12)
    have G12 := G11.ext (.of e12)
    have B12 := B11.same e12
    refine Evl.q_when (b := false) (test_sum (as := [p1, q, p3, p4, p5]) (bs := [p1, q, p3, p4, p5]) (fun _ => va_cons (val_var rfl) (va_cons (val_var rfl) (va_cons (val_var rfl) (va_cons (val_var rfl) (va_cons (val_var rfl) (va_nil)))))) (fun _ => va_cons (val_var rfl) (va_cons (val_var rfl) (va_cons (val_var rfl) (va_cons (val_var rfl) (va_cons (val_var rfl) (va_nil)))))) (A12.cons (C12.cons (D12.cons (F12.cons (G12.cons Rats.nil))))) (A12.cons (C12.cons (D12.cons (F12.cons (G12.cons Rats.nil))))) (.refl _) (by show 5 ≤ 20; decide) (by show 5 ≤ 20; decide)) (fun z => nomatch z) (fun _ H13 e13 => ?_)
    have A13 := A12.ext (.of e13)
    have C13 := C12.ext (.of e13)
    have D13 := D12.ext (.of e13)
    have F13 := F12.ext (.of e13)
    have G13 := G12.ext (.of e13)
    have B13 := B12.same e13
    refine Evl.q_when (b := false) (test_prod (as := [p1, q, p3, p4, p5]) (bs := [p1, q, p3, p4, p5]) (fun _ => va_cons (val_var rfl) (va_cons (val_var rfl) (va_cons (val_var rfl) (va_cons (val_var rfl) (va_cons (val_var rfl) (va_nil)))))) (fun _ => va_cons (val_var rfl) (va_cons (val_var rfl) (va_cons (val_var rfl) (va_cons (val_var rfl) (va_cons (val_var rfl) (va_nil)))))) (A13.cons (C13.cons (D13.cons (F13.cons (G13.cons Rats.nil))))) (A13.cons (C13.cons (D13.cons (F13.cons (G13.cons Rats.nil))))) (.refl _) (by show 5 ≤ 20; decide) (by show 5 ≤ 20; decide)) (fun z => nomatch z) (fun _ H14 e14 => ?_)
    have A14 := A13.ext (.of e14)
    have C14 := C13.ext (.of e14)
    have D14 := D13.ext (.of e14)
    have F14 := F13.ext (.of e14)
    have G14 := G13.ext (.of e14)
    refine qS ((show ∀ H, ValA _ _ H ([p1, q, p3, p4, p5, p1].map V.ref) from (fun _ => va_cons (val_var rfl) (va_cons (val_var rfl) (va_cons (val_var rfl) (va_cons (val_var rfl) (va_cons (val_var rfl) (va_cons (val_var rfl) (va_nil)))))))) H14 _ ⟨(by show 6 ≤ sizeLine; decide), fun m1 hm1 => ?_⟩)
    generalize hH15 : upd H14 m1 (.lst ([p1, q, p3, p4, p5, p1].map V.ref)) = H15
    have e15 : Same H14 H15 := hH15 ▸ same_upd hm1
    have hl1 : H15 m1 = some (.lst ([p1, q, p3, p4, p5, p1].map V.ref)) := hH15 ▸ upd_same
    have A15 := A14.ext (.of e15)
    have C15 := C14.ext (.of e15)
    have D15 := D14.ext (.of e15)
    have F15 := F14.ext (.of e15)
    have G15 := G14.ext (.of e15)
    refine Evl.q_when (b := false) (Evl.et_or (Evl.et_not (Evl.et_B (ev_foldv sum_rel sum_p sum_z (as := [p1, q, p3, p4, p5, p1]) (fun _ => va_cons (val_var rfl) (va_cons (val_var rfl) (va_cons (val_var rfl) (va_cons (val_var rfl) (va_cons (val_var rfl) (va_cons (val_var rfl) (va_nil))))))) (l := m1) rfl hl1 (A15.cons (C15.cons (D15.cons (F15.cons (G15.cons (A15.cons Rats.nil)))))) (by show 6 ≤ 20; decide)))) fun _ => Evl.et_not (Evl.et_B (ev_foldv prod_rel prod_p prod_z (as := [p1, q, p3, p4, p5, p1]) (fun _ => va_cons (val_var rfl) (va_cons (val_var rfl) (va_cons (val_var rfl) (va_cons (val_var rfl) (va_cons (val_var rfl) (va_cons (val_var rfl) (va_nil))))))) (l := m1) rfl hl1 (A15.cons (C15.cons (D15.cons (F15.cons (G15.cons (A15.cons Rats.nil)))))) (by show 6 ≤ 20; decide)))) (fun z => nomatch z) (fun _ H16 e16 => ?_)
    have A16 := A15.ext (.of e16)
    have C16 := C15.ext (.of e16)
    have D16 := D15.ext (.of e16)
    have F16 := F15.ext (.of e16)
    have G16 := G15.ext (.of e16)
    refine qS ((show ∀ H, ValA _ _ H ([p1, q, p3, p4, p5, p1, q, p3, p4, p5, p4].map V.ref) from (fun _ => va_cons (val_var rfl) (va_cons (val_var rfl) (va_cons (val_var rfl) (va_cons (val_var rfl) (va_cons (val_var rfl) (va_cons (val_var rfl) (va_cons (val_var rfl) (va_cons (val_var rfl) (va_cons (val_var rfl) (va_cons (val_var rfl) (va_cons (val_var rfl) (va_nil))))))))))))) H16 _ ⟨(by show 11 ≤ sizeLine; decide), fun m2 hm2 => ?_⟩)
    generalize hH17 : upd H16 m2 (.lst ([p1, q, p3, p4, p5, p1, q, p3, p4, p5, p4].map V.ref)) = H17
    have e17 : Same H16 H17 := hH17 ▸ same_upd hm2
    have hl2 : H17 m2 = some (.lst ([p1, q, p3, p4, p5, p1, q, p3, p4, p5, p4].map V.ref)) := hH17 ▸ upd_same
    have A17 := A16.ext (.of e17)
    have C17 := C16.ext (.of e17)
    have D17 := D16.ext (.of e17)
    have F17 := F16.ext (.of e17)
    have G17 := G16.ext (.of e17)
    refine Evl.q_when (b := false) (Evl.et_not (Evl.et_B (ev_foldv sum_rel sum_p sum_z (as := [p1, q, p3, p4, p5, p1, q, p3, p4, p5, p4]) (fun _ => va_cons (val_var rfl) (va_cons (val_var rfl) (va_cons (val_var rfl) (va_cons (val_var rfl) (va_cons (val_var rfl) (va_cons (val_var rfl) (va_cons (val_var rfl) (va_cons (val_var rfl) (va_cons (val_var rfl) (va_cons (val_var rfl) (va_cons (val_var rfl) (va_nil)))))))))))) (l := m2) rfl hl2 (A17.cons (C17.cons (D17.cons (F17.cons (G17.cons (A17.cons (C17.cons (D17.cons (F17.cons (G17.cons (F17.cons Rats.nil))))))))))) (by show 11 ≤ 20; decide)))) (fun z => nomatch z) (fun _ H18 e18 => ?_)
    have A18 := A17.ext (.of e18)
    have C18 := C17.ext (.of e18)
    have D18 := D17.ext (.of e18)
    have F18 := F17.ext (.of e18)
    have G18 := G17.ext (.of e18)
    exact Evl.s_ret (ev_foldv prod_rel prod_p prod_z (as := [p1, q, p3, p4, p5, p1, q, p3, p4, p5, p4]) (fun _ => va_cons (val_var rfl) (va_cons (val_var rfl) (va_cons (val_var rfl) (va_cons (val_var rfl) (va_cons (val_var rfl) (va_cons (val_var rfl) (va_cons (val_var rfl) (va_cons (val_var rfl) (va_cons (val_var rfl) (va_cons (val_var rfl) (va_cons (val_var rfl) (va_nil)))))))))))) (l := m2) rfl (e18 _ _ hl2) (A18.cons (C18.cons (D18.cons (F18.cons (G18.cons (A18.cons (C18.cons (D18.cons (F18.cons (G18.cons (F18.cons Rats.nil))))))))))) (by show 11 ≤ 20; decide)) fun _ _ => k _
end
theorem all_mk {l : PySem.W.OpenLaw} {w : World} {K : PySem.W.Frag} {h : Heap} {mg : Str → Option Value} {fa : Addr} (X : K.In h) (G : h.Ns mainGlobals mg) (hfa : mg "law" = some (.ref fa))
    {C_StopError : Addr} (aC_StopError : PySem.W.nsIn K mainGlobals "StopError" = some (some (.ref C_StopError)))
    {C_InvalidRatio : Addr} (aC_InvalidRatio : PySem.W.nsIn K mainGlobals "InvalidRatio" = some (some (.ref C_InvalidRatio)))
    {f0 : Addr} {od0 an0 : Option Addr} {sl0 : Array (Option Value)} {oc0 kV0 dc0 pm0 cd0 ct0 : Value}
    (a0 : PySem.W.findIn K (.ref C_InvalidRatio) "__init__" = some (some (.ref f0))) (i0 : PySem.W.isFn K (.ref f0) = true) (t0 : PySem.W.typeIn K (.ref f0) = some (.type "function"))
    (l0 : K.lookup f0 = some ⟨oc0, od0, .func (PySem.W.fnOf "__init__" "InvalidRatio.__init__" (defArgs s_InvalidRatio___init__) (defBody s_InvalidRatio___init__) (defScope s_InvalidRatio___init__) .none kV0 dc0 pm0 an0 cd0 ct0), sl0⟩) (c0 : PySem.W.codeIn K cd0 "InvalidRatio.__init__" = true) (k0 : PySem.W.keepIn K (.ref f0) = true)
    {f1 : Addr} {od1 an1 : Option Addr} {sl1 : Array (Option Value)} {oc1 kV1 dc1 pm1 cd1 ct1 : Value}
    {T1 : Addr} {mc1 : Value} {md1 : Option Addr} {ms1 : Array (Option Value)} {mn1 : Nat} {tk1_0 : Tok} (m1 : K.lookup T1 = some ⟨mc1, md1, .seq #[.int 1 tk1_0] mn1, ms1⟩)
    (a1 : PySem.W.nsIn K mainGlobals "ratio" = some (some (.ref f1)))
    (l1 : K.lookup f1 = some ⟨oc1, od1, .func (PySem.W.fnOf "ratio" "ratio" (defArgs s_ratio) (defBody s_ratio) (defScope s_ratio) (.ref T1) kV1 dc1 pm1 an1 cd1 ct1), sl1⟩) (c1 : PySem.W.codeIn K cd1 "ratio" = true) (k1 : PySem.W.keepIn K (.ref f1) = true)
    {f2 : Addr} {od2 an2 : Option Addr} {sl2 : Array (Option Value)} {oc2 kV2 dc2 pm2 cd2 ct2 : Value}
    (a2 : PySem.W.nsIn K mainGlobals "add" = some (some (.ref f2)))
    (l2 : K.lookup f2 = some ⟨oc2, od2, .func (PySem.W.fnOf "add" "add" (defArgs s_add) (defBody s_add) (defScope s_add) .none kV2 dc2 pm2 an2 cd2 ct2), sl2⟩) (c2 : PySem.W.codeIn K cd2 "add" = true) (k2 : PySem.W.keepIn K (.ref f2) = true)
    {f3 : Addr} {od3 an3 : Option Addr} {sl3 : Array (Option Value)} {oc3 kV3 dc3 pm3 cd3 ct3 : Value}
    (a3 : PySem.W.nsIn K mainGlobals "multiply" = some (some (.ref f3)))
    (l3 : K.lookup f3 = some ⟨oc3, od3, .func (PySem.W.fnOf "multiply" "multiply" (defArgs s_multiply) (defBody s_multiply) (defScope s_multiply) .none kV3 dc3 pm3 an3 cd3 ct3), sl3⟩) (c3 : PySem.W.codeIn K cd3 "multiply" = true) (k3 : PySem.W.keepIn K (.ref f3) = true)
    {f4 : Addr} {od4 an4 : Option Addr} {sl4 : Array (Option Value)} {oc4 kV4 dc4 pm4 cd4 ct4 : Value}
    (a4 : PySem.W.nsIn K mainGlobals "_law_box" = some (some (.ref f4)))
    (l4 : K.lookup f4 = some ⟨oc4, od4, .func (PySem.W.fnOf "_law_box" "_law_box" (defArgs s__law_box) (defBody s__law_box) (defScope s__law_box) .none kV4 dc4 pm4 an4 cd4 ct4), sl4⟩) (c4 : PySem.W.codeIn K cd4 "_law_box" = true) (k4 : PySem.W.keepIn K (.ref f4) = true)
    {f5 : Addr} {od5 an5 : Option Addr} {sl5 : Array (Option Value)} {oc5 kV5 dc5 pm5 cd5 ct5 : Value}
    (a5 : PySem.W.nsIn K mainGlobals "_law_take" = some (some (.ref f5)))
    (l5 : K.lookup f5 = some ⟨oc5, od5, .func (PySem.W.fnOf "_law_take" "_law_take" (defArgs s__law_take) (defBody s__law_take) (defScope s__law_take) .none kV5 dc5 pm5 an5 cd5 ct5), sl5⟩) (c5 : PySem.W.codeIn K cd5 "_law_take" = true) (k5 : PySem.W.keepIn K (.ref f5) = true)
    {f6 : Addr} {od6 an6 : Option Addr} {sl6 : Array (Option Value)} {oc6 kV6 dc6 pm6 cd6 ct6 : Value}
    (a6 : PySem.W.nsIn K mainGlobals "_law_gcd" = some (some (.ref f6)))
    (l6 : K.lookup f6 = some ⟨oc6, od6, .func (PySem.W.fnOf "_law_gcd" "_law_gcd" (defArgs s__law_gcd) (defBody s__law_gcd) (defScope s__law_gcd) .none kV6 dc6 pm6 an6 cd6 ct6), sl6⟩) (c6 : PySem.W.codeIn K cd6 "_law_gcd" = true) (k6 : PySem.W.keepIn K (.ref f6) = true)
    {f7 : Addr} {od7 an7 : Option Addr} {sl7 : Array (Option Value)} {oc7 kV7 dc7 pm7 cd7 ct7 : Value}
    (a7 : PySem.W.nsIn K mainGlobals "_law_ratio" = some (some (.ref f7)))
    (l7 : K.lookup f7 = some ⟨oc7, od7, .func (PySem.W.fnOf "_law_ratio" "_law_ratio" (defArgs s__law_ratio) (defBody s__law_ratio) (defScope s__law_ratio) .none kV7 dc7 pm7 an7 cd7 ct7), sl7⟩) (c7 : PySem.W.codeIn K cd7 "_law_ratio" = true) (k7 : PySem.W.keepIn K (.ref f7) = true)
    {f8 : Addr} {od8 an8 : Option Addr} {sl8 : Array (Option Value)} {oc8 kV8 dc8 pm8 cd8 ct8 : Value}
    (a8 : PySem.W.nsIn K mainGlobals "_law_any_ratio" = some (some (.ref f8)))
    (l8 : K.lookup f8 = some ⟨oc8, od8, .func (PySem.W.fnOf "_law_any_ratio" "_law_any_ratio" (defArgs s__law_any_ratio) (defBody s__law_any_ratio) (defScope s__law_any_ratio) .none kV8 dc8 pm8 an8 cd8 ct8), sl8⟩) (c8 : PySem.W.codeIn K cd8 "_law_any_ratio" = true) (k8 : PySem.W.keepIn K (.ref f8) = true)
    {f9 : Addr} {od9 an9 : Option Addr} {sl9 : Array (Option Value)} {oc9 kV9 dc9 pm9 cd9 ct9 : Value}
    (a9 : PySem.W.nsIn K mainGlobals "_law_is_integer" = some (some (.ref f9)))
    (l9 : K.lookup f9 = some ⟨oc9, od9, .func (PySem.W.fnOf "_law_is_integer" "_law_is_integer" (defArgs s__law_is_integer) (defBody s__law_is_integer) (defScope s__law_is_integer) .none kV9 dc9 pm9 an9 cd9 ct9), sl9⟩) (c9 : PySem.W.codeIn K cd9 "_law_is_integer" = true) (k9 : PySem.W.keepIn K (.ref f9) = true)
    {f10 : Addr} {od10 an10 : Option Addr} {sl10 : Array (Option Value)} {oc10 kV10 dc10 pm10 cd10 ct10 : Value}
    (a10 : PySem.W.nsIn K mainGlobals "_law_is_ratio" = some (some (.ref f10)))
    (l10 : K.lookup f10 = some ⟨oc10, od10, .func (PySem.W.fnOf "_law_is_ratio" "_law_is_ratio" (defArgs s__law_is_ratio) (defBody s__law_is_ratio) (defScope s__law_is_ratio) .none kV10 dc10 pm10 an10 cd10 ct10), sl10⟩) (c10 : PySem.W.codeIn K cd10 "_law_is_ratio" = true) (k10 : PySem.W.keepIn K (.ref f10) = true)
    {f11 : Addr} {od11 an11 : Option Addr} {sl11 : Array (Option Value)} {oc11 kV11 dc11 pm11 cd11 ct11 : Value}
    (a11 : PySem.W.nsIn K mainGlobals "_law_is_sum" = some (some (.ref f11)))
    (l11 : K.lookup f11 = some ⟨oc11, od11, .func (PySem.W.fnOf "_law_is_sum" "_law_is_sum" (defArgs s__law_is_sum) (defBody s__law_is_sum) (defScope s__law_is_sum) .none kV11 dc11 pm11 an11 cd11 ct11), sl11⟩) (c11 : PySem.W.codeIn K cd11 "_law_is_sum" = true) (k11 : PySem.W.keepIn K (.ref f11) = true)
    {f12 : Addr} {od12 an12 : Option Addr} {sl12 : Array (Option Value)} {oc12 kV12 dc12 pm12 cd12 ct12 : Value}
    (a12 : PySem.W.nsIn K mainGlobals "_law_is_product" = some (some (.ref f12)))
    (l12 : K.lookup f12 = some ⟨oc12, od12, .func (PySem.W.fnOf "_law_is_product" "_law_is_product" (defArgs s__law_is_product) (defBody s__law_is_product) (defScope s__law_is_product) .none kV12 dc12 pm12 an12 cd12 ct12), sl12⟩) (c12 : PySem.W.codeIn K cd12 "_law_is_product" = true) (k12 : PySem.W.keepIn K (.ref f12) = true)
    {f13 : Addr} {od13 an13 : Option Addr} {sl13 : Array (Option Value)} {oc13 kV13 dc13 pm13 cd13 ct13 : Value}
    (a13 : PySem.W.nsIn K mainGlobals "law" = some (some (.ref f13)))
    (l13 : K.lookup f13 = some ⟨oc13, od13, .func (PySem.W.fnOf "law" "law" (defArgs s_law) (defBody s_law) (defScope s_law) .none kV13 dc13 pm13 an13 cd13 ct13), sl13⟩) (c13 : PySem.W.codeIn K cd13 "law" = true) (k13 : PySem.W.keepIn K (.ref f13) = true)
    (z_abs : PySem.W.nsIn K mainGlobals "abs" = some none)
    (z_bool : PySem.W.nsIn K mainGlobals "bool" = some none)
    (z_gcd : PySem.W.nsIn K mainGlobals "gcd" = some (some (.builtin "math.gcd")))
    (z_int : PySem.W.nsIn K mainGlobals "int" = some none)
    (z_isinstance : PySem.W.nsIn K mainGlobals "isinstance" = some none)
    (z_len : PySem.W.nsIn K mainGlobals "len" = some none)
    (z_tuple : PySem.W.nsIn K mainGlobals "tuple" = some none)
    {nmInvalidRatio qInvalidRatio : Str} {NInvalidRatio : Addr} {bsInvalidRatio bmInvalidRatio subInvalidRatio : List Value} {snInvalidRatio : List Str} {abInvalidRatio : Bool} {colInvalidRatio : Option Bool} {ddInvalidRatio : Option Addr} {m0InvalidRatio m1InvalidRatio m2InvalidRatio m3InvalidRatio m5InvalidRatio : Option Value} (x_xl_InvalidRatio : K.lookup C_InvalidRatio = some (excClassObj nmInvalidRatio qInvalidRatio C_InvalidRatio NInvalidRatio bsInvalidRatio bmInvalidRatio true snInvalidRatio subInvalidRatio abInvalidRatio colInvalidRatio ddInvalidRatio m0InvalidRatio m1InvalidRatio m2InvalidRatio m3InvalidRatio m5InvalidRatio "ValueError.__new__"))
    (x_ve_InvalidRatio : PySem.HandSPX.refsVE bmInvalidRatio = true)
    (x_sa_InvalidRatio : PySem.W.findIn K (.ref C_InvalidRatio) "__setattr__" = some (some (.builtin "object.__setattr__")))
    (x_ga_InvalidRatio : PySem.W.findIn K (.ref C_InvalidRatio) "__getattribute__" = some (some (.builtin "BaseException.__getattribute__")))
    (x_gg_InvalidRatio : PySem.W.findIn K (.ref C_InvalidRatio) "__getattr__" = some none)
    (x_exb_InvalidRatio : PySem.W.subIn K (.ref C_InvalidRatio) (.type "BaseException") = some true)
    (x_ty_InvalidRatio : PySem.W.typeIn K (.ref C_InvalidRatio) = some (.type "type"))
    (x_kp_InvalidRatio : PySem.W.keepIn K (.ref C_InvalidRatio) = true)
    (x_hd_InvalidRatio : PySem.W.hasDictIn K C_InvalidRatio = true)
    (x_cl_InvalidRatio : (PySem.W.clsIn K C_InvalidRatio).isSome = true)
    (x_ha_InvalidRatio : PySem.W.findIn K (.ref C_InvalidRatio) "__class__" = some (some (.builtin "object.__class__")))
    (x_hn_InvalidRatio : PySem.W.specialIn K (.builtin "object.__class__") "__get__" = some (some (.builtin "getset_descriptor.__get__")))
    (x_ht_InvalidRatio : PySem.W.takesIn K (.builtin "object.__class__") = some true)
    (x_hm_InvalidRatio : PySem.W.mroIn K C_InvalidRatio (.type "object") = some true)
    (x_no_value_InvalidRatio : PySem.W.findIn K (.ref C_InvalidRatio) "value" = some none)
    (x_ki_InvalidRatio : PySem.W.kitOne K (.ref C_InvalidRatio) (.ref C_InvalidRatio) = some true)
    (x_kv_InvalidRatio : PySem.W.kitOne K (.ref C_InvalidRatio) (.type "ValueError") = some true)
    (x_ex_self_InvalidRatio : PySem.W.exmOne K (.ref C_InvalidRatio) (.ref C_InvalidRatio) = some true)
    (x_exm_StopError_InvalidRatio : PySem.W.exmOne K (.ref C_InvalidRatio) (.ref C_StopError) = some true)
    {aZERO : Addr} (x_c_ZERO1 : PySem.W.nsIn K mainGlobals "ZERO" = some (some (.ref aZERO)))
    {dZERO : Option Addr} {nZERO : Nat} {sZERO : Array (Option Value)} {tkZERO_0 tkZERO_1 : Tok} (x_c_ZERO2 : K.lookup aZERO = some ⟨.type "tuple", dZERO, .seq #[.int 0 tkZERO_0, .int 1 tkZERO_1] nZERO, sZERO⟩)
    {aONE : Addr} (x_c_ONE1 : PySem.W.nsIn K mainGlobals "ONE" = some (some (.ref aONE)))
    {dONE : Option Addr} {nONE : Nat} {sONE : Array (Option Value)} {tkONE_0 tkONE_1 : Tok} (x_c_ONE2 : K.lookup aONE = some ⟨.type "tuple", dONE, .seq #[.int 1 tkONE_0, .int 1 tkONE_1] nONE, sONE⟩)
    : ∃ fd : FuncData, (∀ (s : Shared) (v : Value), BindsTo s fd ⟨[v], []⟩ [("_law_script", v)]) ∧ ∀ base : Heap, K.In base → base.Ns mainGlobals mg → FnOk l.prog w K mg base CX0 7 fa fd ["_law_script"] (spLaw K) := by
  have e := hfa.symm.trans (PySem.W.mg_of X G a13)
  cases e
  have F0 := fun_mk (st := s_InvalidRatio___init__) l0 c0 k0
  have F1 : FunD K "ratio" "ratio" (defArgs s_ratio) (defBody s_ratio) (defScope s_ratio) [.int 1] [] f1 _ := ⟨⟨oc1, od1, .ref T1, kV1, dc1, pm1, an1, cd1, ct1, sl1, rfl, l1, c1, .inr ⟨(fun z => (by cases z)), T1, _, [.int 1 tk1_0], _, rfl, m1, rfl, (.cons ⟨_, rfl⟩ .nil)⟩, .inl rfl⟩, k1⟩
  have F2 := fun_mk (st := s_add) l2 c2 k2
  have F3 := fun_mk (st := s_multiply) l3 c3 k3
  have F4 := fun_mk (st := s__law_box) l4 c4 k4
  have F5 := fun_mk (st := s__law_take) l5 c5 k5
  have F6 := fun_mk (st := s__law_gcd) l6 c6 k6
  have F7 := fun_mk (st := s__law_ratio) l7 c7 k7
  have F8 := fun_mk (st := s__law_any_ratio) l8 c8 k8
  have F9 := fun_mk (st := s__law_is_integer) l9 c9 k9
  have F10 := fun_mk (st := s__law_is_ratio) l10 c10 k10
  have F11 := fun_mk (st := s__law_is_sum) l11 c11 k11
  have F12 := fun_mk (st := s__law_is_product) l12 c12 k12
  have F13 := fun_mk (st := s_law) l13 c13 k13
  have T : Txt K mg ⟨f0, PySem.W.fnOf "__init__" "InvalidRatio.__init__" (defArgs s_InvalidRatio___init__) (defBody s_InvalidRatio___init__) (defScope s_InvalidRatio___init__) .none kV0 dc0 pm0 an0 cd0 ct0, f1, PySem.W.fnOf "ratio" "ratio" (defArgs s_ratio) (defBody s_ratio) (defScope s_ratio) (.ref T1) kV1 dc1 pm1 an1 cd1 ct1, f2, PySem.W.fnOf "add" "add" (defArgs s_add) (defBody s_add) (defScope s_add) .none kV2 dc2 pm2 an2 cd2 ct2, f3, PySem.W.fnOf "multiply" "multiply" (defArgs s_multiply) (defBody s_multiply) (defScope s_multiply) .none kV3 dc3 pm3 an3 cd3 ct3, f4, PySem.W.fnOf "_law_box" "_law_box" (defArgs s__law_box) (defBody s__law_box) (defScope s__law_box) .none kV4 dc4 pm4 an4 cd4 ct4, f5, PySem.W.fnOf "_law_take" "_law_take" (defArgs s__law_take) (defBody s__law_take) (defScope s__law_take) .none kV5 dc5 pm5 an5 cd5 ct5, f6, PySem.W.fnOf "_law_gcd" "_law_gcd" (defArgs s__law_gcd) (defBody s__law_gcd) (defScope s__law_gcd) .none kV6 dc6 pm6 an6 cd6 ct6, f7, PySem.W.fnOf "_law_ratio" "_law_ratio" (defArgs s__law_ratio) (defBody s__law_ratio) (defScope s__law_ratio) .none kV7 dc7 pm7 an7 cd7 ct7, f8, PySem.W.fnOf "_law_any_ratio" "_law_any_ratio" (defArgs s__law_any_ratio) (defBody s__law_any_ratio) (defScope s__law_any_ratio) .none kV8 dc8 pm8 an8 cd8 ct8, f9, PySem.W.fnOf "_law_is_integer" "_law_is_integer" (defArgs s__law_is_integer) (defBody s__law_is_integer) (defScope s__law_is_integer) .none kV9 dc9 pm9 an9 cd9 ct9, f10, PySem.W.fnOf "_law_is_ratio" "_law_is_ratio" (defArgs s__law_is_ratio) (defBody s__law_is_ratio) (defScope s__law_is_ratio) .none kV10 dc10 pm10 an10 cd10 ct10, f11, PySem.W.fnOf "_law_is_sum" "_law_is_sum" (defArgs s__law_is_sum) (defBody s__law_is_sum) (defScope s__law_is_sum) .none kV11 dc11 pm11 an11 cd11 ct11, f12, PySem.W.fnOf "_law_is_product" "_law_is_product" (defArgs s__law_is_product) (defBody s__law_is_product) (defScope s__law_is_product) .none kV12 dc12 pm12 an12 cd12 ct12, fa, PySem.W.fnOf "law" "law" (defArgs s_law) (defBody s_law) (defScope s_law) .none kV13 dc13 pm13 an13 cd13 ct13, C_StopError, C_InvalidRatio⟩ := {
    F_InvalidRatio___init__ := F0
    k_InvalidRatio___init__ := k0
    b_InvalidRatio___init__ := F0.binds (ps := ["self", "value"]) (fun _ _ _ _ _ _ us hl => (match us, hl with | [_, _], _ => rfl))
    m_InvalidRatio___init__ := a0
    i_InvalidRatio___init__ := i0
    t_InvalidRatio___init__ := t0
    F_ratio := F1
    k_ratio := k1
    b1_ratio := F1.binds1 (ps := ["num", "den"]) 1 0 (fun z => nomatch z) (by decide) (fun T kV doc pm an cdv ct us its hu hi => (match us, its, hu, hi with | [_], [_], _, _ => ⟨_, rfl, rfl⟩))
    b2_ratio := F1.binds1 (ps := ["num", "den"]) 2 1 (fun z => nomatch z) (by decide) (fun T kV doc pm an cdv ct us its hu hi => (match us, its, hu, hi with | [_, _], [_], _, _ => ⟨_, rfl, rfl⟩))
    g_ratio := PySem.W.mg_of X G a1
    F_add := F2
    k_add := k2
    g_add := PySem.W.mg_of X G a2
    F_multiply := F3
    k_multiply := k3
    g_multiply := PySem.W.mg_of X G a3
    F__law_box := F4
    k__law_box := k4
    b__law_box := F4.binds (ps := ["_law_script"]) (fun _ _ _ _ _ _ us hl => (match us, hl with | [_], _ => rfl))
    g__law_box := PySem.W.mg_of X G a4
    F__law_take := F5
    k__law_take := k5
    b__law_take := F5.binds (ps := ["_law_box_here", "_law_size"]) (fun _ _ _ _ _ _ us hl => (match us, hl with | [_, _], _ => rfl))
    g__law_take := PySem.W.mg_of X G a5
    F__law_gcd := F6
    k__law_gcd := k6
    b__law_gcd := F6.binds (ps := ["_law_a", "_law_b"]) (fun _ _ _ _ _ _ us hl => (match us, hl with | [_, _], _ => rfl))
    g__law_gcd := PySem.W.mg_of X G a6
    F__law_ratio := F7
    k__law_ratio := k7
    b__law_ratio := F7.binds (ps := ["_law_num", "_law_den"]) (fun _ _ _ _ _ _ us hl => (match us, hl with | [_, _], _ => rfl))
    g__law_ratio := PySem.W.mg_of X G a7
    F__law_any_ratio := F8
    k__law_any_ratio := k8
    b__law_any_ratio := F8.binds (ps := ["_law_box_here"]) (fun _ _ _ _ _ _ us hl => (match us, hl with | [_], _ => rfl))
    g__law_any_ratio := PySem.W.mg_of X G a8
    F__law_is_integer := F9
    k__law_is_integer := k9
    b__law_is_integer := F9.binds (ps := ["_law_value"]) (fun _ _ _ _ _ _ us hl => (match us, hl with | [_], _ => rfl))
    g__law_is_integer := PySem.W.mg_of X G a9
    F__law_is_ratio := F10
    k__law_is_ratio := k10
    b__law_is_ratio := F10.binds (ps := ["_law_value"]) (fun _ _ _ _ _ _ us hl => (match us, hl with | [_], _ => rfl))
    g__law_is_ratio := PySem.W.mg_of X G a10
    F__law_is_sum := F11
    k__law_is_sum := k11
    b__law_is_sum := F11.binds (ps := ["_law_found", "_law_terms"]) (fun _ _ _ _ _ _ us hl => (match us, hl with | [_, _], _ => rfl))
    g__law_is_sum := PySem.W.mg_of X G a11
    F__law_is_product := F12
    k__law_is_product := k12
    b__law_is_product := F12.binds (ps := ["_law_found", "_law_factors"]) (fun _ _ _ _ _ _ us hl => (match us, hl with | [_, _], _ => rfl))
    g__law_is_product := PySem.W.mg_of X G a12
    F_law := F13
    k_law := k13
    b_law := F13.binds (ps := ["_law_script"]) (fun _ _ _ _ _ _ us hl => (match us, hl with | [_], _ => rfl))
    g_law := PySem.W.mg_of X G a13
    z_abs := PySem.W.mg_none_of X G z_abs
    z_bool := PySem.W.mg_none_of X G z_bool
    g_gcd := PySem.W.mg_of X G z_gcd
    z_int := PySem.W.mg_none_of X G z_int
    z_isinstance := PySem.W.mg_none_of X G z_isinstance
    z_len := PySem.W.mg_none_of X G z_len
    z_tuple := PySem.W.mg_none_of X G z_tuple
    g_StopError := PySem.W.mg_of X G aC_StopError
    g_InvalidRatio := PySem.W.mg_of X G aC_InvalidRatio
    sa_InvalidRatio := x_sa_InvalidRatio
    ga_InvalidRatio := x_ga_InvalidRatio
    gg_InvalidRatio := x_gg_InvalidRatio
    exb_InvalidRatio := x_exb_InvalidRatio
    ty_InvalidRatio := x_ty_InvalidRatio
    kp_InvalidRatio := x_kp_InvalidRatio
    hd_InvalidRatio := x_hd_InvalidRatio
    cl_InvalidRatio := x_cl_InvalidRatio
    ha_InvalidRatio := x_ha_InvalidRatio
    hn_InvalidRatio := x_hn_InvalidRatio
    ht_InvalidRatio := x_ht_InvalidRatio
    hm_InvalidRatio := x_hm_InvalidRatio
    no_value_InvalidRatio := x_no_value_InvalidRatio
    ki_InvalidRatio := x_ki_InvalidRatio
    kv_InvalidRatio := x_kv_InvalidRatio
    oex_InvalidRatio := ⟨⟨_, _, _, _, _, _, _, _, _, _, _, _, _, _, _, x_xl_InvalidRatio, x_ve_InvalidRatio⟩, x_sa_InvalidRatio, x_exb_InvalidRatio, x_ty_InvalidRatio, x_kp_InvalidRatio⟩
    exk_InvalidRatio := ⟨x_cl_InvalidRatio, x_ga_InvalidRatio, x_gg_InvalidRatio, x_exb_InvalidRatio, x_ha_InvalidRatio, x_hn_InvalidRatio, x_ht_InvalidRatio, x_hm_InvalidRatio⟩
    xf_InvalidRatio := ⟨x_ga_InvalidRatio, x_gg_InvalidRatio, x_exb_InvalidRatio, x_hd_InvalidRatio⟩
    ex_self_InvalidRatio := x_ex_self_InvalidRatio
    exm_StopError_InvalidRatio := x_exm_StopError_InvalidRatio
    c_ZERO := ⟨aZERO, PySem.W.mg_of X G x_c_ZERO1, fun _ => .inr ⟨_, _, _, x_c_ZERO2, rfl, rfl, (by show 2 ≤ sizeLine; decide), (.cons ⟨tkZERO_0, rfl⟩ (.cons ⟨tkZERO_1, rfl⟩ .nil))⟩⟩
    c_ONE := ⟨aONE, PySem.W.mg_of X G x_c_ONE1, fun _ => .inr ⟨_, _, _, x_c_ONE2, rfl, rfl, (by show 2 ≤ sizeLine; decide), (.cons ⟨tkONE_0, rfl⟩ (.cons ⟨tkONE_1, rfl⟩ .nil))⟩⟩ }
  exact ⟨_, fun s v => .of_eq rfl, fun base _ _ => ok_law T⟩
theorem walk {l : PySem.W.OpenLaw} {q : Program} {loose : List Str} {XP : (Str → Option Value) → Heap → Prop} {YP : World → Heap → Prop} {d : DefRec} {K : Params → PySem.W.Frag} (hn : l.most = some 63) (hdf : d.params.defaults = [])
    (hY : ∀ (w : World) (h : Heap), YP w h → (K w.params).In h)
    (F : ∀ (w : World) (mg : Str → Option Value) (fa : Addr) (h : Heap), (K w.params).In h → h.Ns mainGlobals mg → mg d.name = some (.ref fa) →
      ∃ fd : FuncData, (∀ (s : Shared) (u : Value), BindsTo s fd ⟨[u], []⟩ [("_law_script", u)]) ∧ ∀ base : Heap, (K w.params).In base → base.Ns mainGlobals mg → FnOk l.prog w (K w.params) mg base CX0 7 fa fd ["_law_script"] (spLaw (K w.params))) :
    PySem.W.WalkO q loose XP YP l.row.toRowW d [] (fun f vs => PySem.call f vs) :=
  L2.walk_of (n := 63) (k := 7) (x := "_law_script") (CX := fun _ => CX0) (sp := fun w => spLaw (K w.params)) hn (by decide) hdf ⟨rfl, by decide, by decide⟩ hY F (fun _ _ a ns hl _ hS => ⟨a, ns, rfl, hS, hl, fun _ => rfl⟩) fun _ _ _ _ _ z => z
end Pf

open PySem PySem.W PyProof.Rows in
set_option maxRecDepth 100000 in
set_option maxHeartbeats 0 in
theorem PySem.Challenge.cw_lookstop_k02_sums_and_products_holds : PySem.Challenge.rw_lookstop_k02_sums_and_products.Holds := by
  w_on; o_law; k_head; (case hw => w_witness2)
  k_fill
  refine Pf.walk (l := PySem.Challenge.rw_lookstop_k02_sums_and_products) rfl rfl (fun w h Y => PySem.W.kIn_of Y) ?F
  case F =>
    intro w mg fa h KX G hmg
    refine' Pf.all_mk KX G hmg (aC_StopError := ?aC_StopError) (aC_InvalidRatio := ?aC_InvalidRatio) (a0 := ?a0) (i0 := ?i0) (t0 := ?t0) (l0 := ?l0) (c0 := ?c0) (k0 := ?k0) (a1 := ?a1) (l1 := ?l1) (c1 := ?c1) (k1 := ?k1) (m1 := ?m1) (a2 := ?a2) (l2 := ?l2) (c2 := ?c2) (k2 := ?k2) (a3 := ?a3) (l3 := ?l3) (c3 := ?c3) (k3 := ?k3) (a4 := ?a4) (l4 := ?l4) (c4 := ?c4) (k4 := ?k4) (a5 := ?a5) (l5 := ?l5) (c5 := ?c5) (k5 := ?k5) (a6 := ?a6) (l6 := ?l6) (c6 := ?c6) (k6 := ?k6) (a7 := ?a7) (l7 := ?l7) (c7 := ?c7) (k7 := ?k7) (a8 := ?a8) (l8 := ?l8) (c8 := ?c8) (k8 := ?k8) (a9 := ?a9) (l9 := ?l9) (c9 := ?c9) (k9 := ?k9) (a10 := ?a10) (l10 := ?l10) (c10 := ?c10) (k10 := ?k10) (a11 := ?a11) (l11 := ?l11) (c11 := ?c11) (k11 := ?k11) (a12 := ?a12) (l12 := ?l12) (c12 := ?c12) (k12 := ?k12) (a13 := ?a13) (l13 := ?l13) (c13 := ?c13) (k13 := ?k13) (z_abs := ?z_abs) (z_bool := ?z_bool) (z_gcd := ?z_gcd) (z_int := ?z_int) (z_isinstance := ?z_isinstance) (z_len := ?z_len) (z_tuple := ?z_tuple) (x_xl_InvalidRatio := ?x_xl_InvalidRatio) (x_ve_InvalidRatio := ?x_ve_InvalidRatio) (x_sa_InvalidRatio := ?x_sa_InvalidRatio) (x_ga_InvalidRatio := ?x_ga_InvalidRatio) (x_gg_InvalidRatio := ?x_gg_InvalidRatio) (x_exb_InvalidRatio := ?x_exb_InvalidRatio) (x_ty_InvalidRatio := ?x_ty_InvalidRatio) (x_kp_InvalidRatio := ?x_kp_InvalidRatio) (x_hd_InvalidRatio := ?x_hd_InvalidRatio) (x_cl_InvalidRatio := ?x_cl_InvalidRatio) (x_ha_InvalidRatio := ?x_ha_InvalidRatio) (x_hn_InvalidRatio := ?x_hn_InvalidRatio) (x_ht_InvalidRatio := ?x_ht_InvalidRatio) (x_hm_InvalidRatio := ?x_hm_InvalidRatio) (x_no_value_InvalidRatio := ?x_no_value_InvalidRatio) (x_ki_InvalidRatio := ?x_ki_InvalidRatio) (x_kv_InvalidRatio := ?x_kv_InvalidRatio) (x_ex_self_InvalidRatio := ?x_ex_self_InvalidRatio) (x_exm_StopError_InvalidRatio := ?x_exm_StopError_InvalidRatio) (x_c_ZERO1 := ?x_c_ZERO1) (x_c_ZERO2 := ?x_c_ZERO2) (x_c_ONE1 := ?x_c_ONE1) (x_c_ONE2 := ?x_c_ONE2)
    (case aC_StopError => k_is)
    (case aC_InvalidRatio => k_is)
    (case a0 => k_is)
    (case i0 => k_is)
    (case t0 => k_is)
    (case l0 => k_is)
    (case c0 => k_is)
    (case k0 => k_is)
    (case a1 => k_is)
    (case l1 => k_is)
    (case c1 => k_is)
    (case k1 => k_is)
    (case m1 => k_is)
    (case a2 => k_is)
    (case l2 => k_is)
    (case c2 => k_is)
    (case k2 => k_is)
    (case a3 => k_is)
    (case l3 => k_is)
    (case c3 => k_is)
    (case k3 => k_is)
    (case a4 => k_is)
    (case l4 => k_is)
    (case c4 => k_is)
    (case k4 => k_is)
    (case a5 => k_is)
    (case l5 => k_is)
    (case c5 => k_is)
    (case k5 => k_is)
    (case a6 => k_is)
    (case l6 => k_is)
    (case c6 => k_is)
    (case k6 => k_is)
    (case a7 => k_is)
    (case l7 => k_is)
    (case c7 => k_is)
    (case k7 => k_is)
    (case a8 => k_is)
    (case l8 => k_is)
    (case c8 => k_is)
    (case k8 => k_is)
    (case a9 => k_is)
    (case l9 => k_is)
    (case c9 => k_is)
    (case k9 => k_is)
    (case a10 => k_is)
    (case l10 => k_is)
    (case c10 => k_is)
    (case k10 => k_is)
    (case a11 => k_is)
    (case l11 => k_is)
    (case c11 => k_is)
    (case k11 => k_is)
    (case a12 => k_is)
    (case l12 => k_is)
    (case c12 => k_is)
    (case k12 => k_is)
    (case a13 => k_is)
    (case l13 => k_is)
    (case c13 => k_is)
    (case k13 => k_is)
    (case z_abs => k_is)
    (case z_bool => k_is)
    (case z_gcd => k_is)
    (case z_int => k_is)
    (case z_isinstance => k_is)
    (case z_len => k_is)
    (case z_tuple => k_is)
    (case x_xl_InvalidRatio => first | k_is | kit_is | rfl)
    (case x_ve_InvalidRatio => first | rfl | decide +kernel)
    (case x_sa_InvalidRatio => first | k_is | kit_is | rfl)
    (case x_ga_InvalidRatio => first | k_is | kit_is | rfl)
    (case x_gg_InvalidRatio => first | k_is | kit_is | rfl)
    (case x_exb_InvalidRatio => first | k_is | kit_is | rfl)
    (case x_ty_InvalidRatio => first | k_is | kit_is | rfl)
    (case x_kp_InvalidRatio => first | k_is | kit_is | rfl)
    (case x_hd_InvalidRatio => first | k_is | kit_is | rfl)
    (case x_cl_InvalidRatio => first | k_is | rfl | decide +kernel)
    (case x_ha_InvalidRatio => first | k_is | kit_is | rfl)
    (case x_hn_InvalidRatio => first | k_is | kit_is | rfl)
    (case x_ht_InvalidRatio => first | k_is | kit_is | rfl)
    (case x_hm_InvalidRatio => first | k_is | kit_is | rfl)
    (case x_no_value_InvalidRatio => first | k_is | kit_is | rfl)
    (case x_ki_InvalidRatio => first | k_is | kit_is | rfl)
    (case x_kv_InvalidRatio => first | k_is | kit_is | rfl)
    (case x_ex_self_InvalidRatio => first | k_is | kit_is | rfl)
    (case x_exm_StopError_InvalidRatio => first | k_is | kit_is | rfl)
    (case x_c_ZERO1 => first | k_is | kit_is | rfl)
    (case x_c_ZERO2 => first | k_is | kit_is | rfl)
    (case x_c_ONE1 => first | k_is | kit_is | rfl)
    (case x_c_ONE2 => first | k_is | kit_is | rfl)
