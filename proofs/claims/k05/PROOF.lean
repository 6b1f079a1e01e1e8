import PyProof.Rows.All
import Wide.All
import OpenK.AllK
import Wide.FinOn
import HandS.ForMost
import HandS.ForExc
import HandS.Steps
import HandS.Style
import HandS.Wide
import HandS.Gcd
import HandS.IsInst
import HandS.ExcInit
import HandS.Defaults
import HandS.Star
import HandS.Evl
import HandS.ExcField
import HandS.ExcIs
import HandS.ExcOwn
import HandS.RevRange
import KE.KExcIs
import HandS.Slots
import HandS.SlotsOwn
import HandS.Property
import HandS.ClsMeth
import KE.KOpsOwn
import PyProof.InstNe
import HandS.TupAny
import HandS.FStr
import HandS.Text
import HandS.Codes
import KE.BitLaws
import KE.GoesMore
import KE.KMathGC
import PySem.Challenge.RW_lookstop_k05_polynomials
set_option Elab.async false
set_option linter.all false
set_option maxRecDepth 100000
set_option maxHeartbeats 4000000
/-! Lk: short words for values (Val, Ans of HandS.Steps), own rules for great numbers, the laws' box of draws. -/
namespace Lk
open PySem L2
def ValA (ta : TA) (σ : L2.St) (H : Hp) (vs : List V) : Prop := ∀ Q : List V → Hp → Prop, Q vs H → ta σ H Q
def ifs (C : Prop) (D : Decidable C) : Bool := @decide C D
section
variable {σ : L2.St} {H : Hp} {i : Nat} {v x y z : V} {ta tb tc te tv : TE} {a b c : Bool} {K : PySem.W.Frag} {t u : TT} {k l m n : Int}
theorem val_op0 {g : Int → Int → V} (ha : Val ta σ H (.int k)) (hb : Val tb σ H (.int l)) : Val (tOp (rI0 g) ta tb) σ H (g k l) := fun Q q => ha _ (hb _ ⟨k, l, rfl, rfl, q⟩)
theorem val_opC {C : Int → Int → Prop} {g : Int → Int → V} (ha : Val ta σ H (.int k)) (hb : Val tb σ H (.int l)) (hc : C k l) : Val (tOp (rI C g) ta tb) σ H (g k l) := fun Q q => ha _ (hb _ ⟨k, l, rfl, rfl, hc, q⟩)
theorem val_un {g : Int → V} (ha : Val ta σ H (.int k)) : Val (tUn (rU g) ta) σ H (g k) := fun Q q => ha _ ⟨k, rfl, q⟩
theorem val_eq (ha : Val ta σ H x) (hb : Val tb σ H y) (hs : scal x y = true) : Val (tOp rEq ta tb) σ H (.bl (decide (x = y))) := fun Q q => ha _ (hb _ ⟨hs, q⟩)
theorem val_ne (ha : Val ta σ H x) (hb : Val tb σ H y) (hs : scal x y = true) : Val (tOp rNe ta tb) σ H (.bl (!decide (x = y))) := fun Q q => ha _ (hb _ ⟨hs, q⟩)
theorem val_isB (ha : Val ta σ H (.bl a)) (hb : Val tb σ H (.bl b)) : Val (tOp rIsB ta tb) σ H (.bl (decide (a = b))) := fun Q q => ha _ (hb _ ⟨a, b, rfl, rfl, q⟩)
theorem val_notB (ha : Val ta σ H (.bl a)) (hb : Val tb σ H (.bl b)) : Val (tOp rNotB ta tb) σ H (.bl (!decide (a = b))) := fun Q q => ha _ (hb _ ⟨a, b, rfl, rfl, q⟩)
theorem val_andV (ha : Val ta σ H (.bl a)) (hb : a = true → Val tb σ H (.bl b)) : Val (tAndV ta tb) σ H (.bl (a && b)) := fun Q q => ha _ ⟨a, rfl, by
  cases a with
  | true => exact hb rfl Q q
  | false => exact q⟩
theorem val_orV (ha : Val ta σ H (.bl a)) (hb : a = false → Val tb σ H (.bl b)) : Val (tOrV ta tb) σ H (.bl (a || b)) := fun Q q => ha _ ⟨a, rfl, by
  cases a with
  | true => exact q
  | false => exact hb rfl Q q⟩
theorem val_notV (ha : Val ta σ H (.bl a)) : Val (tNotV ta) σ H (.bl (!a)) := fun Q q => ha _ ⟨a, rfl, q⟩
theorem val_chain {p q : Int → Int → Bool} (ha : Val ta σ H (.int k)) (hb : Val tb σ H (.int l)) (hc : Val tc σ H (.int m)) : Val (tChain (rI0 fun i j => .bl (p i j)) (rI0 fun i j => .bl (q i j)) ta tb tc) σ H (.bl (p k l && q l m)) := fun Q h => ha _ (hb _ ⟨k, l, rfl, rfl, p k l, rfl, by
  cases hp : p k l with
  | true => exact hc _ ⟨l, m, rfl, rfl, by rw [hp] at h; exact h⟩
  | false => rw [hp] at h; exact h⟩)
theorem val_if (ht : Ans t σ H b) (h1 : b = true → Val ta σ H v) (h2 : b = false → Val tb σ H v) : Val (tIf t ta tb) σ H v := fun Q q => ht _ (by
  cases b with
  | true => exact h1 rfl Q q
  | false => exact h2 rfl Q q)
theorem va_nil : ValA tNil σ H [] := fun _ q => q
theorem va_cons {tr : TA} {vs : List V} (ha : Val ta σ H x) (hr : ValA tr σ H vs) : ValA (tCons ta tr) σ H (x :: vs) := fun _ q => ha _ (hr _ q)
theorem val_cb {r : List V → Hp → VK → Prop} {tr : TA} {vs : List V} (h : ValA tr σ H vs) (hr : ∀ Q : VK, Q z H → r vs H Q) : Val (tCB r tr) σ H z := fun Q q => h _ (hr Q q)
theorem val_call {sp : Sp} {dvs vs : List V} {E : XK} {tr : TA} (h : ValA tr σ H vs) (hr : ∀ Q : VK, Q z H → sp (vs ++ dvs) H Q E) : Val (tCall sp dvs E tr) σ H z := fun Q q => h _ (hr Q q)
theorem val_gcd (ha : Val ta σ H (.int k)) (hb : Val tb σ H (.int l)) : Val (tCB rGcd (tCons ta (tCons tb tNil))) σ H (.int ((Nat.gcd k.natAbs l.natAbs : Nat) : Int)) := fun Q q => ha _ (hb _ ⟨k, l, rfl, q⟩)
theorem iabs (k : Int) : (if k < 0 then -k else k) = ((k.natAbs : Nat) : Int) := by
  by_cases h : k < 0
  · rw [if_pos h]; omega
  · rw [if_neg h]; omega
theorem val_abs (ha : Val ta σ H (.int k)) : Val (tCB (fun xs H Q => ∃ i, xs = [V.int i] ∧ Q (V.int (if i < 0 then -i else i)) H) (tCons ta tNil)) σ H (.int ((k.natAbs : Nat) : Int)) := fun Q q => ha _ ⟨k, rfl, by rw [iabs]; exact q⟩
theorem val_int (ha : Val ta σ H (.int k)) : Val (tCB (fun xs H Q => (∃ i, xs = [V.int i] ∧ Q (V.int i) H) ∨ ∃ k, xs = [V.bl k] ∧ Q (V.int (if k then 1 else 0)) H) (tCons ta tNil)) σ H (.int k) := fun Q q => ha _ (.inl ⟨k, rfl, q⟩)
theorem val_ixL {p : Addr} {xs : List V} (ha : Val ta σ H (.ref p)) (hb : Val tb σ H (.int k)) (hs : SqL K H p xs) (hx : atI xs k = some v) : Val (tOp (rIxL K) ta tb) σ H v := fun Q q => ha _ (hb _ ⟨p, xs, k, v, rfl, rfl, hs, hx, q⟩)
theorem val_ixT {p : Addr} {xs : List V} (ha : Val ta σ H (.ref p)) (hb : Val tb σ H (.int k)) (hs : SqT K H p xs) (hx : atI xs k = some v) : Val (tOp (rIxT K) ta tb) σ H v := fun Q q => ha _ (hb _ ⟨p, xs, k, v, rfl, rfl, hs, hx, q⟩)
theorem val_to {w : V} (h : Val te σ H w) (e : w = v) : Val te σ H v := e ▸ h
theorem atI_nat {xs : List V} {j : Nat} (h : xs[j]? = some v) : atI xs (j : Int) = some v := by
  have hj : j < xs.length := (List.getElem?_eq_some_iff.mp h).1
  unfold atI ixN
  rw [if_pos (Int.natCast_nonneg j), if_pos (by omega)]
  exact h
theorem atI_of {xs : List V} (h0 : 0 ≤ k) (h : xs[k.toNat]? = some v) : atI xs k = some v := by
  have e : ((k.toNat : Nat) : Int) = k := Int.toNat_of_nonneg h0
  rw [← e]
  exact atI_nat h

theorem ans_of (ha : Val te σ H (.bl a)) : Ans (tTest te) σ H a := fun Q q => ha _ ⟨a, rfl, q⟩
theorem ans_B (ha : Val te σ H (.bl a)) : Ans (tB te) σ H a := fun Q q => ha _ ⟨a, rfl, q⟩
theorem ans_and' (ha : Ans t σ H a) (hb : a = true → Ans u σ H b) : Ans (tAnd t u) σ H (a && b) := fun Q q => ha _ (by
  cases a with
  | true => exact hb rfl Q q
  | false => exact q)
theorem ans_or' (ha : Ans t σ H a) (hb : a = false → Ans u σ H b) : Ans (tOr t u) σ H (a || b) := fun Q q => ha _ (by
  cases a with
  | true => exact q
  | false => exact hb rfl Q q)

variable {D : Ends} {t1 t2 t3 : TS}
theorem q_set (h : Val te σ H v) (q : t2 D (σ.set i (some v)) H) : tSeq (tAsg te (gName i)) t2 D σ H := h _ q
theorem s_set (h : Val te σ H v) (q : D.nx (σ.set i (some v)) H) : tAsg te (gName i) D σ H := h _ q
theorem s_ret (h : Val te σ H v) (q : D.rt v H) : tRet te D σ H := h _ q
theorem q_if (h : Ans t σ H b) (h1 : b = true → t1 { D with nx := t3 D } σ H) (h2 : b = false → t2 { D with nx := t3 D } σ H) : tSeq (tIfS t t1 t2) t3 D σ H := h _ (by
  cases b with
  | true => exact h1 rfl
  | false => exact h2 rfl)
theorem s_if (h : Ans t σ H b) (h1 : b = true → t1 D σ H) (h2 : b = false → t2 D σ H) : tIfS t t1 t2 D σ H := h _ (by
  cases b with
  | true => exact h1 rfl
  | false => exact h2 rfl)
/-- an if without else -/
theorem q_when (h : Ans t σ H b) (h1 : b = true → t1 { D with nx := t3 D } σ H) (h2 : b = false → t3 D σ H) : tSeq (tIfS t t1 tNext) t3 D σ H := q_if h h1 h2
theorem s_when (h : Ans t σ H b) (h1 : b = true → t1 D σ H) (h2 : b = false → D.nx σ H) : tIfS t t1 tNext D σ H := s_if h h1 h2
theorem q_whileA (W : Nat → L2.St → Hp → Prop) (m0 : Nat) (h0 : W m0 σ H)
    (hs : ∀ m σ' H', W m σ' H' → ∃ b, Ans t σ' H' b ∧ (b = true → ∀ N : L2.St → Hp → Prop, (∀ σ2 H2 m', m' < m → W m' σ2 H2 → N σ2 H2) → t1 { D with nx := N, ct := N, bk := t2 D } σ' H') ∧ (b = false → t2 D σ' H')) : tSeq (tWhile t t1) t2 D σ H :=
  ⟨W, ⟨m0, h0⟩, fun m σ' H' w => by
    obtain ⟨b, hb, h1, h2⟩ := hs m σ' H' w
    refine hb _ ?_
    cases b with
    | true => exact ⟨fun σ2 H2 => ∃ m', m' < m ∧ W m' σ2 H2, fun _ _ n => n, h1 rfl _ fun σ2 H2 m' l w' => ⟨m', l, w'⟩⟩
    | false => exact h2 rfl⟩
/-! the same by the reading itself -/
theorem qS {te : TE} (h : te σ H fun x H1 => t2 D (σ.set i (some x)) H1) : tSeq (tAsg te (gName i)) t2 D σ H := h
theorem sS {te : TE} (h : te σ H fun x H1 => D.nx (σ.set i (some x)) H1) : tAsg te (gName i) D σ H := h
theorem qB {te to ti : TE} {r : TSet} (h : te σ H fun x H1 => to σ H1 fun o H2 => ti σ H2 fun j H3 => r o j x H3 fun H4 => t2 D σ H4) : tSeq (tAsg te (gSub to ti r)) t2 D σ H := h
theorem sB {te to ti : TE} {r : TSet} (h : te σ H fun x H1 => to σ H1 fun o H2 => ti σ H2 fun j H3 => r o j x H3 fun H4 => D.nx σ H4) : tAsg te (gSub to ti r) D σ H := h
theorem qI (h : t σ H fun b H1 => if b = true then t1 { D with nx := t3 D } σ H1 else t2 { D with nx := t3 D } σ H1) : tSeq (tIfS t t1 t2) t3 D σ H := h
theorem sI (h : t σ H fun b H1 => if b = true then t1 D σ H1 else t2 D σ H1) : tIfS t t1 t2 D σ H := h
theorem qW (h : t σ H fun b H1 => if b = true then t1 { D with nx := t3 D } σ H1 else t3 D σ H1) : tSeq (tIfS t t1 tNext) t3 D σ H := h
theorem sW (h : t σ H fun b H1 => if b = true then t1 D σ H1 else D.nx σ H1) : tIfS t t1 tNext D σ H := h
theorem qD {te : TE} (h : te σ H fun _ H1 => t2 D σ H1) : tSeq (tDrop te) t2 D σ H := h
theorem sD {te : TE} (h : te σ H fun _ H1 => D.nx σ H1) : tDrop te D σ H := h
theorem sR {te : TE} (h : te σ H D.rt) : tRet te D σ H := h
theorem qU2 {te : TE} {i j : Nat} {p : Addr} {x y : V} (h : Val te σ H (.ref p)) (ht : SqT K H p [x, y]) (q : t2 D ((σ.set i (some x)).set j (some y)) H) : tSeq (tAsg te (gTup K 2 (gCons (gName i) (gCons (gName j) gNil)))) t2 D σ H :=
  h _ ⟨p, _, rfl, ht, rfl, x, [y], rfl, y, [], rfl, rfl, q⟩
theorem call_of {sp : Sp} {dvs vs : List V} {E : XK} {tr : TA} {Q : VK} (h : ValA tr σ H vs) (hr : sp (vs ++ dvs) H Q E) : tCall sp dvs E tr σ H Q := h _ hr
theorem q_call {sp : Sp} {dvs vs : List V} {E : XK} {tr : TA} (h : ValA tr σ H vs) (hr : sp (vs ++ dvs) H (fun x H1 => t2 D (σ.set i (some x)) H1) E) : tSeq (tAsg (tCall sp dvs E tr) (gName i)) t2 D σ H := h _ hr
theorem s_rcall {sp : Sp} {dvs vs : List V} {E : XK} {tr : TA} (h : ValA tr σ H vs) (hr : sp (vs ++ dvs) H D.rt E) : tRet (tCall sp dvs E tr) D σ H := h _ hr
theorem va_at {ta : TA} {vs : List V} {Q : List V → Hp → Prop} (h : ValA ta σ H vs) (q : Q vs H) : ta σ H Q := h Q q
theorem va_atC {ta : TE} {tr : TA} {vs : List V} {Q : List V → Hp → Prop} (h : ValA (tCons ta tr) σ H vs) (q : Q vs H) : tCons ta tr σ H Q := h Q q
theorem s_par {i j : Nat} {tr : TA} {v w : V} (h : ValA tr σ H [v, w]) (q : D.nx ((σ.set i (some v)).set j (some w)) H) : tPar i j tr D σ H := h _ ⟨v, w, rfl, q⟩
theorem q_par {i j : Nat} {tr : TA} {v w : V} (h : ValA tr σ H [v, w]) (q : t2 D ((σ.set i (some v)).set j (some w)) H) : tSeq (tPar i j tr) t2 D σ H := h _ ⟨v, w, rfl, q⟩
end

theorem _root_.L2.Val.at {te : TE} {σ : L2.St} {H : Hp} {v : V} {Q : VK} (h : Val te σ H v) (q : Q v H) : te σ H Q := h Q q
/-! ### == of pairs of ints -/
theorem eqv_pair {a b c d : Int} : PyData.eqv (.tuple [.int a, .int b]) (.tuple [.int c, .int d]) = (a == c && b == d) := by
  simp [PyData.eqv, PyData.eqvAll]
theorem rEq2 {K : PySem.W.Frag} {H : Hp} {p q : Addr} {a b c d : Int} {Q : VK} (hp : H p = some (.tup [.int a, .int b])) (hq : H q = some (.tup [.int c, .int d])) (k : Q (.bl (a == c && b == d)) H) : rEqD K (.ref p) (.ref q) H Q :=
  ⟨.tuple [.int a, .int b], .tuple [.int c, .int d], .tup (SqT.of hp) (.cons (.int a) (.cons (.int b) .nil)), .tup (SqT.of hq) (.cons (.int c) (.cons (.int d) .nil)), rfl, rfl, by rw [eqv_pair]; exact k⟩
theorem rNe2 {K : PySem.W.Frag} {H : Hp} {p q : Addr} {a b c d : Int} {Q : VK} (hp : H p = some (.tup [.int a, .int b])) (hq : H q = some (.tup [.int c, .int d])) (k : Q (.bl (!(a == c && b == d))) H) : rNeD K (.ref p) (.ref q) H Q :=
  ⟨.tuple [.int a, .int b], .tuple [.int c, .int d], .tup (SqT.of hp) (.cons (.int a) (.cons (.int b) .nil)), .tup (SqT.of hq) (.cons (.int c) (.cons (.int d) .nil)), rfl, rfl, by rw [eqv_pair]; exact k⟩

/-! ### // of great ints by a divisor of either sign -/
section
variable {X : Cx}
def CDivZ (_ j : Int) : Prop := j ≠ 0 ∧ j.natAbs.log2 < 9000
theorem op_fdivZ : OpR X (binaryOp .FloorDiv) (rI CDivZ fun i j => .int (i.fdiv j)) := opI fun i j _ _ _ _ _ hc q => PyProof.Rows.floordiv_int hc.1 q (.inl (PyProof.noPylong_of_log2 hc.2))
end
/-- a def with defaults, called with keywords (no keyword-only parameters) -/
theorem kbinds1 {K : PySem.W.Frag} {x qual : Str} {params : Arguments} {body : List Stmt} {scope : Scope} {dvs : List V} {kws : List (Str × V)} {f : Addr} {fd : FuncData} {ps : List Str} (F : FunD K x qual params body scope dvs kws f fd) (n : Nat) (ks : List Str)
    (g : {α : Type} → List α → List α → List α → List α) (hd : dvs ≠ []) (hrel : ∀ {vs ds zs : List V} {us its ws : List Value}, Vals vs us → Vals ds its → Vals zs ws → Vals (g vs ds zs) (g us its ws))
    (h : ∀ (T : Addr) (kV doc pm : Value) (an : Option Addr) (cdv ct : Value) (us its ws : List Value), us.length = n → its.length = dvs.length → ws.length = ks.length →
      ∃ k, bindArgs (PySem.W.fnOf x qual params body scope (.ref T) kV doc pm an cdv ct) ⟨us, ks.zip ws⟩ = seqItems? (.ref T) >>= k ∧ k (some its.toArray) = pure (ps.zip (g us its ws))) :
    ∃ its : List Value, KBn K fd ps n ks (fun us ws => g us its ws) (fun vs zs => g vs dvs zs) := by
  obtain ⟨oc, od, dV, kV, doc, pm, an, cdv, ct, osl, rfl, lk, hcd, hD, hK⟩ := F.ex
  rcases hD with ⟨e, _⟩ | ⟨_, T, o, its, m, rfl, lT, oT, rT⟩
  · exact absurd e hd
  · refine ⟨its, ⟨fun s us ws X l1 l2 => ?_, fun r1 r2 => hrel r1 rT r2⟩⟩
    obtain ⟨k, e1, e2⟩ := h T kV doc pm an cdv ct us its ws l1 rT.length.symm l2
    refine BindsTo.of_looks fun M => ?_
    rw [e1]
    exact looks_items X lT oT (.of_pure e2)
theorem vals_nil {us : List Value} (h : Vals [] us) : us = [] := by
  cases h
  rfl
/-- a new object leaves the elder ones as they are -/
theorem kept {H : Hp} {p q : Addr} {o u : HO} (h : H p = some u) (hq : H q = none) : (upd H q o) p = some u := (upd_ne (ne_of_none h hq)).trans h
theorem passF {X : Cx} : Passes CX0 X (fun _ _ _ => False) := fun _ _ _ _ _ _ _ h => h.elim
theorem log2_lt {n b : Nat} (h0 : 0 < b) (h : n < 2 ^ b) : n.log2 < b := PySem.Flt.log2_lt_of h0 h

theorem lgp {x : Int} {n : Nat} (h : x.natAbs < 2 ^ n) (h0 : 0 < n := by decide) (h9 : n ≤ 9000 := by decide) : x.natAbs.log2 < 9000 := Nat.lt_of_lt_of_le (log2_lt h0 h) h9

/-! ### lists of a few written ints, asked by a draw -/
theorem pick (xs : List Int) (lo hi : Int) (hb : ∀ x ∈ xs, lo ≤ x ∧ x ≤ hi) {d : Int} (h0 : 0 ≤ d) (h1 : d < (xs.length : Int)) : ∃ s, atI (xs.map V.int) d = some (V.int s) ∧ lo ≤ s ∧ s ≤ hi := by
  have hd : d.toNat < xs.length := by omega
  have hm : xs[d.toNat] ∈ xs := List.getElem_mem hd
  obtain ⟨h2, h3⟩ := hb _ hm
  exact ⟨xs[d.toNat], atI_of h0 (by rw [List.getElem?_map, List.getElem?_eq_getElem hd]; rfl), h2, h3⟩

theorem pickP (xs : List Int) (P : Int → Prop) (hb : ∀ x ∈ xs, P x) {d : Int} (h0 : 0 ≤ d) (h1 : d < (xs.length : Int)) : ∃ s, atI (xs.map V.int) d = some (V.int s) ∧ P s ∧ ixN xs.length d = some d.toNat := by
  have hd : d.toNat < xs.length := by omega
  refine ⟨xs[d.toNat], atI_of h0 (by rw [List.getElem?_map, List.getElem?_eq_getElem hd]; rfl), hb _ (List.getElem_mem hd), ?_⟩
  unfold ixN
  rw [if_pos h0, if_pos h1]

/-! ### the laws' box: a list of cells, a place, a state -/
/-- the box stands at b, its cells at c -/
def BoxAt (H : Hp) (b c : Addr) : Prop := ∃ (ns : List Int) (k s : Int), H b = some (.lst [.ref c, .int k, .int s]) ∧ H c = some (.lst (ns.map V.int)) ∧ ns.length ≤ 63 ∧ (∀ x ∈ ns, 0 ≤ x) ∧ 0 ≤ k ∧ 0 ≤ s ∧ s < 2147483647
/-- all else stands as it stood -/
def Ext (b c : Addr) (H H' : Hp) : Prop := ∀ a o, a ≠ b → a ≠ c → H a = some o → H' a = some o
theorem BoxAt.ne {H : Hp} {b c : Addr} (h : BoxAt H b c) : b ≠ c := by
  obtain ⟨ns, k, s, h1, h2, _⟩ := h
  intro e
  rw [← e, h1] at h2
  cases ns with
  | nil => cases h2
  | cons n ns => cases h2
theorem BoxAt.same {H H' : Hp} {b c : Addr} (h : BoxAt H b c) (e : Same H H') : BoxAt H' b c := by
  obtain ⟨ns, k, s, h1, h2, r⟩ := h
  exact ⟨ns, k, s, e _ _ h1, e _ _ h2, r⟩
theorem BoxAt.neb {H : Hp} {b c p : Addr} (h : BoxAt H b c) (hp : H p = none) : p ≠ b ∧ p ≠ c := by
  obtain ⟨ns, k, s, h1, h2, r⟩ := h
  exact ⟨fun e => (by rw [e, h1] at hp; cases hp), fun e => (by rw [e, h2] at hp; cases hp)⟩
theorem Ext.refl {b c : Addr} {H : Hp} : Ext b c H H := fun _ _ _ _ h => h
theorem Ext.trans {b c : Addr} {H H1 H2 : Hp} (e : Ext b c H H1) (f : Ext b c H1 H2) : Ext b c H H2 := fun a o x y h => f a o x y (e a o x y h)
theorem Ext.of {b c : Addr} {H H1 : Hp} (e : Same H H1) : Ext b c H H1 := fun a o _ _ h => e a o h
theorem same_upd {H : Hp} {p : Addr} {o : HO} (hp : H p = none) : Same H (upd H p o) := fun b u e => by
  rw [upd_ne (ne_of_none e hp)]
  exact e

def spBox (K : PySem.W.Frag) : Sp := fun vs H Q _ => ∃ (a : Addr) (ns : List Int), vs = [.ref a] ∧ SqL K H a (ns.map V.int) ∧ ns.length ≤ 63 ∧ ∀ b c H', Same H H' → H b = none → H c = none → BoxAt H' b c → Q (.ref b) H'
def spTake : Sp := fun vs H Q _ => ∃ (b c : Addr) (n : Int), vs = [.ref b, .int n] ∧ BoxAt H b c ∧ 0 < n ∧ n.natAbs.log2 < 9000 ∧ ∀ (d : Int) H', 0 ≤ d → d < n → BoxAt H' b c → (∀ a, a ≠ b → a ≠ c → H' a = H a) → Q (.int d) H'
def spGcd : Sp := fun vs H Q _ => ∃ (m n : Int), vs = [.int m, .int n] ∧ Q (.int ((Nat.gcd m.natAbs n.natAbs : Nat) : Int)) H
theorem val_gcdc {σ : L2.St} {H : Hp} {ta tb : TE} {k l : Int} {E : XK} (ha : Val ta σ H (.int k)) (hb : Val tb σ H (.int l)) : Val (tCall spGcd [] E (tCons ta (tCons tb tNil))) σ H (.int ((Nat.gcd k.natAbs l.natAbs : Nat) : Int)) := fun Q q => ha _ (hb _ ⟨k, l, rfl, q⟩)
end Lk
/-! own exceptions with a field, caught: what the class must say, isinstance of the caught one -/
namespace Lk
open PySem L2
structure ExcK (K : PySem.W.Frag) (D : Addr) : Prop where
  cl : (PySem.W.clsIn K D).isSome = true
  ga : PySem.W.findIn K (.ref D) "__getattribute__" = some (some (.builtin "BaseException.__getattribute__"))
  gg : PySem.W.findIn K (.ref D) "__getattr__" = some none
  ex : PySem.W.subIn K (.ref D) (.type "BaseException") = some true
  ha : PySem.W.findIn K (.ref D) "__class__" = some (some (.builtin "object.__class__"))
  hn : PySem.W.specialIn K (.builtin "object.__class__") "__get__" = some (some (.builtin "getset_descriptor.__get__"))
  ht : PySem.W.takesIn K (.builtin "object.__class__") = some true
  hm : PySem.W.mroIn K D (.type "object") = some true
def rIsX (K : PySem.W.Frag) (a : Addr) (cls : Value) (d : Option Addr) : List V → Hp → VK → Prop := fun xs H Q => ∃ (c : V) (cv : Value) (b : Bool) (D dd : Addr) (fs : List (Str × V)),
  xs = [.ref a, c] ∧ cls = .ref D ∧ d = some dd ∧ ExcK K D ∧ H dd = some (.xd fs) ∧ (∀ u, RelV c u → u = cv) ∧ PySem.W.kitOne K (.ref D) cv = some b ∧ Q (.bl b) H
theorem call_isX {X : Cx} {a : Addr} {cls : Value} {d : Option Addr} {oe : Obj} {pn : List (Addr × Obj)} (hz : Zc cls d oe) (hf : ∃ vs, oe.data = .fields vs) : CallR (X.suite a ((a, oe) :: pn)) (.builtin "isinstance") (rIsX X.K a cls d) := by
  intro pins s σ H xs us Q I r h
  obtain ⟨c, cv, b, D, dd, fs, rfl, rfl, rfl, T, ea, hcv, e, q⟩ := h
  cases r with
  | cons rx rr =>
    cases rr with
    | cons rt rr =>
      cases rr
      cases rx
      have ec := hcv _ rt
      subst ec
      obtain ⟨hget, _⟩ := I.pin (a, oe) (List.mem_append.mpr (.inl List.mem_cons_self))
      obtain ⟨vs, hv⟩ := hf
      have hx : ObjOk X.prog X.w H s.heap dd (.xd fs) := I.hok dd _ ea
      obtain ⟨mA, hns, hr⟩ := hx
      obtain ⟨od, ho, hl⟩ := lookIn_ns hns
      have J : PySem.W.InstAt s.heap a oe D (some od) := ⟨hget, hz.1, by unfold PySem.W.notCls; rw [hv] <;> rfl, by rw [hz.2]; exact ho⟩
      exact PySem.W.kia_one (PySem.W.kitx_exc T.cl T.ga T.gg T.ex T.ha T.hn T.ht T.hm) I.kIn J e (fun z => nomatch z) fun tk => ⟨.bl b, H, I.tok tk, rfl, q⟩
/-- __init__(self, v): self.f = v, of an exception's class -/
def spExcInit (C : Addr) (f : Str) : Sp := fun vs H Q _ => ∃ (a : Addr) (v : V), vs = [.ref a, v] ∧ H a = some (exo a C none) ∧ ∀ dx, H dx = none → dx ≠ a → Q .non (upd (upd H dx (exd dx [(f, v)])) a (exo a C (some dx)))
/-- what is raised: an error of the class C whose field f is v -/
def Raised (C : Addr) (f : Str) (v : V) (H : Hp) (E : XK) : Prop := ∀ d H', Same H H' → H d = none → H' d = some (.xd [(f, v)]) → E (.ref C) (some d) H'
theorem raised_end {C a d : Addr} {f : Str} {v : V} {H : Hp} {E : XK} (ha : H a = none) (hd : H d = none) (hda : d ≠ a) (k : Raised C f v H E) : E (.ref C) (some d) (upd (del (upd (upd (upd H a (exo a C none)) d (exd d [(f, v)])) a (exo a C (some d))) a) d (.xd [(f, v)])) := by
  refine k d _ (fun b o e => ?_) hd upd_same
  have hb : b ≠ a := ne_of_none e ha
  have hbd : b ≠ d := ne_of_none e hd
  rw [upd_ne hbd, del_ne hb, upd_ne hb, upd_ne hbd, upd_ne hb]
  exact e
end Lk
/-! ratios: the mathematics -/
namespace Lk
/-- the signed greatest common divisor that ratio divides by -/
def rdiv (n d : Int) : Int := if d < 0 then -((Nat.gcd n.natAbs d.natAbs : Nat) : Int) else ((Nat.gcd n.natAbs d.natAbs : Nat) : Int)
def ratN (n d : Int) : Int := n.fdiv (rdiv n d)
def ratD (n d : Int) : Int := d.fdiv (rdiv n d)
/-- a/b is in lowest terms -/
def Low (a b : Int) : Prop := 1 ≤ b ∧ Nat.gcd a.natAbs b.natAbs = 1
theorem rdiv_ne {n d : Int} (hd : d ≠ 0) : rdiv n d ≠ 0 := by
  have hg : 0 < Nat.gcd n.natAbs d.natAbs := Nat.gcd_pos_of_pos_right _ (by omega)
  unfold rdiv
  split <;> omega
theorem rdiv_natAbs (n d : Int) : (rdiv n d).natAbs = Nat.gcd n.natAbs d.natAbs := by
  unfold rdiv
  split <;> omega
theorem fdiv_of_mul {a b c : Int} (hb : b ≠ 0) (h : a = c * b) : a.fdiv b = c := by
  rw [h]
  exact Int.mul_fdiv_cancel _ hb
theorem dvd_rdiv_left (n d : Int) : rdiv n d ∣ n := Int.natAbs_dvd_natAbs.mp (by rw [rdiv_natAbs]; exact Nat.gcd_dvd_left _ _)
theorem dvd_rdiv_right (n d : Int) : rdiv n d ∣ d := Int.natAbs_dvd_natAbs.mp (by rw [rdiv_natAbs]; exact Nat.gcd_dvd_right _ _)
theorem ratN_mul {n d : Int} (hd : d ≠ 0) : ratN n d * rdiv n d = n := by
  obtain ⟨c, hc⟩ := dvd_rdiv_left n d
  have : ratN n d = c := fdiv_of_mul (rdiv_ne hd) (by rw [Int.mul_comm]; exact hc)
  rw [this, Int.mul_comm]
  exact hc.symm
theorem ratD_mul {n d : Int} (hd : d ≠ 0) : ratD n d * rdiv n d = d := by
  obtain ⟨c, hc⟩ := dvd_rdiv_right n d
  have : ratD n d = c := fdiv_of_mul (rdiv_ne hd) (by rw [Int.mul_comm]; exact hc)
  rw [this, Int.mul_comm]
  exact hc.symm
theorem rat_low {n d : Int} (hd : d ≠ 0) : Low (ratN n d) (ratD n d) := by
  have h1 := ratN_mul (n := n) hd
  have h2 := ratD_mul (n := n) hd
  have h3 := rdiv_ne (n := n) hd
  have hg := rdiv_natAbs n d
  have gpos : 0 < Nat.gcd n.natAbs d.natAbs := Nat.gcd_pos_of_pos_right _ (by omega)
  constructor
  · by_cases hneg : d < 0
    · have hr : rdiv n d < 0 := by
        unfold rdiv
        rw [if_pos hneg]
        omega
      by_cases hb : 1 ≤ ratD n d
      · exact hb
      · have : 0 ≤ ratD n d * rdiv n d := Int.mul_nonneg_of_nonpos_of_nonpos (by omega) (by omega)
        omega
    · have hr : 0 < rdiv n d := by
        unfold rdiv
        rw [if_neg hneg]
        omega
      by_cases hb : 1 ≤ ratD n d
      · exact hb
      · have : ratD n d * rdiv n d ≤ 0 := Int.mul_nonpos_of_nonpos_of_nonneg (by omega) (by omega)
        omega
  · have e1 : (ratN n d).natAbs * Nat.gcd n.natAbs d.natAbs = n.natAbs := by rw [← hg, ← Int.natAbs_mul, h1]
    have e2 : (ratD n d).natAbs * Nat.gcd n.natAbs d.natAbs = d.natAbs := by rw [← hg, ← Int.natAbs_mul, h2]
    have e3 : Nat.gcd ((ratN n d).natAbs * Nat.gcd n.natAbs d.natAbs) ((ratD n d).natAbs * Nat.gcd n.natAbs d.natAbs) = Nat.gcd n.natAbs d.natAbs := by rw [e1, e2]
    rw [Nat.gcd_mul_right] at e3
    exact Nat.eq_of_mul_eq_mul_right gpos (by rw [Nat.one_mul]; exact e3)
theorem rat_cross {n d : Int} (hd : d ≠ 0) : ratN n d * d = n * ratD n d := by
  have h1 := ratN_mul (n := n) hd
  have h2 := ratD_mul (n := n) hd
  have e : ratN n d * (ratD n d * rdiv n d) = ratN n d * rdiv n d * ratD n d := by
    rw [Int.mul_assoc, Int.mul_comm (rdiv n d)]
  rw [h2, h1] at e
  exact e
theorem low_unique {a b c d : Int} (h1 : Low a b) (h2 : Low c d) (h : a * d = c * b) : a = c ∧ b = d := by
  obtain ⟨b1, g1⟩ := h1
  obtain ⟨d1, g2⟩ := h2
  have hN : a.natAbs * d.natAbs = c.natAbs * b.natAbs := by rw [← Int.natAbs_mul, h, Int.natAbs_mul]
  have x1 : b.natAbs ∣ d.natAbs := Nat.Coprime.dvd_of_dvd_mul_left (show Nat.Coprime b.natAbs a.natAbs from (Nat.gcd_comm _ _).trans g1) ⟨c.natAbs, by rw [hN, Nat.mul_comm]⟩
  have x2 : d.natAbs ∣ b.natAbs := Nat.Coprime.dvd_of_dvd_mul_left (show Nat.Coprime d.natAbs c.natAbs from (Nat.gcd_comm _ _).trans g2) ⟨a.natAbs, by rw [← hN, Nat.mul_comm]⟩
  have e : b.natAbs = d.natAbs := Nat.dvd_antisymm x1 x2
  have e2 : b = d := by omega
  subst e2
  exact ⟨Int.eq_of_mul_eq_mul_right (by omega) h, rfl⟩
theorem low_rat {a b : Int} (h : Low a b) : ratN a b = a ∧ ratD a b = b := by
  have hb : b ≠ 0 := by
    have := h.1
    omega
  have e := low_unique (rat_low (n := a) hb) h (rat_cross hb)
  exact e
theorem rat_neg {n d : Int} (hd : d ≠ 0) : ratN (-n) (-d) = ratN n d ∧ ratD (-n) (-d) = ratD n d := by
  have hd' : -d ≠ 0 := by omega
  refine low_unique (rat_low hd') (rat_low hd) ?_
  have h1 := rat_cross (n := n) hd
  have h2 := rat_cross (n := -n) hd'
  have e1 : ratN (-n) (-d) * d = n * ratD (-n) (-d) := by
    rw [Int.mul_neg, Int.neg_mul] at h2
    omega
  -- multiply by d
  have e2 : (ratN (-n) (-d) * ratD n d) * d = (ratN n d * ratD (-n) (-d)) * d := by
    rw [Int.mul_right_comm, e1, Int.mul_right_comm (ratN n d), h1, Int.mul_right_comm]
  exact Int.eq_of_mul_eq_mul_right hd e2
theorem rat_one (n : Int) : ratN n 1 = n ∧ ratD n 1 = 1 := low_rat ⟨by omega, by simp⟩
theorem rdiv_log {n d : Int} (hd : d ≠ 0) (h : d.natAbs.log2 < 9000) : (rdiv n d).natAbs.log2 < 9000 := by
  rw [rdiv_natAbs]
  have hle : Nat.gcd n.natAbs d.natAbs ≤ d.natAbs := Nat.gcd_le_right _ (by omega)
  have hlt : d.natAbs < 2 ^ 9000 := (Nat.log2_lt (by omega)).mp h
  by_cases h0 : Nat.gcd n.natAbs d.natAbs = 0
  · rw [h0]
    decide
  · exact (Nat.log2_lt h0).mpr (Nat.lt_of_le_of_lt hle hlt)
theorem ratN_le {n d : Int} (hd : d ≠ 0) : (ratN n d).natAbs ≤ n.natAbs := by
  have h1 := ratN_mul (n := n) hd
  have e : (ratN n d).natAbs * (rdiv n d).natAbs = n.natAbs := by rw [← Int.natAbs_mul, h1]
  have h3 := rdiv_ne (n := n) hd
  rw [← e]
  exact Nat.le_mul_of_pos_right _ (by omega)
theorem ratD_le {n d : Int} (hd : d ≠ 0) : (ratD n d).natAbs ≤ d.natAbs := by
  have h1 := ratD_mul (n := n) hd
  have e : (ratD n d).natAbs * (rdiv n d).natAbs = d.natAbs := by rw [← Int.natAbs_mul, h1]
  have h3 := rdiv_ne (n := n) hd
  have h4 : (ratD n d).natAbs ≤ (ratD n d).natAbs * (rdiv n d).natAbs := Nat.le_mul_of_pos_right _ (by omega)
  omega
end Lk
/-! defs with a star parameter, called with plain arguments -/
namespace Lk
open PySem L2
def starSp (n : Nat) (sp : Sp) : Sp := fun vs H Q E => ∃ ws rest, vs = ws ++ rest ∧ ws.length = n ∧ rest.length ≤ sizeLine ∧ ∀ p, H p = Option.none → sp (ws ++ [V.ref p]) (upd H p (.tup rest)) Q E
section
variable {P : Program} {w : World} {K : PySem.W.Frag} {mg : Str → Option Value} {base : Heap}
theorem okStar {CX : CXT} {x qual pv : Str} {st : Stmt} {f : Addr} {fd : FuncData} {N ps : List Str} {k : Nat} {sp : Sp} (F : Fun K x qual st f fd) (S : FnScope N (ps ++ [pv]) (defScope st)) (hCX : StX.CXUp CX)
    (hb : ∀ (kV doc pm : Value) (an : Option Addr) (cdv ct : Value) (us rest : List Value), us.length = ps.length → bindArgs (PySem.W.fnOf x qual (defArgs st) (defBody st) (defScope st) .none kV doc pm an cdv ct) ⟨us ++ rest, []⟩ = (newTuple rest >>= fun t => pure (ps.zip us ++ [(pv, t)])))
    (hbody : ∀ (cdv : Value) (A : Around) (outer : List Env) (s : Shared) (H : Hp) (vs : List V) (Q : VK) (E : XK), Room k (A.deeper (PyProof.Rows.envOfC qual (defScope st) s.heap.objs.size f cdv)) → sp vs H Q E →
      ∃ t, PSs (cxOf CX P w K mg base N qual (defScope st) f cdv A outer s H E) (defBody st) t ∧ t { nx := fun _ H' => Q .non H', rt := Q } (L2.start N vs) H) : FnR P w K mg base CX (k + 1) f (starSp ps.length sp) := by
  obtain ⟨oc, od, kV, doc, pm, an, cdv, ct, osl, rfl, lk, hcd⟩ := F.ex
  exact StX.fn_star lk hcd S hCX (hb kV doc pm an cdv ct) fun A outer s H vs Q E hr hsp => hbody cdv A outer s H vs Q E hr hsp
end
section
variable {X : Cx} {CX : CXT} {k : Nat} {f : Addr} {sp : Sp} {E : XK} {x : Str} {e : Expr} {es : List Expr} {t : TA} {p pos : Pos}
def tCallR (sp : Sp) (E : XK) (t : TA) : TE := fun σ H Q => t σ H fun vs H1 => sp vs H1 Q E
theorem pe_callR (F : FnR X.prog X.w X.K X.mg X.base CX k f sp) (hr : Room k X.A) (hg : Gl X x) (hm : X.mg x = some (.ref f)) (hk : PySem.W.keepIn X.K (.ref f) = true) (hx : Passes CX X E) (ha : PA X (e :: es) t) (hdb : (x == ("__debug__" : Str)) = false := by decide)
    (he : starEach (e :: es) X.env = (false, eval e X.env) :: starEach es X.env := by rfl) (hpl : (backTo pos (starEach es X.env)).any (·.1) = false := by rfl) :
    PE X (.Call (.Name x p) (e :: es) [] pos) (tCallR sp E t) := by
  refine ⟨fun pins s σ H Q I h => ?_⟩
  refine wpAny_Call_Name_kw (ld_glob I hg hm ?_ hdb)
  refine PySem.W.callWith_K (h₀ := X.base) I.ok.mod.kin hk (thn (ha.run pos pins s σ H _ I h) fun us s1 ⟨vs, H1, I1, r, q⟩ => ⟨I1.kIn, ?_⟩) he hpl
  exact wpAny_call (run_fnR F hr hx I1 r q)
theorem pe_callR0 (F : FnR X.prog X.w X.K X.mg X.base CX k f sp) (hr : Room k X.A) (hg : Gl X x) (hm : X.mg x = some (.ref f)) (hk : PySem.W.keepIn X.K (.ref f) = true) (hx : Passes CX X E) (hdb : (x == ("__debug__" : Str)) = false := by decide) :
    PE X (.Call (.Name x p) [] [] pos) (tCallR sp E tNil) := by
  refine ⟨fun pins s σ H Q I h => ?_⟩
  refine wpAny_Call_Name_kw (ld_glob I hg hm ?_ hdb)
  exact PySem.W.callWith_K0 I.kIn hk (wpAny_call (run_fnR F hr hx I .nil h))
theorem callR_of {σ : L2.St} {H : Hp} {vs : List V} {Q : VK} (h : ValA t σ H vs) (hr : sp vs H Q E) : tCallR sp E t σ H Q := h _ hr
end
end Lk
/-! own classes with a dict: made by star arguments, their operators, len, repr, [], unary minus -/
namespace Lk
open PySem L2
section
variable {X : Cx} {pins : List (Addr × Obj)} {σ : L2.St} {H : Hp} {s : Shared}
theorem inst_at {a C dx : Addr} {fs : List (Str × V)} (I : Inv X pins σ H s) (ea : H a = some (.ins C dx fs)) : ∃ ox od, PySem.W.InstAt s.heap a ox C (some od) := by
  obtain ⟨mA, O, _⟩ := ins_get I.hok ea
  obtain ⟨od, J, _⟩ := O.look
  exact ⟨_, od, J⟩
end
section
variable {X : Cx} {CX : CXT} {n k i : Nat} {C g f : Addr} {sp : Sp} {E : XK} {e : Expr} {te : TE} {x : Str} {p sp_ pos : Pos}
/-- C(*e), C a class of the module -/
def tMakeS (K : PySem.W.Frag) (C : Addr) (sp : Sp) (E : XK) (te : TE) : TE := fun σ H Q => te σ H fun y H1 => ∃ a xs, y = V.ref a ∧ (SqT K H1 a xs ∨ SqL K H1 a xs) ∧ ∀ o dx, H1 o = Option.none → H1 dx = Option.none → dx ≠ o →
  sp (V.ref o :: xs) (upd (upd H1 dx (.own o)) o (.ins C dx [])) (fun v H2 => v = .non ∧ Q (.ref o) H2) E
theorem pe_makeS (M : Mk X.K C f) (F : FnR X.prog X.w X.K X.mg X.base CX k f sp) (hr : Room (k + 1) X.A) (hg : Gl X x) (hm : X.mg x = some (.ref C)) (hx : Passes CX X E) (he : PE X e te) (hd : (x == ("__debug__" : Str)) = false := by decide)
    (hst : starEach [.Starred e sp_] X.env = [(true, eval e X.env)] := by rfl) : PE X (.Call (.Name x p) [.Starred e sp_] [] pos) (tMakeS X.K C sp E te) := by
  refine ⟨fun pins s σ H Q I h => ?_⟩
  refine wpAny_Call_Name_kw (ld_glob I hg hm ?_ hd)
  refine PySem.W.callWith_S (h₀ := X.base) I.ok.mod.kin M.kp (thn (he.run pins s σ H _ I h) fun v s1 ⟨y, H1, I1, ry, a, xs, ey, hxs, q⟩ => ?_) hst
  subst ey
  obtain rfl : v = Value.ref a := ry
  exact StX.star_any I1 hxs fun us s2 I2 rv => ⟨I2.kIn, StX.run_makeR M F hr hx I2 rv q⟩
/-- c(*e), c a name of the def that holds the class C -/
def tMakeLS (K : PySem.W.Frag) (i : Nat) (C : Addr) (sp : Sp) (E : XK) (te : TE) : TE := fun σ H Q => σ[i]? = some (some (.ref C)) ∧ tMakeS K C sp E te σ H Q
theorem pe_makeLS (M : Mk X.K C f) (F : FnR X.prog X.w X.K X.mg X.base CX k f sp) (hr : Room (k + 1) X.A) (hx : Passes CX X E) (hN : X.N[i]? = some x) (hv : Vis X.env.scope x) (he : PE X e te) (hd : (x == ("__debug__" : Str)) = false := by decide)
    (hcd : (x == ("__classdict__" : Str)) = false := by decide) (hst : starEach [.Starred e sp_] X.env = [(true, eval e X.env)] := by rfl) : PE X (.Call (.Name x p) [.Starred e sp_] [] pos) (tMakeLS X.K i C sp E te) := by
  refine ⟨fun pins s σ H Q I h => ?_⟩
  obtain ⟨hs, h⟩ := h
  refine wpAny_Call_Name_kw (thn ((pe_var (pos := p) (i := i) hN hv hd hcd).run pins s σ H (fun v H1 => v = .ref C ∧ H1 = H) I ⟨.ref C, hs, rfl, rfl⟩) fun u s1 ⟨v, H1, I1, r1, ev, eH⟩ => ?_)
  subst ev
  rw [eH] at I1
  cases r1
  refine PySem.W.callWith_S (h₀ := X.base) I.ok.mod.kin M.kp (thn (he.run pins s1 σ H _ I1 h) fun v s1 ⟨y, H1, I1, ry, a, xs, ey, hxs, q⟩ => ?_) hst
  subst ey
  obtain rfl : v = Value.ref a := ry
  exact StX.star_any I1 hxs fun us s2 I2 rv => ⟨I2.kIn, StX.run_makeR M F hr hx I2 rv q⟩
/-- C(), without arguments -/
theorem pe_makeR0 (M : Mk X.K C f) (F : FnR X.prog X.w X.K X.mg X.base CX k f sp) (hr : Room (k + 1) X.A) (hg : Gl X x) (hm : X.mg x = some (.ref C)) (hx : Passes CX X E) (hdb : (x == ("__debug__" : Str)) = false := by decide) :
    PE X (.Call (.Name x p) [] [] pos) (StX.tMakeR C sp E tNil) := by
  refine ⟨fun pins s σ H Q I h => ?_⟩
  refine wpAny_Call_Name_kw (ld_glob I hg hm ?_ hdb)
  exact PySem.W.callWith_K0 I.kIn M.kp (StX.run_makeR M F hr hx I .nil h)

/-! ### operators -/
/-- x op y, both instances of C -/
def rBin (C : Addr) (sp : Sp) (E : XK) : R2 := fun x y H Q => ∃ a dx fs b dy gs, x = .ref a ∧ y = .ref b ∧ H a = some (.ins C dx fs) ∧ H b = some (.ins C dy gs) ∧ sp [x, y] H Q E
/-- x op k, k an int -/
def rBinI (C : Addr) (sp : Sp) (E : XK) : R2 := fun x y H Q => ∃ a dx fs j, x = .ref a ∧ y = .int j ∧ H a = some (.ins C dx fs) ∧ sp [x, y] H Q E
def rUnO (C : Addr) (sp : Sp) (E : XK) : V → Hp → VK → Prop := fun x H Q => ∃ a dx fs, x = .ref a ∧ H a = some (.ins C dx fs) ∧ sp [x] H Q E
/-- what the class must say of op, with an int on the other side -/
structure OpOk (K : PySem.W.Frag) (C g : Addr) (nm : String) : Prop where
  self : PySem.W.selfFirst K C = true
  at_ : PySem.W.findIn K (.ref C) (PySem.dunder nm) = some (some (.ref g))
  fn : PySem.W.isFn K (.ref g) = true
structure OpOkI (K : PySem.W.Frag) (C : Addr) (nm : String) : Prop where
  r : ∃ rc, PySem.W.findIn K (.ref C) (dunderR nm) = some rc ∧ (rc = none ∨ ∃ g : Addr, rc = some (.ref g))
  i1 : ∃ fo, PySem.W.findIn K (.type "int") (PySem.dunder nm) = some fo
  i2 : ∃ ro, PySem.W.findIn K (.type "int") (dunderR nm) = some ro
  sub : PySem.W.subIn K (.type "int") (.ref C) = some false
theorem op_bin {op : Operator} (O : OpOk X.K C g op.info.2) (F : FnR X.prog X.w X.K X.mg X.base CX n g sp) (hr : Room n X.A) (hx : Passes CX X E) : OpR X (binaryOp op) (rBin C sp E) := by
  intro pins s σ H x y v u Q I rx ry h
  obtain ⟨a, dx, fs, b, dy, gs, rfl, rfl, ha, hb, q⟩ := h
  cases (show v = Value.ref a from rx)
  cases (show u = Value.ref b from ry)
  obtain ⟨_, _, J⟩ := inst_at I ha
  obtain ⟨_, _, J'⟩ := inst_at I hb
  obtain ⟨m, hF⟩ := I.fr
  refine PySem.W.binop_K hF I.ok.mod.kin J J'.type O.self O.at_ O.fn ?_
  refine wpAny_mono (wpAny_call (run_fnR (us := [.ref a, .ref b]) (vs := [.ref a, .ref b]) F hr hx I (.cons rfl (.cons rfl .nil)) q)) (fun w s' z => ?_) fun _ _ x => x
  obtain ⟨z', H', I', rz, qz⟩ := z
  exact SlX.cmpback rz ⟨z', H', I', rz, qz⟩
theorem op_binI {op : Operator} (O : OpOk X.K C g op.info.2) (O2 : OpOkI X.K C op.info.2) (F : FnR X.prog X.w X.K X.mg X.base CX n g sp) (hr : Room n X.A) (hx : Passes CX X E) : OpR X (binaryOp op) (rBinI C sp E) := by
  intro pins s σ H x y v u Q I rx ry h
  obtain ⟨a, dx, fs, j, rfl, rfl, ha, q⟩ := h
  cases (show v = Value.ref a from rx)
  obtain ⟨t, ej⟩ := (show ∃ t, u = Value.int j t from ry)
  subst ej
  obtain ⟨_, _, J⟩ := inst_at I ha
  obtain ⟨m, hF⟩ := I.fr
  obtain ⟨rc, r1, r2⟩ := O2.r
  obtain ⟨fo, i1⟩ := O2.i1
  obtain ⟨ro, i2⟩ := O2.i2
  refine PySem.W.ksp_binT (T := "int") hF I.ok.mod.kin J rfl O.self O.at_ O.fn r1 r2 i1 i2 O2.sub ?_
  refine wpAny_mono (wpAny_call (run_fnR (us := [.ref a, .int j t]) (vs := [.ref a, .int j]) F hr hx I (.cons rfl (.cons ⟨t, rfl⟩ .nil)) q)) (fun w s' z => ?_) fun _ _ x => x
  obtain ⟨z', H', I', rz, qz⟩ := z
  exact SlX.cmpback rz ⟨z', H', I', rz, qz⟩
theorem un_own (hs : PySem.W.findIn X.K (.ref C) "__neg__" = some (some (.ref g))) (hf : PySem.W.isFn X.K (.ref g) = true) (F : FnR X.prog X.w X.K X.mg X.base CX n g sp) (hr : Room n X.A) (hx : Passes CX X E) : UnR X (unaryOp .USub) (rUnO C sp E) := by
  intro pins s σ H x v Q I rx h
  obtain ⟨a, dx, fs, rfl, ha, q⟩ := h
  cases (show v = Value.ref a from rx)
  obtain ⟨_, _, J⟩ := inst_at I ha
  obtain ⟨m, hF⟩ := I.fr
  refine PySem.W.ksp_neg hF I.ok.mod.kin J hs hf ?_
  exact wpAny_call (run_fnR (us := [.ref a]) (vs := [.ref a]) F hr hx I (.cons rfl .nil) q)
/-- len(x) by an own __len__ -/
def rLenO (C : Addr) (sp : Sp) (E : XK) : List V → Hp → VK → Prop := fun xs H Q => ∃ a dx fs, xs = [.ref a] ∧ H a = some (.ins C dx fs) ∧ sp [.ref a] H (fun v H' => ∃ j : Int, v = .int j ∧ 0 ≤ j ∧ j < 2 ^ 63 ∧ Q (.int j) H') E
theorem call_lenO (hs : PySem.W.findIn X.K (.ref C) "__len__" = some (some (.ref g))) (hf : PySem.W.isFn X.K (.ref g) = true) (F : FnR X.prog X.w X.K X.mg X.base CX n g sp) (hr : Room (n + 1) X.A) (hx : ∀ (H : Hp) (s : Shared) (e : Value) (s' : Shared), CX X.stack H s E e s' → False) : CallR X (.builtin "len") (rLenO C sp E) := by
  intro pins s σ H xs us Q I r h
  obtain ⟨a, dx, fs, rfl, ha, q⟩ := h
  obtain ⟨u, rfl, ru⟩ := vals1 r
  cases (show u = Value.ref a from ru)
  obtain ⟨_, _, J⟩ := inst_at I ha
  obtain ⟨m, hF⟩ := I.fr
  refine PySem.W.len_K hF I.ok.mod.kin J hs hf (wpAny_call ?_)
  refine codeAny_mono (F X.A.in1 X.stack s H [.ref a] [.ref a] _ E hr.in1 I.env0.in1 (.cons rfl .nil) q) fun r s' hq => ?_
  cases r with
  | error e => exact (hx _ _ _ _ hq).elim
  | ok fl =>
    cases fl with
    | ret u =>
      obtain ⟨v, H', I2, rv, j, ev, j0, j1, q⟩ := I.after hq
      subst ev
      obtain ⟨t, et⟩ := (show ∃ t, u = Value.int j t from rv)
      subst et
      exact ⟨⟨j0, j1⟩, .int j, H', I2.tok _, ⟨_, rfl⟩, q⟩
    | next => exact False.elim hq
    | brk => exact False.elim hq
    | cont => exact False.elim hq
/-- x == y by an own __eq__, y of any type that is not below C -/
def rEqO (K : PySem.W.Frag) (C : Addr) (sp : Sp) (E : XK) : R2 := fun x y H Q => ∃ a dx fs t, x = .ref a ∧ H a = some (.ins C dx fs) ∧ TyX K H y t ∧ PySem.W.notFirst K C t = true ∧ sp [x, y] H Q E
theorem op_eqO (hs : PySem.W.findIn X.K (.ref C) "__eq__" = some (some (.ref g))) (hf : PySem.W.isFn X.K (.ref g) = true) (F : FnR X.prog X.w X.K X.mg X.base CX n g sp) (hr : Room n X.A) (hx : Passes CX X E) : OpR X (compareOp .Eq) (rEqO X.K C sp E) := by
  intro pins s σ H x y v u Q I rx ry h
  obtain ⟨a, dx, fs, t, rfl, ha, ty, hn, q⟩ := h
  cases (show v = Value.ref a from rx)
  obtain ⟨_, _, J⟩ := inst_at I ha
  obtain ⟨P, Z, p, _⟩ := kit_of I ry ty
  obtain ⟨m, hF⟩ := I.fr
  refine PySem.W.cmp_ofEq ?_
  refine PySem.W.cmp_K (op := .Eq) (tb := t) hr.units0 hF I.ok.mod.kin J (Z.ty _ _ I.kIn p) hn hs hf ?_
  refine wpAny_mono (wpAny_call (run_fnR (us := [.ref a, u]) (vs := [.ref a, y]) F hr hx I (.cons rfl (.cons ry .nil)) q)) (fun w s' z => ?_) fun _ _ x => x
  obtain ⟨z', H', I', rz, qz⟩ := z
  exact SlX.cmpback rz ⟨z', H', I', rz, qz⟩
/-- x[k] by an own __getitem__ -/
def rIxO (C : Addr) (sp : Sp) (E : XK) : R2 := fun x y H Q => ∃ a dx fs j, x = .ref a ∧ y = .int j ∧ H a = some (.ins C dx fs) ∧ sp [x, y] H Q E
end
end Lk

/-! ### an int on the left, an instance on the right: the reflected def -/
namespace PySem
theorem lk_int_add (a : Int) (t : Tok) (l : Addr) (cls : Value) (d : Option Addr) (sl : Array (Option Value)) :
    Meets (Builtin.«int.__add__» ⟨[.int a t, .ref l], []⟩) (fun _ R s => s.heap.get? l = some { cls := cls, dict := d, data := .plain, slots := sl } ∧ R (.ok (.ret Value.notImplemented)) s) :=
  .of_wp fun prog w A R s h => by obtain ⟨hp, g, d, tk, os⟩ := s; obtain ⟨hl, h⟩ := h; wp_walk; exact ⟨_, rfl, h⟩
theorem lk_int_sub (a : Int) (t : Tok) (l : Addr) (cls : Value) (d : Option Addr) (sl : Array (Option Value)) :
    Meets (Builtin.«int.__sub__» ⟨[.int a t, .ref l], []⟩) (fun _ R s => s.heap.get? l = some { cls := cls, dict := d, data := .plain, slots := sl } ∧ R (.ok (.ret Value.notImplemented)) s) :=
  .of_wp fun prog w A R s h => by obtain ⟨hp, g, d, tk, os⟩ := s; obtain ⟨hl, h⟩ := h; wp_walk; exact ⟨_, rfl, h⟩
theorem lk_int_mul (a : Int) (t : Tok) (l : Addr) (cls : Value) (d : Option Addr) (sl : Array (Option Value)) :
    Meets (Builtin.«int.__mul__» ⟨[.int a t, .ref l], []⟩) (fun _ R s => s.heap.get? l = some { cls := cls, dict := d, data := .plain, slots := sl } ∧ R (.ok (.ret Value.notImplemented)) s) :=
  .of_wp fun prog w A R s h => by obtain ⟨hp, g, d, tk, os⟩ := s; obtain ⟨hl, h⟩ := h; wp_walk; exact ⟨_, rfl, h⟩
end PySem
namespace PySem.W
open PySem PySem.Calls PyProof.Rows
section
variable {prog : Program} {w : World} {A : Around} {E : Value → Shared → Prop} {s : Shared} {K : Frag} {x C L f : Addr} {h₀ : Heap} {m : Str → Option Value} {ox : Obj} {od : Option Obj}
theorem lk_binR {op : Operator} {id : String} {fd : Addr} {j : Int} {t : Tok} {Q : Value → Shared → Prop} (F : Fr h₀ L s.heap m) (X₀ : K.In h₀) (I : InstAt s.heap x ox C od) (hc : selfFirst K C = true)
    (hd : findIn K (.ref C) (PySem.dunder op.info.2) = some (some (.ref fd))) (hs : findIn K (.ref C) (dunderR op.info.2) = some (some (.ref f))) (hf : isFn K (.ref f) = true)
    (hfi : fillsNumberSlot (.type "int") op.info.2 = pure true) (hsl : Slot "int" (PySem.dunder op.info.2) id) (hsub : subIn K (.ref C) (.type "int") = some false)
    (hn : ∀ P : Shared → Prop, P s → wpAny (model prog w) A (call (.builtin id) [.int j t, .ref x]) (fun v s' => v = .notImplemented ∧ P s') E s)
    (h : wpAny (model prog w) A (call (.ref f) [.ref x, .int j t]) (CmpBack Q) E s) : wpAny (model prog w) A (binaryOp op (.int j t) (.ref x)) Q E s := by
  have X := X₀.keeps F.keep
  obtain ⟨cd, rest, hcd, hm⟩ := ksp_first hc
  have one := ksp_try X I hs hf h
  rcases hi : op.info with ⟨sym, nm'⟩
  rw [hi] at hd hs hfi hsl one
  dsimp only at hd hs hfi hsl one
  have L1 : Looks (model prog w) s.heap (typeOf (.ref x)) (.ref C) := I.type
  have L3 : Looks (model prog w) s.heap (fillsNumberSlot (.ref C) nm') true := fills_K X hcd hm hd
  have L5 : Looks (model prog w) s.heap (isSubtype (.ref C) (.type "int")) false := looks_subIn X hsub
  have hne : (Value.type "int" == Value.ref C) = false := Bool.eq_false_iff.mpr fun q => by cases beq_iff_eq.mp q
  have hpy : numberSlotInPython (.type "int") nm' = pure false := rfl
  simp only [binaryOp, hi]
  refine wpAny_holding (wpAny_bind ?_)
  unfold binaryOp1
  refine wpAny_bind (wpAny_typeOf (typeIs_int s j t) (wpAny_bind (L1.here (wpAny_bind (wpAny_of_eq hfi ?_)))))
  simp only [hne, Bool.false_eq_true, if_false]
  refine wpAny_bind (L3.here ?_)
  simp only [Bool.and_self, if_true]
  refine wpAny_bind (L5.here ?_)
  simp only [Bool.false_eq_true, if_false, pure_bind, Bool.not_false, Bool.and_self, if_true, hpy]
  refine wpAny_bind (wpAny_tryMethod_declines (typeIs_int s j t) hsl (hn (fun s' => wpAny _ _ _ _ _ s') ?_))
  refine wpAny_bind (wpAny_mono one (fun r s' hr' => ?_) fun _ _ e => e)
  obtain ⟨v, rfl, hq⟩ := hr'
  exact wpAny_bind (wpAny_rule (wpAny_pure (wpAny_pure hq)))
end
end PySem.W
namespace Lk
open PySem L2
section
variable {X : Cx} {CX : CXT} {n : Nat} {C g gd : Addr} {sp : Sp} {E : XK}
/-- k op x, k an int, x an instance of C with the reflected def at g -/
def rBinR (C : Addr) (sp : Sp) (E : XK) : R2 := fun x y H Q => ∃ b dy gs j, x = .int j ∧ y = .ref b ∧ H b = some (.ins C dy gs) ∧ sp [y, x] H Q E
structure OpOkR (K : PySem.W.Frag) (C gd g : Addr) (nm : String) : Prop where
  self : PySem.W.selfFirst K C = true
  fwd : PySem.W.findIn K (.ref C) (PySem.dunder nm) = some (some (.ref gd))
  at_ : PySem.W.findIn K (.ref C) (dunderR nm) = some (some (.ref g))
  fn : PySem.W.isFn K (.ref g) = true
  sub : PySem.W.subIn K (.ref C) (.type "int") = some false
theorem op_binR {op : Operator} {id : String} {B : Builtin} (O : OpOkR X.K C gd g op.info.2) (hfi : fillsNumberSlot (.type "int") op.info.2 = pure true) (hsl : Slot "int" (PySem.dunder op.info.2) id) (entry : entryFor table id = some B) (args : ∀ a b, argsOk id ⟨[a, b], []⟩)
    (meets : ∀ (a : Int) (t : Tok) (l : Addr) (cls : Value) (d : Option Addr) (sl : Array (Option Value)), Meets (B ⟨[.int a t, .ref l], []⟩) (fun _ R s => s.heap.get? l = some { cls := cls, dict := d, data := .plain, slots := sl } ∧ R (.ok (.ret Value.notImplemented)) s))
    (F : FnR X.prog X.w X.K X.mg X.base CX n g sp) (hr : Room n X.A) (hx : Passes CX X E) : OpR X (binaryOp op) (rBinR C sp E) := by
  intro pins s σ H x y v u Q I rx ry h
  obtain ⟨b, dy, gs, j, rfl, rfl, hb, q⟩ := h
  obtain ⟨t, ej⟩ := (show ∃ t, v = Value.int j t from rx)
  subst ej
  cases (show u = Value.ref b from ry)
  obtain ⟨ox, od, J, hpl⟩ := StX.insC_at I (.inr ⟨dy, gs, hb⟩)
  obtain ⟨m, hF⟩ := I.fr
  have hget := J.at_
  obtain ⟨oc, odd, oda, osl⟩ := ox
  dsimp only at hpl
  subst hpl
  refine PySem.W.lk_binR hF I.ok.mod.kin J O.self O.fwd O.at_ O.fn hfi hsl O.sub (fun P hP => ?_) ?_
  · exact call_meets hsl (typeIs_int s j t) entry (args _ _) (meets j t b oc odd osl) ⟨hget, rfl, hP⟩
  · refine wpAny_mono (wpAny_call (run_fnR (us := [.ref b, .int j t]) (vs := [.ref b, .int j]) F hr hx I (.cons rfl (.cons ⟨t, rfl⟩ .nil)) q)) (fun w s' z => ?_) fun _ _ x => x
    obtain ⟨z', H', I', rz, qz⟩ := z
    exact SlX.cmpback rz ⟨z', H', I', rz, qz⟩
theorem op_addR (O : OpOkR X.K C gd g "add") (F : FnR X.prog X.w X.K X.mg X.base CX n g sp) (hr : Room n X.A) (hx : Passes CX X E) : OpR X (binaryOp .Add) (rBinR C sp E) := op_binR (op := .Add) O PySem.F.fills_int_add PySem.F.slot_int_add PySem.F.entry_int_add (fun a b => PySem.F.args_int_add_2 a b) PySem.lk_int_add F hr hx
theorem op_subR (O : OpOkR X.K C gd g "sub") (F : FnR X.prog X.w X.K X.mg X.base CX n g sp) (hr : Room n X.A) (hx : Passes CX X E) : OpR X (binaryOp .Sub) (rBinR C sp E) := op_binR (op := .Sub) O PySem.F.fills_int_sub PySem.F.slot_int_sub PySem.F.entry_int_sub (fun a b => PySem.F.args_int_sub_2 a b) PySem.lk_int_sub F hr hx
theorem op_mulR (O : OpOkR X.K C gd g "mul") (F : FnR X.prog X.w X.K X.mg X.base CX n g sp) (hr : Room n X.A) (hx : Passes CX X E) : OpR X (binaryOp .Mult) (rBinR C sp E) := op_binR (op := .Mult) O PySem.F.fills_int_mul PySem.F.slot_int_mul PySem.F.entry_int_mul (fun a b => PySem.F.args_int_mul_2 a b) PySem.lk_int_mul F hr hx
end
end Lk
/-! ### != by an own __eq__ (object.__ne__), repr and [] by own defs -/
namespace PySem.W
open PySem PySem.Calls PyProof.Rows
section
variable {prog : Program} {w : World} {A : Around} {E : Value → Shared → Prop} {s : Shared} {K : Frag} {x C L f : Addr} {h₀ : Heap} {m : Str → Option Value} {ox : Obj} {od : Option Obj}
theorem lk_ifBound_obj {M : Model} {id : String} {name : Str} {args : List Value} {Q : Option Value → Shared → Prop} (X : K.In s.heap) (I : InstAt s.heap x ox C od) (hs : findIn K (.ref C) name = some (some (.builtin id))) (S : Slot "object" name id)
    (h : wpAny M A (call (.builtin id) (.ref x :: args)) (fun v => Q (some v)) E s) : wpAny M A (callSpecialIfBound? (.ref x) name args) Q E s := by
  simp only [callSpecialIfBound?, bindSpecialIfBound?]
  refine wpAny_holding (wpAny_bind (wpAny_bind (wpAny_bind (I.type.here ((looks_findIn X hs).here ?_)))))
  simp only [S.bind]
  refine wpAny_bind (wpAny_askSetting (wpAny_ite ?_))
  have fin : wpAny M A (call (.builtin id) ([.ref x] ++ args) >>= fun v => pure (some v)) Q E s := wpAny_bind (wpAny_mono h (fun v s' h' => wpAny_pure h') fun _ _ h' => h')
  split
  · exact wpAny_bind (wpAny_pure (wpAny_pure fin))
  · exact wpAny_tryCatch (wpAny_bind (wpAny_pure (wpAny_pure fin)))
theorem lk_check_obj {M : Model} {id n : String} {rest : List Value} {Q : Unit → Shared → Prop} (X : K.In s.heap) (I : InstAt s.heap x ox C od) (hk : builtinKind id = some .slot) (hs : splitId id = some ("object", n))
    (ha : argsOk id ⟨.ref x :: rest, []⟩) (hob : subIn K (.ref C) (.type "object") = some true) (hq : Q () s) : wpAny M A (checkBuiltinCall id ⟨.ref x :: rest, []⟩) Q E s := by
  simp only [checkBuiltinCall, hk, hs]
  have L : Looks M s.heap (isInstance (.ref x) (.type "object")) true := I.type.andThen (looks_subIn X hob)
  refine wpAny_bind (L.here ?_)
  cases hsig : Manifest.signature? id with
  | none => exact wpAny_pure hq
  | some sig =>
    simp only [argsOk, hsig] at ha
    have h2 : Bind.checkArgs id sig ⟨.ref x :: rest, []⟩ = pure () := ha
    show wpAny M A (Bind.checkArgs id sig ⟨.ref x :: rest, []⟩) Q E _
    rw [h2]; exact wpAny_pure hq
theorem lk_ne {b tb : Value} {Q : Value → Shared → Prop} (hu : A.units + 1 < cLine) (Fh : Fr h₀ L s.heap m) (X₀ : K.In h₀) (I : InstAt s.heap x ox C od) (hb : Looks (model prog w) s.heap (typeOf b) tb) (hn : notFirst K C tb = true)
    (hne : findIn K (.ref C) "__ne__" = some (some (.builtin "object.__ne__"))) (hob : subIn K (.ref C) (.type "object") = some true) (hs : findIn K (.ref C) "__eq__" = some (some (.ref f))) (hf : isFn K (.ref f) = true)
    (h : wpAny (model prog w) A.in1 (call (.ref f) [.ref x, b]) (fun v s' => ∃ b, v = .bool b ∧ Q (.bool (!b)) s') E s) : wpAny (model prog w) A (richCompare .NotEq (.ref x) b) Q E s := by
  have X := X₀.keeps Fh.keep
  have one : wpAny (model prog w) A (tryCompare (.ref x) "__ne__" b) (fun r s' => ∃ v, r = some v ∧ Q v s') E s := by
    unfold tryCompare
    refine wpAny_bind (lk_ifBound_obj X I hne PySem.F.cmp_object.ne ?_)
    refine wpAny_call (codeAny_call_builtin PySem.F.cmp_object.ne.plain PySem.F.cmpEntry_ne (lk_check_obj X I PySem.F.cmpKind_ne PySem.F.cmpSplit_ne (PySem.F.cmpArgs_ne _ _) hob ?_))
    unfold Builtin.«object.__ne__»
    refine wpAny_bind (m := slotArgs _ _ _) (wpAny_pure ?_)
    refine wpAny_bind (wpAny_cRoomFor hu ?_)
    refine wpAny_bind (ifBound_K X I hs hf (wpAny_mono h (fun r s' hr => ?_) fun _ _ e => e))
    obtain ⟨b, rfl, hq⟩ := hr
    refine wpAny_bind (m := truthy (.bool _)) (wpAny_truthy_bool ?_)
    exact wpAny_pure (wpAny_pure ⟨_, rfl, hq⟩)
  unfold richCompare
  simp only [oneThing_ref]
  refine wpAny_holding (wpAny_bind (wpAny_cRoomFor (Nat.lt_of_succ_lt hu) ?_))
  refine wpAny_bind (I.type.here (wpAny_bind (hb.here ?_)))
  rw [cmpInfo_NotEq]
  dsimp only
  split
  · rename_i q
    have e : subIn K tb (.ref C) = some false := by
      rcases Bool.or_eq_true_iff.mp hn with e | e
      · rw [beq_iff_eq.mp e] at q; simp at q
      · exact beq_iff_eq.mp e
    refine wpAny_bind ((looks_subIn X e).here ?_)
    simp only [Bool.false_eq_true, if_false]
    refine wpAny_bind (wpAny_mono one (fun r s' z => ?_) fun _ _ e => e)
    obtain ⟨v, rfl, hq⟩ := z
    exact wpAny_pure hq
  · refine wpAny_bind (wpAny_pure ?_)
    simp only [Bool.false_eq_true, if_false]
    refine wpAny_bind (wpAny_mono one (fun r s' z => ?_) fun _ _ e => e)
    obtain ⟨v, rfl, hq⟩ := z
    exact wpAny_pure hq
end
end PySem.W
namespace Lk
open PySem L2
section
variable {X : Cx} {CX : CXT} {n : Nat} {C g : Addr} {sp : Sp} {E : XK} {a b : Expr} {ta tb : TE} {pos : Pos}
structure NeOk (K : PySem.W.Frag) (C g : Addr) : Prop where
  ne : PySem.W.findIn K (.ref C) "__ne__" = some (some (.builtin "object.__ne__"))
  ob : PySem.W.subIn K (.ref C) (.type "object") = some true
  eq : PySem.W.findIn K (.ref C) "__eq__" = some (some (.ref g))
  fn : PySem.W.isFn K (.ref g) = true
/-- x != y by an own __eq__ that answers a bool -/
def rNeO (K : PySem.W.Frag) (C : Addr) (sp : Sp) (E : XK) : R2 := fun x y H Q => ∃ a dx fs t, x = .ref a ∧ H a = some (.ins C dx fs) ∧ TyX K H y t ∧ PySem.W.notFirst K C t = true ∧ sp [x, y] H (fun v H' => ∃ z, v = .bl z ∧ Q (.bl (!z)) H') E
theorem op_neO (O : NeOk X.K C g) (F : FnR X.prog X.w X.K X.mg X.base CX n g sp) (hr : Room (n + 1) X.A) (hx : ∀ (H : Hp) (s : Shared) (e : Value) (s' : Shared), CX X.stack H s E e s' → False) : OpR X (compareOp .NotEq) (rNeO X.K C sp E) := by
  intro pins s σ H x y v u Q I rx ry h
  obtain ⟨a, dx, fs, t, rfl, ha, ty, hn, q⟩ := h
  cases (show v = Value.ref a from rx)
  obtain ⟨_, _, J⟩ := inst_at I ha
  obtain ⟨P, Z, p, _⟩ := kit_of I ry ty
  obtain ⟨m, hF⟩ := I.fr
  refine PySem.W.cmp_ofNotEq ?_
  refine PySem.W.lk_ne (tb := t) (by have := hr.units; omega) hF I.ok.mod.kin J (Z.ty _ _ I.kIn p) hn O.ne O.ob O.eq O.fn (wpAny_call ?_)
  refine codeAny_mono (F X.A.in1 X.stack s H [.ref a, u] [.ref a, y] _ E hr.in1 I.env0.in1 (.cons rfl (.cons ry .nil)) q) fun r s' hq => ?_
  cases r with
  | error e => exact (hx _ _ _ _ hq).elim
  | ok fl =>
    cases fl with
    | ret u =>
      obtain ⟨v, H', I2, rv, z, ev, q⟩ := I.after hq
      subst ev
      cases (show u = Value.bool z from rv)
      exact ⟨z, rfl, .bl (!z), H', I2, rfl, q⟩
    | next => exact False.elim hq
    | brk => exact False.elim hq
    | cont => exact False.elim hq
/-- repr(x) by an own __repr__ that answers a str -/
def rReprO (C : Addr) (sp : Sp) (E : XK) : List V → Hp → VK → Prop := fun xs H Q => ∃ a dx fs, xs = [.ref a] ∧ H a = some (.ins C dx fs) ∧ sp [.ref a] H (fun v H' => ∃ y : Str, v = .str y ∧ Q (.str y) H') E
theorem call_reprO (hs : PySem.W.findIn X.K (.ref C) "__repr__" = some (some (.ref g))) (hf : PySem.W.isFn X.K (.ref g) = true) (F : FnR X.prog X.w X.K X.mg X.base CX n g sp) (hr : Room (n + 1) X.A) (hx : ∀ (H : Hp) (s : Shared) (e : Value) (s' : Shared), CX X.stack H s E e s' → False) : CallR X (.builtin "repr") (rReprO C sp E) := by
  intro pins s σ H xs us Q I r h
  obtain ⟨a, dx, fs, rfl, ha, q⟩ := h
  obtain ⟨u, rfl, ru⟩ := vals1 r
  cases (show u = Value.ref a from ru)
  obtain ⟨_, _, J⟩ := inst_at I ha
  obtain ⟨m, hF⟩ := I.fr
  refine PySem.W.repr_K hr.in1.units0 hF I.ok.mod.kin J hs hf (wpAny_call ?_)
  refine codeAny_mono (F X.A.in1 X.stack s H [.ref a] [.ref a] _ E hr.in1 I.env0.in1 (.cons rfl .nil) q) fun r s' hq => ?_
  cases r with
  | error e => exact (hx _ _ _ _ hq).elim
  | ok fl =>
    cases fl with
    | ret u =>
      obtain ⟨v, H', I2, rv, y, ev, q⟩ := I.after hq
      subst ev
      obtain ⟨t, et⟩ := (show ∃ t, u = Value.str y t from rv)
      subst et
      exact ⟨.str y, H', I2.tok _, ⟨_, rfl⟩, q⟩
    | next => exact False.elim hq
    | brk => exact False.elim hq
    | cont => exact False.elim hq
/-- x[k] by an own __getitem__ -/
structure GetOk (K : PySem.W.Frag) (C g : Addr) : Prop where
  at_ : PySem.W.findIn K (.ref C) "__getitem__" = some (some (.ref g))
  fn : PySem.W.isFn K (.ref g) = true
  fi : PySem.W.fnIn K g = true
theorem pe_ixO (O : GetOk X.K C g) (F : FnR X.prog X.w X.K X.mg X.base CX n g sp) (hr : Room (n + 1) X.A) (hx : Passes CX X.nox E) (ha : PE X a ta) (hb : PE X b tb)
    (hsl : ∀ v u, subscripted b true v u = runValue (.builtin "lifetime.subscript" ⟨[v, u], []⟩) := by intro v u; with_unfolding_all rfl) : PE X (.Subscript a b pos) (tOp (rIxO C sp E) ta tb) := by
  refine ⟨fun pins s σ H Q I h => ?_⟩
  refine PyProof.Rows.Subscript_ (binT ha hb I h fun v u s2 x y H2 I2 rx ry q => ?_)
  obtain ⟨c, dx, fs, j, rfl, rfl, hc, q⟩ := q
  cases (show v = Value.ref c from rx)
  obtain ⟨t, ej⟩ := (show ∃ t, u = Value.int j t from ry)
  subst ej
  obtain ⟨_, _, J⟩ := inst_at I2 hc
  obtain ⟨m, hF⟩ := I2.fr
  refine PySem.W.sub_K hF I2.ok.mod.kin J O.at_ O.fi O.fn (wpAny_call ?_) (hsl _ _)
  refine codeAny_mono (F X.A.in1 X.stack s2 H2 [.ref c, .int j t] [.ref c, .int j] _ E hr.in1 I2.env0.in1 (.cons rfl (.cons ⟨t, rfl⟩ .nil)) q) fun r s' hq => ?_
  cases r with
  | error er => exact False.elim (hx pins σ H2 s2 er s' (I2.wish _) hq)
  | ok fl =>
    cases fl with
    | ret u =>
      obtain ⟨v, H', I3, rv, q3⟩ := I2.after hq
      exact ⟨v, H', I3, rv, q3⟩
    | next => exact False.elim hq
    | brk => exact False.elim hq
    | cont => exact False.elim hq
end
end Lk
namespace Lk
open PySem L2
/-- a def without defaults, by its promise as it stands -/
theorem fnr0 {P : Program} {w : World} {K : PySem.W.Frag} {mg : Str → Option Value} {base : Heap} {CX : CXT} {k : Nat} {f : Addr} {fd : FuncData} {ps : List Str} {sp : Sp} (F : FnOk P w K mg base CX k f fd ps sp) (hb : Binds K fd ps []) : FnR P w K mg base CX k f sp :=
  (F.raw hb .nil).imp fun vs H Q E h => by rw [List.append_nil]; exact h
end Lk
/-! ### x += y where the class has no def of its own for it -/
namespace PySem.W
open PySem PySem.Calls PyProof.Rows
section
variable {prog : Program} {w : World} {A : Around} {E : Value → Shared → Prop} {s : Shared} {K : Frag} {x C L f : Addr} {h₀ : Heap} {m : Str → Option Value} {ox : Obj} {od : Option Obj} {T : String}
theorem lk_bin1 {nm : String} {b : Value} {Q : Value → Shared → Prop} (F : Fr h₀ L s.heap m) (X₀ : K.In h₀) (I : InstAt s.heap x ox C od) (hb : Looks (model prog w) s.heap (typeOf b) (.ref C)) (hc : selfFirst K C = true)
    (hs : findIn K (.ref C) (PySem.dunder nm) = some (some (.ref f))) (hf : isFn K (.ref f) = true)
    (h : wpAny (model prog w) A (call (.ref f) [.ref x, b]) (CmpBack Q) E s) : wpAny (model prog w) A (binaryOp1 nm (.ref x) b) (fun r s' => ∃ v, r = some v ∧ Q v s') E s := by
  have X := X₀.keeps F.keep
  obtain ⟨cd, rest, hcd, hm⟩ := ksp_first hc
  unfold binaryOp1
  refine wpAny_bind (I.type.here (wpAny_bind (hb.here (wpAny_bind ((fills_K X hcd hm hs).here ?_)))))
  simp only [beq_self_eq_true, if_true]
  refine wpAny_bind (wpAny_pure ?_)
  simp only [Bool.and_false, Bool.false_eq_true, if_false, Bool.false_and]
  refine wpAny_bind (wpAny_pure ?_)
  simp only [Bool.false_eq_true, if_false]
  refine wpAny_bind (m := tryMethod (.ref x) _ b) ?_
  unfold tryMethod
  refine wpAny_bind (special_fn X I hs (beq_iff_eq.mp hf) (wpAny_mono h (fun v s' hv => ?_) fun _ _ e => e))
  cases v <;> first | exact hv.elim | exact wpAny_pure (wpAny_pure ⟨_, rfl, hv⟩)
theorem lk_bin1T {nm' : String} {b : Value} {fo ro rc : Option Value} {Q : Value → Shared → Prop} (F : Fr h₀ L s.heap m) (X₀ : K.In h₀) (I : InstAt s.heap x ox C od) (hb : typeOf b = pure (.type T)) (hc : selfFirst K C = true)
    (hs : findIn K (.ref C) (PySem.dunder nm') = some (some (.ref f))) (hf : isFn K (.ref f) = true) (hr : findIn K (.ref C) (dunderR nm') = some rc) (hp : rc = none ∨ ∃ g : Addr, rc = some (.ref g))
    (h1 : findIn K (.type T) (PySem.dunder nm') = some fo) (h2 : findIn K (.type T) (dunderR nm') = some ro) (hsub : subIn K (.type T) (.ref C) = some false)
    (h : wpAny (model prog w) A (call (.ref f) [.ref x, b]) (CmpBack Q) E s) : wpAny (model prog w) A (binaryOp1 nm' (.ref x) b) (fun r s' => ∃ v, r = some v ∧ Q v s') E s := by
  have X := X₀.keeps F.keep
  obtain ⟨cd, rest, hcd, hm⟩ := ksp_first hc
  have one := ksp_try X I hs hf h
  obtain ⟨hh, g, d, tt, os⟩ := s
  have L1 : Looks (model prog w) hh (typeOf (.ref x)) (.ref C) := I.type
  have L2 : Looks (model prog w) hh (typeOf b) (.type T) := Looks.of_pure hb
  have L3 : Looks (model prog w) hh (fillsNumberSlot (.ref C) nm') true := fills_K X hcd hm hs
  have L4 : Looks (model prog w) hh (fillsNumberSlot (.type T) nm') ((fo.isSome && !isSeqSlot fo) || (ro.isSome && !isSeqSlot ro)) := ksp_fillsT X h1 h2
  have L5 : Looks (model prog w) hh (isSubtype (.type T) (.ref C)) false := looks_subIn X hsub
  have L6 : Looks (model prog w) hh (numberSlotInPython (.ref C) nm') true := ksp_inPy X hs hr hp
  have L7 : Looks (model prog w) hh (numberSlotInPython (.type T) nm') false := Looks.of_pure rfl
  have L8 : Looks (model prog w) hh (typeLookup (.type T) (dunderR nm')) ro := looks_findIn X h2
  generalize ((fo.isSome && !isSeqSlot fo) || (ro.isSome && !isSeqSlot ro)) = right at L4
  have hne : (Value.ref C == Value.type T) = false := Bool.eq_false_iff.mpr fun q => by cases beq_iff_eq.mp q
  unfold binaryOp1
  refine wpAny_bind (L1.at (wpAny_bind (L2.at (wpAny_bind (L3.at ?_)))))
  simp only [hne, Bool.false_eq_true, if_false]
  cases right with
  | false =>
    ksp_lk
    refine wpAny_mono one (fun r s' hr' => ?_) fun _ _ e => e
    obtain ⟨v, rfl, hq⟩ := hr'
    ksp_lk
    exact ⟨_, rfl, hq⟩
  | true =>
    ksp_lk
    refine wpAny_mono one (fun r s' hr' => ?_) fun _ _ e => e
    obtain ⟨v, rfl, hq⟩ := hr'
    ksp_lk
    exact ⟨_, rfl, hq⟩
theorem lk_noI {M : Model} {h : Heap} {nm : String} {add : Bool} (X : K.In h) (hc : (clsIn K C).map (·.mro) = some [.ref C, .type "object"]) (h1 : findIn K (.ref C) (dunderI nm) = some none) (h2 : findIn K (.type "object") (dunderI nm) = some none) : Looks M h (fillsInplaceSlot (.ref C) nm add) false := by
  obtain ⟨cd, hcd, hm⟩ := Option.map_eq_some_iff.mp hc
  intro A Q E s k q
  have Lm : Looks M h (mroOf (.ref C)) cd.mro := (looks_clsIn X hcd).andThen (f := fun cd => pure cd.mro) .now
  have Lm' := Lm.keeps k
  obtain ⟨hh, g, d, tt, os⟩ := s
  have X' : K.In hh := X.keeps k
  have L1 : Looks M hh (typeLookup (.ref C) (dunderI nm)) none := looks_findIn X' h1
  have L2 : Looks M hh (typeLookup (.type "object") (dunderI nm)) none := looks_findIn X' h2
  unfold fillsInplaceSlot
  refine wpAny_bind (Lm'.at ?_)
  rw [hm, List.anyM_cons]
  refine wpAny_bind (wpAny_bind (L1.at ?_))
  refine wpAny_pure ?_
  simp only [Bool.false_eq_true, if_false]
  rw [List.anyM_cons]
  refine wpAny_bind (wpAny_bind (L2.at ?_))
  refine wpAny_pure ?_
  simp only [Bool.false_eq_true, if_false, List.anyM_nil]
  exact wpAny_pure q
theorem lk_inplace {op : Operator} {b : Value} {Q : Value → Shared → Prop} (F : Fr h₀ L s.heap m) (X₀ : K.In h₀) (I : InstAt s.heap x ox C od) (hc : (clsIn K C).map (·.mro) = some [.ref C, .type "object"]) (h1 : findIn K (.ref C) (dunderI op.info.2) = some none) (h2 : findIn K (.type "object") (dunderI op.info.2) = some none)
    (h : wpAny (model prog w) A (binaryOp1 op.info.2 (.ref x) b) (fun r s' => ∃ v, r = some v ∧ Q v s') E s) : wpAny (model prog w) A (inplaceOp op (.ref x) b) Q E s := by
  have X := X₀.keeps F.keep
  unfold inplaceOp
  refine wpAny_holding ?_
  refine wpAny_bind (I.type.here ?_)
  refine wpAny_bind ((lk_noI X hc h1 h2).here ?_)
  simp only [Bool.false_eq_true, if_false]
  refine wpAny_bind (wpAny_mono h (fun r s' hr' => ?_) fun _ _ e => e)
  obtain ⟨v, rfl, hq⟩ := hr'
  exact wpAny_pure hq
end
end PySem.W
namespace Lk
open PySem L2
section
variable {X : Cx} {CX : CXT} {n : Nat} {C g : Addr} {sp : Sp} {E : XK} {op : Operator}
structure InOk (K : PySem.W.Frag) (C : Addr) (nm : String) : Prop where
  mro : (PySem.W.clsIn K C).map (·.mro) = some [.ref C, .type "object"]
  own : PySem.W.findIn K (.ref C) (dunderI nm) = some none
  obj : PySem.W.findIn K (.type "object") (dunderI nm) = some none
theorem ip_bin (J : InOk X.K C op.info.2) (O : OpOk X.K C g op.info.2) (F : FnR X.prog X.w X.K X.mg X.base CX n g sp) (hr : Room n X.A) (hx : Passes CX X E) : PIp X op (rBin C sp E) := by
  intro pins s σ H x y v u Q I rx ry h
  obtain ⟨a, dx, fs, b, dy, gs, rfl, rfl, ha, hb, q⟩ := h
  cases (show v = Value.ref a from rx)
  cases (show u = Value.ref b from ry)
  obtain ⟨_, _, J1⟩ := inst_at I ha
  obtain ⟨_, _, J2⟩ := inst_at I hb
  obtain ⟨m, hF⟩ := I.fr
  refine PySem.W.lk_inplace hF I.ok.mod.kin J1 J.mro J.own J.obj (PySem.W.lk_bin1 hF I.ok.mod.kin J1 J2.type O.self O.at_ O.fn ?_)
  refine wpAny_mono (wpAny_call (run_fnR (us := [.ref a, .ref b]) (vs := [.ref a, .ref b]) F hr hx I (.cons rfl (.cons rfl .nil)) q)) (fun w s' z => ?_) fun _ _ x => x
  obtain ⟨z', H', I', rz, qz⟩ := z
  exact SlX.cmpback rz ⟨z', H', I', rz, qz⟩
theorem ip_binI (J : InOk X.K C op.info.2) (O : OpOk X.K C g op.info.2) (O2 : OpOkI X.K C op.info.2) (F : FnR X.prog X.w X.K X.mg X.base CX n g sp) (hr : Room n X.A) (hx : Passes CX X E) : PIp X op (rBinI C sp E) := by
  intro pins s σ H x y v u Q I rx ry h
  obtain ⟨a, dx, fs, j, rfl, rfl, ha, q⟩ := h
  cases (show v = Value.ref a from rx)
  obtain ⟨t, ej⟩ := (show ∃ t, u = Value.int j t from ry)
  subst ej
  obtain ⟨_, _, J1⟩ := inst_at I ha
  obtain ⟨m, hF⟩ := I.fr
  obtain ⟨rc, r1, r2⟩ := O2.r
  obtain ⟨fo, i1⟩ := O2.i1
  obtain ⟨ro, i2⟩ := O2.i2
  refine PySem.W.lk_inplace hF I.ok.mod.kin J1 J.mro J.own J.obj (PySem.W.lk_bin1T (T := "int") hF I.ok.mod.kin J1 rfl O.self O.at_ O.fn r1 r2 i1 i2 O2.sub ?_)
  refine wpAny_mono (wpAny_call (run_fnR (us := [.ref a, .int j t]) (vs := [.ref a, .int j]) F hr hx I (.cons rfl (.cons ⟨t, rfl⟩ .nil)) q)) (fun w s' z => ?_) fun _ _ x => x
  obtain ⟨z', H', I', rz, qz⟩ := z
  exact SlX.cmpback rz ⟨z', H', I', rz, qz⟩
end
end Lk
/-! rows of ints without zeros at the end; what stands at a place of a row -/
namespace Lk
def trimI (xs : List Int) : List Int := (xs.reverse.dropWhile (· == 0)).reverse
/-- the coefficient at a place, 0 behind the end -/
def co (xs : List Int) (k : Nat) : Int := xs.getD k 0
theorem dropWhile_all {α : Type} {p : α → Bool} : ∀ (l m : List α), (∀ x ∈ l, p x = true) → (l ++ m).dropWhile p = m.dropWhile p
  | [], m, _ => rfl
  | a :: l, m, h => by
    rw [List.cons_append, List.dropWhile_cons, if_pos (h a List.mem_cons_self)]
    exact dropWhile_all l m fun x hx => h x (List.mem_cons_of_mem _ hx)
theorem co_lt {xs : List Int} {k : Nat} (h : k < xs.length) : co xs k = xs[k] := by
  unfold co
  rw [List.getD_eq_getElem?_getD, List.getElem?_eq_getElem h]
  rfl
theorem co_ge {xs : List Int} {k : Nat} (h : xs.length ≤ k) : co xs k = 0 := by
  unfold co
  rw [List.getD_eq_getElem?_getD, List.getElem?_eq_none h]
  rfl
theorem co_get {xs : List Int} {k : Nat} {x : Int} (h : xs[k]? = some x) : co xs k = x := by
  unfold co
  rw [List.getD_eq_getElem?_getD, h]
  rfl
theorem trimI_of {xs : List Int} {n : Nat} (h : n ≤ xs.length) (hz : ∀ j, n ≤ j → j < xs.length → co xs j = 0) (hl : n = 0 ∨ co xs (n - 1) ≠ 0) : xs.take n = trimI xs := by
  have e : xs.reverse = (xs.drop n).reverse ++ (xs.take n).reverse := by
    rw [← List.reverse_append, List.take_append_drop]
  unfold trimI
  rw [e, dropWhile_all]
  · rcases hl with h0 | hl
    · subst h0
      rfl
    · have hn : 0 < n := by
        rcases Nat.eq_zero_or_pos n with h0 | h0
        · subst h0
          by_cases hx : 0 < xs.length
          · exact absurd (hz 0 (Nat.le_refl _) hx) hl
          · exact absurd (co_ge (by omega)) hl
        · exact h0
      have hlt : n - 1 < xs.length := by omega
      have e2 : xs.take n = xs.take (n - 1) ++ [xs[n - 1]] := by
        have := List.take_succ_eq_append_getElem hlt
        rw [show n - 1 + 1 = n by omega] at this
        exact this
      rw [co_lt hlt] at hl
      rw [e2, List.reverse_append, List.reverse_singleton, List.singleton_append, List.dropWhile_cons, if_neg (by simpa using hl), List.reverse_cons, List.reverse_reverse]
  · intro x hx
    obtain ⟨j, hj⟩ := List.getElem?_of_mem (List.mem_reverse.mp hx)
    rw [List.getElem?_drop] at hj
    have h2 := hz (n + j) (Nat.le_add_right _ _) (List.getElem?_eq_some_iff.mp hj).1
    rw [co_get hj] at h2
    rw [h2]
    rfl
/-- what is trimmed ends in no zero -/
theorem trimI_ex (xs : List Int) : ∃ n, n ≤ xs.length ∧ trimI xs = xs.take n ∧ (∀ j, n ≤ j → co xs j = 0) ∧ (n = 0 ∨ co xs (n - 1) ≠ 0) := by
  suffices h : ∀ m, m ≤ xs.length → (∀ j, m ≤ j → co xs j = 0) → ∃ n, n ≤ xs.length ∧ (∀ j, n ≤ j → co xs j = 0) ∧ (n = 0 ∨ co xs (n - 1) ≠ 0) by
    obtain ⟨n, h1, h2, h3⟩ := h xs.length (Nat.le_refl _) fun j hj => co_ge hj
    exact ⟨n, h1, (trimI_of h1 (fun j hj _ => h2 j hj) h3).symm, h2, h3⟩
  intro m
  induction m with
  | zero => exact fun _ h => ⟨0, Nat.zero_le _, h, .inl rfl⟩
  | succ m ih =>
    intro hm hz
    by_cases h0 : co xs m = 0
    · exact ih (by omega) fun j hj => by
        rcases Nat.eq_or_lt_of_le hj with e | e
        · exact e ▸ h0
        · exact hz j e
    · exact ⟨m + 1, hm, hz, .inr h0⟩
theorem co_take (xs : List Int) (n k : Nat) : co (xs.take n) k = if k < n then co xs k else 0 := by
  unfold co
  rw [List.getD_eq_getElem?_getD, List.getD_eq_getElem?_getD, List.getElem?_take]
  split <;> rfl
theorem co_trim (xs : List Int) (k : Nat) : co (trimI xs) k = co xs k := by
  obtain ⟨n, h1, h2, h3, _⟩ := trimI_ex xs
  rw [h2, co_take]
  split
  · rfl
  · exact (h3 k (by omega)).symm
theorem trim_last (xs : List Int) : (trimI xs).length = 0 ∨ co (trimI xs) ((trimI xs).length - 1) ≠ 0 := by
  obtain ⟨n, h1, h2, h3, h4⟩ := trimI_ex xs
  have hl : (trimI xs).length = n := by
    rw [h2, List.length_take]
    omega
  rw [hl, co_trim]
  exact h4
theorem trim_len (xs : List Int) : (trimI xs).length ≤ xs.length := by
  obtain ⟨n, h1, h2, _⟩ := trimI_ex xs
  rw [h2, List.length_take]
  omega
theorem ext_co {xs ys : List Int} (hl : xs.length = ys.length) (h : ∀ k, co xs k = co ys k) : xs = ys := by
  refine List.ext_getElem hl fun i h1 h2 => ?_
  rw [← co_lt h1, ← co_lt h2]
  exact h i
/-- rows with the same coefficients are the same when trimmed -/
theorem trim_ext {xs ys : List Int} (h : ∀ k, co xs k = co ys k) : trimI xs = trimI ys := by
  have hc : ∀ k, co (trimI xs) k = co (trimI ys) k := fun k => by rw [co_trim, co_trim, h]
  refine ext_co ?_ hc
  rcases Nat.lt_trichotomy (trimI xs).length (trimI ys).length with l | l | l
  · rcases trim_last ys with e | e
    · omega
    · exact absurd ((hc _).symm.trans (co_ge (by omega))) e
  · exact l
  · rcases trim_last xs with e | e
    · omega
    · exact absurd ((hc _).trans (co_ge (by omega))) e
theorem trim_id {xs : List Int} (h : xs.length = 0 ∨ co xs (xs.length - 1) ≠ 0) : trimI xs = xs := by
  rw [← trimI_of (Nat.le_refl _) (fun j h1 h2 => by omega) h, List.take_length]
theorem trim_trim (xs : List Int) : trimI (trimI xs) = trimI xs := trim_id (trim_last xs)
end Lk
/-! sequences of ints, instances of Poly as rows -/
namespace Lk
open PySem L2
def iVs (xs : List Int) : List V := xs.map V.int
theorem iVs_len (xs : List Int) : (iVs xs).length = xs.length := List.length_map ..
theorem iVs_get {xs : List Int} {j : Nat} (h : j < xs.length) : (iVs xs)[j]? = some (.int (co xs j)) := by
  unfold iVs
  rw [List.getElem?_map, List.getElem?_eq_getElem h, co_lt h]
  rfl
theorem iVs_cut (xs : List Int) (n : Nat) (h : n ≤ xs.length) : cutV (iVs xs) none (some (n : Int)) = iVs (xs.take n) := by
  unfold cutV iVs
  rw [show HT.sIx (xs.map V.int).length 0 none = 0 from rfl, HT.sIx_nat, List.length_map, List.drop_zero, List.map_take, Nat.min_eq_left h, Nat.sub_zero]
/-- a list or a tuple of ints -/
def SqI (K : PySem.W.Frag) (H : Hp) (a : Addr) (xs : List Int) : Prop := SqL K H a (iVs xs) ∨ SqT K H a (iVs xs)
section
variable {K : PySem.W.Frag} {H H' : Hp} {a p C : Addr} {xs row : List Int} {σ : L2.St} {ta tb tv : TE} {k : Int} {vs : List V}
theorem _root_.L2.Same.tup (e : Same H H') (h : SqT K H a vs) : SqT K H' a vs :=
  h.elim (fun h => .inl (h.elim (fun h => .inl (e _ _ h)) fun ⟨o, h⟩ => .inr ⟨o, e _ _ h⟩)) fun h => .inr h
theorem SqI.same (h : SqI K H a xs) (e : Same H H') : SqI K H' a xs := h.elim (fun h => .inl (e.seq h)) fun h => .inr (e.tup h)
theorem SqI.lst (h : H a = some (.lst (iVs xs))) : SqI K H a xs := .inl (.of h)
theorem SqI.tup (h : H a = some (.tup (iVs xs))) : SqI K H a xs := .inr (.of h)
theorem atI_iVs (h0 : 0 ≤ k) (h1 : k < xs.length) : atI (iVs xs) k = some (.int (co xs k.toNat)) := atI_of h0 (iVs_get (by omega))
theorem rix_I {Q : VK} (hs : SqI K H a xs) (h0 : 0 ≤ k) (h1 : k < xs.length) (q : Q (.int (co xs k.toNat)) H) : rIx K (.ref a) (.int k) H Q :=
  hs.elim (fun h => .inl ⟨a, _, k, _, rfl, rfl, h, atI_iVs h0 h1, q⟩) fun h => .inr (.inl ⟨a, _, k, _, rfl, rfl, h, atI_iVs h0 h1, q⟩)
theorem val_ixI (ha : Val ta σ H (.ref a)) (hb : Val tb σ H (.int k)) (hs : SqI K H a xs) (h0 : 0 ≤ k) (h1 : k < xs.length) : Val (tOp (rIx K) ta tb) σ H (.int (co xs k.toNat)) := fun Q q => ha _ (hb _ (rix_I hs h0 h1 q))
theorem val_ixLi (ha : Val ta σ H (.ref a)) (hb : Val tb σ H (.int k)) (hs : SqL K H a (iVs xs)) (h0 : 0 ≤ k) (h1 : k < xs.length) : Val (tOp (rIxL K) ta tb) σ H (.int (co xs k.toNat)) := val_ixL ha hb hs (atI_iVs h0 h1)
/-- an instance of the class C whose coefs is a tuple of ints -/
def PolyAt (K : PySem.W.Frag) (C : Addr) (H : Hp) (p : Addr) (row : List Int) : Prop := ∃ dx t, H p = some (.ins C dx [("coefs", .ref t)]) ∧ SqT K H t (iVs row)
theorem PolyAt.same (h : PolyAt K C H p row) (e : Same H H') : PolyAt K C H' p row := by
  obtain ⟨dx, t, h1, h2⟩ := h
  exact ⟨dx, t, e _ _ h1, e.tup h2⟩
/-- a comprehension over a range whose elements are ints, reckoned without heap change -/
theorem lcI {lo : Int} {n : Nat} {te : TE} {i : Nat} {H1 : Hp} {D : Addr} {Qd : Hp → Prop} (f : Nat → Int) (hD : H1 D = none) (hn : n ≤ sizeLine)
    (he : ∀ j H, j < n → Same H1 H → Val te ((wipe σ [i]).set i (some (.int (lo + j)))) H (.int (f j))) (hd : ∀ H, Same H1 H → H D = some (.lst (iVs ((List.range n).map f))) → Qd H) :
    ∃ W : Nat → Nat → Hp → Prop, (∃ m, W 0 m (upd H1 D (.lst []))) ∧ ∀ i' m H, W i' m H →
      ((Itr lo n).stop i' H ∧ Qd H) ∨ ((Itr lo n).go i' H ∧ ∃ Nx : Hp → Prop, (∀ H', Nx H' → ∃ m', m' < m ∧ W (i' + 1) m' H') ∧ ∀ x H', (Itr lo n).yld i' H x H' → gName i x (wipe σ [i]) H' fun σ2 H2 => wipe σ2 [i] = wipe σ [i] ∧ tYes σ2 H2 fun b H3 =>
        if b = true then te σ2 H3 fun y H4 => ∃ acc, H4 D = some (.lst acc) ∧ acc.length < sizeLine ∧ Nx (upd H4 D (.lst (acc ++ [y]))) else Nx H3) := by
  refine lc_range (fun j H => Same H1 H ∧ H D = some (.lst (iVs ((List.range j).map f)))) ⟨same_upd hD, upd_same⟩ ?_ ?_
  · rintro j H hj ⟨s1, h1⟩
    refine ⟨?_, ?_⟩
    · show wipe ((wipe σ [i]).set i _) [i] = wipe σ [i]
      show ((σ.set i none).set i _).set i none = σ.set i none
      rw [List.set_set, List.set_set]
    · refine he j H hj s1 (fun y H4 => ∃ acc, H4 D = some (.lst acc) ∧ acc.length < sizeLine ∧ Same H1 (upd H4 D (.lst (acc ++ [y]))) ∧ (upd H4 D (.lst (acc ++ [y]))) D = some (.lst (iVs ((List.range (j + 1)).map f)))) ⟨_, h1, ?_, ?_, ?_⟩
      · rw [iVs_len, List.length_map, List.length_range]
        omega
      · exact fun b o e => by rw [upd_ne (ne_of_none e hD)]; exact s1 b o e
      · rw [upd_same, List.range_succ, List.map_append]
        unfold iVs
        rw [List.map_append]
        rfl
  · rintro H ⟨s1, h1⟩
    exact hd H s1 h1
end
end Lk
namespace Lk
open PySem L2
section
variable {K : PySem.W.Frag} {H H' : Hp} {a o p t C dx : Addr} {xs ys row : List Int} {vs : List V} {fs : List (Str × V)} {σ : L2.St} {ta tb tv : TE} {k : Int} {E : XK}
theorem SqT.past (h : SqT K H t vs) (ho : H o = some (.ins C dx fs)) {u : HO} : SqT K (upd H o u) t vs := by
  rcases h with (h | ⟨w, h⟩) | h
  · exact .inl (.inl (by rw [upd_ne (fun e => by rw [e, ho] at h; cases h)]; exact h))
  · exact .inl (.inr ⟨w, by rw [upd_ne (fun e => by rw [e, ho] at h; cases h)]; exact h⟩)
  · exact .inr h
theorem SqT.ty (h : SqT K H t vs) : TyX K H (.ref t) (.type "tuple") := by
  rcases h with (h | ⟨w, h⟩) | ⟨w, its, n, h, hc, _⟩
  · exact .base (.tup h)
  · exact .fTuple h
  · exact .kTuple h hc
/-- Poly.__init__ -/
def spInit (K : PySem.W.Frag) (C : Addr) : Sp := fun vs H Q _ => ∃ (o p dx : Addr) (row : List Int), vs = [.ref o, .ref p] ∧ H o = some (.ins C dx []) ∧ SqT K H p (iVs row) ∧
  ∀ t H', (∀ b u, b ≠ o → H b = some u → H' b = some u) → H' o = some (.ins C dx [("coefs", .ref t)]) → SqT K H' t (iVs (trimI row)) → Q .non H'
/-- what the making of a Poly out of a row leaves -/
def Made (K : PySem.W.Frag) (C : Addr) (H : Hp) (row : List Int) (Q : VK) : Prop := ∀ p H', Same H H' → H p = none → PolyAt K C H' p row → Q (.ref p) H'
theorem make_row {Q : VK} (hl : row.length ≤ sizeLine) (k : Made K C H (trimI row) Q) (o dx : Addr) (ho : H o = none) (hd : H dx = none) (hne : dx ≠ o) :
    starSp 1 (spInit K C) (V.ref o :: iVs row) (upd (upd H dx (.own o)) o (.ins C dx [])) (fun v H2 => v = .non ∧ Q (.ref o) H2) E := by
  refine ⟨[.ref o], iVs row, rfl, rfl, by rw [iVs_len]; exact hl, fun p hp => ?_⟩
  have hpo : p ≠ o := fun e => by rw [e, upd_same] at hp; cases hp
  refine ⟨o, p, dx, row, rfl, ?_, SqT.of upd_same, fun t H' hk ho' ht => ⟨rfl, k o H' (fun b u e => ?_) ho ⟨dx, t, ho', ht⟩⟩⟩
  · rw [upd_ne hpo.symm]
    exact upd_same
  · have hbo := ne_of_none e ho
    have hbd := ne_of_none e hd
    have e2 : (upd (upd H dx (.own o)) o (.ins C dx [])) b = some u := by rw [upd_ne hbo, upd_ne hbd]; exact e
    exact hk b u hbo (kept e2 hp)
structure PolyC (K : PySem.W.Frag) (C : Addr) : Prop where
  cls : Cls K C
  na : NoAttr K C "coefs"
theorem val_coefs (P : PolyC K C) (ha : Val ta σ H (.ref o)) (hp : H o = some (.ins C dx [("coefs", .ref t)])) : Val (tFld K ta "coefs") σ H (.ref t) := fun Q q => ha _ ⟨o, C, dx, _, _, rfl, hp, P.cls, P.na, rfl, q⟩
theorem val_lenI (ha : Val ta σ H (.ref t)) (h : SqI K H t xs) : Val (tCB (fun xs H Q => ∃ p ys, xs = [V.ref p] ∧ (SqL K H p ys ∨ SqT K H p ys) ∧ Q (V.int ys.length) H) (tCons ta tNil)) σ H (.int xs.length) := fun Q q => ha _ ⟨t, _, rfl, h, by rw [iVs_len]; exact q⟩
/-- x[k] of a Poly -/
def coZ (row : List Int) (k : Int) : Int := if 0 ≤ k then co row k.toNat else 0
end
/-! ### == of rows -/
theorem dp_ints {K : PySem.W.Frag} {H : Hp} : ∀ xs : List Int, DpAll K H (iVs xs) (xs.map PyData.int)
  | [] => .nil
  | x :: xs => .cons (.int x) (dp_ints xs)
theorem dp_tup {K : PySem.W.Frag} {H : Hp} {t : Addr} {xs : List Int} (h : SqT K H t (iVs xs)) : Dp K H (.ref t) (.tuple (xs.map PyData.int)) := .tup h (dp_ints xs)
theorem dp_lst {K : PySem.W.Frag} {H : Hp} {t : Addr} {xs : List Int} (h : SqL K H t (iVs xs)) : Dp K H (.ref t) (.list (xs.map PyData.int)) := .lst h (dp_ints xs)
theorem eqv_all : ∀ xs ys : List Int, PyData.eqvAll (xs.map PyData.int) (ys.map PyData.int) = decide (xs = ys)
  | [], [] => rfl
  | [], _ :: _ => rfl
  | _ :: _, [] => rfl
  | x :: xs, y :: ys => by
    show (PyData.eqv (.int x) (.int y) && PyData.eqvAll (xs.map PyData.int) (ys.map PyData.int)) = _
    rw [eqv_all xs ys]
    show ((x == y) && _) = _
    by_cases h : x = y
    · subst h
      simp
    · simp [h]
theorem can_ints : ∀ xs : List Int, PyData.canLayAll0 (xs.map PyData.int) = true
  | [] => by simp [PyData.canLayAll0]
  | _ :: xs => by simp [PyData.canLayAll0, PyData.canLay0, can_ints xs]
theorem depth_ints : ∀ xs : List Int, PyData.depthAll (xs.map PyData.int) ≤ 1
  | [] => by simp [PyData.depthAll]
  | _ :: xs => by
    have := depth_ints xs
    simp only [List.map_cons, PyData.depthAll, PyData.depth]
    omega
theorem shaped_tup (xs : List Int) : SeqAt.shaped (.tuple (xs.map PyData.int)) = true := by
  have := depth_ints xs
  exact Bool.and_eq_true_iff.mpr ⟨by simp [PyData.canLay0, can_ints], decide_eq_true (by simp only [PyData.depth]; omega)⟩
theorem shaped_lst (xs : List Int) : SeqAt.shaped (.list (xs.map PyData.int)) = true := by
  have := depth_ints xs
  exact Bool.and_eq_true_iff.mpr ⟨by simp [PyData.canLay0, can_ints], decide_eq_true (by simp only [PyData.depth]; omega)⟩
section
variable {K : PySem.W.Frag} {H : Hp} {a b : Addr} {xs ys : List Int} {Q : VK}
theorem eqv_tup (xs ys : List Int) : PyData.eqv (.tuple (xs.map PyData.int)) (.tuple (ys.map PyData.int)) = decide (xs = ys) := eqv_all xs ys
theorem eqv_lst (xs ys : List Int) : PyData.eqv (.list (xs.map PyData.int)) (.list (ys.map PyData.int)) = decide (xs = ys) := eqv_all xs ys
theorem rEqT (ha : SqT K H a (iVs xs)) (hb : SqT K H b (iVs ys)) (k : Q (.bl (decide (xs = ys))) H) : rEqD K (.ref a) (.ref b) H Q := ⟨_, _, dp_tup ha, dp_tup hb, shaped_tup xs, shaped_tup ys, by rw [eqv_tup]; exact k⟩
theorem rEqL (ha : SqL K H a (iVs xs)) (hb : SqL K H b (iVs ys)) (k : Q (.bl (decide (xs = ys))) H) : rEqD K (.ref a) (.ref b) H Q := ⟨_, _, dp_lst ha, dp_lst hb, shaped_lst xs, shaped_lst ys, by rw [eqv_lst]; exact k⟩
theorem rNeL (ha : SqL K H a (iVs xs)) (hb : SqL K H b (iVs ys)) (k : Q (.bl (!decide (xs = ys))) H) : rNeD K (.ref a) (.ref b) H Q := ⟨_, _, dp_lst ha, dp_lst hb, shaped_lst xs, shaped_lst ys, by rw [eqv_lst]; exact k⟩
end
end Lk
namespace Lk
open PySem L2
theorem atI_last {xs : List Int} (h : 0 < xs.length) : atI (iVs xs) (-1) = some (.int (co xs (xs.length - 1))) := by
  unfold atI ixN
  rw [iVs_len, if_neg (by decide), if_pos (by omega)]
  show (iVs xs)[((-1 : Int) + xs.length).toNat]? = _
  rw [show ((-1 : Int) + xs.length).toNat = xs.length - 1 by omega]
  exact iVs_get (by omega)
theorem iVs_at {xs : List Int} {i : Nat} {y : V} (h : (iVs xs)[i]? = some y) : i < xs.length ∧ y = .int (co xs i) := by
  have hl : i < xs.length := by
    have := (List.getElem?_eq_some_iff.mp h).1
    rwa [iVs_len] at this
  rw [iVs_get hl] at h
  exact ⟨hl, (Option.some.inj h).symm⟩
end Lk
namespace Lk
open PySem L2
def tStrs (row : List Int) : List Str := row.map fun i => (Str.ofString (toString i))
def showP (row : List Int) : Str := Str.ofString "Poly(" ++ Txt.join (Str.ofString ", ") (tStrs row) ++ Str.ofString ")"
theorem tStrs_snoc (xs : List Int) (x : Int) : tStrs (xs ++ [x]) = tStrs xs ++ [Str.ofString (toString x)] := List.map_append
theorem tStrs_len {row : List Int} (hb : ∀ x ∈ row, x.natAbs.log2 < 1920) : ((tStrs row).map (·.length)).sum ≤ row.length * 1921 := by
  induction row with
  | nil => exact Nat.le_refl _
  | cons x xs ih =>
    have h1 := PyProof.Rows.int_text_len_1921 (hb x List.mem_cons_self)
    have h2 := ih fun y hy => hb y (List.mem_cons_of_mem _ hy)
    unfold tStrs at h2 ⊢
    simp only [List.map_cons, List.sum_cons, List.length_cons, Nat.succ_mul]
    omega
theorem tStrs_join {row : List Int} (hl : row.length ≤ 1000) (hb : ∀ x ∈ row, x.natAbs.log2 < 1920) :
    ((tStrs row).map (·.length)).sum + (tStrs row).length * (Str.ofString ", ").length ≤ 16777216 ∧ (Txt.join (Str.ofString ", ") (tStrs row)).length ≤ 2000000 := by
  have h1 := tStrs_len hb
  have h2 : (tStrs row).length = row.length := List.length_map ..
  have h3 : (Str.ofString ", ").length = 2 := by decide +kernel
  have h4 := StrLaws.join_length_le (Str.ofString ", ") (tStrs row)
  rw [h2, h3] at h4 ⊢
  refine ⟨by omega, ?_⟩
  show (Builtin.Str.glued _ _).length ≤ _
  rw [StrLaws.glued_eq_join]
  omega
end Lk
namespace Lk
open PySem L2
/-! what the defs of Poly and the laws' helpers promise -/
def spTrimmed (K : PySem.W.Frag) : Sp := fun vs H Q _ => ∃ (a : Addr) (row : List Int), vs = [.ref a] ∧ SqI K H a row ∧ ∀ t H', Same H H' → SqT K H' t (iVs (trimI row)) → Q (.ref t) H'
def spOf (K : PySem.W.Frag) (C : Addr) : Sp := fun vs H Q _ => ∃ (a : Addr) (row : List Int), vs = [.ref C, .ref a] ∧ SqI K H a row ∧ row.length ≤ sizeLine ∧ Made K C H (trimI row) Q
def spDegree (K : PySem.W.Frag) (C : Addr) : Sp := fun vs H Q _ => ∃ (p : Addr) (row : List Int), vs = [.ref p] ∧ PolyAt K C H p row ∧ Q (.int ((row.length : Int) - 1)) H
def spLen (K : PySem.W.Frag) (C : Addr) : Sp := fun vs H Q _ => ∃ (p : Addr) (row : List Int), vs = [.ref p] ∧ PolyAt K C H p row ∧ Q (.int (row.length : Int)) H
def spGet (K : PySem.W.Frag) (C : Addr) : Sp := fun vs H Q _ => ∃ (p : Addr) (row : List Int) (j : Int), vs = [.ref p, .int j] ∧ PolyAt K C H p row ∧ Q (.int (coZ row j)) H
def spEq (K : PySem.W.Frag) (C : Addr) : Sp := fun vs H Q _ => ∃ (p : Addr) (row : List Int) (y : V), vs = [.ref p, y] ∧ PolyAt K C H p row ∧
  ((∃ q row2, y = .ref q ∧ PolyAt K C H q row2 ∧ Q (.bl (decide (row = row2))) H) ∨ (∃ t, TyX K H y t ∧ PySem.W.kitOne K t (.ref C) = some false ∧ Q (.bl false) H))
def spRow (K : PySem.W.Frag) (C : Addr) : Sp := fun vs H Q _ => ∃ (p : Addr) (row : List Int), vs = [.ref p] ∧ PolyAt K C H p row ∧ trimI row = row ∧ ∀ l, H l = none → Q (.ref l) (upd H l (.lst (iVs row)))
def spTrim (K : PySem.W.Frag) : Sp := fun vs H Q _ => ∃ (a : Addr) (row : List Int), vs = [.ref a] ∧ SqL K H a (iVs row) ∧ row.length < 2 ^ 24 ∧ ∀ l H', Same H H' → H l = none → H' l = some (.lst (iVs (trimI row))) → Q (.ref l) H'
def spCoefs : Sp := fun vs H Q _ => ∃ b c, vs = [.ref b] ∧ BoxAt H b c ∧ ∀ p row H', row.length ≤ 7 → (∀ x ∈ row, x.natAbs ≤ 10 ^ 20) → H p = none → BoxAt H' b c → Ext b c H H' → H' p = some (.lst (iVs row)) → Q (.ref p) H'
def spRepr (K : PySem.W.Frag) (C : Addr) : Sp := fun vs H Q _ => ∃ (p : Addr) (row : List Int), vs = [.ref p] ∧ PolyAt K C H p row ∧ row.length ≤ 1000 ∧ (∀ x ∈ row, x.natAbs.log2 < 1920) ∧ ∀ H', Same H H' → Q (.str (showP row)) H'
def spShown (K : PySem.W.Frag) : Sp := fun vs H Q _ => ∃ (a : Addr) (row : List Int), vs = [.ref a] ∧ SqL K H a (iVs row) ∧ row.length ≤ 1000 ∧ (∀ x ∈ row, x.natAbs.log2 < 1920) ∧ ∀ H', Same H H' → Q (.str (showP row)) H'
end Lk
namespace Lk
open PySem L2
section
variable {K : PySem.W.Frag} {H : Hp} {l p t C : Addr} {vs ys : List V} {row : List Int} {u : HO}
theorem SqT.pastL (h : SqT K H t vs) (ho : H l = some (.lst ys)) : SqT K (upd H l u) t vs := by
  rcases h with (h | ⟨w, h⟩) | h
  · exact .inl (.inl (by rw [upd_ne (fun e => by rw [e, ho] at h; cases h)]; exact h))
  · exact .inl (.inr ⟨w, by rw [upd_ne (fun e => by rw [e, ho] at h; cases h)]; exact h⟩)
  · exact .inr h
theorem PolyAt.pastL (h : PolyAt K C H p row) (ho : H l = some (.lst ys)) : PolyAt K C (upd H l u) p row := by
  obtain ⟨dx, t, h1, h2⟩ := h
  exact ⟨dx, t, by rw [upd_ne (fun e => by rw [e, ho] at h1; cases h1)]; exact h1, SqT.pastL h2 ho⟩
theorem iVs_app (xs ys : List Int) : iVs (xs ++ ys) = iVs xs ++ iVs ys := List.map_append
end
end Lk
namespace Lk
open PySem L2
theorem iVs_cutE (xs : List Int) (lo hi : Option Int) : ∃ zs : List Int, cutV (iVs xs) lo hi = iVs zs ∧ zs.length ≤ xs.length := by
  have e : cutV (iVs xs) lo hi = iVs ((xs.drop (HT.sIx (iVs xs).length 0 lo)).take (HT.sIx (iVs xs).length (iVs xs).length hi - HT.sIx (iVs xs).length 0 lo)) := by
    unfold cutV iVs
    rw [List.map_take, List.map_drop]
  refine ⟨_, e, ?_⟩
  rw [List.length_take, List.length_drop]
  omega
end Lk
/-! what an expression comes to when it may lay new objects: a property of the value -/
namespace Lk
open PySem L2
/-- te comes to a value with R; the heap only grows -/
def EvR (te : TE) (σ : L2.St) (H : Hp) (R : Hp → V → Prop) : Prop := ∀ H1, Same H H1 → ∀ Q : VK, (∀ v H2, Same H1 H2 → R H2 v → Q v H2) → te σ H1 Q
/-- kept by growth -/
class Up (R : Hp → V → Prop) : Prop where
  up : ∀ {H H' : Hp} {v : V}, Same H H' → R H v → R H' v
def isV (v : V) : Hp → V → Prop := fun _ u => u = v
def isL (K : PySem.W.Frag) (row : List Int) : Hp → V → Prop := fun H v => ∃ p, v = .ref p ∧ SqL K H p (iVs row)
def isT (K : PySem.W.Frag) (row : List Int) : Hp → V → Prop := fun H v => ∃ p, v = .ref p ∧ SqT K H p (iVs row)
def isP (K : PySem.W.Frag) (C : Addr) (row : List Int) : Hp → V → Prop := fun H v => ∃ p, v = .ref p ∧ PolyAt K C H p row
instance {v : V} : Up (isV v) := ⟨fun _ h => h⟩
instance {K : PySem.W.Frag} {row : List Int} : Up (isL K row) := ⟨fun e ⟨p, h1, h2⟩ => ⟨p, h1, e.seq h2⟩⟩
instance {K : PySem.W.Frag} {row : List Int} : Up (isT K row) := ⟨fun e ⟨p, h1, h2⟩ => ⟨p, h1, e.tup h2⟩⟩
instance {K : PySem.W.Frag} {C : Addr} {row : List Int} : Up (isP K C row) := ⟨fun e ⟨p, h1, h2⟩ => ⟨p, h1, h2.same e⟩⟩
section
variable {K : PySem.W.Frag} {C : Addr} {σ : L2.St} {H H' : Hp} {ta tb te : TE} {R S T : Hp → V → Prop} {v w : V} {r : R2} {row row2 xs ys : List Int} {i : Nat} {E : XK} {sp : Sp} {n : Int}
theorem EvR.mono (h : EvR te σ H R) (e : Same H H') : EvR te σ H' R := fun H1 e1 => h H1 (e.trans e1)
theorem EvR.imp (h : EvR te σ H R) (k : ∀ H v, R H v → S H v) : EvR te σ H S := fun H1 e1 Q q => h H1 e1 Q fun v H2 e2 r => q v H2 e2 (k _ _ r)
theorem er_var [Up R] (h : σ[i]? = some (some v)) (hr : R H v) : EvR (tVar i) σ H R := fun H1 e Q q => ⟨v, h, q v H1 (Same.refl _) (Up.up e hr)⟩
theorem er_c : EvR (tC v) σ H (isV v) := fun H1 _ Q q => q v H1 (Same.refl _) rfl
theorem er_ev (h : EvR te σ H (isV v)) : Evl.Ev te σ H v := fun H1 e Q q => h H1 e Q fun u H2 e2 r => (show u = v from r) ▸ q H2 e2
theorem er_of (h : Evl.Ev te σ H v) : EvR te σ H (isV v) := fun H1 e Q q => h H1 e Q fun H2 e2 => q v H2 e2 rfl
theorem er_val (h : ∀ H1, Same H H1 → Val te σ H1 v) : EvR te σ H (isV v) := fun H1 e Q q => h H1 e Q (q v H1 (Same.refl _) rfl)
theorem er_op [Up R] (ha : EvR ta σ H R) (hb : EvR tb σ H S) (hr : ∀ H1 x y, Same H H1 → R H1 x → S H1 y → ∀ Q : VK, (∀ v H2, Same H1 H2 → T H2 v → Q v H2) → r x y H1 Q) : EvR (tOp r ta tb) σ H T := fun H1 e Q q =>
  ha H1 e _ fun x H2 e2 hx => hb H2 (e.trans e2) _ fun y H3 e3 hy => hr H3 x y ((e.trans e2).trans e3) (Up.up e3 hx) hy Q fun z H4 e4 hz => q z H4 ((e2.trans e3).trans e4) hz
theorem er_un {r : V → Hp → VK → Prop} (ha : EvR ta σ H R) (hr : ∀ H1 x, R H1 x → ∀ Q : VK, (∀ v H2, Same H1 H2 → T H2 v → Q v H2) → r x H1 Q) : EvR (tUn r ta) σ H T := fun H1 e Q q =>
  ha H1 e _ fun x H2 e2 hx => hr H2 x hx Q fun z H4 e4 hz => q z H4 (e2.trans e4) hz
theorem er_cb1 {r : List V → Hp → VK → Prop} (ha : EvR ta σ H R) (hr : ∀ H1 x, R H1 x → ∀ Q : VK, (∀ v H2, Same H1 H2 → T H2 v → Q v H2) → r [x] H1 Q) : EvR (tCB r (tCons ta tNil)) σ H T := fun H1 e Q q =>
  ha H1 e _ fun x H2 e2 hx => hr H2 x hx Q fun z H4 e4 hz => q z H4 (e2.trans e4) hz
theorem er_call1 (ha : EvR ta σ H R) (hr : ∀ H1 x, R H1 x → ∀ Q : VK, (∀ v H2, Same H1 H2 → T H2 v → Q v H2) → sp [x] H1 Q E) : EvR (tCall sp [] E (tCons ta tNil)) σ H T := fun H1 e Q q =>
  ha H1 e _ fun x H2 e2 hx => hr H2 x hx Q fun z H4 e4 hz => q z H4 (e2.trans e4) hz
theorem er_call2 [Up R] (ha : EvR ta σ H R) (hb : EvR tb σ H S) (hr : ∀ H1 x y, R H1 x → S H1 y → ∀ Q : VK, (∀ v H2, Same H1 H2 → T H2 v → Q v H2) → sp [x, y] H1 Q E) : EvR (tCall sp [] E (tCons ta (tCons tb tNil))) σ H T := fun H1 e Q q =>
  ha H1 e _ fun x H2 e2 hx => hb H2 (e.trans e2) _ fun y H3 e3 hy => hr H3 x y (Up.up e3 hx) hy Q fun z H4 e4 hz => q z H4 ((e2.trans e3).trans e4) hz
theorem er_int {f : Int → Int → Int} {a b : Int} (ha : EvR ta σ H (isV (.int a))) (hb : EvR tb σ H (isV (.int b))) : EvR (tOp (rI0 fun i j => .int (f i j)) ta tb) σ H (isV (.int (f a b))) :=
  er_op ha hb fun H1 x y _ hx hy Q q => ⟨a, b, hx, hy, q _ H1 (Same.refl _) rfl⟩
theorem er_ne (ha : EvR ta σ H (isV v)) (hb : EvR tb σ H (isV w)) (hs : scal v w = true) : EvR (tOp rNe ta tb) σ H (isV (.bl (!decide (v = w)))) :=
  er_op ha hb fun H1 x y _ hx hy Q q => by
    cases (show x = v from hx)
    cases (show y = w from hy)
    exact ⟨hs, q _ H1 (Same.refl _) rfl⟩
theorem er_eq (ha : EvR ta σ H (isV v)) (hb : EvR tb σ H (isV w)) (hs : scal v w = true) : EvR (tOp rEq ta tb) σ H (isV (.bl (decide (v = w)))) :=
  er_op ha hb fun H1 x y _ hx hy Q q => by
    cases (show x = v from hx)
    cases (show y = w from hy)
    exact ⟨hs, q _ H1 (Same.refl _) rfl⟩
theorem er_isB {a b : Bool} (ha : EvR ta σ H (isV (.bl a))) (hb : EvR tb σ H (isV (.bl b))) : EvR (tOp rIsB ta tb) σ H (isV (.bl (decide (a = b)))) := er_op ha hb fun H1 x y _ hx hy Q q => ⟨a, b, hx, hy, q _ H1 (Same.refl _) rfl⟩
theorem er_notB {a b : Bool} (ha : EvR ta σ H (isV (.bl a))) (hb : EvR tb σ H (isV (.bl b))) : EvR (tOp rNotB ta tb) σ H (isV (.bl (!decide (a = b)))) := er_op ha hb fun H1 x y _ hx hy Q q => ⟨a, b, hx, hy, q _ H1 (Same.refl _) rfl⟩
/-! lists and tuples of ints -/
theorem er_neL (ha : EvR ta σ H (isL K xs)) (hb : EvR tb σ H (isL K ys)) : EvR (tOp (rNeD K) ta tb) σ H (isV (.bl (!decide (xs = ys)))) :=
  er_op ha hb fun H1 _ _ _ ⟨p, ex, hx⟩ ⟨q, ey, hy⟩ Q k => by
    subst ex; subst ey
    exact rNeL hx hy (k _ H1 (Same.refl _) rfl)
theorem er_eqL (ha : EvR ta σ H (isL K xs)) (hb : EvR tb σ H (isL K ys)) : EvR (tOp (rEqD K) ta tb) σ H (isV (.bl (decide (xs = ys)))) :=
  er_op ha hb fun H1 _ _ _ ⟨p, ex, hx⟩ ⟨q, ey, hy⟩ Q k => by
    subst ex; subst ey
    exact rEqL hx hy (k _ H1 (Same.refl _) rfl)
theorem er_lenL (ha : EvR ta σ H (isL K xs)) : EvR (tCB (fun xs H Q => ∃ p ys, xs = [V.ref p] ∧ (SqL K H p ys ∨ SqT K H p ys) ∧ Q (V.int ys.length) H) (tCons ta tNil)) σ H (isV (.int xs.length)) :=
  er_cb1 ha fun H1 _ ⟨p, ex, hx⟩ Q k => ⟨p, _, by rw [ex], .inl hx, by rw [iVs_len]; exact k _ H1 (Same.refl _) rfl⟩
theorem er_list (ha : EvR ta σ H (isL K xs)) : EvR (tCB (fun xs H Q => ∃ p ys, xs = [V.ref p] ∧ (SqL K H p ys ∨ SqT K H p ys) ∧ ∀ l, H l = none → Q (V.ref l) (upd H l (.lst ys))) (tCons ta tNil)) σ H (isL K xs) :=
  er_cb1 ha fun H1 _ ⟨p, ex, hx⟩ Q k => ⟨p, _, by rw [ex], .inl hx, fun l hl => k _ _ (same_upd hl) ⟨l, rfl, SqL.of upd_same⟩⟩
theorem er_tuple (ha : EvR ta σ H (isL K xs)) : EvR (tCB (fun xs H Q => ∃ p ys, xs = [V.ref p] ∧ ((SqL K H p ys ∧ ∀ l, H l = none → Q (V.ref l) (upd H l (.tup ys))) ∨ (SqT K H p ys ∧ Q (V.ref p) H))) (tCons ta tNil)) σ H (isT K xs) :=
  er_cb1 ha fun H1 _ ⟨p, ex, hx⟩ Q k => ⟨p, _, by rw [ex], .inl ⟨hx, fun l hl => k _ _ (same_upd hl) ⟨l, rfl, SqT.of upd_same⟩⟩⟩
theorem er_lst {t : TA} (ha : ∀ H1, Same H H1 → ValA t σ H1 (iVs xs)) (hl : xs.length ≤ sizeLine) : EvR (tLst t) σ H (isL K xs) := fun H1 e Q q =>
  ha H1 e _ ⟨by rw [iVs_len]; exact hl, fun p hp => q _ _ (same_upd hp) ⟨p, rfl, SqL.of upd_same⟩⟩
/-! polynomials -/
theorem er_row (ha : EvR ta σ H (isP K C row)) (ht : trimI row = row) : EvR (tCall (spRow K C) [] E (tCons ta tNil)) σ H (isL K row) :=
  er_call1 ha fun H1 _ ⟨p, ex, hx⟩ Q k => ⟨p, row, by rw [ex], hx, ht, fun l hl => k _ _ (same_upd hl) ⟨l, rfl, SqL.of upd_same⟩⟩
theorem er_trim (ha : EvR ta σ H (isL K row)) (hl : row.length < 2 ^ 24) : EvR (tCall (spTrim K) [] E (tCons ta tNil)) σ H (isL K (trimI row)) :=
  er_call1 ha fun H1 _ ⟨p, ex, hx⟩ Q k => ⟨p, row, by rw [ex], hx, hl, fun l H2 s2 _ h2 => k _ _ s2 ⟨l, rfl, SqL.of h2⟩⟩
theorem er_polyOf (ha : EvR ta σ H (fun H v => ∃ p, v = .ref p ∧ SqI K H p row)) (hl : row.length ≤ sizeLine) : EvR (ClX.tCMeth C (spOf K C) E (tC (.ref C)) (tCons ta tNil)) σ H (isP K C (trimI row)) := fun H1 e Q q =>
  ⟨rfl, ha H1 e _ fun x H2 e2 ⟨p, ex, hx⟩ => ⟨p, row, by rw [ex], hx, hl, fun o H3 s3 _ ho => q _ H3 (e2.trans s3) ⟨o, rfl, ho⟩⟩⟩
theorem isL_I {H : Hp} {v : V} (h : isL K row H v) : ∃ p, v = .ref p ∧ SqI K H p row := let ⟨p, e, h⟩ := h; ⟨p, e, .inl h⟩
theorem isT_I {H : Hp} {v : V} (h : isT K row H v) : ∃ p, v = .ref p ∧ SqI K H p row := let ⟨p, e, h⟩ := h; ⟨p, e, .inr h⟩
theorem er_lenP (ha : EvR ta σ H (isP K C row)) (hl : row.length < 2 ^ 62) : EvR (tCB (rLenO C (spLen K C) E) (tCons ta tNil)) σ H (isV (.int row.length)) :=
  er_cb1 ha fun H1 _ ⟨p, ex, hx⟩ Q k => by
    obtain ⟨dx, t, h1, h2⟩ := id hx
    exact ⟨p, dx, _, by rw [ex], h1, p, row, rfl, hx, row.length, rfl, by omega, by omega, k _ H1 (Same.refl _) rfl⟩
theorem er_degree (ha : EvR ta σ H (isP K C row)) : EvR (tProp C (spDegree K C) [] E ta) σ H (isV (.int ((row.length : Int) - 1))) := fun H1 e Q q =>
  ha H1 e _ fun x H2 e2 ⟨p, ex, hx⟩ => by
    obtain ⟨dx, t, h1, h2⟩ := id hx
    exact ⟨p, dx, _, ex, h1, p, row, rfl, hx, q _ H2 e2 rfl⟩
theorem er_repr (ha : EvR ta σ H (isP K C row)) (hl : row.length ≤ 1000) (hb : ∀ x ∈ row, x.natAbs.log2 < 1920) : EvR (tCB (rReprO C (spRepr K C) E) (tCons ta tNil)) σ H (isV (.str (showP row))) :=
  er_cb1 ha fun H1 _ ⟨p, ex, hx⟩ Q k => by
    obtain ⟨dx, t, h1, h2⟩ := id hx
    exact ⟨p, dx, _, by rw [ex], h1, p, row, rfl, hx, hl, hb, fun H2 s2 => ⟨_, rfl, k _ H2 s2 rfl⟩⟩
theorem er_shown (ha : EvR ta σ H (isL K row)) (hl : row.length ≤ 1000) (hb : ∀ x ∈ row, x.natAbs.log2 < 1920) : EvR (tCall (spShown K) [] E (tCons ta tNil)) σ H (isV (.str (showP row))) :=
  er_call1 ha fun H1 _ ⟨p, ex, hx⟩ Q k => ⟨p, row, by rw [ex], hx, hl, hb, fun H2 s2 => k _ H2 s2 rfl⟩
theorem er_get (ha : EvR ta σ H (isP K C row)) (hb : EvR tb σ H (isV (.int n))) : EvR (tOp (rIxO C (spGet K C) E) ta tb) σ H (isV (.int (coZ row n))) :=
  er_op ha hb fun H1 _ _ _ ⟨p, ex, hx⟩ hy Q k => by
    obtain ⟨dx, t, h1, h2⟩ := id hx
    exact ⟨p, dx, _, n, ex, hy, h1, p, row, n, by rw [ex, show _ = V.int n from hy], hx, k _ H1 (Same.refl _) rfl⟩
structure PolyE (K : PySem.W.Frag) (C : Addr) : Prop where
  ty : ∀ {H : Hp} {p dx : Addr} {fs : List (Str × V)}, H p = some (.ins C dx fs) → TyX K H (.ref p) (.ref C)
  nf : PySem.W.notFirst K C (.ref C) = true
theorem er_eqP (P : PolyE K C) (ha : EvR ta σ H (isP K C row)) (hb : EvR tb σ H (isP K C row2)) : EvR (tOp (rEqO K C (spEq K C) E) ta tb) σ H (isV (.bl (decide (row = row2)))) :=
  er_op ha hb fun H1 _ _ _ ⟨p, ex, hx⟩ ⟨q, ey, hy⟩ Q k => by
    subst ex; subst ey
    obtain ⟨dx, t, h1, h2⟩ := id hx
    obtain ⟨dx', t', h1', h2'⟩ := id hy
    exact ⟨p, dx, _, _, rfl, h1, P.ty h1', P.nf, p, row, _, rfl, hx, .inl ⟨q, row2, rfl, hy, k _ H1 (Same.refl _) rfl⟩⟩
theorem er_neP (P : PolyE K C) (ha : EvR ta σ H (isP K C row)) (hb : EvR tb σ H (isP K C row2)) : EvR (tOp (rNeO K C (spEq K C) E) ta tb) σ H (isV (.bl (!decide (row = row2)))) :=
  er_op ha hb fun H1 _ _ _ ⟨p, ex, hx⟩ ⟨q, ey, hy⟩ Q k => by
    subst ex; subst ey
    obtain ⟨dx, t, h1, h2⟩ := id hx
    obtain ⟨dx', t', h1', h2'⟩ := id hy
    exact ⟨p, dx, _, _, rfl, h1, P.ty h1', P.nf, p, row, _, rfl, hx, .inl ⟨q, row2, rfl, hy, _, rfl, k _ H1 (Same.refl _) rfl⟩⟩
/-- == and != with what is no polynomial -/
def NotP (K : PySem.W.Frag) (C : Addr) (R : Hp → V → Prop) : Prop := ∀ H x, R H x → ∃ t, TyX K H x t ∧ PySem.W.notFirst K C t = true ∧ PySem.W.kitOne K t (.ref C) = some false
theorem er_eqX (N : NotP K C R) (ha : EvR ta σ H (isP K C row)) (hb : EvR tb σ H R) : EvR (tOp (rEqO K C (spEq K C) E) ta tb) σ H (isV (.bl false)) :=
  er_op ha hb fun H1 _ y _ ⟨p, ex, hx⟩ hy Q k => by
    subst ex
    obtain ⟨dx, t, h1, h2⟩ := id hx
    obtain ⟨ty, n1, n2, n3⟩ := N _ _ hy
    exact ⟨p, dx, _, ty, rfl, h1, n1, n2, p, row, _, rfl, hx, .inr ⟨ty, n1, n3, k _ H1 (Same.refl _) rfl⟩⟩
theorem er_neX (N : NotP K C R) (ha : EvR ta σ H (isP K C row)) (hb : EvR tb σ H R) : EvR (tOp (rNeO K C (spEq K C) E) ta tb) σ H (isV (.bl true)) :=
  er_op ha hb fun H1 _ y _ ⟨p, ex, hx⟩ hy Q k => by
    subst ex
    obtain ⟨dx, t, h1, h2⟩ := id hx
    obtain ⟨ty, n1, n2, n3⟩ := N _ _ hy
    exact ⟨p, dx, _, ty, rfl, h1, n1, n2, p, row, _, rfl, hx, .inr ⟨ty, n1, n3, _, rfl, k _ H1 (Same.refl _) rfl⟩⟩
end
end Lk
namespace Lk
open PySem L2
theorem SqL.ty {K : PySem.W.Frag} {H : Hp} {a : Addr} {vs : List V} (h : SqL K H a vs) : TyX K H (.ref a) (.type "list") := by
  rcases h with (h | ⟨w, h⟩) | ⟨w, its, n, h, hc, _⟩
  · exact .base (.lst h)
  · exact .base (.frz h)
  · exact .kList h hc
theorem er_makeR {K : PySem.W.Frag} {C : Addr} {σ : L2.St} {H : Hp} {E : XK} {t : TA} {row : List Int} (ha : ∀ H1, Same H H1 → ValA t σ H1 (iVs row)) (hl : row.length ≤ sizeLine) : EvR (StX.tMakeR C (starSp 1 (spInit K C)) E t) σ H (isP K C (trimI row)) := fun H1 e Q q =>
  ha H1 e _ fun o dx ho hd hne => make_row hl (fun p H' s' _ hp => q _ H' s' ⟨p, rfl, hp⟩) o dx ho hd hne
theorem er_cat {K : PySem.W.Frag} {σ : L2.St} {H : Hp} {ta tb : TE} {xs ys : List V} (ha : EvR ta σ H (fun H v => ∃ p, v = .ref p ∧ H p = some (.lst xs))) (hb : EvR tb σ H (fun H v => ∃ p, v = .ref p ∧ H p = some (.lst ys))) (hl : xs.length + ys.length ≤ sizeLine) :
    EvR (tOp rCat ta tb) σ H (fun H v => ∃ p, v = .ref p ∧ H p = some (.lst (xs ++ ys))) :=
  @er_op σ H ta tb (fun H v => ∃ p, v = .ref p ∧ H p = some (.lst xs)) _ _ rCat ⟨fun e ⟨p, h1, h2⟩ => ⟨p, h1, e _ _ h2⟩⟩ ha hb fun H1 x y _ ⟨p, ex, hx⟩ ⟨q, ey, hy⟩ Q k => ⟨p, q, xs, ys, ex, ey, hx, hy, hl, fun r hr => k _ _ (same_upd hr) ⟨r, rfl, upd_same⟩⟩
end Lk
namespace Lk
open PySem L2
/-- a list of ints of the run's own -/
def isN (row : List Int) : Hp → V → Prop := fun H v => ∃ p, v = .ref p ∧ H p = some (.lst (iVs row))
instance {row : List Int} : Up (isN row) := ⟨fun e ⟨p, h1, h2⟩ => ⟨p, h1, e _ _ h2⟩⟩
theorem isN_L {K : PySem.W.Frag} {row : List Int} {H : Hp} {v : V} (h : isN row H v) : isL K row H v := let ⟨p, e, h⟩ := h; ⟨p, e, SqL.of h⟩
section
variable {K : PySem.W.Frag} {C : Addr} {σ : L2.St} {H H' : Hp} {ta tb te : TE} {R S T : Hp → V → Prop} {v w : V} {row row2 xs ys : List Int} {E : XK} {n : Int} {b : Bool}
theorem er_nl {t : TA} (ha : ∀ H1, Same H H1 → ValA t σ H1 (iVs xs)) (hl : xs.length ≤ sizeLine) : EvR (tLst t) σ H (isN xs) := fun H1 e Q q =>
  ha H1 e _ ⟨by rw [iVs_len]; exact hl, fun p hp => q _ _ (same_upd hp) ⟨p, rfl, upd_same⟩⟩
theorem er_catN (ha : EvR ta σ H (isN xs)) (hb : EvR tb σ H (isN ys)) (hl : xs.length + ys.length ≤ sizeLine) : EvR (tOp rCat ta tb) σ H (isN (xs ++ ys)) :=
  er_op ha hb fun H1 x y _ ⟨p, ex, hx⟩ ⟨q, ey, hy⟩ Q k => ⟨p, q, _, _, ex, ey, hx, hy, by rw [iVs_len, iVs_len]; exact hl, fun r hr => k _ _ (same_upd hr) ⟨r, rfl, by rw [upd_same, iVs_app]⟩⟩
theorem er_ixL (ha : EvR ta σ H (isL K xs)) (hb : EvR tb σ H (isV (.int n))) (h0 : 0 ≤ n) (h1 : n < xs.length) : EvR (tOp (rIxL K) ta tb) σ H (isV (.int (co xs n.toNat))) :=
  er_op ha hb fun H1 x y _ ⟨p, ex, hx⟩ hy Q k => ⟨p, _, n, _, ex, hy, hx, atI_iVs h0 h1, k _ H1 (Same.refl _) rfl⟩
theorem er_isInt (ha : EvR ta σ H (isV (.int n))) {sp : Sp} (hs : ∀ H1 (Q : VK), Q (.bl true) H1 → sp [V.int n] H1 Q E) : EvR (tCall sp [] E (tCons ta tNil)) σ H (isV (.bl true)) :=
  er_call1 ha fun H1 x hx Q k => by
    cases (show x = _ from hx)
    exact hs H1 Q (k _ H1 (Same.refl _) rfl)
theorem t_no (h : EvR te σ H (isV (.bl b))) (e : b = false) : Evl.EvT (tTest te) σ H false := Evl.et_is (Evl.et_test (er_ev h)) e
theorem t_notB (h : EvR te σ H (isV (.bl b))) (e : b = true) : Evl.EvT (tNot (tB te)) σ H false := Evl.et_is (Evl.et_not (Evl.et_B (er_ev h))) (by rw [e]; rfl)
end
end Lk
namespace Pf
open PySem L2 Lk
def top (i : Nat) : Stmt := PySem.Challenge.pw_lookstop_k05_polynomials.main.body.getD i (.Pass ⟨0, 0, 0, 0⟩)
abbrev s_trimmed : Stmt := (top 12)
abbrev N_trimmed : List Str := ["coefs", "size"]
abbrev s_Poly___init__ : Stmt := (inClass (top 60) 0)
abbrev N_Poly___init__ : List Str := ["self", "coefs"]
abbrev s_Poly_of : Stmt := (inClass (top 60) 1)
abbrev N_Poly_of : List Str := ["cls", "coefs"]
abbrev s_Poly_degree : Stmt := (inClass (top 60) 3)
abbrev N_Poly_degree : List Str := ["self"]
abbrev s_Poly___len__ : Stmt := (inClass (top 60) 6)
abbrev N_Poly___len__ : List Str := ["self"]
abbrev s_Poly___repr__ : Stmt := (inClass (top 60) 7)
abbrev N_Poly___repr__ : List Str := ["self", "texts", "coef"]
abbrev s_Poly___getitem__ : Stmt := (inClass (top 60) 9)
abbrev N_Poly___getitem__ : List Str := ["self", "at"]
abbrev s_Poly___eq__ : Stmt := (inClass (top 60) 19)
abbrev N_Poly___eq__ : List Str := ["self", "other"]
abbrev s__law_box : Stmt := (top 63)
abbrev N__law_box : List Str := ["_law_script", "_law_cell"]
abbrev s__law_take : Stmt := (top 64)
abbrev N__law_take : List Str := ["_law_box_here", "_law_size", "_law_cells", "_law_worth", "_law_at", "_law_digit", "_law_stirred"]
abbrev s__law_coefs : Stmt := (top 65)
abbrev N__law_coefs : List Str := ["_law_box_here", "_law_size", "_law_row_here", "_law_k"]
abbrev s__law_trim : Stmt := (top 66)
abbrev N__law_trim : List Str := ["_law_row_here", "_law_size", "_law_k"]
abbrev s__law_is_integer : Stmt := (top 67)
abbrev N__law_is_integer : List Str := ["_law_value"]
abbrev s__law_row : Stmt := (top 68)
abbrev N__law_row : List Str := ["_law_poly", "_law_x"]
abbrev s__law_shown : Stmt := (top 69)
abbrev N__law_shown : List Str := ["_law_row_here", "_law_x"]
abbrev s_law : Stmt := (top 70)
abbrev N_law : List Str := ["_law_script", "_law_box_here", "_law_given", "_law_other", "_law_passed", "_law_poly", "_law_due", "_law_k", "_law_same", "_law_x"]
structure Adr where
  f_trimmed : Addr
  d_trimmed : FuncData
  f_Poly___init__ : Addr
  d_Poly___init__ : FuncData
  f_Poly_of : Addr
  d_Poly_of : FuncData
  f_Poly_degree : Addr
  d_Poly_degree : FuncData
  f_Poly___len__ : Addr
  d_Poly___len__ : FuncData
  f_Poly___repr__ : Addr
  d_Poly___repr__ : FuncData
  f_Poly___getitem__ : Addr
  d_Poly___getitem__ : FuncData
  f_Poly___eq__ : Addr
  d_Poly___eq__ : FuncData
  f__law_box : Addr
  d__law_box : FuncData
  f__law_take : Addr
  d__law_take : FuncData
  f__law_coefs : Addr
  d__law_coefs : FuncData
  f__law_trim : Addr
  d__law_trim : FuncData
  f__law_is_integer : Addr
  d__law_is_integer : FuncData
  f__law_row : Addr
  d__law_row : FuncData
  f__law_shown : Addr
  d__law_shown : FuncData
  f_law : Addr
  d_law : FuncData
  p_Poly_of : Addr
  p_Poly_degree : Addr
  C_StopError : Addr
  C_InvalidRatio : Addr
  C_NotExact : Addr
  C_Poly : Addr
structure Txt (K : PySem.W.Frag) (mg : Str → Option Value) (A : Adr) : Prop where
  F_trimmed : Fun K "trimmed" "trimmed" s_trimmed A.f_trimmed A.d_trimmed
  k_trimmed : PySem.W.keepIn K (.ref A.f_trimmed) = true
  b_trimmed : Binds K A.d_trimmed ["coefs"] []
  g_trimmed : mg "trimmed" = some (.ref A.f_trimmed)
  F_Poly___init__ : Fun K "__init__" "Poly.__init__" s_Poly___init__ A.f_Poly___init__ A.d_Poly___init__
  k_Poly___init__ : PySem.W.keepIn K (.ref A.f_Poly___init__) = true
  m_Poly___init__ : PySem.W.findIn K (.ref A.C_Poly) "__init__" = some (some (.ref A.f_Poly___init__))
  i_Poly___init__ : PySem.W.isFn K (.ref A.f_Poly___init__) = true
  t_Poly___init__ : PySem.W.typeIn K (.ref A.f_Poly___init__) = some (.type "function")
  F_Poly_of : Fun K "of" "Poly.of" s_Poly_of A.f_Poly_of A.d_Poly_of
  k_Poly_of : PySem.W.keepIn K (.ref A.f_Poly_of) = true
  b_Poly_of : Binds K A.d_Poly_of ["cls", "coefs"] []
  m_Poly_of : PySem.W.findCls K (.ref A.C_Poly) (.type "type") "of" = some (.get (.builtin "classmethod.__get__") (.ref A.p_Poly_of) .none (.ref A.C_Poly))
  r_Poly_of : ∃ rest, PySem.W.recIn K A.p_Poly_of "classmethod" = some (.ref A.f_Poly_of :: rest)
  n_Poly_of : PySem.W.fnIn K A.f_Poly_of = true
  F_Poly_degree : Fun K "degree" "Poly.degree" s_Poly_degree A.f_Poly_degree A.d_Poly_degree
  k_Poly_degree : PySem.W.keepIn K (.ref A.f_Poly_degree) = true
  b_Poly_degree : Binds K A.d_Poly_degree ["self"] []
  m_Poly_degree : PySem.W.findIn K (.ref A.C_Poly) "degree" = some (some (.ref A.p_Poly_degree))
  s_Poly_degree : PySem.W.specialIn K (.ref A.p_Poly_degree) "__get__" = some (some (.builtin "property.__get__"))
  u_Poly_degree : PySem.W.takesIn K (.ref A.p_Poly_degree) = some true
  r_Poly_degree : ∃ rest, PySem.W.recIn K A.p_Poly_degree "property" = some (.ref A.f_Poly_degree :: rest)
  F_Poly___len__ : Fun K "__len__" "Poly.__len__" s_Poly___len__ A.f_Poly___len__ A.d_Poly___len__
  k_Poly___len__ : PySem.W.keepIn K (.ref A.f_Poly___len__) = true
  b_Poly___len__ : Binds K A.d_Poly___len__ ["self"] []
  m_Poly___len__ : PySem.W.findIn K (.ref A.C_Poly) "__len__" = some (some (.ref A.f_Poly___len__))
  i_Poly___len__ : PySem.W.isFn K (.ref A.f_Poly___len__) = true
  t_Poly___len__ : PySem.W.typeIn K (.ref A.f_Poly___len__) = some (.type "function")
  F_Poly___repr__ : Fun K "__repr__" "Poly.__repr__" s_Poly___repr__ A.f_Poly___repr__ A.d_Poly___repr__
  k_Poly___repr__ : PySem.W.keepIn K (.ref A.f_Poly___repr__) = true
  b_Poly___repr__ : Binds K A.d_Poly___repr__ ["self"] []
  m_Poly___repr__ : PySem.W.findIn K (.ref A.C_Poly) "__repr__" = some (some (.ref A.f_Poly___repr__))
  i_Poly___repr__ : PySem.W.isFn K (.ref A.f_Poly___repr__) = true
  t_Poly___repr__ : PySem.W.typeIn K (.ref A.f_Poly___repr__) = some (.type "function")
  F_Poly___getitem__ : Fun K "__getitem__" "Poly.__getitem__" s_Poly___getitem__ A.f_Poly___getitem__ A.d_Poly___getitem__
  k_Poly___getitem__ : PySem.W.keepIn K (.ref A.f_Poly___getitem__) = true
  b_Poly___getitem__ : Binds K A.d_Poly___getitem__ ["self", "at"] []
  m_Poly___getitem__ : PySem.W.findIn K (.ref A.C_Poly) "__getitem__" = some (some (.ref A.f_Poly___getitem__))
  i_Poly___getitem__ : PySem.W.isFn K (.ref A.f_Poly___getitem__) = true
  t_Poly___getitem__ : PySem.W.typeIn K (.ref A.f_Poly___getitem__) = some (.type "function")
  F_Poly___eq__ : Fun K "__eq__" "Poly.__eq__" s_Poly___eq__ A.f_Poly___eq__ A.d_Poly___eq__
  k_Poly___eq__ : PySem.W.keepIn K (.ref A.f_Poly___eq__) = true
  b_Poly___eq__ : Binds K A.d_Poly___eq__ ["self", "other"] []
  m_Poly___eq__ : PySem.W.findIn K (.ref A.C_Poly) "__eq__" = some (some (.ref A.f_Poly___eq__))
  i_Poly___eq__ : PySem.W.isFn K (.ref A.f_Poly___eq__) = true
  t_Poly___eq__ : PySem.W.typeIn K (.ref A.f_Poly___eq__) = some (.type "function")
  F__law_box : Fun K "_law_box" "_law_box" s__law_box A.f__law_box A.d__law_box
  k__law_box : PySem.W.keepIn K (.ref A.f__law_box) = true
  b__law_box : Binds K A.d__law_box ["_law_script"] []
  g__law_box : mg "_law_box" = some (.ref A.f__law_box)
  F__law_take : Fun K "_law_take" "_law_take" s__law_take A.f__law_take A.d__law_take
  k__law_take : PySem.W.keepIn K (.ref A.f__law_take) = true
  b__law_take : Binds K A.d__law_take ["_law_box_here", "_law_size"] []
  g__law_take : mg "_law_take" = some (.ref A.f__law_take)
  F__law_coefs : Fun K "_law_coefs" "_law_coefs" s__law_coefs A.f__law_coefs A.d__law_coefs
  k__law_coefs : PySem.W.keepIn K (.ref A.f__law_coefs) = true
  b__law_coefs : Binds K A.d__law_coefs ["_law_box_here"] []
  g__law_coefs : mg "_law_coefs" = some (.ref A.f__law_coefs)
  F__law_trim : Fun K "_law_trim" "_law_trim" s__law_trim A.f__law_trim A.d__law_trim
  k__law_trim : PySem.W.keepIn K (.ref A.f__law_trim) = true
  b__law_trim : Binds K A.d__law_trim ["_law_row_here"] []
  g__law_trim : mg "_law_trim" = some (.ref A.f__law_trim)
  F__law_is_integer : Fun K "_law_is_integer" "_law_is_integer" s__law_is_integer A.f__law_is_integer A.d__law_is_integer
  k__law_is_integer : PySem.W.keepIn K (.ref A.f__law_is_integer) = true
  b__law_is_integer : Binds K A.d__law_is_integer ["_law_value"] []
  g__law_is_integer : mg "_law_is_integer" = some (.ref A.f__law_is_integer)
  F__law_row : Fun K "_law_row" "_law_row" s__law_row A.f__law_row A.d__law_row
  k__law_row : PySem.W.keepIn K (.ref A.f__law_row) = true
  b__law_row : Binds K A.d__law_row ["_law_poly"] []
  g__law_row : mg "_law_row" = some (.ref A.f__law_row)
  F__law_shown : Fun K "_law_shown" "_law_shown" s__law_shown A.f__law_shown A.d__law_shown
  k__law_shown : PySem.W.keepIn K (.ref A.f__law_shown) = true
  b__law_shown : Binds K A.d__law_shown ["_law_row_here"] []
  g__law_shown : mg "_law_shown" = some (.ref A.f__law_shown)
  F_law : Fun K "law" "law" s_law A.f_law A.d_law
  k_law : PySem.W.keepIn K (.ref A.f_law) = true
  b_law : Binds K A.d_law ["_law_script"] []
  g_law : mg "law" = some (.ref A.f_law)
  g_StopError : mg "StopError" = some (.ref A.C_StopError)
  g_InvalidRatio : mg "InvalidRatio" = some (.ref A.C_InvalidRatio)
  g_NotExact : mg "NotExact" = some (.ref A.C_NotExact)
  g_Poly : mg "Poly" = some (.ref A.C_Poly)
  mk0_Poly : PySem.W.makesIn K A.C_Poly = true
  kp_Poly : PySem.W.keepIn K (.ref A.C_Poly) = true
  pg_Poly : PySem.W.plainGet K A.C_Poly Str.empty = true
  hd_Poly : PySem.W.hasDictIn K A.C_Poly = true
  po_Poly : PySem.W.plainOver K A.C_Poly = true
  sa_Poly : PySem.W.findIn K (.ref A.C_Poly) "__setattr__" = some (some (.builtin "object.__setattr__"))
  nc_Poly : PySem.W.findIn K (.ref A.C_Poly) "coefs" = some none
  rd_Poly : PySem.W.readsIn K A.C_Poly (.type "type") = true
  cg_Poly : PySem.W.specialIn K (.ref A.C_Poly) "__getattribute__" = some (some (.builtin "type.__getattribute__"))
  ha_Poly : PySem.W.findIn K (.ref A.C_Poly) "__class__" = some (some (.builtin "object.__class__"))
  hn_Poly : PySem.W.specialIn K (.builtin "object.__class__") "__get__" = some (some (.builtin "getset_descriptor.__get__"))
  ht_Poly : PySem.W.takesIn K (.builtin "object.__class__") = some true
  hm_Poly : PySem.W.mroIn K A.C_Poly (.type "object") = some true
  ki_Poly : PySem.W.kitOne K (.ref A.C_Poly) (.ref A.C_Poly) = some true
  n_Poly : PySem.W.fnIn K A.f_Poly___getitem__ = true
  k_int_Poly : PySem.W.kitOne K (.type "int") (.ref A.C_Poly) = some false
  k_tuple_Poly : PySem.W.kitOne K (.type "tuple") (.ref A.C_Poly) = some false
  k_list_Poly : PySem.W.kitOne K (.type "list") (.ref A.C_Poly) = some false
  k_str_Poly : PySem.W.kitOne K (.type "str") (.ref A.C_Poly) = some false
  q_int_Poly : PySem.W.notFirst K A.C_Poly (.type "int") = true
  q_tuple_Poly : PySem.W.notFirst K A.C_Poly (.type "tuple") = true
  q_list_Poly : PySem.W.notFirst K A.C_Poly (.type "list") = true
  q_str_Poly : PySem.W.notFirst K A.C_Poly (.type "str") = true
  q_own_Poly : PySem.W.notFirst K A.C_Poly (.ref A.C_Poly) = true
  ne_Poly : PySem.W.findIn K (.ref A.C_Poly) "__ne__" = some (some (.builtin "object.__ne__"))
  ob_Poly : PySem.W.subIn K (.ref A.C_Poly) (.type "object") = some true
  z_abs : mg "abs" = none
  z_bool : mg "bool" = none
  z_int : mg "int" = none
  z_isinstance : mg "isinstance" = none
  z_len : mg "len" = none
  z_list : mg "list" = none
  z_range : mg "range" = none
  z_repr : mg "repr" = none
  z_str : mg "str" = none
  z_tuple : mg "tuple" = none
section
variable {P : Program} {w : World} {K : PySem.W.Frag} {mg : Str → Option Value} {base : Heap} {A : Adr}
theorem sc_trimmed : FnScope N_trimmed ["coefs"] (defScope s_trimmed) := ⟨rfl, rfl, rfl, by decide +kernel, rfl, by decide +kernel, by decide +kernel⟩
theorem ok_trimmed (T : Txt K mg A) : FnOk P w K mg base CX0 2 A.f_trimmed A.d_trimmed ["coefs"] (spTrimmed K) := by
  refine T.F_trimmed.ok sc_trimmed (fun vs H Q E h => ?_) (fun cdv Ar outer s H vs Q E hr h => ?_)
  · obtain ⟨a, row, rfl, _⟩ := h
    rfl
  · obtain ⟨a, row, rfl, hS, k⟩ := h
    refine ⟨_, (pss_cons (ps_set (i := 1) sc_trimmed.nd rfl (Or.inl rfl) (pe_callB call_len_seq (by rfl) T.z_len (by decide +kernel) (pa_cons (pv 0) pa_nil)))
      (pss_cons (ps_while PassesOwn.never (PW.pt (pw_and (pt_cmpR op_gt (pv 1) pe_int (nomark _)) (pw_and1 (pt_cmpR op_eq (pe_ix ix_seq (pv 0) (pe_op op_sub (pv 1) pe_int) (fun _ _ => rfl)) pe_int (nomark _))))) (pss_one (ps_aug (i := 1) sc_trimmed.nd rfl (Or.inl rfl) pe_int ip_sub)))
      (pss_one (ps_ret (pe_callTy call_tuple_of (by rfl) T.z_tuple (by decide +kernel) (pa_cons (pe_slice (sl_list.or sl_tupA) (pv 0) po_none (po_some (pv 1))) pa_nil)))))), ?_⟩
    refine qS ⟨_, rfl, a, iVs row, rfl, hS, ?_⟩
    refine q_whileA (fun m σ' H' => σ' = [some (.ref a), some (.int (m : Int))] ∧ H' = H ∧ m ≤ row.length ∧ ∀ j, m ≤ j → co row j = 0) row.length ⟨by rw [iVs_len]; rfl, rfl, Nat.le_refl _, fun j hj => co_ge hj⟩ ?_
    rintro m σ' H' ⟨rfl, rfl, hm, hz⟩
    refine ⟨decide ((0 : Int) < (m : Int)) && decide (V.int (co row ((m : Int) - 1).toNat) = V.int 0), ?_, fun hb N hN => ?_, fun hb => ?_⟩
    · refine ans_and' (ans_of ?_) fun z => ans_of (val_eq (val_ixI ?_ ?_ hS (xs := row) ?_ ?_) val_c rfl)
      · (repeat' (first | exact val_var rfl | exact val_c | exact va_nil | with_reducible apply va_cons | with_reducible apply val_op0 | with_reducible apply val_un | with_reducible apply val_abs | with_reducible apply val_int| with_reducible apply val_gcd | with_reducible apply val_gcdc | with_reducible apply val_isB | with_reducible apply val_notB | with_reducible apply val_chain | with_reducible apply val_eq | with_reducible apply val_ne | with_reducible apply val_andV | with_reducible apply val_orV | with_reducible apply val_notV | with_reducible apply val_opC | with_reducible apply ans_of | with_reducible apply ans_B | with_reducible apply ans_not | with_reducible apply ans_and' | with_reducible apply ans_or' | with_reducible intro _ | (show scal _ _ = true; rfl) | exact wide_mul (by assumption) (by assumption) (by decide) (by decide) (by decide)))
      · (repeat' (first | exact val_var rfl | exact val_c | exact va_nil | with_reducible apply va_cons | with_reducible apply val_op0 | with_reducible apply val_un | with_reducible apply val_abs | with_reducible apply val_int| with_reducible apply val_gcd | with_reducible apply val_gcdc | with_reducible apply val_isB | with_reducible apply val_notB | with_reducible apply val_chain | with_reducible apply val_eq | with_reducible apply val_ne | with_reducible apply val_andV | with_reducible apply val_orV | with_reducible apply val_notV | with_reducible apply val_opC | with_reducible apply ans_of | with_reducible apply ans_B | with_reducible apply ans_not | with_reducible apply ans_and' | with_reducible apply ans_or' | with_reducible intro _ | (show scal _ _ = true; rfl) | exact wide_mul (by assumption) (by assumption) (by decide) (by decide) (by decide)))
      · (repeat' (first | exact val_var rfl | exact val_c | exact va_nil | with_reducible apply va_cons | with_reducible apply val_op0 | with_reducible apply val_un | with_reducible apply val_abs | with_reducible apply val_int| with_reducible apply val_gcd | with_reducible apply val_gcdc | with_reducible apply val_isB | with_reducible apply val_notB | with_reducible apply val_chain | with_reducible apply val_eq | with_reducible apply val_ne | with_reducible apply val_andV | with_reducible apply val_orV | with_reducible apply val_notV | with_reducible apply val_opC | with_reducible apply ans_of | with_reducible apply ans_B | with_reducible apply ans_not | with_reducible apply ans_and' | with_reducible apply ans_or' | with_reducible intro _ | (show scal _ _ = true; rfl) | exact wide_mul (by assumption) (by assumption) (by decide) (by decide) (by decide)))
      · have := of_decide_eq_true z
        omega
      · omega
    · obtain ⟨h1, h2⟩ := Bool.and_eq_true_iff.mp hb
      have h1' := of_decide_eq_true h1
      have h2' := V.int.inj (of_decide_eq_true h2)
      refine ⟨_, rfl, _, _, rfl, rfl, hN _ _ (m - 1) (by omega) ⟨?_, rfl, by omega, fun j hj => ?_⟩⟩
      · have e : ((m : Int) - 1) = ((m - 1 : Nat) : Int) := by omega
        show [some (V.ref a), some (V.int ((m : Int) - 1))] = _
        rw [e]
      · by_cases e : j = m - 1
        · rw [e, ← h2']
          congr 1
          omega
        · exact hz j (by omega)
    · have e1 : row.take m = trimI row := by
        refine trimI_of hm (fun j h1 _ => hz j h1) ?_
        rcases Nat.eq_zero_or_pos m with h0 | h0
        · exact .inl h0
        · refine .inr fun e => ?_
          rw [show ((m : Int) - 1).toNat = m - 1 by omega, e, decide_eq_true (by omega : (0 : Int) < (m : Int)), decide_eq_true rfl] at hb
          cases hb
      refine sR ⟨_, rfl, _, rfl, _, rfl, ?_⟩
      rcases hS with h | h
      · refine .inl ⟨a, _, rfl, h, fun p hp => ?_⟩
        rw [iVs_cut row m hm, e1]
        exact ⟨p, _, rfl, .inl ⟨SqL.of upd_same, fun l hl => k l _ (Same.trans (same_upd hp) (same_upd hl)) (SqT.of upd_same)⟩⟩
      · refine .inr ⟨a, _, rfl, h, fun hw => ?_, fun _ p hp => ?_⟩
        · have hm2 : m = row.length := by
            have := hw.2
            rw [HT.sIx_nat, iVs_len] at this
            omega
          rw [hm2, List.take_length] at e1
          rw [e1] at h
          exact ⟨a, _, rfl, .inr ⟨h, k a _ (Same.refl _) (by rw [← e1] at h ⊢; exact h)⟩⟩
        · rw [iVs_cut row m hm, e1]
          exact ⟨p, _, rfl, .inr ⟨SqT.of upd_same, k p _ (same_upd hp) (SqT.of upd_same)⟩⟩
theorem sc_Poly___init__ : FnScope N_Poly___init__ ["self", "coefs"] (defScope s_Poly___init__) := ⟨rfl, rfl, rfl, by decide +kernel, rfl, by decide +kernel, by decide +kernel⟩

theorem Txt.pc (T : Txt K mg A) : PolyC K A.C_Poly := ⟨⟨T.pg_Poly, T.hd_Poly, T.po_Poly, T.sa_Poly⟩, T.nc_Poly⟩
theorem Txt.mk_Poly (T : Txt K mg A) : Mk K A.C_Poly A.f_Poly___init__ := ⟨T.mk0_Poly, T.m_Poly___init__, T.i_Poly___init__, T.kp_Poly⟩
theorem Txt.crd_Poly (T : Txt K mg A) : ClX.CRead K A.C_Poly (.type "type") := ⟨T.rd_Poly, T.cg_Poly⟩
theorem Txt.ty_Poly (T : Txt K mg A) {H : Hp} {p dx : Addr} {fs : List (Str × V)} (h : H p = some (.ins A.C_Poly dx fs)) : TyX K H (.ref p) (.ref A.C_Poly) := .base (.ins h T.pc.cls T.ha_Poly T.hn_Poly T.ht_Poly T.hm_Poly)
theorem ok_Poly___init__ (T : Txt K mg A) : FnR P w K mg base CX0 3 A.f_Poly___init__ (starSp 1 (spInit K A.C_Poly)) := by
  have Gtrimmed := ok_trimmed (P := P) (w := w) (base := base) T
  refine okStar (ps := ["self"]) T.F_Poly___init__ sc_Poly___init__ StX.cxUp_none (fun kV doc pm an cdv ct us rest h => (match us, rest, h with | [_], [], _ => rfl | [_], _ :: _, _ => rfl)) (fun cdv Ar outer s H vs Q E hr h => ?_)
  obtain ⟨o, p, dx, row, rfl, ho, hT, k⟩ := h
    
  refine ⟨_, PSs.nox (pss_one (ps_fld (pv 0) (pe_call Gtrimmed (hr.mono (by decide)) rfl T.g_trimmed T.k_trimmed T.b_trimmed .nil pass0 (pa_cons (pv 1) pa_nil)) rfl)), ?_⟩
  refine ⟨_, rfl, p, row, rfl, .inr hT, fun t H' s1 ht => ⟨_, rfl, o, _, dx, [], rfl, s1 _ _ ho, T.pc.cls, T.pc.na, by decide, ?_⟩⟩
  refine k t _ (fun b u hb e => ?_) upd_same (Lk.SqT.past ht (s1 _ _ ho))
  rw [upd_ne hb]
  exact s1 _ _ e
theorem sc_Poly_of : FnScope N_Poly_of ["cls", "coefs"] (defScope s_Poly_of) := ⟨rfl, rfl, rfl, by decide +kernel, rfl, by decide +kernel, by decide +kernel⟩
theorem ok_Poly_of (T : Txt K mg A) : FnOk P w K mg base CX0 5 A.f_Poly_of A.d_Poly_of ["cls", "coefs"] (spOf K A.C_Poly) := by
  have GPoly___init__ := ok_Poly___init__ (P := P) (w := w) (base := base) T
  refine T.F_Poly_of.ok sc_Poly_of (fun vs H Q E h => ?_) (fun cdv Ar outer s H vs Q E hr h => ?_)
  · obtain ⟨a, row, rfl, _⟩ := h
    rfl
  · obtain ⟨a, row, rfl, hS, hl, k⟩ := h
    refine ⟨_, (pss_one (ps_ret (pe_makeLS (i := 0) (C := A.C_Poly) T.mk_Poly GPoly___init__ (hr.mono (by decide)) pass0 rfl (Or.inl rfl) (pv 1)))), ?_⟩
    exact sR ⟨rfl, _, rfl, a, iVs row, rfl, hS.symm, make_row hl k⟩
theorem sc_Poly_degree : FnScope N_Poly_degree ["self"] (defScope s_Poly_degree) := ⟨rfl, rfl, rfl, by decide +kernel, rfl, by decide +kernel, by decide +kernel⟩
theorem ok_Poly_degree (T : Txt K mg A) : FnOk P w K mg base CX0 1 A.f_Poly_degree A.d_Poly_degree ["self"] (spDegree K A.C_Poly) := by
  refine T.F_Poly_degree.ok sc_Poly_degree (fun vs H Q E h => ?_) (fun cdv Ar outer s H vs Q E hr h => ?_)
  · obtain ⟨p, row, rfl, _⟩ := h
    rfl
  · obtain ⟨p, row, rfl, ⟨dx, t, hp, ht⟩, k⟩ := h
    refine ⟨_, (pss_one (ps_ret (pe_op op_sub (pe_callB call_len_seq (by rfl) T.z_len (by decide +kernel) (pa_cons (pe_fld (pv 0) rfl) pa_nil)) pe_int))), ?_⟩
    refine sR ((val_op0 (val_lenI (val_coefs T.pc (val_var rfl) hp) (.inr ht)) val_c).at k)
theorem sc_Poly___len__ : FnScope N_Poly___len__ ["self"] (defScope s_Poly___len__) := ⟨rfl, rfl, rfl, by decide +kernel, rfl, by decide +kernel, by decide +kernel⟩
theorem ok_Poly___len__ (T : Txt K mg A) : FnOk P w K mg base CX0 1 A.f_Poly___len__ A.d_Poly___len__ ["self"] (spLen K A.C_Poly) := by
  refine T.F_Poly___len__.ok sc_Poly___len__ (fun vs H Q E h => ?_) (fun cdv Ar outer s H vs Q E hr h => ?_)
  · obtain ⟨p, row, rfl, _⟩ := h
    rfl
  · obtain ⟨p, row, rfl, ⟨dx, t, hp, ht⟩, k⟩ := h
    refine ⟨_, (pss_one (ps_ret (pe_callB call_len_seq (by rfl) T.z_len (by decide +kernel) (pa_cons (pe_fld (pv 0) rfl) pa_nil)))), ?_⟩
    refine sR ((val_lenI (val_coefs T.pc (val_var rfl) hp) (.inr ht)).at k)
theorem sc_Poly___repr__ : FnScope N_Poly___repr__ ["self"] (defScope s_Poly___repr__) := ⟨rfl, rfl, rfl, by decide +kernel, rfl, by decide +kernel, by decide +kernel⟩
theorem ok_Poly___repr__ (T : Txt K mg A) : FnOk P w K mg base CX0 1 A.f_Poly___repr__ A.d_Poly___repr__ ["self"] (spRepr K A.C_Poly) := by
  refine T.F_Poly___repr__.ok sc_Poly___repr__ (fun vs H Q E h => ?_) (fun cdv Ar outer s H vs Q E hr h => ?_)
  · obtain ⟨p, row, rfl, _⟩ := h
    rfl
  · obtain ⟨p, row, rfl, ⟨dx, t, hp, ht⟩, hl, hb, k⟩ := h
    refine ⟨_, (pss_cons (ps_setLc (i := 1) (own := [("coef", 2)]) (g := gName 2) (tt := tYes) rfl sc_Poly___repr__.nd rfl rfl (sw_true rfl rfl rfl (by decide +kernel)) (pi_tup (pe_fld (pv 0) rfl)) (blkOk_by (own := [("coef", 2)]) (N := N_Poly___repr__) (sc := defScope s_Poly___repr__) (by decide +kernel)) (fun _ _ _ _ _ => (pg_name (i := 2) sc_Poly___repr__.nd rfl (Or.inl rfl))) (fun _ _ _ _ _ => pts_nil) (fun _ _ _ _ _ => (pe_callTy call_str_int (by rfl) T.z_str (by decide +kernel) (pa_cons (pv 2) pa_nil))))
      (pss_one (ps_ret (pe_joined (PJ.cons pe_str (PJ.cons (pe_fmt (pe_join pe_str (pv 1))) (PJ.cons pe_str PJ.nil))))))), ?_⟩
    refine qS ⟨_, rfl, p, _, dx, _, _, rfl, hp, T.pc.cls, T.pc.na, rfl, t, rfl, ⟨_, ht⟩, fun D hD => ?_⟩
    refine lc_tup (K := K) (a := t) (xs := iVs row) (fun i H' => Same H H' ∧ H' D = some (.lst ((tStrs (row.take i)).map V.str))) ⟨same_upd hD, upd_same⟩ (fun i H' _ h => h.1.tup ht) ?_ ?_
    · rintro i y H' hi ⟨s1, h1⟩
      obtain ⟨hl2, rfl⟩ := iVs_at hi
      have hx := hb _ (List.getElem_mem hl2)
      rw [← co_lt hl2] at hx
      refine ⟨rfl, _, rfl, _, rfl, hx, _, h1, ?_, fun b o e => by rw [upd_ne (ne_of_none e hD)]; exact s1 b o e, ?_⟩
      · rw [List.length_map, tStrs, List.length_map, List.length_take]
        show _ < 2 ^ 24
        omega
      · rw [upd_same, List.take_succ_eq_append_getElem hl2, tStrs_snoc, List.map_append, co_lt hl2]
        rfl
    · rintro H2 ⟨s2, h2⟩
      rw [iVs_len, List.take_length] at h2
      obtain ⟨j1, j2⟩ := tStrs_join hl hb
      have e5 : (Str.ofString "Poly(").length = 5 := by decide +kernel
      have e1 : (Str.ofString ")").length = 1 := by decide +kernel
      refine sR ⟨_, rfl, by rw [Str.empty_append, e5]; decide, ?_⟩
      refine ⟨⟨_, rfl⟩, _, rfl, _, D, tStrs row, rfl, rfl, .inl (SqL.of h2), j1, ?_⟩
      refine .inl ⟨_, rfl, Nat.le_trans j2 (by decide), _, rfl, ?_, ?_⟩
      · rw [Str.empty_append, Str.length_append, e5]
        show _ ≤ 2 ^ 24
        omega
      · refine ⟨_, rfl, ?_, ?_⟩
        · rw [Str.empty_append, Str.length_append, Str.length_append, e5, e1]
          show _ ≤ 2 ^ 24
          omega
        · have q := k H2 s2
          unfold showP at q
          rw [Str.empty_append]
          exact q
theorem sc_Poly___getitem__ : FnScope N_Poly___getitem__ ["self", "at"] (defScope s_Poly___getitem__) := ⟨rfl, rfl, rfl, by decide +kernel, rfl, by decide +kernel, by decide +kernel⟩
theorem ok_Poly___getitem__ (T : Txt K mg A) : FnOk P w K mg base CX0 1 A.f_Poly___getitem__ A.d_Poly___getitem__ ["self", "at"] (spGet K A.C_Poly) := by
  refine T.F_Poly___getitem__.ok sc_Poly___getitem__ (fun vs H Q E h => ?_) (fun cdv Ar outer s H vs Q E hr h => ?_)
  · obtain ⟨p, row, j, rfl, _⟩ := h
    rfl
  · obtain ⟨p, row, j, rfl, ⟨dx, t, hp, ht⟩, k⟩ := h
    refine ⟨_, (pss_cons (ps_if (pt_chain op_le op_lt pe_int (pv 1) (pe_callB call_len_seq (by rfl) T.z_len (by decide +kernel) (pa_cons (pe_fld (pv 0) rfl) pa_nil))) (pss_one (ps_ret (pe_ix ix_tup (pe_fld (pv 0) rfl) (pv 1) (fun _ _ => rfl)))) pss_nil)
      (pss_one (ps_ret pe_int))), ?_⟩
    refine q_when (ans_of (val_chain val_c (val_var rfl) (val_lenI (val_coefs T.pc (val_var rfl) hp) (.inr ht)))) (fun z => ?_) (fun z => ?_)
    · obtain ⟨z1, z2⟩ := Bool.and_eq_true_iff.mp z
      have z1' : 0 ≤ j := of_decide_eq_true z1
      have z2' : j < row.length := of_decide_eq_true z2
      refine sR ((val_ixT (val_coefs T.pc (val_var rfl) hp) (val_var rfl) ht (atI_iVs z1' z2')).at ?_)
      rw [coZ, if_pos z1'] at k
      exact k
    · refine sR (val_c.at ?_)
      have e : coZ row j = 0 := by
        unfold coZ
        split
        · refine co_ge ?_
          rename_i h0
          rw [decide_eq_true h0, Bool.true_and] at z
          have := of_decide_eq_false z
          omega
        · rfl
      rw [e] at k
      exact k
theorem sc_Poly___eq__ : FnScope N_Poly___eq__ ["self", "other"] (defScope s_Poly___eq__) := ⟨rfl, rfl, rfl, by decide +kernel, rfl, by decide +kernel, by decide +kernel⟩
theorem ok_Poly___eq__ (T : Txt K mg A) : FnOk P w K mg base CX0 1 A.f_Poly___eq__ A.d_Poly___eq__ ["self", "other"] (spEq K A.C_Poly) := by
  refine T.F_Poly___eq__.ok sc_Poly___eq__ (fun vs H Q E h => ?_) (fun cdv Ar outer s H vs Q E hr h => ?_)
  · obtain ⟨p, row, y, rfl, _⟩ := h
    rfl
  · obtain ⟨p, row, y, rfl, ⟨dx, t, hp, ht⟩, k⟩ := h
    refine ⟨_, (pss_one (ps_ret (pe_and (pe_callB call_isi (by rfl) T.z_isinstance (by decide +kernel) (pa_cons (pv 1) (pa_cons (pe_glob (v := .ref A.C_Poly) rfl T.g_Poly rfl) pa_nil))) (pe_one (pe_cmpR (op_eqD hr.units) (pe_fld (pv 0) rfl) (pe_fld (pv 1) rfl) (nomark _)))))), ?_⟩
    rcases k with ⟨q, row2, rfl, ⟨dx2, t2, hq, ht2⟩, k⟩ | ⟨ty, hy, hk, k⟩
    · refine sR ⟨_, rfl, _, _, _, _, true, rfl, .own _, T.ty_Poly hq, T.ki_Poly, true, rfl, iteT ?_⟩
      exact (val_coefs T.pc (val_var rfl) hp).at ((val_coefs T.pc (val_var rfl) hq).at (rEqT ht ht2 k))
    · exact sR ⟨_, rfl, _, _, _, _, false, rfl, .own _, hy, hk, false, rfl, iteF k⟩
theorem sc__law_box : FnScope N__law_box ["_law_script"] (defScope s__law_box) := ⟨rfl, rfl, rfl, by decide +kernel, rfl, by decide +kernel, by decide +kernel⟩
theorem ok__law_box (T : Txt K mg A) : FnOk P w K mg base CX0 1 A.f__law_box A.d__law_box ["_law_script"] (spBox K) := by
  refine T.F__law_box.ok sc__law_box (fun vs H Q E h => ?_) (fun cdv Ar outer s H vs Q E hr h => ?_)
  · obtain ⟨a, ns, rfl, _⟩ := h
    rfl
  · obtain ⟨a, ns, rfl, hS, hlen, k⟩ := h
    refine ⟨_, (pss_one (ps_ret (pe_lst (pa_cons (pe_lc (own := [("_law_cell", 1)]) (g := gName 1) (tt := tYes) rfl sc__law_box.nd (pi_list (pe_slice sl_list (pv 0) po_none (po_some pe_int))) (blkOk_by (own := [("_law_cell", 1)]) (N := N__law_box) (sc := defScope s__law_box) (by decide +kernel)) (fun _ _ _ _ _ => (pg_name (i := 1) sc__law_box.nd rfl (Or.inl rfl))) (fun _ _ _ _ _ => pts_nil) (fun _ _ _ _ _ => (pe_callB call_abs (by rfl) T.z_abs (by decide +kernel) (pa_cons (pe_callTy call_int1 (by rfl) T.z_int (by decide +kernel) (pa_cons (pv 1) pa_nil)) pa_nil)))) (pa_cons pe_int (pa_cons pe_int pa_nil)))))), ?_⟩
    refine ⟨_, rfl, 63, rfl, a, _, rfl, hS, fun p hp => ?_⟩
    have ecut : cutV (ns.map V.int) none (some 63) = (ns.map V.int) := by
      unfold cutV
      have e63 : ∀ n, HT.sIx n n (some (63 : Int)) = min 63 n := fun n => HT.sIx_nat n n 63
      rw [show HT.sIx (ns.map V.int).length 0 none = 0 from rfl, e63, List.length_map]
      rw [List.drop_zero, List.take_of_length_le]
      rw [List.length_map]
      omega
    rw [ecut]
    refine ⟨p, rfl, ⟨_, SqL.of upd_same⟩, fun D hD => ?_⟩
    have hDp : D ≠ p := fun e => (by rw [e, upd_same] at hD; cases hD)
    have hD0 : H D = none := by rw [upd_ne hDp] at hD; exact hD
    refine lc_list (K := K) (a := p) (xs := ns.map V.int) (fun i H' => Same H H' ∧ H' p = some (.lst (ns.map V.int)) ∧ ∃ ms : List Int, H' D = some (.lst (ms.map V.int)) ∧ ms.length = i ∧ ∀ x ∈ ms, 0 ≤ x)
      ⟨Same.trans (same_upd hp) (same_upd hD), by rw [upd_ne hDp.symm, upd_same], [], upd_same, rfl, fun x hx => (by cases hx)⟩
      (fun i H' _ h => SqL.of h.2.1) ?_ ?_
    · rintro i y H' hi ⟨s1, h1, ms, h2, hl, h3⟩
      have hi63 : i < ns.length := by
        have q := (List.getElem?_eq_some_iff.mp hi).1
        rw [List.length_map] at q
        exact q
      obtain ⟨u, rfl⟩ : ∃ u, y = V.int u := by
        rw [List.getElem?_map] at hi
        cases e : ns[i]? with
        | none =>
          rw [e] at hi
          cases hi
        | some u =>
          rw [e] at hi
          exact ⟨u, (Option.some.inj hi).symm⟩
      refine ⟨rfl, ?_⟩
      refine ⟨_, rfl, .inl ⟨u, rfl, u, rfl, ?_⟩⟩
      rw [iabs]
      refine ⟨_, h2, ?_, (fun b o e => by rw [upd_ne (ne_of_none e hD0)]; exact s1 b o e), ?_, ms ++ [((u.natAbs : Nat) : Int)], ?_, ?_, ?_⟩
      · rw [List.length_map, hl]
        exact small1000 (by omega)
      · rw [upd_ne hDp.symm]
        exact h1
      · rw [List.map_append]
        exact upd_same
      · rw [List.length_append, hl]
        rfl
      · intro x hx
        rcases List.mem_append.mp hx with hx | hx
        · exact h3 x hx
        · rw [List.mem_singleton.mp hx]
          exact Int.natCast_nonneg _
    · rintro H' ⟨s1, h1, ms, h2, hl, h3⟩
      refine ⟨?_, fun b hb => ?_⟩
      · show 3 ≤ sizeLine
        decide
      · have hbD : b ≠ D := fun e => (by rw [e, h2] at hb; cases hb)
        refine k b D _ (Same.trans s1 (same_upd hb)) (s1.free hb) hD0 ⟨ms, 0, 1, upd_same, ?_, ?_, h3, by omega, by omega, by omega⟩
        · rw [upd_ne hbD.symm]
          exact h2
        · rw [hl, List.length_map]
          omega
theorem sc__law_take : FnScope N__law_take ["_law_box_here", "_law_size"] (defScope s__law_take) := ⟨rfl, rfl, rfl, by decide +kernel, rfl, by decide +kernel, by decide +kernel⟩
theorem ok__law_take (T : Txt K mg A) : FnOk P w K mg base CX0 1 A.f__law_take A.d__law_take ["_law_box_here", "_law_size"] spTake := by
  refine T.F__law_take.ok sc__law_take (fun vs H Q E h => ?_) (fun cdv Ar outer s H vs Q E hr h => ?_)
  · obtain ⟨b, c, n, rfl, _⟩ := h
    rfl
  · obtain ⟨b, c, n, rfl, hB, hn, hlog, k⟩ := h
    refine ⟨_, (pss_cons (ps_set (i := 2) sc__law_take.nd rfl (Or.inl rfl) (pe_ix ix_list (pv 0) pe_int (fun _ _ => rfl)))
      (pss_cons (ps_set (i := 3) sc__law_take.nd rfl (Or.inl rfl) pe_int)
      (Evl.pss_cut (ps_if (pt_cmpR op_gt (pe_callB call_len_seq (by rfl) T.z_len (by decide +kernel) (pa_cons (pv 2) pa_nil)) pe_int (nomark _)) (pss_cons (ps_set (i := 4) sc__law_take.nd rfl (Or.inl rfl) (pe_op op_mod (pe_callTy call_int1 (by rfl) T.z_int (by decide +kernel) (pa_cons (pe_ix ix_list (pv 0) pe_int (fun _ _ => rfl)) pa_nil)) (pe_callB call_len_seq (by rfl) T.z_len (by decide +kernel) (pa_cons (pv 2) pa_nil))))
      (pss_cons (ps_if (pt_cmpR op_ge (pe_ix ix_list (pv 2) (pv 4) (fun _ _ => rfl)) (pe_op op_pow pe_int pe_int) (nomark _)) (pss_cons (ps_set (i := 5) sc__law_take.nd rfl (Or.inl rfl) (pe_op op_mod (pe_callTy call_int1 (by rfl) T.z_int (by decide +kernel) (pa_cons (pe_ix ix_list (pv 2) (pv 4) (fun _ _ => rfl)) pa_nil)) (pv 1)))
      (pss_cons (ps_asg (pe_op op_fdivW (pe_ix ix_list (pv 2) (pv 4) (fun _ _ => rfl)) (pv 1)) (pg_sub (pv 2) (pv 4) set_list))
      (pss_one (ps_ret (pv 5))))) pss_nil)
      (pss_cons (ps_asg (pe_op op_add (pe_ix ix_list (pv 0) pe_int (fun _ _ => rfl)) pe_int) (pg_sub (pv 0) pe_int set_list))
      (pss_one (ps_set (i := 3) sc__law_take.nd rfl (Or.inl rfl) (pe_op op_add (pe_op op_mulW (pe_ix ix_list (pv 2) (pv 4) (fun _ _ => rfl)) pe_int) pe_int)))))) pss_nil)
      (pss_cons (ps_asg (pe_op op_mod (pe_callTy call_int1 (by rfl) T.z_int (by decide +kernel) (pa_cons (pe_op op_add (pe_op op_mulW (pe_ix ix_list (pv 0) pe_int (fun _ _ => rfl)) pe_int) (pv 3)) pa_nil)) pe_int) (pg_sub (pv 0) pe_int set_list))
      (pss_cons (ps_set (i := 6) sc__law_take.nd rfl (Or.inl rfl) (pe_op op_mod (pe_callTy call_int1 (by rfl) T.z_int (by decide +kernel) (pa_cons (pe_op op_add (pe_op op_mulW (pe_ix ix_list (pv 0) pe_int (fun _ _ => rfl)) pe_int) (pe_op op_fdivW (pe_ix ix_list (pv 0) pe_int (fun _ _ => rfl)) pe_int)) pa_nil)) pe_int))
      (pss_one (ps_ret (pe_op op_mod (pe_callTy call_int1 (by rfl) T.z_int (by decide +kernel) (pa_cons (pe_op op_fdivW (pv 6) pe_int) pa_nil)) (pv 1))))))))), ?_⟩
    have hbc := hB.ne
    obtain ⟨ns, kk, s, h1, h2, hl, h0, k0, s0, s1⟩ := hB
    have hlen : (ns.map V.int).length = ns.length := List.length_map ..
    refine qS ⟨_, rfl, b, _, _, _, rfl, rfl, SqL.of h1, rfl, ?_⟩
    apply q_set
    case h => (repeat' (first | exact val_var rfl | exact val_c | exact va_nil | with_reducible apply va_cons | with_reducible apply val_op0 | with_reducible apply val_un | with_reducible apply val_abs | with_reducible apply val_int| with_reducible apply val_gcd | with_reducible apply val_gcdc | with_reducible apply val_isB | with_reducible apply val_notB | with_reducible apply val_chain | with_reducible apply val_eq | with_reducible apply val_ne | with_reducible apply val_andV | with_reducible apply val_orV | with_reducible apply val_notV | with_reducible apply val_opC | with_reducible apply ans_of | with_reducible apply ans_B | with_reducible apply ans_not | with_reducible apply ans_and' | with_reducible apply ans_or' | with_reducible intro _ | (show scal _ _ = true; rfl) | exact wide_mul (by assumption) (by assumption) (by decide) (by decide) (by decide)))
    refine ⟨fun σ' H' => ∃ (w k' : Int) (v4 v5 : Option V), σ' = [some (.ref b), some (.int n), some (.ref c), some (.int w), v4, v5, none] ∧ 0 ≤ k' ∧ H' b = some (.lst [.ref c, .int k', .int s]) ∧ H' c = some (.lst (ns.map V.int)) ∧ ∀ a, a ≠ b → a ≠ c → H' a = H a, ?_, ?_⟩
    · refine sW ⟨_, rfl, c, _, rfl, .inl (SqL.of h2), _, _, rfl, rfl, _, rfl, ite2 (fun hp => ?_) (fun hp => ?_)⟩
      · have hp' : (0 : Int) < ((ns.map V.int).length : Int) := of_decide_eq_true hp
        refine qS ⟨_, rfl, b, _, _, _, rfl, rfl, SqL.of h1, rfl, .inl ⟨_, rfl, _, rfl, c, _, rfl, .inl (SqL.of h2), _, _, rfl, rfl, hp', ?_⟩⟩
        obtain ⟨x, hx, hx0, hix⟩ := pickP ns (fun x => 0 ≤ x) h0 (d := kk % ((ns.map V.int).length : Int)) (Int.emod_nonneg _ (by omega)) (by rw [← hlen]; exact Int.emod_lt_of_pos _ hp')
        refine qW ⟨_, rfl, _, rfl, c, _, _, _, rfl, rfl, SqL.of h2, hx, _, _, rfl, rfl, ⟨by decide, by decide, by decide⟩, _, _, rfl, rfl, _, rfl, ite2 (fun hq => ?_) (fun hq => ?_)⟩
        · refine qS ⟨_, rfl, _, rfl, c, _, _, _, rfl, rfl, SqL.of h2, hx, .inl ⟨_, rfl, _, rfl, _, _, rfl, rfl, hn, ?_⟩⟩
          refine qB ⟨_, rfl, _, rfl, c, _, _, _, rfl, rfl, SqL.of h2, hx, _, rfl, _, _, rfl, rfl, ⟨hn, hlog⟩, _, rfl, _, rfl, c, _, _, _, rfl, rfl, h2, (by have q := hix; rw [← hlen] at q; exact q), ?_⟩
          refine ⟨_, rfl, ?_⟩
          refine k _ _ (Int.emod_nonneg _ (by omega)) (Int.emod_lt_of_pos _ hn) ⟨ns.set (kk % ((ns.map V.int).length : Int)).toNat (x / n), kk, s, ?_, ?_, ?_, ?_, k0, s0, s1⟩ (fun a hab hac => upd_ne hac)
          · rw [upd_ne hbc]
            exact h1
          · rw [List.map_set]
            exact upd_same
          · rw [List.length_set]
            exact hl
          · intro y hy
            rcases List.mem_or_eq_of_mem_set hy with hy | hy
            · exact h0 y hy
            · rw [hy]
              exact Int.ediv_nonneg hx0 (by omega)
        · refine qB ⟨_, rfl, b, _, _, _, rfl, rfl, SqL.of h1, rfl, _, _, rfl, rfl, _, rfl, b, _, _, 1, rfl, rfl, h1, rfl, ?_⟩
          refine sS ⟨_, rfl, _, rfl, c, _, _, _, rfl, rfl, SqL.of ((upd_ne hbc.symm).trans h2), hx, _, _, rfl, rfl, ?_, _, _, rfl, rfl, ?_⟩
          · have hx18 : ¬ (10 : Int) ^ (18 : Int).toNat ≤ x := fun z => hq (decide_eq_true z)
            have hx18' : x < 10 ^ 18 := by
              rw [show (18 : Int).toNat = 18 from rfl] at hx18
              omega
            exact wide_mul (a := 70) (b := 20) (by omega) (by decide) (by decide) (by decide) (by decide)
          · exact ⟨_, kk + 1, _, _, rfl, by omega, upd_same, (upd_ne hbc.symm).trans h2, fun a hab hac => upd_ne hab⟩
      · exact ⟨_, kk, _, _, rfl, k0, h1, h2, fun a _ _ => rfl⟩
    · rintro σ' H' ⟨w, k', v4, v5, rfl, hk', hb, hc, he⟩
      refine qB ⟨_, rfl, b, _, _, _, rfl, rfl, SqL.of hb, rfl, _, _, rfl, rfl, wide_mul (a := 40) (b := 20) (by omega) (by decide) (by decide) (by decide) (by decide), _, rfl, _, _, rfl, rfl, .inl ⟨_, rfl, _, _, rfl, rfl, (by decide : (0 : Int) < 2147483647), _, rfl, b, _, _, 2, rfl, rfl, hb, rfl, ?_⟩⟩
      dsimp only
      have e0 := Int.emod_nonneg (s * 48271 + w) (by decide : (2147483647 : Int) ≠ 0)
      have e1 := Int.emod_lt_of_pos (s * 48271 + w) (by decide : (0 : Int) < 2147483647)
      generalize (s * 48271 + w) % 2147483647 = s' at e0 e1 ⊢
      have hb' : (upd H' b (.lst ([.ref c, .int k', .int s].set 2 (.int s')))) b = some (.lst [.ref c, .int k', .int s']) := upd_same
      refine qS ⟨_, rfl, b, _, _, _, rfl, rfl, SqL.of hb', rfl, _, _, rfl, rfl, wide_mul (a := 40) (b := 20) (by omega) (by decide) (by decide) (by decide) (by decide), _, rfl, b, _, _, _, rfl, rfl, SqL.of hb', rfl, _, _, rfl, rfl, ⟨by decide, by decide⟩, _, _, rfl, rfl, .inl ⟨_, rfl, _, _, rfl, rfl, (by decide : (0 : Int) < 2147483629), ?_⟩⟩
      refine ⟨_, rfl, _, _, rfl, rfl, ⟨by decide, by decide⟩, .inl ⟨_, rfl, _, rfl, _, _, rfl, rfl, hn, ?_⟩⟩
      exact k _ _ (Int.emod_nonneg _ (by omega)) (Int.emod_lt_of_pos _ hn) ⟨ns, k', s', hb', (upd_ne hbc.symm).trans hc, hl, h0, hk', e0, e1⟩ (fun a hab hac => (upd_ne hab).trans (he a hab hac))
theorem sc__law_coefs : FnScope N__law_coefs ["_law_box_here"] (defScope s__law_coefs) := ⟨rfl, rfl, rfl, by decide +kernel, rfl, by decide +kernel, by decide +kernel⟩

theorem lg20 {n : Int} (h0 : 0 ≤ n) (h1 : n ≤ 10 ^ 20 * 2 + 1) : n.natAbs.log2 < 9000 := Nat.lt_of_lt_of_le (log2_lt (b := 140) (by decide) (by omega)) (by decide)
theorem ok__law_coefs (T : Txt K mg A) : FnOk P w K mg base CX0 2 A.f__law_coefs A.d__law_coefs ["_law_box_here"] spCoefs := by
  have G_law_take := ok__law_take (P := P) (w := w) (base := base) T
  refine T.F__law_coefs.ok sc__law_coefs (fun vs H Q E h => ?_) (fun cdv Ar outer s H vs Q E hr h => ?_)
  · obtain ⟨b, c, rfl, _⟩ := h
    rfl
  · obtain ⟨b, c, rfl, B1, k⟩ := h
    refine ⟨_, (pss_cons (ps_set (i := 1) sc__law_coefs.nd rfl (Or.inr rfl) (pe_ix ix_list (pe_lst (pa_cons pe_int (pa_cons pe_int (pa_cons (pe_op op_pow pe_int pe_int) pa_nil)))) (pe_call G_law_take (hr.mono (by decide)) rfl T.g__law_take T.k__law_take T.b__law_take .nil pass0 (pa_cons (pv 0) (pa_cons pe_int pa_nil))) (fun _ _ => rfl)))
      (pss_cons (ps_setLc (i := 2) (own := [("_law_k", 3)]) (g := gName 3) (tt := tYes) rfl sc__law_coefs.nd rfl rfl (sw_true rfl rfl rfl (by decide +kernel)) (pi_range1 (by rfl) T.z_range (pa_cons (pe_call G_law_take (hr.mono (by decide)) rfl T.g__law_take T.k__law_take T.b__law_take .nil pass0 (pa_cons (pv 0) (pa_cons pe_int pa_nil))) pa_nil)) (blkOk_by (own := [("_law_k", 3)]) (N := N__law_coefs) (sc := defScope s__law_coefs) (by decide +kernel)) (fun _ _ _ _ _ => (pg_name (i := 3) sc__law_coefs.nd rfl (Or.inl rfl))) (fun _ _ _ _ _ => pts_nil) (fun _ _ _ _ _ => (pe_op op_sub (pe_call G_law_take (hr.mono (by decide)) rfl T.g__law_take T.k__law_take T.b__law_take .nil pass0 (pa_cons (pv 0) (pa_cons (pe_op op_add (pe_op op_mulW pe_int (pv 1)) pe_int) pa_nil))) (pv 1))))
      (pss_one (ps_ret (pe_op op_cat (pv 2) (pe_lc (own := [("_law_k", 3)]) (g := gName 3) (tt := tYes) rfl sc__law_coefs.nd (pi_range1 (by rfl) T.z_range (pa_cons (pe_call G_law_take (hr.mono (by decide)) rfl T.g__law_take T.k__law_take T.b__law_take .nil pass0 (pa_cons (pv 0) (pa_cons pe_int pa_nil))) pa_nil)) (blkOk_by (own := [("_law_k", 3)]) (N := N__law_coefs) (sc := defScope s__law_coefs) (by decide +kernel)) (fun _ _ _ _ _ => (pg_name (i := 3) sc__law_coefs.nd rfl (Or.inl rfl))) (fun _ _ _ _ _ => pts_nil) (fun _ _ _ _ _ => pe_int))))))), ?_⟩
    refine qS ⟨_, _, rfl, rfl, ⟨by decide, by decide, by decide⟩, (by show 3 ≤ sizeLine; decide), fun p hp => ?_⟩
    refine ⟨_, rfl, b, c, 3, rfl, B1.same (same_upd hp), by decide, by decide, fun x H2 x0 x1 B2 e2 => ?_⟩
    obtain ⟨sz, hsz, z0, z1⟩ := pick [3, 12, 10 ^ 20] 3 (10 ^ 20) (by decide) x0 x1
    refine ⟨p, _, x, _, rfl, rfl, SqL.of ((e2 p (B1.neb hp).1 (B1.neb hp).2).trans upd_same), hsz, ?_⟩
    have x2 : Ext b c H H2 := fun a o ab ac h => (e2 a ab ac).trans (kept h hp)
    refine qS ⟨_, rfl, b, c, 6, rfl, B2, by decide, by decide, fun n H3 n0 n1 B3 e3 => ⟨n, rfl, by omega, by omega, fun D hD => ?_⟩⟩
    have x3 : Ext b c H2 H3 := fun a o ab ac h => (e3 a ab ac).trans h
    refine lc_range (fun i H' => BoxAt H' b c ∧ Ext b c H3 H' ∧ ∃ row : List Int, H' D = some (.lst (iVs row)) ∧ row.length = i ∧ ∀ y ∈ row, y.natAbs ≤ 10 ^ 20)
      ⟨B3.same (same_upd hD), .of (same_upd hD), [], upd_same, rfl, fun y hy => (by cases hy)⟩ ?_ ?_
    · rintro i H' hi ⟨B, e, row, hr, hl, hb⟩
      refine ⟨rfl, ?_⟩
      refine ⟨_, rfl, _, rfl, _, _, rfl, rfl, wide_mul (a := 10) (b := 200) (by decide) (by omega) (by decide) (by decide) (by decide), _, _, rfl, rfl, b, c, _, rfl, B, by omega, lg20 (by omega) (by omega), fun u H4 u0 u1 B4 e4 => ⟨_, rfl, _, _, rfl, rfl, ?_⟩⟩
      have hDb := B3.neb hD
      have hr4 := (e4 D hDb.1 hDb.2).trans hr
      refine ⟨_, hr4, ?_, ?_, ?_, row ++ [u - sz], ?_, ?_, ?_⟩
      · rw [iVs_len, hl]
        show i < 2 ^ 24
        omega
      · obtain ⟨ns, kk, st, h1, h2, r⟩ := B4
        exact ⟨ns, kk, st, by rw [upd_ne hDb.1.symm]; exact h1, by rw [upd_ne hDb.2.symm]; exact h2, r⟩
      · exact fun a o ab ac h => by rw [upd_ne (ne_of_none h hD), e4 a ab ac]; exact e a o ab ac h
      · rw [upd_same]
        unfold iVs
        rw [List.map_append]
        rfl
      · rw [List.length_append, hl]
        rfl
      · intro y hy
        rcases List.mem_append.mp hy with hy | hy
        · exact hb y hy
        · rw [List.mem_singleton.mp hy]
          omega
    · rintro H4 ⟨B4, x4, row, hr, hl, hb⟩
      refine sR ⟨_, rfl, _, rfl, b, c, 3, rfl, B4, by decide, by decide, fun m H5 m0 m1 B5 e5 => ⟨m, rfl, by omega, by omega, fun F hF => ?_⟩⟩
      have x5 : Ext b c H4 H5 := fun a o ab ac h => (e5 a ab ac).trans h
      have hDb := B3.neb hD
      refine lcI (fun _ => 0) hF (by show m.toNat ≤ 2 ^ 24; omega) (fun j H' _ _ => val_c) (fun H6 s6 h6 => ?_)
      have hr6 : H6 D = some (.lst (iVs row)) := s6 _ _ ((e5 D hDb.1 hDb.2).trans hr)
      refine ⟨D, F, _, _, rfl, rfl, hr6, h6, ?_, fun q hq => ?_⟩
      · rw [iVs_len, iVs_len, List.length_map, List.length_range, hl]
        show _ ≤ 2 ^ 24
        omega
      have xx := (((x2.trans x3).trans x4).trans x5).trans (.of s6)
      have B6 := B5.same s6
      have hq0 : H q = none := by
        cases z : H q with
        | none => rfl
        | some o =>
          have := xx q o (B6.neb hq).1 (B6.neb hq).2 z
          rw [hq] at this
          cases this
      refine k q (row ++ (List.range m.toNat).map fun _ => 0) _ ?_ ?_ hq0 (B6.same (same_upd hq)) (xx.trans (.of (same_upd hq))) ?_
      · rw [List.length_append, List.length_map, List.length_range, hl]
        omega
      · intro y hy
        rcases List.mem_append.mp hy with hy | hy
        · exact hb y hy
        · obtain ⟨_, _, e⟩ := List.mem_map.mp hy
          rw [← e]
          decide
      · rw [upd_same]
        unfold iVs
        rw [List.map_append]
theorem sc__law_trim : FnScope N__law_trim ["_law_row_here"] (defScope s__law_trim) := ⟨rfl, rfl, rfl, by decide +kernel, rfl, by decide +kernel, by decide +kernel⟩
theorem ok__law_trim (T : Txt K mg A) : FnOk P w K mg base CX0 1 A.f__law_trim A.d__law_trim ["_law_row_here"] (spTrim K) := by
  refine T.F__law_trim.ok sc__law_trim (fun vs H Q E h => ?_) (fun cdv Ar outer s H vs Q E hr h => ?_)
  · obtain ⟨a, row, rfl, _⟩ := h
    rfl
  · obtain ⟨a, row, rfl, hS, hl, k⟩ := h
    refine ⟨_, (pss_cons (ps_set (i := 1) sc__law_trim.nd rfl (Or.inl rfl) (pe_callB call_len_seq (by rfl) T.z_len (by decide +kernel) (pa_cons (pv 0) pa_nil)))
      (pss_cons (ps_while PassesOwn.never (PW.pt (pw_and (pt_cmpR op_gt (pv 1) pe_int (nomark _)) (pw_and1 (pt_cmpR op_eq (pe_ix ix_list (pv 0) (pe_op op_sub (pv 1) pe_int) (fun _ _ => rfl)) pe_int (nomark _))))) (pss_one (ps_set (i := 1) sc__law_trim.nd rfl (Or.inl rfl) (pe_op op_sub (pv 1) pe_int))))
      (pss_one (ps_ret (pe_lc (own := [("_law_k", 2)]) (g := gName 2) (tt := tYes) rfl sc__law_trim.nd (pi_range1 (by rfl) T.z_range (pa_cons (pv 1) pa_nil)) (blkOk_by (own := [("_law_k", 2)]) (N := N__law_trim) (sc := defScope s__law_trim) (by decide +kernel)) (fun _ _ _ _ _ => (pg_name (i := 2) sc__law_trim.nd rfl (Or.inl rfl))) (fun _ _ _ _ _ => pts_nil) (fun _ _ _ _ _ => (pe_ix (show IxR _ (rIxL K) from ix_list) (pv 0) (pv 2) (fun _ _ => rfl)))))))), ?_⟩
    refine qS ⟨_, rfl, a, iVs row, rfl, .inl hS, ?_⟩
    refine q_whileA (fun m σ' H' => σ' = [some (.ref a), some (.int (m : Int)), none] ∧ H' = H ∧ m ≤ row.length ∧ ∀ j, m ≤ j → co row j = 0) row.length ⟨by rw [iVs_len]; rfl, rfl, Nat.le_refl _, fun j hj => co_ge hj⟩ ?_
    rintro m σ' H' ⟨rfl, rfl, hm, hz⟩
    refine ⟨decide ((0 : Int) < (m : Int)) && decide (V.int (co row ((m : Int) - 1).toNat) = V.int 0), ?_, fun hb N hN => ?_, fun hb => ?_⟩
    · refine ans_and' (ans_of ?_) fun z => ans_of (val_eq (val_ixLi ?_ ?_ hS (xs := row) ?_ ?_) val_c rfl)
      · (repeat' (first | exact val_var rfl | exact val_c | exact va_nil | with_reducible apply va_cons | with_reducible apply val_op0 | with_reducible apply val_un | with_reducible apply val_abs | with_reducible apply val_int| with_reducible apply val_gcd | with_reducible apply val_gcdc | with_reducible apply val_isB | with_reducible apply val_notB | with_reducible apply val_chain | with_reducible apply val_eq | with_reducible apply val_ne | with_reducible apply val_andV | with_reducible apply val_orV | with_reducible apply val_notV | with_reducible apply val_opC | with_reducible apply ans_of | with_reducible apply ans_B | with_reducible apply ans_not | with_reducible apply ans_and' | with_reducible apply ans_or' | with_reducible intro _ | (show scal _ _ = true; rfl) | exact wide_mul (by assumption) (by assumption) (by decide) (by decide) (by decide)))
      · (repeat' (first | exact val_var rfl | exact val_c | exact va_nil | with_reducible apply va_cons | with_reducible apply val_op0 | with_reducible apply val_un | with_reducible apply val_abs | with_reducible apply val_int| with_reducible apply val_gcd | with_reducible apply val_gcdc | with_reducible apply val_isB | with_reducible apply val_notB | with_reducible apply val_chain | with_reducible apply val_eq | with_reducible apply val_ne | with_reducible apply val_andV | with_reducible apply val_orV | with_reducible apply val_notV | with_reducible apply val_opC | with_reducible apply ans_of | with_reducible apply ans_B | with_reducible apply ans_not | with_reducible apply ans_and' | with_reducible apply ans_or' | with_reducible intro _ | (show scal _ _ = true; rfl) | exact wide_mul (by assumption) (by assumption) (by decide) (by decide) (by decide)))
      · (repeat' (first | exact val_var rfl | exact val_c | exact va_nil | with_reducible apply va_cons | with_reducible apply val_op0 | with_reducible apply val_un | with_reducible apply val_abs | with_reducible apply val_int| with_reducible apply val_gcd | with_reducible apply val_gcdc | with_reducible apply val_isB | with_reducible apply val_notB | with_reducible apply val_chain | with_reducible apply val_eq | with_reducible apply val_ne | with_reducible apply val_andV | with_reducible apply val_orV | with_reducible apply val_notV | with_reducible apply val_opC | with_reducible apply ans_of | with_reducible apply ans_B | with_reducible apply ans_not | with_reducible apply ans_and' | with_reducible apply ans_or' | with_reducible intro _ | (show scal _ _ = true; rfl) | exact wide_mul (by assumption) (by assumption) (by decide) (by decide) (by decide)))
      · have := of_decide_eq_true z
        omega
      · omega
    · obtain ⟨h1, h2⟩ := Bool.and_eq_true_iff.mp hb
      have h1' := of_decide_eq_true h1
      have h2' := V.int.inj (of_decide_eq_true h2)
      refine s_set (v := .int ((m - 1 : Nat) : Int)) (val_to (v := .int ((m - 1 : Nat) : Int)) (w := .int ((m : Int) - 1)) ?_ (by rw [show ((m : Int) - 1) = ((m - 1 : Nat) : Int) by omega])) (hN _ _ (m - 1) (by omega) ⟨rfl, rfl, by omega, fun j hj => ?_⟩)
      · (repeat' (first | exact val_var rfl | exact val_c | exact va_nil | with_reducible apply va_cons | with_reducible apply val_op0 | with_reducible apply val_un | with_reducible apply val_abs | with_reducible apply val_int| with_reducible apply val_gcd | with_reducible apply val_gcdc | with_reducible apply val_isB | with_reducible apply val_notB | with_reducible apply val_chain | with_reducible apply val_eq | with_reducible apply val_ne | with_reducible apply val_andV | with_reducible apply val_orV | with_reducible apply val_notV | with_reducible apply val_opC | with_reducible apply ans_of | with_reducible apply ans_B | with_reducible apply ans_not | with_reducible apply ans_and' | with_reducible apply ans_or' | with_reducible intro _ | (show scal _ _ = true; rfl) | exact wide_mul (by assumption) (by assumption) (by decide) (by decide) (by decide)))
      · by_cases e : j = m - 1
        · rw [e, ← h2']
          congr 1
          omega
        · exact hz j (by omega)
    · have e1 : row.take m = trimI row := by
        refine trimI_of hm (fun j h1 _ => hz j h1) ?_
        rcases Nat.eq_zero_or_pos m with h0 | h0
        · exact .inl h0
        · refine .inr fun e => ?_
          rw [show ((m : Int) - 1).toNat = m - 1 by omega, e, decide_eq_true (by omega : (0 : Int) < (m : Int)), decide_eq_true rfl] at hb
          cases hb
      refine sR ⟨_, rfl, _, rfl, by omega, by omega, fun D hD => ?_⟩
      refine lcI (fun j => co row j) hD (by show (m : Int).toNat ≤ 2 ^ 24; omega) (fun j H2 hj s2 => ?_) (fun H2 s2 h2 => k D H2 s2 hD ?_)
      · have e0 := val_ixLi (K := K) (H := H2) (σ := [some (.ref a), some (.int (m : Int)), some (.int (0 + (j : Int)))]) (val_var (i := 0) rfl) (val_var (i := 2) rfl) (s2.seq hS) (by omega) (by omega)
        rw [show (0 + (j : Int)).toNat = j by omega] at e0
        exact e0
      · rw [h2, ← e1]
        congr 3
        refine ext_co ?_ fun q => ?_
        · rw [List.length_map, List.length_range, List.length_take]
          omega
        · rw [co_take]
          by_cases hq : q < m
          · rw [if_pos hq, co_lt (by rw [List.length_map, List.length_range]; omega), List.getElem_map, List.getElem_range]
          · rw [if_neg hq, co_ge (by rw [List.length_map, List.length_range]; omega)]
theorem sc__law_is_integer : FnScope N__law_is_integer ["_law_value"] (defScope s__law_is_integer) := ⟨rfl, rfl, rfl, by decide +kernel, rfl, by decide +kernel, by decide +kernel⟩

def spIsInt : Sp := fun vs H Q _ => ∃ n : Int, vs = [.int n] ∧ Q (.bl true) H
theorem ok__law_is_integer (T : Txt K mg A) : FnOk P w K mg base CX0 1 A.f__law_is_integer A.d__law_is_integer ["_law_value"] spIsInt := by
  refine T.F__law_is_integer.ok sc__law_is_integer (fun vs H Q E h => ?_) (fun cdv Ar outer s H vs Q E hr h => ?_)
  · obtain ⟨n, rfl, _⟩ := h
    rfl
  · obtain ⟨n, rfl, k⟩ := h
    refine ⟨_, (pss_one (ps_ret (pe_and (pe_callB call_isi (by rfl) T.z_isinstance (by decide +kernel) (pa_cons (pv 0) (pa_cons (pe_bltn (v := .ty "int") (u := .type "int") (by rfl) T.z_int (by decide +kernel) (by rfl)) pa_nil))) (pe_one (pe_not (pe_callB call_isi (by rfl) T.z_isinstance (by decide +kernel) (pa_cons (pv 0) (pa_cons (pe_bltn (v := .ty "bool") (u := .type "bool") (by rfl) T.z_bool (by decide +kernel) (by rfl)) pa_nil)))))))), ?_⟩
    exact sR ⟨_, rfl, _, _, _, _, true, rfl, .ty "int", .base (.int _), kit_ty (by decide +kernel), true, rfl, iteT ⟨_, rfl, _, _, _, _, false, rfl, .ty "bool", .base (.int _), kit_ty (by decide +kernel), false, rfl, k⟩⟩
theorem sc__law_row : FnScope N__law_row ["_law_poly"] (defScope s__law_row) := ⟨rfl, rfl, rfl, by decide +kernel, rfl, by decide +kernel, by decide +kernel⟩
theorem ok__law_row (T : Txt K mg A) : FnOk P w K mg base CX0 2 A.f__law_row A.d__law_row ["_law_poly"] (spRow K A.C_Poly) := by
  have G_law_is_integer := ok__law_is_integer (P := P) (w := w) (base := base) T
  refine T.F__law_row.ok sc__law_row (fun vs H Q E h => ?_) (fun cdv Ar outer s H vs Q E hr h => ?_)
  · obtain ⟨p, row, rfl, _⟩ := h
    rfl
  · obtain ⟨p, row, rfl, ⟨dx, t, hp, ht⟩, hrow, k⟩ := h
    refine ⟨_, (pss_cons (ps_if (PW.pt (pw_or (pt_not (pt_val (pe_callB call_isi (by rfl) T.z_isinstance (by decide +kernel) (pa_cons (pv 0) (pa_cons (pe_glob (v := .ref A.C_Poly) rfl T.g_Poly rfl) pa_nil))))) (pw_or1 (pt_not (pt_val (pe_callB call_isi (by rfl) T.z_isinstance (by decide +kernel) (pa_cons (pe_fld (pv 0) rfl) (pa_cons (pe_bltn (v := .ty "tuple") (u := .type "tuple") (by rfl) T.z_tuple (by decide +kernel) (by rfl)) pa_nil)))))))) (pss_one (ps_ret pe_non)) pss_nil)
      (pss_cons (ps_for PassesOwn.never rfl (pi_tup (pe_fld (pv 0) rfl)) (pg_name (i := 1) sc__law_row.nd rfl (Or.inl rfl)) (pss_one (ps_if (pt_not (pt_val (pe_call G_law_is_integer (hr.mono (by decide)) rfl T.g__law_is_integer T.k__law_is_integer T.b__law_is_integer .nil pass0 (pa_cons (pv 1) pa_nil)))) (pss_one (ps_ret pe_non)) pss_nil)))
      (pss_cons (ps_if (PW.pt (pw_and (pt_cmpR op_gt (pe_callB call_len_seq (by rfl) T.z_len (by decide +kernel) (pa_cons (pe_fld (pv 0) rfl) pa_nil)) pe_int (nomark _)) (pw_and1 (pt_cmpR op_eq (pe_ix ix_tup (pe_fld (pv 0) rfl) (pe_un un_neg pe_int) (fun _ _ => rfl)) pe_int (nomark _))))) (pss_one (ps_ret pe_non)) pss_nil)
      (pss_one (ps_ret (pe_callTy call_list_of (by rfl) T.z_list (by decide +kernel) (pa_cons (pe_fld (pv 0) rfl) pa_nil))))))), ?_⟩
    have vc : ∀ {σ : L2.St}, σ[0]? = some (some (V.ref p)) → Val (tFld K (tVar 0) "coefs") σ H (.ref t) := fun e => val_coefs T.pc (val_var e) hp
    refine qW ⟨_, rfl, _, _, _, _, true, rfl, .own _, T.ty_Poly hp, T.ki_Poly, true, rfl, iteF ((vc rfl).at ⟨_, _, _, _, true, rfl, .ty "tuple", SqT.ty ht, kit_ty (by decide +kernel), true, rfl, iteF ?_⟩)⟩
    refine ⟨_, rfl, p, _, dx, _, _, rfl, hp, T.pc.cls, T.pc.na, rfl, t, rfl, ⟨_, ht⟩, for_tup (K := K) (a := t) (xs := iVs row) (fun i σ H' => ∃ v1, σ = [some (.ref p), v1] ∧ H' = H) ⟨none, rfl, rfl⟩ (fun i σ H' _ ⟨_, _, e⟩ => e ▸ ht) ?_ ?_⟩
    · rintro i y σ H' hi ⟨v1, rfl, rfl⟩
      obtain ⟨hl, rfl⟩ := iVs_at hi
      exact sW ⟨_, rfl, _, rfl, _, rfl, iteF ⟨_, rfl, rfl⟩⟩
    · rintro σ H' ⟨v1, rfl, rfl⟩
      have hlast := trim_last row
      rw [hrow] at hlast
      dsimp only
      refine q_when (b := false) (fun Q q => ?_) (fun z => nomatch z) (fun _ => ?_)
      · refine ⟨_, rfl, p, _, dx, _, _, rfl, hp, T.pc.cls, T.pc.na, rfl, t, _, rfl, .inr ht, _, _, rfl, rfl, _, rfl, ite2 (fun z => ?_) (fun z => q)⟩
        rw [iVs_len] at z
        have hpos : 0 < row.length := by
          have := of_decide_eq_true z
          omega
        refine ⟨_, rfl, p, _, dx, _, _, rfl, hp, T.pc.cls, T.pc.na, rfl, _, rfl, t, _, _, _, rfl, rfl, ht, atI_last hpos, rfl, _, rfl, ?_⟩
        rw [decide_eq_false (fun e => (hlast.resolve_left (by omega)) (V.int.inj e))]
        exact q
      · exact sR ⟨_, rfl, p, _, dx, _, _, rfl, hp, T.pc.cls, T.pc.na, rfl, t, _, rfl, .inr ht, k⟩
theorem sc__law_shown : FnScope N__law_shown ["_law_row_here"] (defScope s__law_shown) := ⟨rfl, rfl, rfl, by decide +kernel, rfl, by decide +kernel, by decide +kernel⟩
theorem ok__law_shown (T : Txt K mg A) : FnOk P w K mg base CX0 1 A.f__law_shown A.d__law_shown ["_law_row_here"] (spShown K) := by
  refine T.F__law_shown.ok sc__law_shown (fun vs H Q E h => ?_) (fun cdv Ar outer s H vs Q E hr h => ?_)
  · obtain ⟨a, row, rfl, _⟩ := h
    rfl
  · obtain ⟨a, row, rfl, hS, hl, hb, k⟩ := h
    refine ⟨_, (pss_one (ps_ret (pe_op op_add_str (pe_op op_add_str pe_str (pe_join pe_str (pe_lc (own := [("_law_x", 1)]) (g := gName 1) (tt := tYes) rfl sc__law_shown.nd (pi_list (pv 0)) (blkOk_by (own := [("_law_x", 1)]) (N := N__law_shown) (sc := defScope s__law_shown) (by decide +kernel)) (fun _ _ _ _ _ => (pg_name (i := 1) sc__law_shown.nd rfl (Or.inl rfl))) (fun _ _ _ _ _ => pts_nil) (fun _ _ _ _ _ => (pe_callTy call_str_int (by rfl) T.z_str (by decide +kernel) (pa_cons (pv 1) pa_nil)))))) pe_str))), ?_⟩
    have hS2 : SqL K H a (iVs row) := hS
    refine sR ⟨⟨_, rfl⟩, _, rfl, a, rfl, ⟨_, hS2⟩, fun D hD => ?_⟩
    refine lc_list (K := K) (a := a) (xs := iVs row) (fun i H' => Same H H' ∧ H' D = some (.lst ((tStrs (row.take i)).map V.str))) ⟨same_upd hD, upd_same⟩ (fun i H' _ h => h.1.seq hS2) ?_ ?_
    · rintro i y H' hi ⟨s1, h1⟩
      obtain ⟨hl2, rfl⟩ := iVs_at hi
      have hx := hb _ (List.getElem_mem hl2)
      rw [← co_lt hl2] at hx
      refine ⟨rfl, _, rfl, _, rfl, hx, _, h1, ?_, fun b o e => by rw [upd_ne (ne_of_none e hD)]; exact s1 b o e, ?_⟩
      · rw [List.length_map, tStrs, List.length_map, List.length_take]
        show _ < 2 ^ 24
        omega
      · rw [upd_same, List.take_succ_eq_append_getElem hl2, tStrs_snoc, List.map_append, co_lt hl2]
        rfl
    · rintro H2 ⟨s2, h2⟩
      rw [iVs_len, List.take_length] at h2
      obtain ⟨j1, j2⟩ := tStrs_join hl hb
      have e5 : (Str.ofString "Poly(").length = 5 := by decide +kernel
      have e1 : (Str.ofString ")").length = 1 := by decide +kernel
      refine ⟨_, D, tStrs row, rfl, rfl, .inl (SqL.of h2), j1, ?_⟩
      refine ⟨_, _, rfl, rfl, ?_, _, _, rfl, rfl, ?_, k H2 s2⟩
      · rw [e5]
        show _ ≤ 2 ^ 24
        omega
      · rw [Str.length_append, e5, e1]
        show _ ≤ 2 ^ 24
        omega
theorem sc_law : FnScope N_law ["_law_script"] (defScope s_law) := ⟨rfl, rfl, rfl, by decide +kernel, rfl, by decide +kernel, by decide +kernel⟩

def spLaw (K : PySem.W.Frag) : Sp := fun vs H Q _ => ∃ (a : Addr) (ns : List Int), vs = [.ref a] ∧ SqL K H a (ns.map V.int) ∧ ns.length ≤ 63 ∧ ∀ H', Q (.bl true) H'
theorem Txt.pe (T : Txt K mg A) : PolyE K A.C_Poly := ⟨T.ty_Poly, T.q_own_Poly⟩
theorem Txt.neok (T : Txt K mg A) : NeOk K A.C_Poly A.f_Poly___eq__ := ⟨T.ne_Poly, T.ob_Poly, T.m_Poly___eq__, T.i_Poly___eq__⟩
theorem np_int (T : Txt K mg A) {n : Int} : NotP K A.C_Poly (isV (.int n)) := fun H x hx => by
  cases (show x = _ from hx)
  exact ⟨_, .base (.int n), T.q_int_Poly, T.k_int_Poly⟩
theorem np_str (T : Txt K mg A) {n : Str} : NotP K A.C_Poly (isV (.str n)) := fun H x hx => by
  cases (show x = _ from hx)
  exact ⟨_, .base (.str n), T.q_str_Poly, T.k_str_Poly⟩
theorem np_tup (T : Txt K mg A) {row : List Int} : NotP K A.C_Poly (isT K row) := fun H x ⟨p, ex, hx⟩ => by
  subst ex
  exact ⟨_, SqT.ty hx, T.q_tuple_Poly, T.k_tuple_Poly⟩
theorem np_lst (T : Txt K mg A) {row : List Int} : NotP K A.C_Poly (isL K row) := fun H x ⟨p, ex, hx⟩ => by
  subst ex
  exact ⟨_, SqL.ty hx, T.q_list_Poly, T.k_list_Poly⟩
structure B5 (K : PySem.W.Frag) (C : Addr) (H : Hp) (p g o d : Addr) (G O : List Int) : Prop where
  pP : isP K C (trimI G) H (.ref p)
  gL : isL K G H (.ref g)
  oL : isL K O H (.ref o)
  dN : isN (trimI G) H (.ref d)
theorem B5.up {K : PySem.W.Frag} {C : Addr} {H H' : Hp} {p g o d : Addr} {G O : List Int} (h : B5 K C H p g o d G O) (e : Same H H') : B5 K C H' p g o d G O := ⟨Up.up e h.pP, Up.up e h.gL, Up.up e h.oL, Up.up e h.dN⟩
theorem B5.dL {K : PySem.W.Frag} {C : Addr} {H : Hp} {p g o d : Addr} {G O : List Int} (h : B5 K C H p g o d G O) : isL K (trimI G) H (.ref d) := isN_L h.dN
theorem ok_law (T : Txt K mg A) : FnOk P w K mg base CX0 9 A.f_law A.d_law ["_law_script"] (spLaw K) := by
  have G_law_box := ok__law_box (P := P) (w := w) (base := base) T
  have G_law_coefs := ok__law_coefs (P := P) (w := w) (base := base) T
  have G_law_trim := ok__law_trim (P := P) (w := w) (base := base) T
  have G_law_is_integer := ok__law_is_integer (P := P) (w := w) (base := base) T
  have G_law_row := ok__law_row (P := P) (w := w) (base := base) T
  have G_law_shown := ok__law_shown (P := P) (w := w) (base := base) T
  have GPoly___init__ := ok_Poly___init__ (P := P) (w := w) (base := base) T
  have GPoly_of := ok_Poly_of (P := P) (w := w) (base := base) T
  have GPoly_degree := ok_Poly_degree (P := P) (w := w) (base := base) T
  have GPoly___len__ := ok_Poly___len__ (P := P) (w := w) (base := base) T
  have GPoly___repr__ := ok_Poly___repr__ (P := P) (w := w) (base := base) T
  have GPoly___getitem__ := ok_Poly___getitem__ (P := P) (w := w) (base := base) T
  have GPoly___eq__ := ok_Poly___eq__ (P := P) (w := w) (base := base) T
  refine T.F_law.ok sc_law (fun vs H Q E h => ?_) (fun cdv Ar outer s H vs Q E hr h => ?_)
  · obtain ⟨a, ns, rfl, _⟩ := h
    rfl
  · obtain ⟨a, ns, rfl, hS, hlen, k⟩ := h
    refine ⟨_, (pss_cons (ps_set (i := 1) sc_law.nd rfl (Or.inl rfl) (pe_call G_law_box (hr.mono (by decide)) rfl T.g__law_box T.k__law_box T.b__law_box .nil pass0 (pa_cons (pv 0) pa_nil)))
      (pss_cons (ps_set (i := 2) sc_law.nd rfl (Or.inl rfl) (pe_call G_law_coefs (hr.mono (by decide)) rfl T.g__law_coefs T.k__law_coefs T.b__law_coefs .nil pass0 (pa_cons (pv 1) pa_nil)))
      (pss_cons (ps_set (i := 3) sc_law.nd rfl (Or.inl rfl) (pe_call G_law_coefs (hr.mono (by decide)) rfl T.g__law_coefs T.k__law_coefs T.b__law_coefs .nil pass0 (pa_cons (pv 1) pa_nil)))
      (pss_cons (ps_set (i := 4) sc_law.nd rfl (Or.inl rfl) (pe_callTy call_list_of (by rfl) T.z_list (by decide +kernel) (pa_cons (pv 2) pa_nil)))
      (pss_cons (ps_set (i := 5) sc_law.nd rfl (Or.inl rfl) (ClX.pe_cmeth (pe_glob (v := .ref A.C_Poly) rfl T.g_Poly rfl) T.crd_Poly ⟨T.m_Poly_of, T.r_Poly_of, T.n_Poly_of⟩ (fnr0 GPoly_of T.b_Poly_of) (hr.mono (by decide)) pass0 (pa_cons (pv 4) pa_nil)))
      (pss_cons (ps_if (pt_cmpR (op_neD hr.units) (pv 4) (pv 2) (nomark _)) (pss_one (ps_ret pe_bl)) pss_nil)
      (pss_cons (ps_expr (pe_bm PySem.F.plainAttrs_list PySem.F.slot_list_append PySem.F.type_list_append mt_append (pv 4) (pa_cons pe_int pa_nil)))
      (Evl.pss_cut (ps_if (pt_cmpR op_gt (pe_callB call_len_seq (by rfl) T.z_len (by decide +kernel) (pa_cons (pv 2) pa_nil)) pe_int (nomark _)) (pss_one (ps_asg (pe_op op_add (pe_ix ix_list (pv 4) pe_int (fun _ _ => rfl)) pe_int) (pg_sub (pv 4) pe_int set_list))) pss_nil)
      (pss_cons (ps_set (i := 6) sc_law.nd rfl (Or.inl rfl) (pe_call G_law_trim (hr.mono (by decide)) rfl T.g__law_trim T.k__law_trim T.b__law_trim .nil pass0 (pa_cons (pv 2) pa_nil)))
      (pss_cons (ps_if (PW.pt (pw_or (pt_cmpR (op_neD hr.units) (pe_call G_law_row (hr.mono (by decide)) rfl T.g__law_row T.k__law_row T.b__law_row .nil pass0 (pa_cons (pv 5) pa_nil)) (pv 6) (nomark _)) (pw_or1 (pt_cmpR (op_neD hr.units) (pe_call G_law_row (hr.mono (by decide)) rfl T.g__law_row T.k__law_row T.b__law_row .nil pass0 (pa_cons (ClX.pe_cmeth (pe_glob (v := .ref A.C_Poly) rfl T.g_Poly rfl) T.crd_Poly ⟨T.m_Poly_of, T.r_Poly_of, T.n_Poly_of⟩ (fnr0 GPoly_of T.b_Poly_of) (hr.mono (by decide)) pass0 (pa_cons (pe_callTy call_tuple_of (by rfl) T.z_tuple (by decide +kernel) (pa_cons (pv 2) pa_nil)) pa_nil)) pa_nil)) (pv 6) (nomark _))))) (pss_one (ps_ret pe_bl)) pss_nil)
      (pss_cons (ps_if (PW.pt (pw_or (pt_cmpR op_ne (pe_callB (call_lenO (E := E0) T.m_Poly___len__ T.i_Poly___len__ (fnr0 GPoly___len__ T.b_Poly___len__) (hr.mono (by decide)) (fun _ _ _ _ h => h)) (by rfl) T.z_len (by decide +kernel) (pa_cons (pv 5) pa_nil)) (pe_callB call_len_seq (by rfl) T.z_len (by decide +kernel) (pa_cons (pv 6) pa_nil)) (nomark _)) (pw_or (pt_cmpR op_ne (pe_prop (pv 5) T.pc.cls ⟨T.m_Poly_degree, T.s_Poly_degree, T.u_Poly_degree, T.r_Poly_degree⟩ GPoly_degree (hr.mono (by decide)) T.b_Poly_degree .nil pass0 rfl) (pe_op op_sub (pe_callB call_len_seq (by rfl) T.z_len (by decide +kernel) (pa_cons (pv 6) pa_nil)) pe_int) (nomark _)) (pw_or1 (pt_cmpR op_ne (pe_callB (call_reprO (E := E0) T.m_Poly___repr__ T.i_Poly___repr__ (fnr0 GPoly___repr__ T.b_Poly___repr__) (hr.mono (by decide)) (fun _ _ _ _ h => h)) (by rfl) T.z_repr (by decide +kernel) (pa_cons (pv 5) pa_nil)) (pe_call G_law_shown (hr.mono (by decide)) rfl T.g__law_shown T.k__law_shown T.b__law_shown .nil pass0 (pa_cons (pv 6) pa_nil)) (nomark _)))))) (pss_one (ps_ret pe_bl)) pss_nil)
      (pss_cons (ps_for PassesOwn.never rfl (pi_range1 (by rfl) T.z_range (pa_cons (pe_op op_add (pe_callB call_len_seq (by rfl) T.z_len (by decide +kernel) (pa_cons (pv 6) pa_nil)) pe_int) pa_nil)) (pg_name (i := 7) sc_law.nd rfl (Or.inl rfl)) (pss_one (ps_if (PW.pt (pw_or (pt_cmpR op_ne (pe_ixO ⟨T.m_Poly___getitem__, T.i_Poly___getitem__, T.n_Poly⟩ (fnr0 GPoly___getitem__ T.b_Poly___getitem__) (hr.mono (by decide)) pass0 (pv 5) (pv 7)) (pe_ix ix_list (pe_op op_cat (pv 6) (pe_lst (pa_cons pe_int (pa_cons pe_int (pa_cons pe_int pa_nil))))) (pv 7) (fun _ _ => rfl)) (nomark _)) (pw_or1 (pt_not (pt_val (pe_call G_law_is_integer (hr.mono (by decide)) rfl T.g__law_is_integer T.k__law_is_integer T.b__law_is_integer .nil pass0 (pa_cons (pe_ixO ⟨T.m_Poly___getitem__, T.i_Poly___getitem__, T.n_Poly⟩ (fnr0 GPoly___getitem__ T.b_Poly___getitem__) (hr.mono (by decide)) pass0 (pv 5) (pv 7)) pa_nil))))))) (pss_one (ps_ret pe_bl)) pss_nil)))
      (pss_cons (ps_set (i := 8) sc_law.nd rfl (Or.inl rfl) (pe_cmpR (op_eqD hr.units) (pe_call G_law_trim (hr.mono (by decide)) rfl T.g__law_trim T.k__law_trim T.b__law_trim .nil pass0 (pa_cons (pv 3) pa_nil)) (pv 6) (nomark _)))
      (pss_cons (ps_if (PW.pt (pw_or (pt_cmpR op_ne (pe_cmpR (op_eqO T.m_Poly___eq__ T.i_Poly___eq__ (fnr0 GPoly___eq__ T.b_Poly___eq__) (hr.mono (by decide)) pass0) (pv 5) (ClX.pe_cmeth (pe_glob (v := .ref A.C_Poly) rfl T.g_Poly rfl) T.crd_Poly ⟨T.m_Poly_of, T.r_Poly_of, T.n_Poly_of⟩ (fnr0 GPoly_of T.b_Poly_of) (hr.mono (by decide)) pass0 (pa_cons (pv 3) pa_nil)) (nomark _)) (pv 8) (nomark _)) (pw_or1 (pt_cmpR op_eq (pe_cmpR (op_neO (E := E0) T.neok (fnr0 GPoly___eq__ T.b_Poly___eq__) (hr.mono (by decide)) (fun _ _ _ _ h => h)) (ClX.pe_cmeth (pe_glob (v := .ref A.C_Poly) rfl T.g_Poly rfl) T.crd_Poly ⟨T.m_Poly_of, T.r_Poly_of, T.n_Poly_of⟩ (fnr0 GPoly_of T.b_Poly_of) (hr.mono (by decide)) pass0 (pa_cons (pv 3) pa_nil)) (pv 5) (nomark _)) (pv 8) (nomark _))))) (pss_one (ps_ret pe_bl)) pss_nil)
      (pss_cons (ps_if (PW.pt (pw_or (pt_cmpR op_notBl (pe_cmpR (op_eqO T.m_Poly___eq__ T.i_Poly___eq__ (fnr0 GPoly___eq__ T.b_Poly___eq__) (hr.mono (by decide)) pass0) (pv 5) pe_int (nomark _)) pe_bl (nomark _)) (pw_or (pt_cmpR op_notBl (pe_cmpR (op_eqO T.m_Poly___eq__ T.i_Poly___eq__ (fnr0 GPoly___eq__ T.b_Poly___eq__) (hr.mono (by decide)) pass0) (pv 5) (pe_callTy call_tuple_of (by rfl) T.z_tuple (by decide +kernel) (pa_cons (pv 6) pa_nil)) (nomark _)) pe_bl (nomark _)) (pw_or1 (pt_cmpR op_ne (pe_callB (call_lenO (E := E0) T.m_Poly___len__ T.i_Poly___len__ (fnr0 GPoly___len__ T.b_Poly___len__) (hr.mono (by decide)) (fun _ _ _ _ h => h)) (by rfl) T.z_len (by decide +kernel) (pa_cons (pe_makeR0 T.mk_Poly GPoly___init__ (hr.mono (by decide)) rfl T.g_Poly pass0) pa_nil)) pe_int (nomark _)))))) (pss_one (ps_ret pe_bl)) pss_nil)
      (pss_cons (ps_for PassesOwn.never rfl (pi_list (pe_op op_cat (pe_lst (pa_cons pe_int (pa_cons pe_int (pa_cons (pe_un un_neg pe_int) pa_nil)))) (pe_slice sl_list (pv 6) po_none (po_some pe_int)))) (pg_name (i := 9) sc_law.nd rfl (Or.inl rfl)) (pss_one (ps_if (PW.pt (pw_or (pt_cmpR op_notBl (pe_cmpR (op_eqO T.m_Poly___eq__ T.i_Poly___eq__ (fnr0 GPoly___eq__ T.b_Poly___eq__) (hr.mono (by decide)) pass0) (StX.pe_makeR T.mk_Poly GPoly___init__ (hr.mono (by decide)) rfl T.g_Poly pass0 (pa_cons (pv 9) pa_nil)) (pv 9) (nomark _)) pe_bl (nomark _)) (pw_or1 (pt_cmpR op_notBl (pe_cmpR (op_neO (E := E0) T.neok (fnr0 GPoly___eq__ T.b_Poly___eq__) (hr.mono (by decide)) (fun _ _ _ _ h => h)) (StX.pe_makeR T.mk_Poly GPoly___init__ (hr.mono (by decide)) rfl T.g_Poly pass0 (pa_cons (pv 9) pa_nil)) (pv 9) (nomark _)) pe_bl (nomark _))))) (pss_one (ps_ret pe_bl)) pss_nil)))
      (pss_cons (ps_if (PW.pt (pw_or (pt_cmpR op_notBl (pe_cmpR (op_eqO T.m_Poly___eq__ T.i_Poly___eq__ (fnr0 GPoly___eq__ T.b_Poly___eq__) (hr.mono (by decide)) pass0) (pv 5) (pv 6) (nomark _)) pe_bl (nomark _)) (pw_or (pt_cmpR op_notBl (pe_cmpR (op_eqO T.m_Poly___eq__ T.i_Poly___eq__ (fnr0 GPoly___eq__ T.b_Poly___eq__) (hr.mono (by decide)) pass0) (pv 5) (pe_callB (call_reprO (E := E0) T.m_Poly___repr__ T.i_Poly___repr__ (fnr0 GPoly___repr__ T.b_Poly___repr__) (hr.mono (by decide)) (fun _ _ _ _ h => h)) (by rfl) T.z_repr (by decide +kernel) (pa_cons (pv 5) pa_nil)) (nomark _)) pe_bl (nomark _)) (pw_or1 (pt_cmpR op_ne (pe_ixO ⟨T.m_Poly___getitem__, T.i_Poly___getitem__, T.n_Poly⟩ (fnr0 GPoly___getitem__ T.b_Poly___getitem__) (hr.mono (by decide)) pass0 (pv 5) (pe_op op_add (pe_callB call_len_seq (by rfl) T.z_len (by decide +kernel) (pa_cons (pv 6) pa_nil)) pe_int)) pe_int (nomark _)))))) (pss_one (ps_ret pe_bl)) pss_nil)
      (pss_cons (ps_if (PW.pt (pw_or (pt_cmpR (op_neD hr.units) (pe_call G_law_row (hr.mono (by decide)) rfl T.g__law_row T.k__law_row T.b__law_row .nil pass0 (pa_cons (StX.pe_makeR T.mk_Poly GPoly___init__ (hr.mono (by decide)) rfl T.g_Poly pass0 (pa_cons pe_int (pa_cons (pe_un un_neg pe_int) (pa_cons pe_int pa_nil)))) pa_nil)) (pe_lst (pa_cons pe_int (pa_cons (pe_un un_neg pe_int) pa_nil))) (nomark _)) (pw_or1 (pt_cmpR (op_neD hr.units) (pe_call G_law_row (hr.mono (by decide)) rfl T.g__law_row T.k__law_row T.b__law_row .nil pass0 (pa_cons (StX.pe_makeR T.mk_Poly GPoly___init__ (hr.mono (by decide)) rfl T.g_Poly pass0 (pa_cons pe_int pa_nil)) pa_nil)) (pe_lst pa_nil) (nomark _))))) (pss_one (ps_ret pe_bl)) pss_nil)
      (pss_one (ps_ret (pe_and (pe_cmpR (op_eqO T.m_Poly___eq__ T.i_Poly___eq__ (fnr0 GPoly___eq__ T.b_Poly___eq__) (hr.mono (by decide)) pass0) (ClX.pe_cmeth (pe_glob (v := .ref A.C_Poly) rfl T.g_Poly rfl) T.crd_Poly ⟨T.m_Poly_of, T.r_Poly_of, T.n_Poly_of⟩ (fnr0 GPoly_of T.b_Poly_of) (hr.mono (by decide)) pass0 (pa_cons (pe_callTy call_list_of (by rfl) T.z_list (by decide +kernel) (pa_cons (pv 2) pa_nil)) pa_nil)) (pv 5) (nomark _)) (pe_one (pe_cmpR (op_eqD hr.units) (pe_call G_law_row (hr.mono (by decide)) rfl T.g__law_row T.k__law_row T.b__law_row .nil pass0 (pa_cons (pv 5) pa_nil)) (pv 6) (nomark _)))))))))))))))))))))))), ?_⟩
    refine qS ⟨_, rfl, a, ns, rfl, hS, hlen, fun b c H1 s1 hb hc B1 => ?_⟩
    refine qS ⟨_, rfl, b, c, rfl, B1, fun g G H2 lg bg hg0 B2 e2 hg => ?_⟩
    refine qS ⟨_, rfl, b, c, rfl, B2, fun o O H3 lo bo ho0 B3 e3 ho => ?_⟩
    have hg3 := e3 g _ (B1.neb hg0).1 (B1.neb hg0).2 hg
    refine qS ⟨_, rfl, g, _, rfl, .inl (SqL.of hg3), fun l hl => ?_⟩
    have s4 : Same H3 (upd H3 l (.lst (iVs G))) := same_upd hl
    generalize hH4 : upd H3 l (.lst (iVs G)) = H4 at s4 ⊢
    have hl4 : H4 l = some (.lst (iVs G)) := hH4 ▸ upd_same
    refine qS ⟨rfl, _, rfl, l, G, rfl, SqI.lst hl4, by show _ ≤ 2 ^ 24; omega, fun p H5 s5 hp0 hp => ?_⟩
    have hD : trimI (trimI G) = trimI G := trim_trim G
    have hg5 := s5 _ _ (s4 _ _ hg3)
    have ho5 := s5 _ _ (s4 _ _ ho)
    have hl5 := s5 _ _ hl4
    have ngl : g ≠ l := ne_of_none hg3 hl
    have nol : o ≠ l := ne_of_none ho hl
    refine Evl.q_when (b := false) (t_no (er_neL (K := K) (er_var rfl ⟨l, rfl, SqL.of hl5⟩) (er_var rfl ⟨g, rfl, SqL.of hg5⟩)) (by simp)) (fun z => nomatch z) (fun _ H6 e6 => ?_)
    have hl6 := e6 _ _ hl5
    refine Evl.q_app (l := l) (xs := iVs G) hl6 (Evl.ev_var rfl) Evl.ev_c (by rw [iVs_len]; omega) (fun H7 e7 => ?_)
    have hp7 : PolyAt K A.C_Poly H7 p (trimI G) := (hp.same e6).same e7
    have hl7 := e7 _ _ hl6
    have hp8 := hp7.pastL (u := .lst (iVs G ++ [.int 1])) hl7
    have hg8 : upd H7 l (.lst (iVs G ++ [.int 1])) g = some (.lst (iVs G)) := (upd_ne ngl).trans (e7 _ _ (e6 _ _ hg5))
    have ho8 : upd H7 l (.lst (iVs G ++ [.int 1])) o = some (.lst (iVs O)) := (upd_ne nol).trans (e7 _ _ (e6 _ _ ho5))
    have hl8 : upd H7 l (.lst (iVs G ++ [.int 1])) l = some (.lst (iVs (G ++ [1]))) := by rw [upd_same, iVs_app]; rfl
    generalize upd H7 l (.lst (iVs G ++ [.int 1])) = H8 at hp8 hg8 ho8 hl8 ⊢
    refine Evl.q_cut (M := fun σ' H' => σ' = [some (.ref a), some (.ref b), some (.ref g), some (.ref o), some (.ref l), some (.ref p), none, none, none, none] ∧ PolyAt K A.C_Poly H' p (trimI G) ∧ H' g = some (.lst (iVs G)) ∧ H' o = some (.lst (iVs O))) ?_ ?_
    · refine sW ⟨_, rfl, g, _, rfl, .inl (SqL.of hg8), _, _, rfl, rfl, _, rfl, ite2 (fun _ => ?_) (fun _ => ⟨rfl, hp8, hg8, ho8⟩)⟩
      refine sB ⟨_, rfl, l, _, _, _, rfl, rfl, SqL.of hl8, atI_iVs (by omega) (by rw [List.length_append]; show (0 : Int) < ((G.length + 1 : Nat) : Int); omega), _, _, rfl, rfl, _, rfl, l, _, _, 0, rfl, rfl, hl8, ?_, ?_⟩
      · unfold ixN
        rw [if_pos (by decide), if_pos (by rw [iVs_len, List.length_append]; show (0 : Int) < ((G.length + 1 : Nat) : Int); omega)]
        rfl
      · exact ⟨rfl, hp8.pastL hl8, (upd_ne ngl).trans hg8, (upd_ne nol).trans ho8⟩
    rintro σ' H9 ⟨rfl, hp9, hg9, ho9⟩
    refine qS ⟨_, rfl, g, G, rfl, SqL.of hg9, by omega, fun d H10 s10 hd0 hd => ?_⟩
    have b10 : B5 K A.C_Poly H10 p g o d G O := ⟨⟨p, rfl, hp9.same s10⟩, ⟨g, rfl, SqL.of (s10 _ _ hg9)⟩, ⟨o, rfl, SqL.of (s10 _ _ ho9)⟩, ⟨d, rfl, hd⟩⟩
    have lD : (trimI G).length ≤ 7 := Nat.le_trans (trim_len G) lg
    have bD : ∀ x ∈ trimI G, x.natAbs.log2 < 1920 := fun x hx => by
      obtain ⟨n, _, e, _⟩ := trimI_ex G
      rw [e] at hx
      have := bg x (List.mem_of_mem_take hx)
      exact Nat.lt_of_lt_of_le (log2_lt (b := 70) (by decide) (by omega)) (by decide)
    have lG24 : G.length ≤ sizeLine := by show _ ≤ 2 ^ 24; omega
    have lO24 : O.length ≤ sizeLine := by show _ ≤ 2 ^ 24; omega
    refine Evl.q_when (b := false) (Evl.et_or (t_no (er_neL (er_row (er_var rfl b10.pP) hD) (er_var rfl b10.dL)) (by simp)) fun _ => t_no (er_neL (er_row (er_polyOf ((er_tuple (er_var rfl b10.gL)).imp fun _ _ => isT_I) lG24) hD) (er_var rfl b10.dL)) (by simp)) (fun z => nomatch z) (fun _ H11 e11 => ?_)
    have b11 := b10.up e11
    refine Evl.q_when (b := false) (Evl.et_or (t_no (er_ne (er_lenP (er_var rfl b11.pP) (by omega)) (er_lenL (er_var rfl b11.dL)) rfl) (by simp)) fun _ => Evl.et_or (t_no (er_ne (er_degree (er_var rfl b11.pP)) (er_int (er_lenL (er_var rfl b11.dL)) er_c) rfl) (by simp)) fun _ => t_no (er_ne (er_repr (er_var rfl b11.pP) (by omega) bD) (er_shown (er_var rfl b11.dL) (by omega) bD) rfl) (by simp)) (fun z => nomatch z) (fun _ H12 e12 => ?_)
    have b12 := b11.up e12
    refine Evl.q_forR1 (n := ((trimI G).length : Int) + 3) (Evl.ea_cons (er_ev (er_int (er_lenL (er_var rfl b12.dL)) er_c)) Evl.ea_nil) (by omega)
      (fun i σ' H' => (∃ v, σ' = [some (.ref a), some (.ref b), some (.ref g), some (.ref o), some (.ref l), some (.ref p), some (.ref d), v, none, none]) ∧ B5 K A.C_Poly H' p g o d G O)
      (fun H13 e13 => ⟨⟨none, rfl⟩, b12.up e13⟩) ?_ ?_
    · rintro i σ' H' hi ⟨⟨v, rfl⟩, B⟩
      refine Evl.s_when (b := false) (Evl.et_or (t_no (er_ne (er_get (er_var rfl B.pP) (er_var rfl rfl)) (er_ixL ((er_catN (ys := [0, 0, 0]) (er_var rfl B.dN) (er_nl (fun _ _ => va_cons val_c (va_cons val_c (va_cons val_c va_nil))) (by decide)) (by show _ ≤ 2 ^ 24; simp; omega)).imp fun _ _ => isN_L) (er_var rfl rfl) (by omega) (by simp; omega)) rfl) ?_) fun _ => t_notB (er_isInt (er_get (er_var rfl B.pP) (er_var rfl rfl)) fun H1 Q q => ⟨_, rfl, q⟩) rfl) (fun z => nomatch z) (fun _ H13 e13 => ⟨⟨_, rfl⟩, B.up e13⟩)
      have e : coZ (trimI G) (i : Int) = co (trimI G ++ [0, 0, 0]) i := by
        unfold coZ
        rw [if_pos (by omega)]
        show co (trimI G) i = _
        unfold co
        rw [List.getD_eq_getElem?_getD, List.getD_eq_getElem?_getD, List.getElem?_append]
        split
        · rfl
        · rename_i h
          rw [List.getElem?_eq_none (by omega)]
          have : i - (trimI G).length = 0 ∨ i - (trimI G).length = 1 ∨ i - (trimI G).length = 2 := by omega
          rcases this with h | h | h <;> rw [h] <;> rfl
      rw [e]
      show (!decide (V.int (co (trimI G ++ [0, 0, 0]) i) = V.int (co (trimI G ++ [0, 0, 0]) i))) = false
      simp
    rintro σ' H13 ⟨⟨v, rfl⟩, b13⟩
    refine Evl.q_asg (er_ev (er_eqL (er_trim (er_var rfl b13.oL) (by omega)) (er_var rfl b13.dL))) (fun H14 e14 => ?_)
    have b14 := b13.up e14
    refine Evl.q_when (b := false) (Evl.et_or (t_no (er_ne (er_eqP T.pe (er_var rfl b14.pP) (er_polyOf ((er_var rfl b14.oL).imp fun _ _ => isL_I) lO24)) (er_var rfl rfl) rfl) ?_) fun _ => t_no (er_eq (er_neP T.pe (er_polyOf ((er_var rfl b14.oL).imp fun _ _ => isL_I) lO24) (er_var rfl b14.pP)) (er_var rfl rfl) rfl) ?_) (fun z => nomatch z) (fun _ H15 e15 => ?_)
    · by_cases h : trimI O = trimI G
      · rw [h]
        simp
      · have h2 : ¬ trimI G = trimI O := fun e => h e.symm
        rw [decide_eq_false h, decide_eq_false h2]
        rfl
    · by_cases h : trimI O = trimI G
      · rw [decide_eq_true h]
        rfl
      · rw [decide_eq_false h]
        rfl
    have b15 := b14.up e15
    refine Evl.q_when (b := false) (Evl.et_or (t_no (er_notB (er_eqX (np_int T) (er_var rfl b15.pP) er_c) er_c) rfl) fun _ => Evl.et_or (t_no (er_notB (er_eqX (np_tup T) (er_var rfl b15.pP) (er_tuple (er_var rfl b15.dL))) er_c) rfl) fun _ => t_no (er_ne (er_lenP (er_makeR (row := []) (fun _ _ => va_nil) (by decide)) (by decide)) er_c rfl) rfl) (fun z => nomatch z) (fun _ H16 e16 => ?_)
    have b16 := b15.up e16
    obtain ⟨_, ed, hd16⟩ := b16.dN
    cases ed
    refine ⟨_, rfl, (by show 3 ≤ sizeLine; decide), fun q1 hq1 => ?_⟩
    have b17 := b16.up (same_upd (o := .lst [.int 3, .int 1, .int (-2)]) hq1)
    have hq1' : upd H16 q1 (.lst [.int 3, .int 1, .int (-2)]) q1 = some (.lst [.int 3, .int 1, .int (-2)]) := upd_same
    generalize upd H16 q1 (.lst [.int 3, .int 1, .int (-2)]) = H17 at b17 hq1' ⊢
    obtain ⟨_, ed, hd17⟩ := b17.dN
    cases ed
    obtain ⟨zs, hz, lz⟩ := iVs_cutE (trimI G) none (some 1)
    refine ⟨_, rfl, _, rfl, d, _, rfl, SqL.of hd17, fun q2 hq2 => ?_⟩
    rw [hz]
    have b18 := b17.up (same_upd (o := .lst (iVs zs)) hq2)
    have hq1b : upd H17 q2 (.lst (iVs zs)) q1 = some (.lst (iVs [3, 1, -2])) := kept hq1' hq2
    have hq2' : upd H17 q2 (.lst (iVs zs)) q2 = some (.lst (iVs zs)) := upd_same
    generalize upd H17 q2 (.lst (iVs zs)) = H18 at b18 hq1b hq2' ⊢
    refine ⟨q1, q2, _, _, rfl, rfl, hq1b, hq2', by rw [iVs_len, iVs_len]; show 3 + zs.length ≤ 2 ^ 24; omega, fun q3 hq3 => ?_⟩
    rw [← iVs_app]
    have b19 := b18.up (same_upd (o := .lst (iVs ([3, 1, -2] ++ zs))) hq3)
    have hq3' : upd H18 q3 (.lst (iVs ([3, 1, -2] ++ zs))) q3 = some (.lst (iVs ([3, 1, -2] ++ zs))) := upd_same
    generalize upd H18 q3 (.lst (iVs ([3, 1, -2] ++ zs))) = H19 at b19 hq3' ⊢
    refine ⟨q3, rfl, ⟨_, SqL.of hq3'⟩, for_list (K := K) (a := q3) (xs := iVs ([3, 1, -2] ++ zs)) (fun i σ' H' => (∃ w, σ' = [some (.ref a), some (.ref b), some (.ref g), some (.ref o), some (.ref l), some (.ref p), some (.ref d), v, some (.bl (decide (trimI O = trimI G))), w]) ∧ B5 K A.C_Poly H' p g o d G O ∧ H' q3 = some (.lst (iVs ([3, 1, -2] ++ zs))))
      ⟨⟨none, rfl⟩, b19, hq3'⟩ (fun i σ H' _ h => SqL.of h.2.2) ?_ ?_⟩
    · rintro i y σ' H' hi ⟨⟨w, rfl⟩, B, hq⟩
      obtain ⟨_, rfl⟩ := iVs_at hi
      generalize co ([3, 1, -2] ++ zs) i = x
      refine Evl.s_when (b := false) (Evl.et_or (t_no (er_notB (er_eqX (np_int T) (er_makeR (row := [x]) (fun _ _ => va_cons (val_var rfl) va_nil) (by show 1 ≤ 2 ^ 24; decide)) (er_var rfl rfl)) er_c) rfl) fun _ => t_no (er_notB (er_neX (np_int T) (er_makeR (row := [x]) (fun _ _ => va_cons (val_var rfl) va_nil) (by show 1 ≤ 2 ^ 24; decide)) (er_var rfl rfl)) er_c) rfl) (fun z => nomatch z) (fun _ H20 e20 => ⟨⟨_, rfl⟩, B.up e20, e20 _ _ hq⟩)
    rintro σ' H20 ⟨⟨w, rfl⟩, b20, _⟩
    dsimp only
    refine Evl.q_when (b := false) (Evl.et_or (t_no (er_notB (er_eqX (np_lst T) (er_var rfl b20.pP) (er_var rfl b20.dL)) er_c) rfl) fun _ => Evl.et_or (t_no (er_notB (er_eqX (np_str T) (er_var rfl b20.pP) (er_repr (er_var rfl b20.pP) (by omega) bD)) er_c) rfl) fun _ => t_no (er_ne (er_get (er_var rfl b20.pP) (er_int (er_lenL (er_var rfl b20.dL)) er_c)) er_c rfl) ?_) (fun z => nomatch z) (fun _ H21 e21 => ?_)
    · have e : coZ (trimI G) (((trimI G).length : Int) + 60) = 0 := by
        unfold coZ
        rw [if_pos (by omega)]
        exact co_ge (by omega)
      rw [e]
      rfl
    have b21 := b20.up e21
    refine Evl.q_when (b := false) (Evl.et_or (t_no (er_neL (er_row (er_makeR (row := [4, -7, 0]) (fun _ _ => va_cons val_c (va_cons (val_un (g := fun i => V.int (-i)) (k := 7) val_c) (va_cons val_c va_nil))) (by show 3 ≤ 2 ^ 24; decide)) (trim_trim _)) (er_lst (xs := [4, -7]) (fun _ _ => va_cons val_c (va_cons (val_un (g := fun i => V.int (-i)) (k := 7) val_c) va_nil)) (by show 2 ≤ 2 ^ 24; decide))) (by decide)) fun _ => t_no (er_neL (er_row (er_makeR (row := [0]) (fun _ _ => va_cons val_c va_nil) (by show 1 ≤ 2 ^ 24; decide)) (trim_trim _)) (er_lst (xs := []) (fun _ _ => va_nil) (by show 0 ≤ 2 ^ 24; decide))) (by decide)) (fun z => nomatch z) (fun _ H22 e22 => ?_)
    have b22 := b21.up e22
    exact Evl.s_ret (Evl.ev_is (Evl.ev_andV (er_ev (er_eqP T.pe (er_polyOf ((er_list (er_var rfl b22.gL)).imp fun _ _ => isL_I) lG24) (er_var rfl b22.pP))) fun _ => er_ev (er_eqL (er_row (er_var rfl b22.pP) hD) (er_var rfl b22.dL))) (by simp)) fun _ _ => k _
end
theorem all_mk {l : PySem.W.OpenLaw} {w : World} {K : PySem.W.Frag} {h : Heap} {mg : Str → Option Value} {fa : Addr} (X : K.In h) (G : h.Ns mainGlobals mg) (hfa : mg "law" = some (.ref fa))
    {C_StopError : Addr} (aC_StopError : PySem.W.nsIn K mainGlobals "StopError" = some (some (.ref C_StopError)))
    {C_InvalidRatio : Addr} (aC_InvalidRatio : PySem.W.nsIn K mainGlobals "InvalidRatio" = some (some (.ref C_InvalidRatio)))
    {C_NotExact : Addr} (aC_NotExact : PySem.W.nsIn K mainGlobals "NotExact" = some (some (.ref C_NotExact)))
    {C_Poly : Addr} (aC_Poly : PySem.W.nsIn K mainGlobals "Poly" = some (some (.ref C_Poly)))
    {f0 : Addr} {od0 an0 : Option Addr} {sl0 : Array (Option Value)} {oc0 kV0 dc0 pm0 cd0 ct0 : Value}
    (a0 : PySem.W.nsIn K mainGlobals "trimmed" = some (some (.ref f0)))
    (l0 : K.lookup f0 = some ⟨oc0, od0, .func (PySem.W.fnOf "trimmed" "trimmed" (defArgs s_trimmed) (defBody s_trimmed) (defScope s_trimmed) .none kV0 dc0 pm0 an0 cd0 ct0), sl0⟩) (c0 : PySem.W.codeIn K cd0 "trimmed" = true) (k0 : PySem.W.keepIn K (.ref f0) = true)
    {f1 : Addr} {od1 an1 : Option Addr} {sl1 : Array (Option Value)} {oc1 kV1 dc1 pm1 cd1 ct1 : Value}
    (a1 : PySem.W.findIn K (.ref C_Poly) "__init__" = some (some (.ref f1))) (i1 : PySem.W.isFn K (.ref f1) = true) (t1 : PySem.W.typeIn K (.ref f1) = some (.type "function"))
    (l1 : K.lookup f1 = some ⟨oc1, od1, .func (PySem.W.fnOf "__init__" "Poly.__init__" (defArgs s_Poly___init__) (defBody s_Poly___init__) (defScope s_Poly___init__) .none kV1 dc1 pm1 an1 cd1 ct1), sl1⟩) (c1 : PySem.W.codeIn K cd1 "Poly.__init__" = true) (k1 : PySem.W.keepIn K (.ref f1) = true)
    {f2 : Addr} {od2 an2 : Option Addr} {sl2 : Array (Option Value)} {oc2 kV2 dc2 pm2 cd2 ct2 : Value}
    {p2 : Addr} {w2 : List Value} (m_2 : PySem.W.findCls K (.ref C_Poly) (.type "type") "of" = some (.get (.builtin "classmethod.__get__") (.ref p2) .none (.ref C_Poly))) (r_2 : PySem.W.recIn K p2 "classmethod" = some (.ref f2 :: w2)) (n_2 : PySem.W.fnIn K f2 = true)
    (l2 : K.lookup f2 = some ⟨oc2, od2, .func (PySem.W.fnOf "of" "Poly.of" (defArgs s_Poly_of) (defBody s_Poly_of) (defScope s_Poly_of) .none kV2 dc2 pm2 an2 cd2 ct2), sl2⟩) (c2 : PySem.W.codeIn K cd2 "Poly.of" = true) (k2 : PySem.W.keepIn K (.ref f2) = true)
    {f3 : Addr} {od3 an3 : Option Addr} {sl3 : Array (Option Value)} {oc3 kV3 dc3 pm3 cd3 ct3 : Value}
    {p3 : Addr} {w3 : List Value} (m_3 : PySem.W.findIn K (.ref C_Poly) "degree" = some (some (.ref p3))) (s_3 : PySem.W.specialIn K (.ref p3) "__get__" = some (some (.builtin "property.__get__"))) (u_3 : PySem.W.takesIn K (.ref p3) = some true) (r_3 : PySem.W.recIn K p3 "property" = some (.ref f3 :: w3))
    (l3 : K.lookup f3 = some ⟨oc3, od3, .func (PySem.W.fnOf "degree" "Poly.degree" (defArgs s_Poly_degree) (defBody s_Poly_degree) (defScope s_Poly_degree) .none kV3 dc3 pm3 an3 cd3 ct3), sl3⟩) (c3 : PySem.W.codeIn K cd3 "Poly.degree" = true) (k3 : PySem.W.keepIn K (.ref f3) = true)
    {f4 : Addr} {od4 an4 : Option Addr} {sl4 : Array (Option Value)} {oc4 kV4 dc4 pm4 cd4 ct4 : Value}
    (a4 : PySem.W.findIn K (.ref C_Poly) "__len__" = some (some (.ref f4))) (i4 : PySem.W.isFn K (.ref f4) = true) (t4 : PySem.W.typeIn K (.ref f4) = some (.type "function"))
    (l4 : K.lookup f4 = some ⟨oc4, od4, .func (PySem.W.fnOf "__len__" "Poly.__len__" (defArgs s_Poly___len__) (defBody s_Poly___len__) (defScope s_Poly___len__) .none kV4 dc4 pm4 an4 cd4 ct4), sl4⟩) (c4 : PySem.W.codeIn K cd4 "Poly.__len__" = true) (k4 : PySem.W.keepIn K (.ref f4) = true)
    {f5 : Addr} {od5 an5 : Option Addr} {sl5 : Array (Option Value)} {oc5 kV5 dc5 pm5 cd5 ct5 : Value}
    (a5 : PySem.W.findIn K (.ref C_Poly) "__repr__" = some (some (.ref f5))) (i5 : PySem.W.isFn K (.ref f5) = true) (t5 : PySem.W.typeIn K (.ref f5) = some (.type "function"))
    (l5 : K.lookup f5 = some ⟨oc5, od5, .func (PySem.W.fnOf "__repr__" "Poly.__repr__" (defArgs s_Poly___repr__) (defBody s_Poly___repr__) (defScope s_Poly___repr__) .none kV5 dc5 pm5 an5 cd5 ct5), sl5⟩) (c5 : PySem.W.codeIn K cd5 "Poly.__repr__" = true) (k5 : PySem.W.keepIn K (.ref f5) = true)
    {f6 : Addr} {od6 an6 : Option Addr} {sl6 : Array (Option Value)} {oc6 kV6 dc6 pm6 cd6 ct6 : Value}
    (a6 : PySem.W.findIn K (.ref C_Poly) "__getitem__" = some (some (.ref f6))) (i6 : PySem.W.isFn K (.ref f6) = true) (t6 : PySem.W.typeIn K (.ref f6) = some (.type "function"))
    (l6 : K.lookup f6 = some ⟨oc6, od6, .func (PySem.W.fnOf "__getitem__" "Poly.__getitem__" (defArgs s_Poly___getitem__) (defBody s_Poly___getitem__) (defScope s_Poly___getitem__) .none kV6 dc6 pm6 an6 cd6 ct6), sl6⟩) (c6 : PySem.W.codeIn K cd6 "Poly.__getitem__" = true) (k6 : PySem.W.keepIn K (.ref f6) = true)
    {f7 : Addr} {od7 an7 : Option Addr} {sl7 : Array (Option Value)} {oc7 kV7 dc7 pm7 cd7 ct7 : Value}
    (a7 : PySem.W.findIn K (.ref C_Poly) "__eq__" = some (some (.ref f7))) (i7 : PySem.W.isFn K (.ref f7) = true) (t7 : PySem.W.typeIn K (.ref f7) = some (.type "function"))
    (l7 : K.lookup f7 = some ⟨oc7, od7, .func (PySem.W.fnOf "__eq__" "Poly.__eq__" (defArgs s_Poly___eq__) (defBody s_Poly___eq__) (defScope s_Poly___eq__) .none kV7 dc7 pm7 an7 cd7 ct7), sl7⟩) (c7 : PySem.W.codeIn K cd7 "Poly.__eq__" = true) (k7 : PySem.W.keepIn K (.ref f7) = true)
    {f8 : Addr} {od8 an8 : Option Addr} {sl8 : Array (Option Value)} {oc8 kV8 dc8 pm8 cd8 ct8 : Value}
    (a8 : PySem.W.nsIn K mainGlobals "_law_box" = some (some (.ref f8)))
    (l8 : K.lookup f8 = some ⟨oc8, od8, .func (PySem.W.fnOf "_law_box" "_law_box" (defArgs s__law_box) (defBody s__law_box) (defScope s__law_box) .none kV8 dc8 pm8 an8 cd8 ct8), sl8⟩) (c8 : PySem.W.codeIn K cd8 "_law_box" = true) (k8 : PySem.W.keepIn K (.ref f8) = true)
    {f9 : Addr} {od9 an9 : Option Addr} {sl9 : Array (Option Value)} {oc9 kV9 dc9 pm9 cd9 ct9 : Value}
    (a9 : PySem.W.nsIn K mainGlobals "_law_take" = some (some (.ref f9)))
    (l9 : K.lookup f9 = some ⟨oc9, od9, .func (PySem.W.fnOf "_law_take" "_law_take" (defArgs s__law_take) (defBody s__law_take) (defScope s__law_take) .none kV9 dc9 pm9 an9 cd9 ct9), sl9⟩) (c9 : PySem.W.codeIn K cd9 "_law_take" = true) (k9 : PySem.W.keepIn K (.ref f9) = true)
    {f10 : Addr} {od10 an10 : Option Addr} {sl10 : Array (Option Value)} {oc10 kV10 dc10 pm10 cd10 ct10 : Value}
    (a10 : PySem.W.nsIn K mainGlobals "_law_coefs" = some (some (.ref f10)))
    (l10 : K.lookup f10 = some ⟨oc10, od10, .func (PySem.W.fnOf "_law_coefs" "_law_coefs" (defArgs s__law_coefs) (defBody s__law_coefs) (defScope s__law_coefs) .none kV10 dc10 pm10 an10 cd10 ct10), sl10⟩) (c10 : PySem.W.codeIn K cd10 "_law_coefs" = true) (k10 : PySem.W.keepIn K (.ref f10) = true)
    {f11 : Addr} {od11 an11 : Option Addr} {sl11 : Array (Option Value)} {oc11 kV11 dc11 pm11 cd11 ct11 : Value}
    (a11 : PySem.W.nsIn K mainGlobals "_law_trim" = some (some (.ref f11)))
    (l11 : K.lookup f11 = some ⟨oc11, od11, .func (PySem.W.fnOf "_law_trim" "_law_trim" (defArgs s__law_trim) (defBody s__law_trim) (defScope s__law_trim) .none kV11 dc11 pm11 an11 cd11 ct11), sl11⟩) (c11 : PySem.W.codeIn K cd11 "_law_trim" = true) (k11 : PySem.W.keepIn K (.ref f11) = true)
    {f12 : Addr} {od12 an12 : Option Addr} {sl12 : Array (Option Value)} {oc12 kV12 dc12 pm12 cd12 ct12 : Value}
    (a12 : PySem.W.nsIn K mainGlobals "_law_is_integer" = some (some (.ref f12)))
    (l12 : K.lookup f12 = some ⟨oc12, od12, .func (PySem.W.fnOf "_law_is_integer" "_law_is_integer" (defArgs s__law_is_integer) (defBody s__law_is_integer) (defScope s__law_is_integer) .none kV12 dc12 pm12 an12 cd12 ct12), sl12⟩) (c12 : PySem.W.codeIn K cd12 "_law_is_integer" = true) (k12 : PySem.W.keepIn K (.ref f12) = true)
    {f13 : Addr} {od13 an13 : Option Addr} {sl13 : Array (Option Value)} {oc13 kV13 dc13 pm13 cd13 ct13 : Value}
    (a13 : PySem.W.nsIn K mainGlobals "_law_row" = some (some (.ref f13)))
    (l13 : K.lookup f13 = some ⟨oc13, od13, .func (PySem.W.fnOf "_law_row" "_law_row" (defArgs s__law_row) (defBody s__law_row) (defScope s__law_row) .none kV13 dc13 pm13 an13 cd13 ct13), sl13⟩) (c13 : PySem.W.codeIn K cd13 "_law_row" = true) (k13 : PySem.W.keepIn K (.ref f13) = true)
    {f14 : Addr} {od14 an14 : Option Addr} {sl14 : Array (Option Value)} {oc14 kV14 dc14 pm14 cd14 ct14 : Value}
    (a14 : PySem.W.nsIn K mainGlobals "_law_shown" = some (some (.ref f14)))
    (l14 : K.lookup f14 = some ⟨oc14, od14, .func (PySem.W.fnOf "_law_shown" "_law_shown" (defArgs s__law_shown) (defBody s__law_shown) (defScope s__law_shown) .none kV14 dc14 pm14 an14 cd14 ct14), sl14⟩) (c14 : PySem.W.codeIn K cd14 "_law_shown" = true) (k14 : PySem.W.keepIn K (.ref f14) = true)
    {f15 : Addr} {od15 an15 : Option Addr} {sl15 : Array (Option Value)} {oc15 kV15 dc15 pm15 cd15 ct15 : Value}
    (a15 : PySem.W.nsIn K mainGlobals "law" = some (some (.ref f15)))
    (l15 : K.lookup f15 = some ⟨oc15, od15, .func (PySem.W.fnOf "law" "law" (defArgs s_law) (defBody s_law) (defScope s_law) .none kV15 dc15 pm15 an15 cd15 ct15), sl15⟩) (c15 : PySem.W.codeIn K cd15 "law" = true) (k15 : PySem.W.keepIn K (.ref f15) = true)
    (z_abs : PySem.W.nsIn K mainGlobals "abs" = some none)
    (z_bool : PySem.W.nsIn K mainGlobals "bool" = some none)
    (z_int : PySem.W.nsIn K mainGlobals "int" = some none)
    (z_isinstance : PySem.W.nsIn K mainGlobals "isinstance" = some none)
    (z_len : PySem.W.nsIn K mainGlobals "len" = some none)
    (z_list : PySem.W.nsIn K mainGlobals "list" = some none)
    (z_range : PySem.W.nsIn K mainGlobals "range" = some none)
    (z_repr : PySem.W.nsIn K mainGlobals "repr" = some none)
    (z_str : PySem.W.nsIn K mainGlobals "str" = some none)
    (z_tuple : PySem.W.nsIn K mainGlobals "tuple" = some none)
    (x_mk0_Poly : PySem.W.makesIn K C_Poly = true)
    (x_kp_Poly : PySem.W.keepIn K (.ref C_Poly) = true)
    (x_pg_Poly : PySem.W.plainGet K C_Poly Str.empty = true)
    (x_hd_Poly : PySem.W.hasDictIn K C_Poly = true)
    (x_po_Poly : PySem.W.plainOver K C_Poly = true)
    (x_sa_Poly : PySem.W.findIn K (.ref C_Poly) "__setattr__" = some (some (.builtin "object.__setattr__")))
    (x_nc_Poly : PySem.W.findIn K (.ref C_Poly) "coefs" = some none)
    (x_rd_Poly : PySem.W.readsIn K C_Poly (.type "type") = true)
    (x_cg_Poly : PySem.W.specialIn K (.ref C_Poly) "__getattribute__" = some (some (.builtin "type.__getattribute__")))
    (x_ha_Poly : PySem.W.findIn K (.ref C_Poly) "__class__" = some (some (.builtin "object.__class__")))
    (x_hn_Poly : PySem.W.specialIn K (.builtin "object.__class__") "__get__" = some (some (.builtin "getset_descriptor.__get__")))
    (x_ht_Poly : PySem.W.takesIn K (.builtin "object.__class__") = some true)
    (x_hm_Poly : PySem.W.mroIn K C_Poly (.type "object") = some true)
    (x_ki_Poly : PySem.W.kitOne K (.ref C_Poly) (.ref C_Poly) = some true)
    (x_n_Poly : PySem.W.fnIn K f6 = true)
    (x_k_int_Poly : PySem.W.kitOne K (.type "int") (.ref C_Poly) = some false)
    (x_k_tuple_Poly : PySem.W.kitOne K (.type "tuple") (.ref C_Poly) = some false)
    (x_k_list_Poly : PySem.W.kitOne K (.type "list") (.ref C_Poly) = some false)
    (x_k_str_Poly : PySem.W.kitOne K (.type "str") (.ref C_Poly) = some false)
    (x_q_int_Poly : PySem.W.notFirst K C_Poly (.type "int") = true)
    (x_q_tuple_Poly : PySem.W.notFirst K C_Poly (.type "tuple") = true)
    (x_q_list_Poly : PySem.W.notFirst K C_Poly (.type "list") = true)
    (x_q_str_Poly : PySem.W.notFirst K C_Poly (.type "str") = true)
    (x_q_own_Poly : PySem.W.notFirst K C_Poly (.ref C_Poly) = true)
    (x_ne_Poly : PySem.W.findIn K (.ref C_Poly) "__ne__" = some (some (.builtin "object.__ne__")))
    (x_ob_Poly : PySem.W.subIn K (.ref C_Poly) (.type "object") = some true)
    : ∃ fd : FuncData, (∀ (s : Shared) (v : Value), BindsTo s fd ⟨[v], []⟩ [("_law_script", v)]) ∧ ∀ base : Heap, K.In base → base.Ns mainGlobals mg → FnOk l.prog w K mg base CX0 9 fa fd ["_law_script"] (spLaw K) := by
  have e := hfa.symm.trans (PySem.W.mg_of X G a15)
  cases e
  have F0 := fun_mk (st := s_trimmed) l0 c0 k0
  have F1 := fun_mk (st := s_Poly___init__) l1 c1 k1
  have F2 := fun_mk (st := s_Poly_of) l2 c2 k2
  have F3 := fun_mk (st := s_Poly_degree) l3 c3 k3
  have F4 := fun_mk (st := s_Poly___len__) l4 c4 k4
  have F5 := fun_mk (st := s_Poly___repr__) l5 c5 k5
  have F6 := fun_mk (st := s_Poly___getitem__) l6 c6 k6
  have F7 := fun_mk (st := s_Poly___eq__) l7 c7 k7
  have F8 := fun_mk (st := s__law_box) l8 c8 k8
  have F9 := fun_mk (st := s__law_take) l9 c9 k9
  have F10 := fun_mk (st := s__law_coefs) l10 c10 k10
  have F11 := fun_mk (st := s__law_trim) l11 c11 k11
  have F12 := fun_mk (st := s__law_is_integer) l12 c12 k12
  have F13 := fun_mk (st := s__law_row) l13 c13 k13
  have F14 := fun_mk (st := s__law_shown) l14 c14 k14
  have F15 := fun_mk (st := s_law) l15 c15 k15
  have T : Txt K mg ⟨f0, PySem.W.fnOf "trimmed" "trimmed" (defArgs s_trimmed) (defBody s_trimmed) (defScope s_trimmed) .none kV0 dc0 pm0 an0 cd0 ct0, f1, PySem.W.fnOf "__init__" "Poly.__init__" (defArgs s_Poly___init__) (defBody s_Poly___init__) (defScope s_Poly___init__) .none kV1 dc1 pm1 an1 cd1 ct1, f2, PySem.W.fnOf "of" "Poly.of" (defArgs s_Poly_of) (defBody s_Poly_of) (defScope s_Poly_of) .none kV2 dc2 pm2 an2 cd2 ct2, f3, PySem.W.fnOf "degree" "Poly.degree" (defArgs s_Poly_degree) (defBody s_Poly_degree) (defScope s_Poly_degree) .none kV3 dc3 pm3 an3 cd3 ct3, f4, PySem.W.fnOf "__len__" "Poly.__len__" (defArgs s_Poly___len__) (defBody s_Poly___len__) (defScope s_Poly___len__) .none kV4 dc4 pm4 an4 cd4 ct4, f5, PySem.W.fnOf "__repr__" "Poly.__repr__" (defArgs s_Poly___repr__) (defBody s_Poly___repr__) (defScope s_Poly___repr__) .none kV5 dc5 pm5 an5 cd5 ct5, f6, PySem.W.fnOf "__getitem__" "Poly.__getitem__" (defArgs s_Poly___getitem__) (defBody s_Poly___getitem__) (defScope s_Poly___getitem__) .none kV6 dc6 pm6 an6 cd6 ct6, f7, PySem.W.fnOf "__eq__" "Poly.__eq__" (defArgs s_Poly___eq__) (defBody s_Poly___eq__) (defScope s_Poly___eq__) .none kV7 dc7 pm7 an7 cd7 ct7, f8, PySem.W.fnOf "_law_box" "_law_box" (defArgs s__law_box) (defBody s__law_box) (defScope s__law_box) .none kV8 dc8 pm8 an8 cd8 ct8, f9, PySem.W.fnOf "_law_take" "_law_take" (defArgs s__law_take) (defBody s__law_take) (defScope s__law_take) .none kV9 dc9 pm9 an9 cd9 ct9, f10, PySem.W.fnOf "_law_coefs" "_law_coefs" (defArgs s__law_coefs) (defBody s__law_coefs) (defScope s__law_coefs) .none kV10 dc10 pm10 an10 cd10 ct10, f11, PySem.W.fnOf "_law_trim" "_law_trim" (defArgs s__law_trim) (defBody s__law_trim) (defScope s__law_trim) .none kV11 dc11 pm11 an11 cd11 ct11, f12, PySem.W.fnOf "_law_is_integer" "_law_is_integer" (defArgs s__law_is_integer) (defBody s__law_is_integer) (defScope s__law_is_integer) .none kV12 dc12 pm12 an12 cd12 ct12, f13, PySem.W.fnOf "_law_row" "_law_row" (defArgs s__law_row) (defBody s__law_row) (defScope s__law_row) .none kV13 dc13 pm13 an13 cd13 ct13, f14, PySem.W.fnOf "_law_shown" "_law_shown" (defArgs s__law_shown) (defBody s__law_shown) (defScope s__law_shown) .none kV14 dc14 pm14 an14 cd14 ct14, fa, PySem.W.fnOf "law" "law" (defArgs s_law) (defBody s_law) (defScope s_law) .none kV15 dc15 pm15 an15 cd15 ct15, p2, p3, C_StopError, C_InvalidRatio, C_NotExact, C_Poly⟩ := {
    F_trimmed := F0
    k_trimmed := k0
    b_trimmed := F0.binds (ps := ["coefs"]) (fun _ _ _ _ _ _ us hl => (match us, hl with | [_], _ => rfl))
    g_trimmed := PySem.W.mg_of X G a0
    F_Poly___init__ := F1
    k_Poly___init__ := k1
    m_Poly___init__ := a1
    i_Poly___init__ := i1
    t_Poly___init__ := t1
    F_Poly_of := F2
    k_Poly_of := k2
    b_Poly_of := F2.binds (ps := ["cls", "coefs"]) (fun _ _ _ _ _ _ us hl => (match us, hl with | [_, _], _ => rfl))
    m_Poly_of := m_2
    r_Poly_of := ⟨_, r_2⟩
    n_Poly_of := n_2
    F_Poly_degree := F3
    k_Poly_degree := k3
    b_Poly_degree := F3.binds (ps := ["self"]) (fun _ _ _ _ _ _ us hl => (match us, hl with | [_], _ => rfl))
    m_Poly_degree := m_3
    s_Poly_degree := s_3
    u_Poly_degree := u_3
    r_Poly_degree := ⟨_, r_3⟩
    F_Poly___len__ := F4
    k_Poly___len__ := k4
    b_Poly___len__ := F4.binds (ps := ["self"]) (fun _ _ _ _ _ _ us hl => (match us, hl with | [_], _ => rfl))
    m_Poly___len__ := a4
    i_Poly___len__ := i4
    t_Poly___len__ := t4
    F_Poly___repr__ := F5
    k_Poly___repr__ := k5
    b_Poly___repr__ := F5.binds (ps := ["self"]) (fun _ _ _ _ _ _ us hl => (match us, hl with | [_], _ => rfl))
    m_Poly___repr__ := a5
    i_Poly___repr__ := i5
    t_Poly___repr__ := t5
    F_Poly___getitem__ := F6
    k_Poly___getitem__ := k6
    b_Poly___getitem__ := F6.binds (ps := ["self", "at"]) (fun _ _ _ _ _ _ us hl => (match us, hl with | [_, _], _ => rfl))
    m_Poly___getitem__ := a6
    i_Poly___getitem__ := i6
    t_Poly___getitem__ := t6
    F_Poly___eq__ := F7
    k_Poly___eq__ := k7
    b_Poly___eq__ := F7.binds (ps := ["self", "other"]) (fun _ _ _ _ _ _ us hl => (match us, hl with | [_, _], _ => rfl))
    m_Poly___eq__ := a7
    i_Poly___eq__ := i7
    t_Poly___eq__ := t7
    F__law_box := F8
    k__law_box := k8
    b__law_box := F8.binds (ps := ["_law_script"]) (fun _ _ _ _ _ _ us hl => (match us, hl with | [_], _ => rfl))
    g__law_box := PySem.W.mg_of X G a8
    F__law_take := F9
    k__law_take := k9
    b__law_take := F9.binds (ps := ["_law_box_here", "_law_size"]) (fun _ _ _ _ _ _ us hl => (match us, hl with | [_, _], _ => rfl))
    g__law_take := PySem.W.mg_of X G a9
    F__law_coefs := F10
    k__law_coefs := k10
    b__law_coefs := F10.binds (ps := ["_law_box_here"]) (fun _ _ _ _ _ _ us hl => (match us, hl with | [_], _ => rfl))
    g__law_coefs := PySem.W.mg_of X G a10
    F__law_trim := F11
    k__law_trim := k11
    b__law_trim := F11.binds (ps := ["_law_row_here"]) (fun _ _ _ _ _ _ us hl => (match us, hl with | [_], _ => rfl))
    g__law_trim := PySem.W.mg_of X G a11
    F__law_is_integer := F12
    k__law_is_integer := k12
    b__law_is_integer := F12.binds (ps := ["_law_value"]) (fun _ _ _ _ _ _ us hl => (match us, hl with | [_], _ => rfl))
    g__law_is_integer := PySem.W.mg_of X G a12
    F__law_row := F13
    k__law_row := k13
    b__law_row := F13.binds (ps := ["_law_poly"]) (fun _ _ _ _ _ _ us hl => (match us, hl with | [_], _ => rfl))
    g__law_row := PySem.W.mg_of X G a13
    F__law_shown := F14
    k__law_shown := k14
    b__law_shown := F14.binds (ps := ["_law_row_here"]) (fun _ _ _ _ _ _ us hl => (match us, hl with | [_], _ => rfl))
    g__law_shown := PySem.W.mg_of X G a14
    F_law := F15
    k_law := k15
    b_law := F15.binds (ps := ["_law_script"]) (fun _ _ _ _ _ _ us hl => (match us, hl with | [_], _ => rfl))
    g_law := PySem.W.mg_of X G a15
    z_abs := PySem.W.mg_none_of X G z_abs
    z_bool := PySem.W.mg_none_of X G z_bool
    z_int := PySem.W.mg_none_of X G z_int
    z_isinstance := PySem.W.mg_none_of X G z_isinstance
    z_len := PySem.W.mg_none_of X G z_len
    z_list := PySem.W.mg_none_of X G z_list
    z_range := PySem.W.mg_none_of X G z_range
    z_repr := PySem.W.mg_none_of X G z_repr
    z_str := PySem.W.mg_none_of X G z_str
    z_tuple := PySem.W.mg_none_of X G z_tuple
    g_StopError := PySem.W.mg_of X G aC_StopError
    g_InvalidRatio := PySem.W.mg_of X G aC_InvalidRatio
    g_NotExact := PySem.W.mg_of X G aC_NotExact
    g_Poly := PySem.W.mg_of X G aC_Poly
    mk0_Poly := x_mk0_Poly
    kp_Poly := x_kp_Poly
    pg_Poly := x_pg_Poly
    hd_Poly := x_hd_Poly
    po_Poly := x_po_Poly
    sa_Poly := x_sa_Poly
    nc_Poly := x_nc_Poly
    rd_Poly := x_rd_Poly
    cg_Poly := x_cg_Poly
    ha_Poly := x_ha_Poly
    hn_Poly := x_hn_Poly
    ht_Poly := x_ht_Poly
    hm_Poly := x_hm_Poly
    ki_Poly := x_ki_Poly
    n_Poly := x_n_Poly
    k_int_Poly := x_k_int_Poly
    k_tuple_Poly := x_k_tuple_Poly
    k_list_Poly := x_k_list_Poly
    k_str_Poly := x_k_str_Poly
    q_int_Poly := x_q_int_Poly
    q_tuple_Poly := x_q_tuple_Poly
    q_list_Poly := x_q_list_Poly
    q_str_Poly := x_q_str_Poly
    q_own_Poly := x_q_own_Poly
    ne_Poly := x_ne_Poly
    ob_Poly := x_ob_Poly }
  exact ⟨_, fun s v => .of_eq rfl, fun base _ _ => ok_law T⟩
theorem walk {l : PySem.W.OpenLaw} {q : Program} {loose : List Str} {XP : (Str → Option Value) → Heap → Prop} {YP : World → Heap → Prop} {d : DefRec} {K : Params → PySem.W.Frag} (hn : l.most = some 63) (hdf : d.params.defaults = [])
    (hY : ∀ (w : World) (h : Heap), YP w h → (K w.params).In h)
    (F : ∀ (w : World) (mg : Str → Option Value) (fa : Addr) (h : Heap), (K w.params).In h → h.Ns mainGlobals mg → mg d.name = some (.ref fa) →
      ∃ fd : FuncData, (∀ (s : Shared) (u : Value), BindsTo s fd ⟨[u], []⟩ [("_law_script", u)]) ∧ ∀ base : Heap, (K w.params).In base → base.Ns mainGlobals mg → FnOk l.prog w (K w.params) mg base CX0 9 fa fd ["_law_script"] (spLaw (K w.params))) :
    PySem.W.WalkO q loose XP YP l.row.toRowW d [] (fun f vs => PySem.call f vs) :=
  L2.walk_of (n := 63) (k := 9) (x := "_law_script") (CX := fun _ => CX0) (sp := fun w => spLaw (K w.params)) hn (by decide) hdf ⟨rfl, by decide, by decide⟩ hY F (fun _ _ a ns hl _ hS => ⟨a, ns, rfl, hS, hl, fun _ => rfl⟩) fun _ _ _ _ _ z => z
end Pf

open PySem PySem.W PyProof.Rows in
set_option maxRecDepth 100000 in
set_option maxHeartbeats 0 in
theorem PySem.Challenge.cw_lookstop_k05_polynomials_holds : PySem.Challenge.rw_lookstop_k05_polynomials.Holds := by
  w_on; o_law; k_head; (case hw => w_witness2)
  k_fill
  refine Pf.walk (l := PySem.Challenge.rw_lookstop_k05_polynomials) rfl rfl (fun w h Y => PySem.W.kIn_of Y) ?F
  case F =>
    intro w mg fa h KX G hmg
    refine' Pf.all_mk KX G hmg (aC_StopError := ?aC_StopError) (aC_InvalidRatio := ?aC_InvalidRatio) (aC_NotExact := ?aC_NotExact) (aC_Poly := ?aC_Poly) (a0 := ?a0) (l0 := ?l0) (c0 := ?c0) (k0 := ?k0) (a1 := ?a1) (i1 := ?i1) (t1 := ?t1) (l1 := ?l1) (c1 := ?c1) (k1 := ?k1) (m_2 := ?m_2) (r_2 := ?r_2) (n_2 := ?n_2) (l2 := ?l2) (c2 := ?c2) (k2 := ?k2) (m_3 := ?m_3) (s_3 := ?s_3) (u_3 := ?u_3) (r_3 := ?r_3) (l3 := ?l3) (c3 := ?c3) (k3 := ?k3) (a4 := ?a4) (i4 := ?i4) (t4 := ?t4) (l4 := ?l4) (c4 := ?c4) (k4 := ?k4) (a5 := ?a5) (i5 := ?i5) (t5 := ?t5) (l5 := ?l5) (c5 := ?c5) (k5 := ?k5) (a6 := ?a6) (i6 := ?i6) (t6 := ?t6) (l6 := ?l6) (c6 := ?c6) (k6 := ?k6) (a7 := ?a7) (i7 := ?i7) (t7 := ?t7) (l7 := ?l7) (c7 := ?c7) (k7 := ?k7) (a8 := ?a8) (l8 := ?l8) (c8 := ?c8) (k8 := ?k8) (a9 := ?a9) (l9 := ?l9) (c9 := ?c9) (k9 := ?k9) (a10 := ?a10) (l10 := ?l10) (c10 := ?c10) (k10 := ?k10) (a11 := ?a11) (l11 := ?l11) (c11 := ?c11) (k11 := ?k11) (a12 := ?a12) (l12 := ?l12) (c12 := ?c12) (k12 := ?k12) (a13 := ?a13) (l13 := ?l13) (c13 := ?c13) (k13 := ?k13) (a14 := ?a14) (l14 := ?l14) (c14 := ?c14) (k14 := ?k14) (a15 := ?a15) (l15 := ?l15) (c15 := ?c15) (k15 := ?k15) (z_abs := ?z_abs) (z_bool := ?z_bool) (z_int := ?z_int) (z_isinstance := ?z_isinstance) (z_len := ?z_len) (z_list := ?z_list) (z_range := ?z_range) (z_repr := ?z_repr) (z_str := ?z_str) (z_tuple := ?z_tuple) (x_mk0_Poly := ?x_mk0_Poly) (x_kp_Poly := ?x_kp_Poly) (x_pg_Poly := ?x_pg_Poly) (x_hd_Poly := ?x_hd_Poly) (x_po_Poly := ?x_po_Poly) (x_sa_Poly := ?x_sa_Poly) (x_nc_Poly := ?x_nc_Poly) (x_rd_Poly := ?x_rd_Poly) (x_cg_Poly := ?x_cg_Poly) (x_ha_Poly := ?x_ha_Poly) (x_hn_Poly := ?x_hn_Poly) (x_ht_Poly := ?x_ht_Poly) (x_hm_Poly := ?x_hm_Poly) (x_ki_Poly := ?x_ki_Poly) (x_n_Poly := ?x_n_Poly) (x_k_int_Poly := ?x_k_int_Poly) (x_k_tuple_Poly := ?x_k_tuple_Poly) (x_k_list_Poly := ?x_k_list_Poly) (x_k_str_Poly := ?x_k_str_Poly) (x_q_int_Poly := ?x_q_int_Poly) (x_q_tuple_Poly := ?x_q_tuple_Poly) (x_q_list_Poly := ?x_q_list_Poly) (x_q_str_Poly := ?x_q_str_Poly) (x_q_own_Poly := ?x_q_own_Poly) (x_ne_Poly := ?x_ne_Poly) (x_ob_Poly := ?x_ob_Poly)
    (case aC_StopError => k_is)
    (case aC_InvalidRatio => k_is)
    (case aC_NotExact => k_is)
    (case aC_Poly => k_is)
    (case a0 => k_is)
    (case l0 => k_is)
    (case c0 => k_is)
    (case k0 => k_is)
    (case a1 => k_is)
    (case i1 => k_is)
    (case t1 => k_is)
    (case l1 => k_is)
    (case c1 => k_is)
    (case k1 => k_is)
    (case m_2 => k_is)
    (case r_2 => k_is)
    (case n_2 => k_is)
    (case l2 => k_is)
    (case c2 => k_is)
    (case k2 => k_is)
    (case m_3 => k_is)
    (case s_3 => k_is)
    (case u_3 => k_is)
    (case r_3 => k_is)
    (case l3 => k_is)
    (case c3 => k_is)
    (case k3 => k_is)
    (case a4 => k_is)
    (case i4 => k_is)
    (case t4 => k_is)
    (case l4 => k_is)
    (case c4 => k_is)
    (case k4 => k_is)
    (case a5 => k_is)
    (case i5 => k_is)
    (case t5 => k_is)
    (case l5 => k_is)
    (case c5 => k_is)
    (case k5 => k_is)
    (case a6 => k_is)
    (case i6 => k_is)
    (case t6 => k_is)
    (case l6 => k_is)
    (case c6 => k_is)
    (case k6 => k_is)
    (case a7 => k_is)
    (case i7 => k_is)
    (case t7 => k_is)
    (case l7 => k_is)
    (case c7 => k_is)
    (case k7 => k_is)
    (case a8 => k_is)
    (case l8 => k_is)
    (case c8 => k_is)
    (case k8 => k_is)
    (case a9 => k_is)
    (case l9 => k_is)
    (case c9 => k_is)
    (case k9 => k_is)
    (case a10 => k_is)
    (case l10 => k_is)
    (case c10 => k_is)
    (case k10 => k_is)
    (case a11 => k_is)
    (case l11 => k_is)
    (case c11 => k_is)
    (case k11 => k_is)
    (case a12 => k_is)
    (case l12 => k_is)
    (case c12 => k_is)
    (case k12 => k_is)
    (case a13 => k_is)
    (case l13 => k_is)
    (case c13 => k_is)
    (case k13 => k_is)
    (case a14 => k_is)
    (case l14 => k_is)
    (case c14 => k_is)
    (case k14 => k_is)
    (case a15 => k_is)
    (case l15 => k_is)
    (case c15 => k_is)
    (case k15 => k_is)
    (case z_abs => k_is)
    (case z_bool => k_is)
    (case z_int => k_is)
    (case z_isinstance => k_is)
    (case z_len => k_is)
    (case z_list => k_is)
    (case z_range => k_is)
    (case z_repr => k_is)
    (case z_str => k_is)
    (case z_tuple => k_is)
    (case x_mk0_Poly => first | k_is | kit_is | rfl)
    (case x_kp_Poly => first | k_is | kit_is | rfl)
    (case x_pg_Poly => first | k_is | kit_is | rfl)
    (case x_hd_Poly => first | k_is | kit_is | rfl)
    (case x_po_Poly => first | k_is | kit_is | rfl)
    (case x_sa_Poly => first | k_is | kit_is | rfl)
    (case x_nc_Poly => first | k_is | kit_is | rfl)
    (case x_rd_Poly => first | k_is | kit_is | rfl)
    (case x_cg_Poly => first | k_is | kit_is | rfl)
    (case x_ha_Poly => first | k_is | kit_is | rfl)
    (case x_hn_Poly => first | k_is | kit_is | rfl)
    (case x_ht_Poly => first | k_is | kit_is | rfl)
    (case x_hm_Poly => first | k_is | kit_is | rfl)
    (case x_ki_Poly => first | k_is | kit_is | rfl)
    (case x_n_Poly => first | k_is | kit_is | rfl)
    (case x_k_int_Poly => first | k_is | kit_is | rfl)
    (case x_k_tuple_Poly => first | k_is | kit_is | rfl)
    (case x_k_list_Poly => first | k_is | kit_is | rfl)
    (case x_k_str_Poly => first | k_is | kit_is | rfl)
    (case x_q_int_Poly => first | k_is | kit_is | rfl)
    (case x_q_tuple_Poly => first | k_is | kit_is | rfl)
    (case x_q_list_Poly => first | k_is | kit_is | rfl)
    (case x_q_str_Poly => first | k_is | kit_is | rfl)
    (case x_q_own_Poly => first | k_is | kit_is | rfl)
    (case x_ne_Poly => first | k_is | kit_is | rfl)
    (case x_ob_Poly => first | k_is | kit_is | rfl)
