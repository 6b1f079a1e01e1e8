import PyProof.Rows.All
import Wide.All
import OpenK.AllK
import Wide.FinOn
import HandS.ForMost
import HandS.ForExc
import HandS.Steps
import HandS.Style
import HandS.Wide
import HandS.Gcd
import HandS.IsInst
import HandS.ExcInit
import HandS.Defaults
import HandS.Star
import HandS.Evl
import HandS.ExcField
import HandS.ExcIs
import HandS.ExcOwn
import HandS.RevRange
import KE.KExcIs
import HandS.Slots
import HandS.SlotsOwn
import HandS.Property
import HandS.ClsMeth
import KE.KOpsOwn
import PyProof.InstNe
import HandS.TupAny
import HandS.FStr
import HandS.Text
import HandS.Codes
import KE.BitLaws
import KE.GoesMore
import KE.KMathGC
import PySem.Challenge.RW_lookstop_k10_paths
set_option Elab.async false
set_option linter.all false
set_option maxRecDepth 100000
set_option maxHeartbeats 4000000
/-! Lk: short words for values (Val, Ans of HandS.Steps), own rules for great numbers, the laws' box of draws. -/
namespace Lk
open PySem L2
def ValA (ta : TA) (σ : L2.St) (H : Hp) (vs : List V) : Prop := ∀ Q : List V → Hp → Prop, Q vs H → ta σ H Q
def ifs (C : Prop) (D : Decidable C) : Bool := @decide C D
section
variable {σ : L2.St} {H : Hp} {i : Nat} {v x y z : V} {ta tb tc te tv : TE} {a b c : Bool} {K : PySem.W.Frag} {t u : TT} {k l m n : Int}
theorem val_op0 {g : Int → Int → V} (ha : Val ta σ H (.int k)) (hb : Val tb σ H (.int l)) : Val (tOp (rI0 g) ta tb) σ H (g k l) := fun Q q => ha _ (hb _ ⟨k, l, rfl, rfl, q⟩)
theorem val_opC {C : Int → Int → Prop} {g : Int → Int → V} (ha : Val ta σ H (.int k)) (hb : Val tb σ H (.int l)) (hc : C k l) : Val (tOp (rI C g) ta tb) σ H (g k l) := fun Q q => ha _ (hb _ ⟨k, l, rfl, rfl, hc, q⟩)
theorem val_un {g : Int → V} (ha : Val ta σ H (.int k)) : Val (tUn (rU g) ta) σ H (g k) := fun Q q => ha _ ⟨k, rfl, q⟩
theorem val_eq (ha : Val ta σ H x) (hb : Val tb σ H y) (hs : scal x y = true) : Val (tOp rEq ta tb) σ H (.bl (decide (x = y))) := fun Q q => ha _ (hb _ ⟨hs, q⟩)
theorem val_ne (ha : Val ta σ H x) (hb : Val tb σ H y) (hs : scal x y = true) : Val (tOp rNe ta tb) σ H (.bl (!decide (x = y))) := fun Q q => ha _ (hb _ ⟨hs, q⟩)
theorem val_isB (ha : Val ta σ H (.bl a)) (hb : Val tb σ H (.bl b)) : Val (tOp rIsB ta tb) σ H (.bl (decide (a = b))) := fun Q q => ha _ (hb _ ⟨a, b, rfl, rfl, q⟩)
theorem val_notB (ha : Val ta σ H (.bl a)) (hb : Val tb σ H (.bl b)) : Val (tOp rNotB ta tb) σ H (.bl (!decide (a = b))) := fun Q q => ha _ (hb _ ⟨a, b, rfl, rfl, q⟩)
theorem val_andV (ha : Val ta σ H (.bl a)) (hb : a = true → Val tb σ H (.bl b)) : Val (tAndV ta tb) σ H (.bl (a && b)) := fun Q q => ha _ ⟨a, rfl, by
  cases a with
  | true => exact hb rfl Q q
  | false => exact q⟩
theorem val_orV (ha : Val ta σ H (.bl a)) (hb : a = false → Val tb σ H (.bl b)) : Val (tOrV ta tb) σ H (.bl (a || b)) := fun Q q => ha _ ⟨a, rfl, by
  cases a with
  | true => exact q
  | false => exact hb rfl Q q⟩
theorem val_notV (ha : Val ta σ H (.bl a)) : Val (tNotV ta) σ H (.bl (!a)) := fun Q q => ha _ ⟨a, rfl, q⟩
theorem val_chain {p q : Int → Int → Bool} (ha : Val ta σ H (.int k)) (hb : Val tb σ H (.int l)) (hc : Val tc σ H (.int m)) : Val (tChain (rI0 fun i j => .bl (p i j)) (rI0 fun i j => .bl (q i j)) ta tb tc) σ H (.bl (p k l && q l m)) := fun Q h => ha _ (hb _ ⟨k, l, rfl, rfl, p k l, rfl, by
  cases hp : p k l with
  | true => exact hc _ ⟨l, m, rfl, rfl, by rw [hp] at h; exact h⟩
  | false => rw [hp] at h; exact h⟩)
theorem val_if (ht : Ans t σ H b) (h1 : b = true → Val ta σ H v) (h2 : b = false → Val tb σ H v) : Val (tIf t ta tb) σ H v := fun Q q => ht _ (by
  cases b with
  | true => exact h1 rfl Q q
  | false => exact h2 rfl Q q)
theorem va_nil : ValA tNil σ H [] := fun _ q => q
theorem va_cons {tr : TA} {vs : List V} (ha : Val ta σ H x) (hr : ValA tr σ H vs) : ValA (tCons ta tr) σ H (x :: vs) := fun _ q => ha _ (hr _ q)
theorem val_cb {r : List V → Hp → VK → Prop} {tr : TA} {vs : List V} (h : ValA tr σ H vs) (hr : ∀ Q : VK, Q z H → r vs H Q) : Val (tCB r tr) σ H z := fun Q q => h _ (hr Q q)
theorem val_call {sp : Sp} {dvs vs : List V} {E : XK} {tr : TA} (h : ValA tr σ H vs) (hr : ∀ Q : VK, Q z H → sp (vs ++ dvs) H Q E) : Val (tCall sp dvs E tr) σ H z := fun Q q => h _ (hr Q q)
theorem val_gcd (ha : Val ta σ H (.int k)) (hb : Val tb σ H (.int l)) : Val (tCB rGcd (tCons ta (tCons tb tNil))) σ H (.int ((Nat.gcd k.natAbs l.natAbs : Nat) : Int)) := fun Q q => ha _ (hb _ ⟨k, l, rfl, q⟩)
theorem iabs (k : Int) : (if k < 0 then -k else k) = ((k.natAbs : Nat) : Int) := by
  by_cases h : k < 0
  · rw [if_pos h]; omega
  · rw [if_neg h]; omega
theorem val_abs (ha : Val ta σ H (.int k)) : Val (tCB (fun xs H Q => ∃ i, xs = [V.int i] ∧ Q (V.int (if i < 0 then -i else i)) H) (tCons ta tNil)) σ H (.int ((k.natAbs : Nat) : Int)) := fun Q q => ha _ ⟨k, rfl, by rw [iabs]; exact q⟩
theorem val_int (ha : Val ta σ H (.int k)) : Val (tCB (fun xs H Q => (∃ i, xs = [V.int i] ∧ Q (V.int i) H) ∨ ∃ k, xs = [V.bl k] ∧ Q (V.int (if k then 1 else 0)) H) (tCons ta tNil)) σ H (.int k) := fun Q q => ha _ (.inl ⟨k, rfl, q⟩)
theorem val_ixL {p : Addr} {xs : List V} (ha : Val ta σ H (.ref p)) (hb : Val tb σ H (.int k)) (hs : SqL K H p xs) (hx : atI xs k = some v) : Val (tOp (rIxL K) ta tb) σ H v := fun Q q => ha _ (hb _ ⟨p, xs, k, v, rfl, rfl, hs, hx, q⟩)
theorem val_ixT {p : Addr} {xs : List V} (ha : Val ta σ H (.ref p)) (hb : Val tb σ H (.int k)) (hs : SqT K H p xs) (hx : atI xs k = some v) : Val (tOp (rIxT K) ta tb) σ H v := fun Q q => ha _ (hb _ ⟨p, xs, k, v, rfl, rfl, hs, hx, q⟩)
theorem val_to {w : V} (h : Val te σ H w) (e : w = v) : Val te σ H v := e ▸ h
theorem atI_nat {xs : List V} {j : Nat} (h : xs[j]? = some v) : atI xs (j : Int) = some v := by
  have hj : j < xs.length := (List.getElem?_eq_some_iff.mp h).1
  unfold atI ixN
  rw [if_pos (Int.natCast_nonneg j), if_pos (by omega)]
  exact h
theorem atI_of {xs : List V} (h0 : 0 ≤ k) (h : xs[k.toNat]? = some v) : atI xs k = some v := by
  have e : ((k.toNat : Nat) : Int) = k := Int.toNat_of_nonneg h0
  rw [← e]
  exact atI_nat h

theorem ans_of (ha : Val te σ H (.bl a)) : Ans (tTest te) σ H a := fun Q q => ha _ ⟨a, rfl, q⟩
theorem ans_B (ha : Val te σ H (.bl a)) : Ans (tB te) σ H a := fun Q q => ha _ ⟨a, rfl, q⟩
theorem ans_and' (ha : Ans t σ H a) (hb : a = true → Ans u σ H b) : Ans (tAnd t u) σ H (a && b) := fun Q q => ha _ (by
  cases a with
  | true => exact hb rfl Q q
  | false => exact q)
theorem ans_or' (ha : Ans t σ H a) (hb : a = false → Ans u σ H b) : Ans (tOr t u) σ H (a || b) := fun Q q => ha _ (by
  cases a with
  | true => exact q
  | false => exact hb rfl Q q)

variable {D : Ends} {t1 t2 t3 : TS}
theorem q_set (h : Val te σ H v) (q : t2 D (σ.set i (some v)) H) : tSeq (tAsg te (gName i)) t2 D σ H := h _ q
theorem s_set (h : Val te σ H v) (q : D.nx (σ.set i (some v)) H) : tAsg te (gName i) D σ H := h _ q
theorem s_ret (h : Val te σ H v) (q : D.rt v H) : tRet te D σ H := h _ q
theorem q_if (h : Ans t σ H b) (h1 : b = true → t1 { D with nx := t3 D } σ H) (h2 : b = false → t2 { D with nx := t3 D } σ H) : tSeq (tIfS t t1 t2) t3 D σ H := h _ (by
  cases b with
  | true => exact h1 rfl
  | false => exact h2 rfl)
theorem s_if (h : Ans t σ H b) (h1 : b = true → t1 D σ H) (h2 : b = false → t2 D σ H) : tIfS t t1 t2 D σ H := h _ (by
  cases b with
  | true => exact h1 rfl
  | false => exact h2 rfl)
/-- an if without else -/
theorem q_when (h : Ans t σ H b) (h1 : b = true → t1 { D with nx := t3 D } σ H) (h2 : b = false → t3 D σ H) : tSeq (tIfS t t1 tNext) t3 D σ H := q_if h h1 h2
theorem s_when (h : Ans t σ H b) (h1 : b = true → t1 D σ H) (h2 : b = false → D.nx σ H) : tIfS t t1 tNext D σ H := s_if h h1 h2
theorem q_whileA (W : Nat → L2.St → Hp → Prop) (m0 : Nat) (h0 : W m0 σ H)
    (hs : ∀ m σ' H', W m σ' H' → ∃ b, Ans t σ' H' b ∧ (b = true → ∀ N : L2.St → Hp → Prop, (∀ σ2 H2 m', m' < m → W m' σ2 H2 → N σ2 H2) → t1 { D with nx := N, ct := N, bk := t2 D } σ' H') ∧ (b = false → t2 D σ' H')) : tSeq (tWhile t t1) t2 D σ H :=
  ⟨W, ⟨m0, h0⟩, fun m σ' H' w => by
    obtain ⟨b, hb, h1, h2⟩ := hs m σ' H' w
    refine hb _ ?_
    cases b with
    | true => exact ⟨fun σ2 H2 => ∃ m', m' < m ∧ W m' σ2 H2, fun _ _ n => n, h1 rfl _ fun σ2 H2 m' l w' => ⟨m', l, w'⟩⟩
    | false => exact h2 rfl⟩
/-! the same by the reading itself -/
theorem qS {te : TE} (h : te σ H fun x H1 => t2 D (σ.set i (some x)) H1) : tSeq (tAsg te (gName i)) t2 D σ H := h
theorem sS {te : TE} (h : te σ H fun x H1 => D.nx (σ.set i (some x)) H1) : tAsg te (gName i) D σ H := h
theorem qB {te to ti : TE} {r : TSet} (h : te σ H fun x H1 => to σ H1 fun o H2 => ti σ H2 fun j H3 => r o j x H3 fun H4 => t2 D σ H4) : tSeq (tAsg te (gSub to ti r)) t2 D σ H := h
theorem sB {te to ti : TE} {r : TSet} (h : te σ H fun x H1 => to σ H1 fun o H2 => ti σ H2 fun j H3 => r o j x H3 fun H4 => D.nx σ H4) : tAsg te (gSub to ti r) D σ H := h
theorem qI (h : t σ H fun b H1 => if b = true then t1 { D with nx := t3 D } σ H1 else t2 { D with nx := t3 D } σ H1) : tSeq (tIfS t t1 t2) t3 D σ H := h
theorem sI (h : t σ H fun b H1 => if b = true then t1 D σ H1 else t2 D σ H1) : tIfS t t1 t2 D σ H := h
theorem qW (h : t σ H fun b H1 => if b = true then t1 { D with nx := t3 D } σ H1 else t3 D σ H1) : tSeq (tIfS t t1 tNext) t3 D σ H := h
theorem sW (h : t σ H fun b H1 => if b = true then t1 D σ H1 else D.nx σ H1) : tIfS t t1 tNext D σ H := h
theorem qD {te : TE} (h : te σ H fun _ H1 => t2 D σ H1) : tSeq (tDrop te) t2 D σ H := h
theorem sD {te : TE} (h : te σ H fun _ H1 => D.nx σ H1) : tDrop te D σ H := h
theorem sR {te : TE} (h : te σ H D.rt) : tRet te D σ H := h
theorem qU2 {te : TE} {i j : Nat} {p : Addr} {x y : V} (h : Val te σ H (.ref p)) (ht : SqT K H p [x, y]) (q : t2 D ((σ.set i (some x)).set j (some y)) H) : tSeq (tAsg te (gTup K 2 (gCons (gName i) (gCons (gName j) gNil)))) t2 D σ H :=
  h _ ⟨p, _, rfl, ht, rfl, x, [y], rfl, y, [], rfl, rfl, q⟩
theorem call_of {sp : Sp} {dvs vs : List V} {E : XK} {tr : TA} {Q : VK} (h : ValA tr σ H vs) (hr : sp (vs ++ dvs) H Q E) : tCall sp dvs E tr σ H Q := h _ hr
theorem q_call {sp : Sp} {dvs vs : List V} {E : XK} {tr : TA} (h : ValA tr σ H vs) (hr : sp (vs ++ dvs) H (fun x H1 => t2 D (σ.set i (some x)) H1) E) : tSeq (tAsg (tCall sp dvs E tr) (gName i)) t2 D σ H := h _ hr
theorem s_rcall {sp : Sp} {dvs vs : List V} {E : XK} {tr : TA} (h : ValA tr σ H vs) (hr : sp (vs ++ dvs) H D.rt E) : tRet (tCall sp dvs E tr) D σ H := h _ hr
theorem va_at {ta : TA} {vs : List V} {Q : List V → Hp → Prop} (h : ValA ta σ H vs) (q : Q vs H) : ta σ H Q := h Q q
theorem va_atC {ta : TE} {tr : TA} {vs : List V} {Q : List V → Hp → Prop} (h : ValA (tCons ta tr) σ H vs) (q : Q vs H) : tCons ta tr σ H Q := h Q q
theorem s_par {i j : Nat} {tr : TA} {v w : V} (h : ValA tr σ H [v, w]) (q : D.nx ((σ.set i (some v)).set j (some w)) H) : tPar i j tr D σ H := h _ ⟨v, w, rfl, q⟩
theorem q_par {i j : Nat} {tr : TA} {v w : V} (h : ValA tr σ H [v, w]) (q : t2 D ((σ.set i (some v)).set j (some w)) H) : tSeq (tPar i j tr) t2 D σ H := h _ ⟨v, w, rfl, q⟩
end

theorem _root_.L2.Val.at {te : TE} {σ : L2.St} {H : Hp} {v : V} {Q : VK} (h : Val te σ H v) (q : Q v H) : te σ H Q := h Q q
/-! ### == of pairs of ints -/
theorem eqv_pair {a b c d : Int} : PyData.eqv (.tuple [.int a, .int b]) (.tuple [.int c, .int d]) = (a == c && b == d) := by
  simp [PyData.eqv, PyData.eqvAll]
theorem rEq2 {K : PySem.W.Frag} {H : Hp} {p q : Addr} {a b c d : Int} {Q : VK} (hp : H p = some (.tup [.int a, .int b])) (hq : H q = some (.tup [.int c, .int d])) (k : Q (.bl (a == c && b == d)) H) : rEqD K (.ref p) (.ref q) H Q :=
  ⟨.tuple [.int a, .int b], .tuple [.int c, .int d], .tup (SqT.of hp) (.cons (.int a) (.cons (.int b) .nil)), .tup (SqT.of hq) (.cons (.int c) (.cons (.int d) .nil)), rfl, rfl, by rw [eqv_pair]; exact k⟩
theorem rNe2 {K : PySem.W.Frag} {H : Hp} {p q : Addr} {a b c d : Int} {Q : VK} (hp : H p = some (.tup [.int a, .int b])) (hq : H q = some (.tup [.int c, .int d])) (k : Q (.bl (!(a == c && b == d))) H) : rNeD K (.ref p) (.ref q) H Q :=
  ⟨.tuple [.int a, .int b], .tuple [.int c, .int d], .tup (SqT.of hp) (.cons (.int a) (.cons (.int b) .nil)), .tup (SqT.of hq) (.cons (.int c) (.cons (.int d) .nil)), rfl, rfl, by rw [eqv_pair]; exact k⟩

/-! ### // of great ints by a divisor of either sign -/
section
variable {X : Cx}
def CDivZ (_ j : Int) : Prop := j ≠ 0 ∧ j.natAbs.log2 < 9000
theorem op_fdivZ : OpR X (binaryOp .FloorDiv) (rI CDivZ fun i j => .int (i.fdiv j)) := opI fun i j _ _ _ _ _ hc q => PyProof.Rows.floordiv_int hc.1 q (.inl (PyProof.noPylong_of_log2 hc.2))
end
/-- a def with defaults, called with keywords (no keyword-only parameters) -/
theorem kbinds1 {K : PySem.W.Frag} {x qual : Str} {params : Arguments} {body : List Stmt} {scope : Scope} {dvs : List V} {kws : List (Str × V)} {f : Addr} {fd : FuncData} {ps : List Str} (F : FunD K x qual params body scope dvs kws f fd) (n : Nat) (ks : List Str)
    (g : {α : Type} → List α → List α → List α → List α) (hd : dvs ≠ []) (hrel : ∀ {vs ds zs : List V} {us its ws : List Value}, Vals vs us → Vals ds its → Vals zs ws → Vals (g vs ds zs) (g us its ws))
    (h : ∀ (T : Addr) (kV doc pm : Value) (an : Option Addr) (cdv ct : Value) (us its ws : List Value), us.length = n → its.length = dvs.length → ws.length = ks.length →
      ∃ k, bindArgs (PySem.W.fnOf x qual params body scope (.ref T) kV doc pm an cdv ct) ⟨us, ks.zip ws⟩ = seqItems? (.ref T) >>= k ∧ k (some its.toArray) = pure (ps.zip (g us its ws))) :
    ∃ its : List Value, KBn K fd ps n ks (fun us ws => g us its ws) (fun vs zs => g vs dvs zs) := by
  obtain ⟨oc, od, dV, kV, doc, pm, an, cdv, ct, osl, rfl, lk, hcd, hD, hK⟩ := F.ex
  rcases hD with ⟨e, _⟩ | ⟨_, T, o, its, m, rfl, lT, oT, rT⟩
  · exact absurd e hd
  · refine ⟨its, ⟨fun s us ws X l1 l2 => ?_, fun r1 r2 => hrel r1 rT r2⟩⟩
    obtain ⟨k, e1, e2⟩ := h T kV doc pm an cdv ct us its ws l1 rT.length.symm l2
    refine BindsTo.of_looks fun M => ?_
    rw [e1]
    exact looks_items X lT oT (.of_pure e2)
theorem vals_nil {us : List Value} (h : Vals [] us) : us = [] := by
  cases h
  rfl
/-- a new object leaves the elder ones as they are -/
theorem kept {H : Hp} {p q : Addr} {o u : HO} (h : H p = some u) (hq : H q = none) : (upd H q o) p = some u := (upd_ne (ne_of_none h hq)).trans h
theorem passF {X : Cx} : Passes CX0 X (fun _ _ _ => False) := fun _ _ _ _ _ _ _ h => h.elim
theorem log2_lt {n b : Nat} (h0 : 0 < b) (h : n < 2 ^ b) : n.log2 < b := PySem.Flt.log2_lt_of h0 h

theorem lgp {x : Int} {n : Nat} (h : x.natAbs < 2 ^ n) (h0 : 0 < n := by decide) (h9 : n ≤ 9000 := by decide) : x.natAbs.log2 < 9000 := Nat.lt_of_lt_of_le (log2_lt h0 h) h9

/-! ### lists of a few written ints, asked by a draw -/
theorem pick (xs : List Int) (lo hi : Int) (hb : ∀ x ∈ xs, lo ≤ x ∧ x ≤ hi) {d : Int} (h0 : 0 ≤ d) (h1 : d < (xs.length : Int)) : ∃ s, atI (xs.map V.int) d = some (V.int s) ∧ lo ≤ s ∧ s ≤ hi := by
  have hd : d.toNat < xs.length := by omega
  have hm : xs[d.toNat] ∈ xs := List.getElem_mem hd
  obtain ⟨h2, h3⟩ := hb _ hm
  exact ⟨xs[d.toNat], atI_of h0 (by rw [List.getElem?_map, List.getElem?_eq_getElem hd]; rfl), h2, h3⟩

theorem pickP (xs : List Int) (P : Int → Prop) (hb : ∀ x ∈ xs, P x) {d : Int} (h0 : 0 ≤ d) (h1 : d < (xs.length : Int)) : ∃ s, atI (xs.map V.int) d = some (V.int s) ∧ P s ∧ ixN xs.length d = some d.toNat := by
  have hd : d.toNat < xs.length := by omega
  refine ⟨xs[d.toNat], atI_of h0 (by rw [List.getElem?_map, List.getElem?_eq_getElem hd]; rfl), hb _ (List.getElem_mem hd), ?_⟩
  unfold ixN
  rw [if_pos h0, if_pos h1]

/-! ### the laws' box: a list of cells, a place, a state -/
/-- the box stands at b, its cells at c -/
def BoxAt (H : Hp) (b c : Addr) : Prop := ∃ (ns : List Int) (k s : Int), H b = some (.lst [.ref c, .int k, .int s]) ∧ H c = some (.lst (ns.map V.int)) ∧ ns.length ≤ 63 ∧ (∀ x ∈ ns, 0 ≤ x) ∧ 0 ≤ k ∧ 0 ≤ s ∧ s < 2147483647
/-- all else stands as it stood -/
def Ext (b c : Addr) (H H' : Hp) : Prop := ∀ a o, a ≠ b → a ≠ c → H a = some o → H' a = some o
theorem BoxAt.ne {H : Hp} {b c : Addr} (h : BoxAt H b c) : b ≠ c := by
  obtain ⟨ns, k, s, h1, h2, _⟩ := h
  intro e
  rw [← e, h1] at h2
  cases ns with
  | nil => cases h2
  | cons n ns => cases h2
theorem BoxAt.same {H H' : Hp} {b c : Addr} (h : BoxAt H b c) (e : Same H H') : BoxAt H' b c := by
  obtain ⟨ns, k, s, h1, h2, r⟩ := h
  exact ⟨ns, k, s, e _ _ h1, e _ _ h2, r⟩
theorem BoxAt.neb {H : Hp} {b c p : Addr} (h : BoxAt H b c) (hp : H p = none) : p ≠ b ∧ p ≠ c := by
  obtain ⟨ns, k, s, h1, h2, r⟩ := h
  exact ⟨fun e => (by rw [e, h1] at hp; cases hp), fun e => (by rw [e, h2] at hp; cases hp)⟩
theorem Ext.refl {b c : Addr} {H : Hp} : Ext b c H H := fun _ _ _ _ h => h
theorem Ext.trans {b c : Addr} {H H1 H2 : Hp} (e : Ext b c H H1) (f : Ext b c H1 H2) : Ext b c H H2 := fun a o x y h => f a o x y (e a o x y h)
theorem Ext.of {b c : Addr} {H H1 : Hp} (e : Same H H1) : Ext b c H H1 := fun a o _ _ h => e a o h
theorem same_upd {H : Hp} {p : Addr} {o : HO} (hp : H p = none) : Same H (upd H p o) := fun b u e => by
  rw [upd_ne (ne_of_none e hp)]
  exact e

def spBox (K : PySem.W.Frag) : Sp := fun vs H Q _ => ∃ (a : Addr) (ns : List Int), vs = [.ref a] ∧ SqL K H a (ns.map V.int) ∧ ns.length ≤ 63 ∧ ∀ b c H', Same H H' → H b = none → H c = none → BoxAt H' b c → Q (.ref b) H'
def spTake : Sp := fun vs H Q _ => ∃ (b c : Addr) (n : Int), vs = [.ref b, .int n] ∧ BoxAt H b c ∧ 0 < n ∧ n.natAbs.log2 < 9000 ∧ ∀ (d : Int) H', 0 ≤ d → d < n → BoxAt H' b c → (∀ a, a ≠ b → a ≠ c → H' a = H a) → Q (.int d) H'
def spGcd : Sp := fun vs H Q _ => ∃ (m n : Int), vs = [.int m, .int n] ∧ Q (.int ((Nat.gcd m.natAbs n.natAbs : Nat) : Int)) H
theorem val_gcdc {σ : L2.St} {H : Hp} {ta tb : TE} {k l : Int} {E : XK} (ha : Val ta σ H (.int k)) (hb : Val tb σ H (.int l)) : Val (tCall spGcd [] E (tCons ta (tCons tb tNil))) σ H (.int ((Nat.gcd k.natAbs l.natAbs : Nat) : Int)) := fun Q q => ha _ (hb _ ⟨k, l, rfl, q⟩)
end Lk
/-! own exceptions with a field, caught: what the class must say, isinstance of the caught one -/
namespace Lk
open PySem L2
structure ExcK (K : PySem.W.Frag) (D : Addr) : Prop where
  cl : (PySem.W.clsIn K D).isSome = true
  ga : PySem.W.findIn K (.ref D) "__getattribute__" = some (some (.builtin "BaseException.__getattribute__"))
  gg : PySem.W.findIn K (.ref D) "__getattr__" = some none
  ex : PySem.W.subIn K (.ref D) (.type "BaseException") = some true
  ha : PySem.W.findIn K (.ref D) "__class__" = some (some (.builtin "object.__class__"))
  hn : PySem.W.specialIn K (.builtin "object.__class__") "__get__" = some (some (.builtin "getset_descriptor.__get__"))
  ht : PySem.W.takesIn K (.builtin "object.__class__") = some true
  hm : PySem.W.mroIn K D (.type "object") = some true
def rIsX (K : PySem.W.Frag) (a : Addr) (cls : Value) (d : Option Addr) : List V → Hp → VK → Prop := fun xs H Q => ∃ (c : V) (cv : Value) (b : Bool) (D dd : Addr) (fs : List (Str × V)),
  xs = [.ref a, c] ∧ cls = .ref D ∧ d = some dd ∧ ExcK K D ∧ H dd = some (.xd fs) ∧ (∀ u, RelV c u → u = cv) ∧ PySem.W.kitOne K (.ref D) cv = some b ∧ Q (.bl b) H
theorem call_isX {X : Cx} {a : Addr} {cls : Value} {d : Option Addr} {oe : Obj} {pn : List (Addr × Obj)} (hz : Zc cls d oe) (hf : ∃ vs, oe.data = .fields vs) : CallR (X.suite a ((a, oe) :: pn)) (.builtin "isinstance") (rIsX X.K a cls d) := by
  intro pins s σ H xs us Q I r h
  obtain ⟨c, cv, b, D, dd, fs, rfl, rfl, rfl, T, ea, hcv, e, q⟩ := h
  cases r with
  | cons rx rr =>
    cases rr with
    | cons rt rr =>
      cases rr
      cases rx
      have ec := hcv _ rt
      subst ec
      obtain ⟨hget, _⟩ := I.pin (a, oe) (List.mem_append.mpr (.inl List.mem_cons_self))
      obtain ⟨vs, hv⟩ := hf
      have hx : ObjOk X.prog X.w H s.heap dd (.xd fs) := I.hok dd _ ea
      obtain ⟨mA, hns, hr⟩ := hx
      obtain ⟨od, ho, hl⟩ := lookIn_ns hns
      have J : PySem.W.InstAt s.heap a oe D (some od) := ⟨hget, hz.1, by unfold PySem.W.notCls; rw [hv] <;> rfl, by rw [hz.2]; exact ho⟩
      exact PySem.W.kia_one (PySem.W.kitx_exc T.cl T.ga T.gg T.ex T.ha T.hn T.ht T.hm) I.kIn J e (fun z => nomatch z) fun tk => ⟨.bl b, H, I.tok tk, rfl, q⟩
/-- __init__(self, v): self.f = v, of an exception's class -/
def spExcInit (C : Addr) (f : Str) : Sp := fun vs H Q _ => ∃ (a : Addr) (v : V), vs = [.ref a, v] ∧ H a = some (exo a C none) ∧ ∀ dx, H dx = none → dx ≠ a → Q .non (upd (upd H dx (exd dx [(f, v)])) a (exo a C (some dx)))
/-- what is raised: an error of the class C whose field f is v -/
def Raised (C : Addr) (f : Str) (v : V) (H : Hp) (E : XK) : Prop := ∀ d H', Same H H' → H d = none → H' d = some (.xd [(f, v)]) → E (.ref C) (some d) H'
theorem raised_end {C a d : Addr} {f : Str} {v : V} {H : Hp} {E : XK} (ha : H a = none) (hd : H d = none) (hda : d ≠ a) (k : Raised C f v H E) : E (.ref C) (some d) (upd (del (upd (upd (upd H a (exo a C none)) d (exd d [(f, v)])) a (exo a C (some d))) a) d (.xd [(f, v)])) := by
  refine k d _ (fun b o e => ?_) hd upd_same
  have hb : b ≠ a := ne_of_none e ha
  have hbd : b ≠ d := ne_of_none e hd
  rw [upd_ne hbd, del_ne hb, upd_ne hb, upd_ne hbd, upd_ne hb]
  exact e
end Lk
/-! ratios: the mathematics -/
namespace Lk
/-- the signed greatest common divisor that ratio divides by -/
def rdiv (n d : Int) : Int := if d < 0 then -((Nat.gcd n.natAbs d.natAbs : Nat) : Int) else ((Nat.gcd n.natAbs d.natAbs : Nat) : Int)
def ratN (n d : Int) : Int := n.fdiv (rdiv n d)
def ratD (n d : Int) : Int := d.fdiv (rdiv n d)
/-- a/b is in lowest terms -/
def Low (a b : Int) : Prop := 1 ≤ b ∧ Nat.gcd a.natAbs b.natAbs = 1
theorem rdiv_ne {n d : Int} (hd : d ≠ 0) : rdiv n d ≠ 0 := by
  have hg : 0 < Nat.gcd n.natAbs d.natAbs := Nat.gcd_pos_of_pos_right _ (by omega)
  unfold rdiv
  split <;> omega
theorem rdiv_natAbs (n d : Int) : (rdiv n d).natAbs = Nat.gcd n.natAbs d.natAbs := by
  unfold rdiv
  split <;> omega
theorem fdiv_of_mul {a b c : Int} (hb : b ≠ 0) (h : a = c * b) : a.fdiv b = c := by
  rw [h]
  exact Int.mul_fdiv_cancel _ hb
theorem dvd_rdiv_left (n d : Int) : rdiv n d ∣ n := Int.natAbs_dvd_natAbs.mp (by rw [rdiv_natAbs]; exact Nat.gcd_dvd_left _ _)
theorem dvd_rdiv_right (n d : Int) : rdiv n d ∣ d := Int.natAbs_dvd_natAbs.mp (by rw [rdiv_natAbs]; exact Nat.gcd_dvd_right _ _)
theorem ratN_mul {n d : Int} (hd : d ≠ 0) : ratN n d * rdiv n d = n := by
  obtain ⟨c, hc⟩ := dvd_rdiv_left n d
  have : ratN n d = c := fdiv_of_mul (rdiv_ne hd) (by rw [Int.mul_comm]; exact hc)
  rw [this, Int.mul_comm]
  exact hc.symm
theorem ratD_mul {n d : Int} (hd : d ≠ 0) : ratD n d * rdiv n d = d := by
  obtain ⟨c, hc⟩ := dvd_rdiv_right n d
  have : ratD n d = c := fdiv_of_mul (rdiv_ne hd) (by rw [Int.mul_comm]; exact hc)
  rw [this, Int.mul_comm]
  exact hc.symm
theorem rat_low {n d : Int} (hd : d ≠ 0) : Low (ratN n d) (ratD n d) := by
  have h1 := ratN_mul (n := n) hd
  have h2 := ratD_mul (n := n) hd
  have h3 := rdiv_ne (n := n) hd
  have hg := rdiv_natAbs n d
  have gpos : 0 < Nat.gcd n.natAbs d.natAbs := Nat.gcd_pos_of_pos_right _ (by omega)
  constructor
  · by_cases hneg : d < 0
    · have hr : rdiv n d < 0 := by
        unfold rdiv
        rw [if_pos hneg]
        omega
      by_cases hb : 1 ≤ ratD n d
      · exact hb
      · have : 0 ≤ ratD n d * rdiv n d := Int.mul_nonneg_of_nonpos_of_nonpos (by omega) (by omega)
        omega
    · have hr : 0 < rdiv n d := by
        unfold rdiv
        rw [if_neg hneg]
        omega
      by_cases hb : 1 ≤ ratD n d
      · exact hb
      · have : ratD n d * rdiv n d ≤ 0 := Int.mul_nonpos_of_nonpos_of_nonneg (by omega) (by omega)
        omega
  · have e1 : (ratN n d).natAbs * Nat.gcd n.natAbs d.natAbs = n.natAbs := by rw [← hg, ← Int.natAbs_mul, h1]
    have e2 : (ratD n d).natAbs * Nat.gcd n.natAbs d.natAbs = d.natAbs := by rw [← hg, ← Int.natAbs_mul, h2]
    have e3 : Nat.gcd ((ratN n d).natAbs * Nat.gcd n.natAbs d.natAbs) ((ratD n d).natAbs * Nat.gcd n.natAbs d.natAbs) = Nat.gcd n.natAbs d.natAbs := by rw [e1, e2]
    rw [Nat.gcd_mul_right] at e3
    exact Nat.eq_of_mul_eq_mul_right gpos (by rw [Nat.one_mul]; exact e3)
theorem rat_cross {n d : Int} (hd : d ≠ 0) : ratN n d * d = n * ratD n d := by
  have h1 := ratN_mul (n := n) hd
  have h2 := ratD_mul (n := n) hd
  have e : ratN n d * (ratD n d * rdiv n d) = ratN n d * rdiv n d * ratD n d := by
    rw [Int.mul_assoc, Int.mul_comm (rdiv n d)]
  rw [h2, h1] at e
  exact e
theorem low_unique {a b c d : Int} (h1 : Low a b) (h2 : Low c d) (h : a * d = c * b) : a = c ∧ b = d := by
  obtain ⟨b1, g1⟩ := h1
  obtain ⟨d1, g2⟩ := h2
  have hN : a.natAbs * d.natAbs = c.natAbs * b.natAbs := by rw [← Int.natAbs_mul, h, Int.natAbs_mul]
  have x1 : b.natAbs ∣ d.natAbs := Nat.Coprime.dvd_of_dvd_mul_left (show Nat.Coprime b.natAbs a.natAbs from (Nat.gcd_comm _ _).trans g1) ⟨c.natAbs, by rw [hN, Nat.mul_comm]⟩
  have x2 : d.natAbs ∣ b.natAbs := Nat.Coprime.dvd_of_dvd_mul_left (show Nat.Coprime d.natAbs c.natAbs from (Nat.gcd_comm _ _).trans g2) ⟨a.natAbs, by rw [← hN, Nat.mul_comm]⟩
  have e : b.natAbs = d.natAbs := Nat.dvd_antisymm x1 x2
  have e2 : b = d := by omega
  subst e2
  exact ⟨Int.eq_of_mul_eq_mul_right (by omega) h, rfl⟩
theorem low_rat {a b : Int} (h : Low a b) : ratN a b = a ∧ ratD a b = b := by
  have hb : b ≠ 0 := by
    have := h.1
    omega
  have e := low_unique (rat_low (n := a) hb) h (rat_cross hb)
  exact e
theorem rat_neg {n d : Int} (hd : d ≠ 0) : ratN (-n) (-d) = ratN n d ∧ ratD (-n) (-d) = ratD n d := by
  have hd' : -d ≠ 0 := by omega
  refine low_unique (rat_low hd') (rat_low hd) ?_
  have h1 := rat_cross (n := n) hd
  have h2 := rat_cross (n := -n) hd'
  have e1 : ratN (-n) (-d) * d = n * ratD (-n) (-d) := by
    rw [Int.mul_neg, Int.neg_mul] at h2
    omega
  -- multiply by d
  have e2 : (ratN (-n) (-d) * ratD n d) * d = (ratN n d * ratD (-n) (-d)) * d := by
    rw [Int.mul_right_comm, e1, Int.mul_right_comm (ratN n d), h1, Int.mul_right_comm]
  exact Int.eq_of_mul_eq_mul_right hd e2
theorem rat_one (n : Int) : ratN n 1 = n ∧ ratD n 1 = 1 := low_rat ⟨by omega, by simp⟩
theorem rdiv_log {n d : Int} (hd : d ≠ 0) (h : d.natAbs.log2 < 9000) : (rdiv n d).natAbs.log2 < 9000 := by
  rw [rdiv_natAbs]
  have hle : Nat.gcd n.natAbs d.natAbs ≤ d.natAbs := Nat.gcd_le_right _ (by omega)
  have hlt : d.natAbs < 2 ^ 9000 := (Nat.log2_lt (by omega)).mp h
  by_cases h0 : Nat.gcd n.natAbs d.natAbs = 0
  · rw [h0]
    decide
  · exact (Nat.log2_lt h0).mpr (Nat.lt_of_le_of_lt hle hlt)
theorem ratN_le {n d : Int} (hd : d ≠ 0) : (ratN n d).natAbs ≤ n.natAbs := by
  have h1 := ratN_mul (n := n) hd
  have e : (ratN n d).natAbs * (rdiv n d).natAbs = n.natAbs := by rw [← Int.natAbs_mul, h1]
  have h3 := rdiv_ne (n := n) hd
  rw [← e]
  exact Nat.le_mul_of_pos_right _ (by omega)
theorem ratD_le {n d : Int} (hd : d ≠ 0) : (ratD n d).natAbs ≤ d.natAbs := by
  have h1 := ratD_mul (n := n) hd
  have e : (ratD n d).natAbs * (rdiv n d).natAbs = d.natAbs := by rw [← Int.natAbs_mul, h1]
  have h3 := rdiv_ne (n := n) hd
  have h4 : (ratD n d).natAbs ≤ (ratD n d).natAbs * (rdiv n d).natAbs := Nat.le_mul_of_pos_right _ (by omega)
  omega
end Lk
/-! defs with a star parameter, called with plain arguments -/
namespace Lk
open PySem L2
def starSp (n : Nat) (sp : Sp) : Sp := fun vs H Q E => ∃ ws rest, vs = ws ++ rest ∧ ws.length = n ∧ rest.length ≤ sizeLine ∧ ∀ p, H p = Option.none → sp (ws ++ [V.ref p]) (upd H p (.tup rest)) Q E
section
variable {P : Program} {w : World} {K : PySem.W.Frag} {mg : Str → Option Value} {base : Heap}
theorem okStar {CX : CXT} {x qual pv : Str} {st : Stmt} {f : Addr} {fd : FuncData} {N ps : List Str} {k : Nat} {sp : Sp} (F : Fun K x qual st f fd) (S : FnScope N (ps ++ [pv]) (defScope st)) (hCX : StX.CXUp CX)
    (hb : ∀ (kV doc pm : Value) (an : Option Addr) (cdv ct : Value) (us rest : List Value), us.length = ps.length → bindArgs (PySem.W.fnOf x qual (defArgs st) (defBody st) (defScope st) .none kV doc pm an cdv ct) ⟨us ++ rest, []⟩ = (newTuple rest >>= fun t => pure (ps.zip us ++ [(pv, t)])))
    (hbody : ∀ (cdv : Value) (A : Around) (outer : List Env) (s : Shared) (H : Hp) (vs : List V) (Q : VK) (E : XK), Room k (A.deeper (PyProof.Rows.envOfC qual (defScope st) s.heap.objs.size f cdv)) → sp vs H Q E →
      ∃ t, PSs (cxOf CX P w K mg base N qual (defScope st) f cdv A outer s H E) (defBody st) t ∧ t { nx := fun _ H' => Q .non H', rt := Q } (L2.start N vs) H) : FnR P w K mg base CX (k + 1) f (starSp ps.length sp) := by
  obtain ⟨oc, od, kV, doc, pm, an, cdv, ct, osl, rfl, lk, hcd⟩ := F.ex
  exact StX.fn_star lk hcd S hCX (hb kV doc pm an cdv ct) fun A outer s H vs Q E hr hsp => hbody cdv A outer s H vs Q E hr hsp
end
section
variable {X : Cx} {CX : CXT} {k : Nat} {f : Addr} {sp : Sp} {E : XK} {x : Str} {e : Expr} {es : List Expr} {t : TA} {p pos : Pos}
def tCallR (sp : Sp) (E : XK) (t : TA) : TE := fun σ H Q => t σ H fun vs H1 => sp vs H1 Q E
theorem pe_callR (F : FnR X.prog X.w X.K X.mg X.base CX k f sp) (hr : Room k X.A) (hg : Gl X x) (hm : X.mg x = some (.ref f)) (hk : PySem.W.keepIn X.K (.ref f) = true) (hx : Passes CX X E) (ha : PA X (e :: es) t) (hdb : (x == ("__debug__" : Str)) = false := by decide)
    (he : starEach (e :: es) X.env = (false, eval e X.env) :: starEach es X.env := by rfl) (hpl : (backTo pos (starEach es X.env)).any (·.1) = false := by rfl) :
    PE X (.Call (.Name x p) (e :: es) [] pos) (tCallR sp E t) := by
  refine ⟨fun pins s σ H Q I h => ?_⟩
  refine wpAny_Call_Name_kw (ld_glob I hg hm ?_ hdb)
  refine PySem.W.callWith_K (h₀ := X.base) I.ok.mod.kin hk (thn (ha.run pos pins s σ H _ I h) fun us s1 ⟨vs, H1, I1, r, q⟩ => ⟨I1.kIn, ?_⟩) he hpl
  exact wpAny_call (run_fnR F hr hx I1 r q)
theorem pe_callR0 (F : FnR X.prog X.w X.K X.mg X.base CX k f sp) (hr : Room k X.A) (hg : Gl X x) (hm : X.mg x = some (.ref f)) (hk : PySem.W.keepIn X.K (.ref f) = true) (hx : Passes CX X E) (hdb : (x == ("__debug__" : Str)) = false := by decide) :
    PE X (.Call (.Name x p) [] [] pos) (tCallR sp E tNil) := by
  refine ⟨fun pins s σ H Q I h => ?_⟩
  refine wpAny_Call_Name_kw (ld_glob I hg hm ?_ hdb)
  exact PySem.W.callWith_K0 I.kIn hk (wpAny_call (run_fnR F hr hx I .nil h))
theorem callR_of {σ : L2.St} {H : Hp} {vs : List V} {Q : VK} (h : ValA t σ H vs) (hr : sp vs H Q E) : tCallR sp E t σ H Q := h _ hr
end
end Lk
/-! own classes with a dict: made by star arguments, their operators, len, repr, [], unary minus -/
namespace Lk
open PySem L2
section
variable {X : Cx} {pins : List (Addr × Obj)} {σ : L2.St} {H : Hp} {s : Shared}
theorem inst_at {a C dx : Addr} {fs : List (Str × V)} (I : Inv X pins σ H s) (ea : H a = some (.ins C dx fs)) : ∃ ox od, PySem.W.InstAt s.heap a ox C (some od) := by
  obtain ⟨mA, O, _⟩ := ins_get I.hok ea
  obtain ⟨od, J, _⟩ := O.look
  exact ⟨_, od, J⟩
end
section
variable {X : Cx} {CX : CXT} {n k i : Nat} {C g f : Addr} {sp : Sp} {E : XK} {e : Expr} {te : TE} {x : Str} {p sp_ pos : Pos}
/-- C(*e), C a class of the module -/
def tMakeS (K : PySem.W.Frag) (C : Addr) (sp : Sp) (E : XK) (te : TE) : TE := fun σ H Q => te σ H fun y H1 => ∃ a xs, y = V.ref a ∧ (SqT K H1 a xs ∨ SqL K H1 a xs) ∧ ∀ o dx, H1 o = Option.none → H1 dx = Option.none → dx ≠ o →
  sp (V.ref o :: xs) (upd (upd H1 dx (.own o)) o (.ins C dx [])) (fun v H2 => v = .non ∧ Q (.ref o) H2) E
theorem pe_makeS (M : Mk X.K C f) (F : FnR X.prog X.w X.K X.mg X.base CX k f sp) (hr : Room (k + 1) X.A) (hg : Gl X x) (hm : X.mg x = some (.ref C)) (hx : Passes CX X E) (he : PE X e te) (hd : (x == ("__debug__" : Str)) = false := by decide)
    (hst : starEach [.Starred e sp_] X.env = [(true, eval e X.env)] := by rfl) : PE X (.Call (.Name x p) [.Starred e sp_] [] pos) (tMakeS X.K C sp E te) := by
  refine ⟨fun pins s σ H Q I h => ?_⟩
  refine wpAny_Call_Name_kw (ld_glob I hg hm ?_ hd)
  refine PySem.W.callWith_S (h₀ := X.base) I.ok.mod.kin M.kp (thn (he.run pins s σ H _ I h) fun v s1 ⟨y, H1, I1, ry, a, xs, ey, hxs, q⟩ => ?_) hst
  subst ey
  obtain rfl : v = Value.ref a := ry
  exact StX.star_any I1 hxs fun us s2 I2 rv => ⟨I2.kIn, StX.run_makeR M F hr hx I2 rv q⟩
/-- c(*e), c a name of the def that holds the class C -/
def tMakeLS (K : PySem.W.Frag) (i : Nat) (C : Addr) (sp : Sp) (E : XK) (te : TE) : TE := fun σ H Q => σ[i]? = some (some (.ref C)) ∧ tMakeS K C sp E te σ H Q
theorem pe_makeLS (M : Mk X.K C f) (F : FnR X.prog X.w X.K X.mg X.base CX k f sp) (hr : Room (k + 1) X.A) (hx : Passes CX X E) (hN : X.N[i]? = some x) (hv : Vis X.env.scope x) (he : PE X e te) (hd : (x == ("__debug__" : Str)) = false := by decide)
    (hcd : (x == ("__classdict__" : Str)) = false := by decide) (hst : starEach [.Starred e sp_] X.env = [(true, eval e X.env)] := by rfl) : PE X (.Call (.Name x p) [.Starred e sp_] [] pos) (tMakeLS X.K i C sp E te) := by
  refine ⟨fun pins s σ H Q I h => ?_⟩
  obtain ⟨hs, h⟩ := h
  refine wpAny_Call_Name_kw (thn ((pe_var (pos := p) (i := i) hN hv hd hcd).run pins s σ H (fun v H1 => v = .ref C ∧ H1 = H) I ⟨.ref C, hs, rfl, rfl⟩) fun u s1 ⟨v, H1, I1, r1, ev, eH⟩ => ?_)
  subst ev
  rw [eH] at I1
  cases r1
  refine PySem.W.callWith_S (h₀ := X.base) I.ok.mod.kin M.kp (thn (he.run pins s1 σ H _ I1 h) fun v s1 ⟨y, H1, I1, ry, a, xs, ey, hxs, q⟩ => ?_) hst
  subst ey
  obtain rfl : v = Value.ref a := ry
  exact StX.star_any I1 hxs fun us s2 I2 rv => ⟨I2.kIn, StX.run_makeR M F hr hx I2 rv q⟩
/-- C(), without arguments -/
theorem pe_makeR0 (M : Mk X.K C f) (F : FnR X.prog X.w X.K X.mg X.base CX k f sp) (hr : Room (k + 1) X.A) (hg : Gl X x) (hm : X.mg x = some (.ref C)) (hx : Passes CX X E) (hdb : (x == ("__debug__" : Str)) = false := by decide) :
    PE X (.Call (.Name x p) [] [] pos) (StX.tMakeR C sp E tNil) := by
  refine ⟨fun pins s σ H Q I h => ?_⟩
  refine wpAny_Call_Name_kw (ld_glob I hg hm ?_ hdb)
  exact PySem.W.callWith_K0 I.kIn M.kp (StX.run_makeR M F hr hx I .nil h)

/-! ### operators -/
/-- x op y, both instances of C -/
def rBin (C : Addr) (sp : Sp) (E : XK) : R2 := fun x y H Q => ∃ a dx fs b dy gs, x = .ref a ∧ y = .ref b ∧ H a = some (.ins C dx fs) ∧ H b = some (.ins C dy gs) ∧ sp [x, y] H Q E
/-- x op k, k an int -/
def rBinI (C : Addr) (sp : Sp) (E : XK) : R2 := fun x y H Q => ∃ a dx fs j, x = .ref a ∧ y = .int j ∧ H a = some (.ins C dx fs) ∧ sp [x, y] H Q E
def rUnO (C : Addr) (sp : Sp) (E : XK) : V → Hp → VK → Prop := fun x H Q => ∃ a dx fs, x = .ref a ∧ H a = some (.ins C dx fs) ∧ sp [x] H Q E
/-- what the class must say of op, with an int on the other side -/
structure OpOk (K : PySem.W.Frag) (C g : Addr) (nm : String) : Prop where
  self : PySem.W.selfFirst K C = true
  at_ : PySem.W.findIn K (.ref C) (PySem.dunder nm) = some (some (.ref g))
  fn : PySem.W.isFn K (.ref g) = true
structure OpOkI (K : PySem.W.Frag) (C : Addr) (nm : String) : Prop where
  r : ∃ rc, PySem.W.findIn K (.ref C) (dunderR nm) = some rc ∧ (rc = none ∨ ∃ g : Addr, rc = some (.ref g))
  i1 : ∃ fo, PySem.W.findIn K (.type "int") (PySem.dunder nm) = some fo
  i2 : ∃ ro, PySem.W.findIn K (.type "int") (dunderR nm) = some ro
  sub : PySem.W.subIn K (.type "int") (.ref C) = some false
theorem op_bin {op : Operator} (O : OpOk X.K C g op.info.2) (F : FnR X.prog X.w X.K X.mg X.base CX n g sp) (hr : Room n X.A) (hx : Passes CX X E) : OpR X (binaryOp op) (rBin C sp E) := by
  intro pins s σ H x y v u Q I rx ry h
  obtain ⟨a, dx, fs, b, dy, gs, rfl, rfl, ha, hb, q⟩ := h
  cases (show v = Value.ref a from rx)
  cases (show u = Value.ref b from ry)
  obtain ⟨_, _, J⟩ := inst_at I ha
  obtain ⟨_, _, J'⟩ := inst_at I hb
  obtain ⟨m, hF⟩ := I.fr
  refine PySem.W.binop_K hF I.ok.mod.kin J J'.type O.self O.at_ O.fn ?_
  refine wpAny_mono (wpAny_call (run_fnR (us := [.ref a, .ref b]) (vs := [.ref a, .ref b]) F hr hx I (.cons rfl (.cons rfl .nil)) q)) (fun w s' z => ?_) fun _ _ x => x
  obtain ⟨z', H', I', rz, qz⟩ := z
  exact SlX.cmpback rz ⟨z', H', I', rz, qz⟩
theorem op_binI {op : Operator} (O : OpOk X.K C g op.info.2) (O2 : OpOkI X.K C op.info.2) (F : FnR X.prog X.w X.K X.mg X.base CX n g sp) (hr : Room n X.A) (hx : Passes CX X E) : OpR X (binaryOp op) (rBinI C sp E) := by
  intro pins s σ H x y v u Q I rx ry h
  obtain ⟨a, dx, fs, j, rfl, rfl, ha, q⟩ := h
  cases (show v = Value.ref a from rx)
  obtain ⟨t, ej⟩ := (show ∃ t, u = Value.int j t from ry)
  subst ej
  obtain ⟨_, _, J⟩ := inst_at I ha
  obtain ⟨m, hF⟩ := I.fr
  obtain ⟨rc, r1, r2⟩ := O2.r
  obtain ⟨fo, i1⟩ := O2.i1
  obtain ⟨ro, i2⟩ := O2.i2
  refine PySem.W.ksp_binT (T := "int") hF I.ok.mod.kin J rfl O.self O.at_ O.fn r1 r2 i1 i2 O2.sub ?_
  refine wpAny_mono (wpAny_call (run_fnR (us := [.ref a, .int j t]) (vs := [.ref a, .int j]) F hr hx I (.cons rfl (.cons ⟨t, rfl⟩ .nil)) q)) (fun w s' z => ?_) fun _ _ x => x
  obtain ⟨z', H', I', rz, qz⟩ := z
  exact SlX.cmpback rz ⟨z', H', I', rz, qz⟩
theorem un_own (hs : PySem.W.findIn X.K (.ref C) "__neg__" = some (some (.ref g))) (hf : PySem.W.isFn X.K (.ref g) = true) (F : FnR X.prog X.w X.K X.mg X.base CX n g sp) (hr : Room n X.A) (hx : Passes CX X E) : UnR X (unaryOp .USub) (rUnO C sp E) := by
  intro pins s σ H x v Q I rx h
  obtain ⟨a, dx, fs, rfl, ha, q⟩ := h
  cases (show v = Value.ref a from rx)
  obtain ⟨_, _, J⟩ := inst_at I ha
  obtain ⟨m, hF⟩ := I.fr
  refine PySem.W.ksp_neg hF I.ok.mod.kin J hs hf ?_
  exact wpAny_call (run_fnR (us := [.ref a]) (vs := [.ref a]) F hr hx I (.cons rfl .nil) q)
/-- len(x) by an own __len__ -/
def rLenO (C : Addr) (sp : Sp) (E : XK) : List V → Hp → VK → Prop := fun xs H Q => ∃ a dx fs, xs = [.ref a] ∧ H a = some (.ins C dx fs) ∧ sp [.ref a] H (fun v H' => ∃ j : Int, v = .int j ∧ 0 ≤ j ∧ j < 2 ^ 63 ∧ Q (.int j) H') E
theorem call_lenO (hs : PySem.W.findIn X.K (.ref C) "__len__" = some (some (.ref g))) (hf : PySem.W.isFn X.K (.ref g) = true) (F : FnR X.prog X.w X.K X.mg X.base CX n g sp) (hr : Room (n + 1) X.A) (hx : ∀ (H : Hp) (s : Shared) (e : Value) (s' : Shared), CX X.stack H s E e s' → False) : CallR X (.builtin "len") (rLenO C sp E) := by
  intro pins s σ H xs us Q I r h
  obtain ⟨a, dx, fs, rfl, ha, q⟩ := h
  obtain ⟨u, rfl, ru⟩ := vals1 r
  cases (show u = Value.ref a from ru)
  obtain ⟨_, _, J⟩ := inst_at I ha
  obtain ⟨m, hF⟩ := I.fr
  refine PySem.W.len_K hF I.ok.mod.kin J hs hf (wpAny_call ?_)
  refine codeAny_mono (F X.A.in1 X.stack s H [.ref a] [.ref a] _ E hr.in1 I.env0.in1 (.cons rfl .nil) q) fun r s' hq => ?_
  cases r with
  | error e => exact (hx _ _ _ _ hq).elim
  | ok fl =>
    cases fl with
    | ret u =>
      obtain ⟨v, H', I2, rv, j, ev, j0, j1, q⟩ := I.after hq
      subst ev
      obtain ⟨t, et⟩ := (show ∃ t, u = Value.int j t from rv)
      subst et
      exact ⟨⟨j0, j1⟩, .int j, H', I2.tok _, ⟨_, rfl⟩, q⟩
    | next => exact False.elim hq
    | brk => exact False.elim hq
    | cont => exact False.elim hq
/-- x == y by an own __eq__, y of any type that is not below C -/
def rEqO (K : PySem.W.Frag) (C : Addr) (sp : Sp) (E : XK) : R2 := fun x y H Q => ∃ a dx fs t, x = .ref a ∧ H a = some (.ins C dx fs) ∧ TyX K H y t ∧ PySem.W.notFirst K C t = true ∧ sp [x, y] H Q E
theorem op_eqO (hs : PySem.W.findIn X.K (.ref C) "__eq__" = some (some (.ref g))) (hf : PySem.W.isFn X.K (.ref g) = true) (F : FnR X.prog X.w X.K X.mg X.base CX n g sp) (hr : Room n X.A) (hx : Passes CX X E) : OpR X (compareOp .Eq) (rEqO X.K C sp E) := by
  intro pins s σ H x y v u Q I rx ry h
  obtain ⟨a, dx, fs, t, rfl, ha, ty, hn, q⟩ := h
  cases (show v = Value.ref a from rx)
  obtain ⟨_, _, J⟩ := inst_at I ha
  obtain ⟨P, Z, p, _⟩ := kit_of I ry ty
  obtain ⟨m, hF⟩ := I.fr
  refine PySem.W.cmp_ofEq ?_
  refine PySem.W.cmp_K (op := .Eq) (tb := t) hr.units0 hF I.ok.mod.kin J (Z.ty _ _ I.kIn p) hn hs hf ?_
  refine wpAny_mono (wpAny_call (run_fnR (us := [.ref a, u]) (vs := [.ref a, y]) F hr hx I (.cons rfl (.cons ry .nil)) q)) (fun w s' z => ?_) fun _ _ x => x
  obtain ⟨z', H', I', rz, qz⟩ := z
  exact SlX.cmpback rz ⟨z', H', I', rz, qz⟩
/-- x[k] by an own __getitem__ -/
def rIxO (C : Addr) (sp : Sp) (E : XK) : R2 := fun x y H Q => ∃ a dx fs j, x = .ref a ∧ y = .int j ∧ H a = some (.ins C dx fs) ∧ sp [x, y] H Q E
end
end Lk

/-! ### an int on the left, an instance on the right: the reflected def -/
namespace PySem
theorem lk_int_add (a : Int) (t : Tok) (l : Addr) (cls : Value) (d : Option Addr) (sl : Array (Option Value)) :
    Meets (Builtin.«int.__add__» ⟨[.int a t, .ref l], []⟩) (fun _ R s => s.heap.get? l = some { cls := cls, dict := d, data := .plain, slots := sl } ∧ R (.ok (.ret Value.notImplemented)) s) :=
  .of_wp fun prog w A R s h => by obtain ⟨hp, g, d, tk, os⟩ := s; obtain ⟨hl, h⟩ := h; wp_walk; exact ⟨_, rfl, h⟩
theorem lk_int_sub (a : Int) (t : Tok) (l : Addr) (cls : Value) (d : Option Addr) (sl : Array (Option Value)) :
    Meets (Builtin.«int.__sub__» ⟨[.int a t, .ref l], []⟩) (fun _ R s => s.heap.get? l = some { cls := cls, dict := d, data := .plain, slots := sl } ∧ R (.ok (.ret Value.notImplemented)) s) :=
  .of_wp fun prog w A R s h => by obtain ⟨hp, g, d, tk, os⟩ := s; obtain ⟨hl, h⟩ := h; wp_walk; exact ⟨_, rfl, h⟩
theorem lk_int_mul (a : Int) (t : Tok) (l : Addr) (cls : Value) (d : Option Addr) (sl : Array (Option Value)) :
    Meets (Builtin.«int.__mul__» ⟨[.int a t, .ref l], []⟩) (fun _ R s => s.heap.get? l = some { cls := cls, dict := d, data := .plain, slots := sl } ∧ R (.ok (.ret Value.notImplemented)) s) :=
  .of_wp fun prog w A R s h => by obtain ⟨hp, g, d, tk, os⟩ := s; obtain ⟨hl, h⟩ := h; wp_walk; exact ⟨_, rfl, h⟩
end PySem
namespace PySem.W
open PySem PySem.Calls PyProof.Rows
section
variable {prog : Program} {w : World} {A : Around} {E : Value → Shared → Prop} {s : Shared} {K : Frag} {x C L f : Addr} {h₀ : Heap} {m : Str → Option Value} {ox : Obj} {od : Option Obj}
theorem lk_binR {op : Operator} {id : String} {fd : Addr} {j : Int} {t : Tok} {Q : Value → Shared → Prop} (F : Fr h₀ L s.heap m) (X₀ : K.In h₀) (I : InstAt s.heap x ox C od) (hc : selfFirst K C = true)
    (hd : findIn K (.ref C) (PySem.dunder op.info.2) = some (some (.ref fd))) (hs : findIn K (.ref C) (dunderR op.info.2) = some (some (.ref f))) (hf : isFn K (.ref f) = true)
    (hfi : fillsNumberSlot (.type "int") op.info.2 = pure true) (hsl : Slot "int" (PySem.dunder op.info.2) id) (hsub : subIn K (.ref C) (.type "int") = some false)
    (hn : ∀ P : Shared → Prop, P s → wpAny (model prog w) A (call (.builtin id) [.int j t, .ref x]) (fun v s' => v = .notImplemented ∧ P s') E s)
    (h : wpAny (model prog w) A (call (.ref f) [.ref x, .int j t]) (CmpBack Q) E s) : wpAny (model prog w) A (binaryOp op (.int j t) (.ref x)) Q E s := by
  have X := X₀.keeps F.keep
  obtain ⟨cd, rest, hcd, hm⟩ := ksp_first hc
  have one := ksp_try X I hs hf h
  rcases hi : op.info with ⟨sym, nm'⟩
  rw [hi] at hd hs hfi hsl one
  dsimp only at hd hs hfi hsl one
  have L1 : Looks (model prog w) s.heap (typeOf (.ref x)) (.ref C) := I.type
  have L3 : Looks (model prog w) s.heap (fillsNumberSlot (.ref C) nm') true := fills_K X hcd hm hd
  have L5 : Looks (model prog w) s.heap (isSubtype (.ref C) (.type "int")) false := looks_subIn X hsub
  have hne : (Value.type "int" == Value.ref C) = false := Bool.eq_false_iff.mpr fun q => by cases beq_iff_eq.mp q
  have hpy : numberSlotInPython (.type "int") nm' = pure false := rfl
  simp only [binaryOp, hi]
  refine wpAny_holding (wpAny_bind ?_)
  unfold binaryOp1
  refine wpAny_bind (wpAny_typeOf (typeIs_int s j t) (wpAny_bind (L1.here (wpAny_bind (wpAny_of_eq hfi ?_)))))
  simp only [hne, Bool.false_eq_true, if_false]
  refine wpAny_bind (L3.here ?_)
  simp only [Bool.and_self, if_true]
  refine wpAny_bind (L5.here ?_)
  simp only [Bool.false_eq_true, if_false, pure_bind, Bool.not_false, Bool.and_self, if_true, hpy]
  refine wpAny_bind (wpAny_tryMethod_declines (typeIs_int s j t) hsl (hn (fun s' => wpAny _ _ _ _ _ s') ?_))
  refine wpAny_bind (wpAny_mono one (fun r s' hr' => ?_) fun _ _ e => e)
  obtain ⟨v, rfl, hq⟩ := hr'
  exact wpAny_bind (wpAny_rule (wpAny_pure (wpAny_pure hq)))
end
end PySem.W
namespace Lk
open PySem L2
section
variable {X : Cx} {CX : CXT} {n : Nat} {C g gd : Addr} {sp : Sp} {E : XK}
/-- k op x, k an int, x an instance of C with the reflected def at g -/
def rBinR (C : Addr) (sp : Sp) (E : XK) : R2 := fun x y H Q => ∃ b dy gs j, x = .int j ∧ y = .ref b ∧ H b = some (.ins C dy gs) ∧ sp [y, x] H Q E
structure OpOkR (K : PySem.W.Frag) (C gd g : Addr) (nm : String) : Prop where
  self : PySem.W.selfFirst K C = true
  fwd : PySem.W.findIn K (.ref C) (PySem.dunder nm) = some (some (.ref gd))
  at_ : PySem.W.findIn K (.ref C) (dunderR nm) = some (some (.ref g))
  fn : PySem.W.isFn K (.ref g) = true
  sub : PySem.W.subIn K (.ref C) (.type "int") = some false
theorem op_binR {op : Operator} {id : String} {B : Builtin} (O : OpOkR X.K C gd g op.info.2) (hfi : fillsNumberSlot (.type "int") op.info.2 = pure true) (hsl : Slot "int" (PySem.dunder op.info.2) id) (entry : entryFor table id = some B) (args : ∀ a b, argsOk id ⟨[a, b], []⟩)
    (meets : ∀ (a : Int) (t : Tok) (l : Addr) (cls : Value) (d : Option Addr) (sl : Array (Option Value)), Meets (B ⟨[.int a t, .ref l], []⟩) (fun _ R s => s.heap.get? l = some { cls := cls, dict := d, data := .plain, slots := sl } ∧ R (.ok (.ret Value.notImplemented)) s))
    (F : FnR X.prog X.w X.K X.mg X.base CX n g sp) (hr : Room n X.A) (hx : Passes CX X E) : OpR X (binaryOp op) (rBinR C sp E) := by
  intro pins s σ H x y v u Q I rx ry h
  obtain ⟨b, dy, gs, j, rfl, rfl, hb, q⟩ := h
  obtain ⟨t, ej⟩ := (show ∃ t, v = Value.int j t from rx)
  subst ej
  cases (show u = Value.ref b from ry)
  obtain ⟨ox, od, J, hpl⟩ := StX.insC_at I (.inr ⟨dy, gs, hb⟩)
  obtain ⟨m, hF⟩ := I.fr
  have hget := J.at_
  obtain ⟨oc, odd, oda, osl⟩ := ox
  dsimp only at hpl
  subst hpl
  refine PySem.W.lk_binR hF I.ok.mod.kin J O.self O.fwd O.at_ O.fn hfi hsl O.sub (fun P hP => ?_) ?_
  · exact call_meets hsl (typeIs_int s j t) entry (args _ _) (meets j t b oc odd osl) ⟨hget, rfl, hP⟩
  · refine wpAny_mono (wpAny_call (run_fnR (us := [.ref b, .int j t]) (vs := [.ref b, .int j]) F hr hx I (.cons rfl (.cons ⟨t, rfl⟩ .nil)) q)) (fun w s' z => ?_) fun _ _ x => x
    obtain ⟨z', H', I', rz, qz⟩ := z
    exact SlX.cmpback rz ⟨z', H', I', rz, qz⟩
theorem op_addR (O : OpOkR X.K C gd g "add") (F : FnR X.prog X.w X.K X.mg X.base CX n g sp) (hr : Room n X.A) (hx : Passes CX X E) : OpR X (binaryOp .Add) (rBinR C sp E) := op_binR (op := .Add) O PySem.F.fills_int_add PySem.F.slot_int_add PySem.F.entry_int_add (fun a b => PySem.F.args_int_add_2 a b) PySem.lk_int_add F hr hx
theorem op_subR (O : OpOkR X.K C gd g "sub") (F : FnR X.prog X.w X.K X.mg X.base CX n g sp) (hr : Room n X.A) (hx : Passes CX X E) : OpR X (binaryOp .Sub) (rBinR C sp E) := op_binR (op := .Sub) O PySem.F.fills_int_sub PySem.F.slot_int_sub PySem.F.entry_int_sub (fun a b => PySem.F.args_int_sub_2 a b) PySem.lk_int_sub F hr hx
theorem op_mulR (O : OpOkR X.K C gd g "mul") (F : FnR X.prog X.w X.K X.mg X.base CX n g sp) (hr : Room n X.A) (hx : Passes CX X E) : OpR X (binaryOp .Mult) (rBinR C sp E) := op_binR (op := .Mult) O PySem.F.fills_int_mul PySem.F.slot_int_mul PySem.F.entry_int_mul (fun a b => PySem.F.args_int_mul_2 a b) PySem.lk_int_mul F hr hx
end
end Lk
/-! ### != by an own __eq__ (object.__ne__), repr and [] by own defs -/
namespace PySem.W
open PySem PySem.Calls PyProof.Rows
section
variable {prog : Program} {w : World} {A : Around} {E : Value → Shared → Prop} {s : Shared} {K : Frag} {x C L f : Addr} {h₀ : Heap} {m : Str → Option Value} {ox : Obj} {od : Option Obj}
theorem lk_ifBound_obj {M : Model} {id : String} {name : Str} {args : List Value} {Q : Option Value → Shared → Prop} (X : K.In s.heap) (I : InstAt s.heap x ox C od) (hs : findIn K (.ref C) name = some (some (.builtin id))) (S : Slot "object" name id)
    (h : wpAny M A (call (.builtin id) (.ref x :: args)) (fun v => Q (some v)) E s) : wpAny M A (callSpecialIfBound? (.ref x) name args) Q E s := by
  simp only [callSpecialIfBound?, bindSpecialIfBound?]
  refine wpAny_holding (wpAny_bind (wpAny_bind (wpAny_bind (I.type.here ((looks_findIn X hs).here ?_)))))
  simp only [S.bind]
  refine wpAny_bind (wpAny_askSetting (wpAny_ite ?_))
  have fin : wpAny M A (call (.builtin id) ([.ref x] ++ args) >>= fun v => pure (some v)) Q E s := wpAny_bind (wpAny_mono h (fun v s' h' => wpAny_pure h') fun _ _ h' => h')
  split
  · exact wpAny_bind (wpAny_pure (wpAny_pure fin))
  · exact wpAny_tryCatch (wpAny_bind (wpAny_pure (wpAny_pure fin)))
theorem lk_check_obj {M : Model} {id n : String} {rest : List Value} {Q : Unit → Shared → Prop} (X : K.In s.heap) (I : InstAt s.heap x ox C od) (hk : builtinKind id = some .slot) (hs : splitId id = some ("object", n))
    (ha : argsOk id ⟨.ref x :: rest, []⟩) (hob : subIn K (.ref C) (.type "object") = some true) (hq : Q () s) : wpAny M A (checkBuiltinCall id ⟨.ref x :: rest, []⟩) Q E s := by
  simp only [checkBuiltinCall, hk, hs]
  have L : Looks M s.heap (isInstance (.ref x) (.type "object")) true := I.type.andThen (looks_subIn X hob)
  refine wpAny_bind (L.here ?_)
  cases hsig : Manifest.signature? id with
  | none => exact wpAny_pure hq
  | some sig =>
    simp only [argsOk, hsig] at ha
    have h2 : Bind.checkArgs id sig ⟨.ref x :: rest, []⟩ = pure () := ha
    show wpAny M A (Bind.checkArgs id sig ⟨.ref x :: rest, []⟩) Q E _
    rw [h2]; exact wpAny_pure hq
theorem lk_ne {b tb : Value} {Q : Value → Shared → Prop} (hu : A.units + 1 < cLine) (Fh : Fr h₀ L s.heap m) (X₀ : K.In h₀) (I : InstAt s.heap x ox C od) (hb : Looks (model prog w) s.heap (typeOf b) tb) (hn : notFirst K C tb = true)
    (hne : findIn K (.ref C) "__ne__" = some (some (.builtin "object.__ne__"))) (hob : subIn K (.ref C) (.type "object") = some true) (hs : findIn K (.ref C) "__eq__" = some (some (.ref f))) (hf : isFn K (.ref f) = true)
    (h : wpAny (model prog w) A.in1 (call (.ref f) [.ref x, b]) (fun v s' => ∃ b, v = .bool b ∧ Q (.bool (!b)) s') E s) : wpAny (model prog w) A (richCompare .NotEq (.ref x) b) Q E s := by
  have X := X₀.keeps Fh.keep
  have one : wpAny (model prog w) A (tryCompare (.ref x) "__ne__" b) (fun r s' => ∃ v, r = some v ∧ Q v s') E s := by
    unfold tryCompare
    refine wpAny_bind (lk_ifBound_obj X I hne PySem.F.cmp_object.ne ?_)
    refine wpAny_call (codeAny_call_builtin PySem.F.cmp_object.ne.plain PySem.F.cmpEntry_ne (lk_check_obj X I PySem.F.cmpKind_ne PySem.F.cmpSplit_ne (PySem.F.cmpArgs_ne _ _) hob ?_))
    unfold Builtin.«object.__ne__»
    refine wpAny_bind (m := slotArgs _ _ _) (wpAny_pure ?_)
    refine wpAny_bind (wpAny_cRoomFor hu ?_)
    refine wpAny_bind (ifBound_K X I hs hf (wpAny_mono h (fun r s' hr => ?_) fun _ _ e => e))
    obtain ⟨b, rfl, hq⟩ := hr
    refine wpAny_bind (m := truthy (.bool _)) (wpAny_truthy_bool ?_)
    exact wpAny_pure (wpAny_pure ⟨_, rfl, hq⟩)
  unfold richCompare
  simp only [oneThing_ref]
  refine wpAny_holding (wpAny_bind (wpAny_cRoomFor (Nat.lt_of_succ_lt hu) ?_))
  refine wpAny_bind (I.type.here (wpAny_bind (hb.here ?_)))
  rw [cmpInfo_NotEq]
  dsimp only
  split
  · rename_i q
    have e : subIn K tb (.ref C) = some false := by
      rcases Bool.or_eq_true_iff.mp hn with e | e
      · rw [beq_iff_eq.mp e] at q; simp at q
      · exact beq_iff_eq.mp e
    refine wpAny_bind ((looks_subIn X e).here ?_)
    simp only [Bool.false_eq_true, if_false]
    refine wpAny_bind (wpAny_mono one (fun r s' z => ?_) fun _ _ e => e)
    obtain ⟨v, rfl, hq⟩ := z
    exact wpAny_pure hq
  · refine wpAny_bind (wpAny_pure ?_)
    simp only [Bool.false_eq_true, if_false]
    refine wpAny_bind (wpAny_mono one (fun r s' z => ?_) fun _ _ e => e)
    obtain ⟨v, rfl, hq⟩ := z
    exact wpAny_pure hq
end
end PySem.W
namespace Lk
open PySem L2
section
variable {X : Cx} {CX : CXT} {n : Nat} {C g : Addr} {sp : Sp} {E : XK} {a b : Expr} {ta tb : TE} {pos : Pos}
structure NeOk (K : PySem.W.Frag) (C g : Addr) : Prop where
  ne : PySem.W.findIn K (.ref C) "__ne__" = some (some (.builtin "object.__ne__"))
  ob : PySem.W.subIn K (.ref C) (.type "object") = some true
  eq : PySem.W.findIn K (.ref C) "__eq__" = some (some (.ref g))
  fn : PySem.W.isFn K (.ref g) = true
/-- x != y by an own __eq__ that answers a bool -/
def rNeO (K : PySem.W.Frag) (C : Addr) (sp : Sp) (E : XK) : R2 := fun x y H Q => ∃ a dx fs t, x = .ref a ∧ H a = some (.ins C dx fs) ∧ TyX K H y t ∧ PySem.W.notFirst K C t = true ∧ sp [x, y] H (fun v H' => ∃ z, v = .bl z ∧ Q (.bl (!z)) H') E
theorem op_neO (O : NeOk X.K C g) (F : FnR X.prog X.w X.K X.mg X.base CX n g sp) (hr : Room (n + 1) X.A) (hx : ∀ (H : Hp) (s : Shared) (e : Value) (s' : Shared), CX X.stack H s E e s' → False) : OpR X (compareOp .NotEq) (rNeO X.K C sp E) := by
  intro pins s σ H x y v u Q I rx ry h
  obtain ⟨a, dx, fs, t, rfl, ha, ty, hn, q⟩ := h
  cases (show v = Value.ref a from rx)
  obtain ⟨_, _, J⟩ := inst_at I ha
  obtain ⟨P, Z, p, _⟩ := kit_of I ry ty
  obtain ⟨m, hF⟩ := I.fr
  refine PySem.W.cmp_ofNotEq ?_
  refine PySem.W.lk_ne (tb := t) (by have := hr.units; omega) hF I.ok.mod.kin J (Z.ty _ _ I.kIn p) hn O.ne O.ob O.eq O.fn (wpAny_call ?_)
  refine codeAny_mono (F X.A.in1 X.stack s H [.ref a, u] [.ref a, y] _ E hr.in1 I.env0.in1 (.cons rfl (.cons ry .nil)) q) fun r s' hq => ?_
  cases r with
  | error e => exact (hx _ _ _ _ hq).elim
  | ok fl =>
    cases fl with
    | ret u =>
      obtain ⟨v, H', I2, rv, z, ev, q⟩ := I.after hq
      subst ev
      cases (show u = Value.bool z from rv)
      exact ⟨z, rfl, .bl (!z), H', I2, rfl, q⟩
    | next => exact False.elim hq
    | brk => exact False.elim hq
    | cont => exact False.elim hq
/-- repr(x) by an own __repr__ that answers a str -/
def rReprO (C : Addr) (sp : Sp) (E : XK) : List V → Hp → VK → Prop := fun xs H Q => ∃ a dx fs, xs = [.ref a] ∧ H a = some (.ins C dx fs) ∧ sp [.ref a] H (fun v H' => ∃ y : Str, v = .str y ∧ Q (.str y) H') E
theorem call_reprO (hs : PySem.W.findIn X.K (.ref C) "__repr__" = some (some (.ref g))) (hf : PySem.W.isFn X.K (.ref g) = true) (F : FnR X.prog X.w X.K X.mg X.base CX n g sp) (hr : Room (n + 1) X.A) (hx : ∀ (H : Hp) (s : Shared) (e : Value) (s' : Shared), CX X.stack H s E e s' → False) : CallR X (.builtin "repr") (rReprO C sp E) := by
  intro pins s σ H xs us Q I r h
  obtain ⟨a, dx, fs, rfl, ha, q⟩ := h
  obtain ⟨u, rfl, ru⟩ := vals1 r
  cases (show u = Value.ref a from ru)
  obtain ⟨_, _, J⟩ := inst_at I ha
  obtain ⟨m, hF⟩ := I.fr
  refine PySem.W.repr_K hr.in1.units0 hF I.ok.mod.kin J hs hf (wpAny_call ?_)
  refine codeAny_mono (F X.A.in1 X.stack s H [.ref a] [.ref a] _ E hr.in1 I.env0.in1 (.cons rfl .nil) q) fun r s' hq => ?_
  cases r with
  | error e => exact (hx _ _ _ _ hq).elim
  | ok fl =>
    cases fl with
    | ret u =>
      obtain ⟨v, H', I2, rv, y, ev, q⟩ := I.after hq
      subst ev
      obtain ⟨t, et⟩ := (show ∃ t, u = Value.str y t from rv)
      subst et
      exact ⟨.str y, H', I2.tok _, ⟨_, rfl⟩, q⟩
    | next => exact False.elim hq
    | brk => exact False.elim hq
    | cont => exact False.elim hq
/-- x[k] by an own __getitem__ -/
structure GetOk (K : PySem.W.Frag) (C g : Addr) : Prop where
  at_ : PySem.W.findIn K (.ref C) "__getitem__" = some (some (.ref g))
  fn : PySem.W.isFn K (.ref g) = true
  fi : PySem.W.fnIn K g = true
theorem pe_ixO (O : GetOk X.K C g) (F : FnR X.prog X.w X.K X.mg X.base CX n g sp) (hr : Room (n + 1) X.A) (hx : Passes CX X.nox E) (ha : PE X a ta) (hb : PE X b tb)
    (hsl : ∀ v u, subscripted b true v u = runValue (.builtin "lifetime.subscript" ⟨[v, u], []⟩) := by intro v u; with_unfolding_all rfl) : PE X (.Subscript a b pos) (tOp (rIxO C sp E) ta tb) := by
  refine ⟨fun pins s σ H Q I h => ?_⟩
  refine PyProof.Rows.Subscript_ (binT ha hb I h fun v u s2 x y H2 I2 rx ry q => ?_)
  obtain ⟨c, dx, fs, j, rfl, rfl, hc, q⟩ := q
  cases (show v = Value.ref c from rx)
  obtain ⟨t, ej⟩ := (show ∃ t, u = Value.int j t from ry)
  subst ej
  obtain ⟨_, _, J⟩ := inst_at I2 hc
  obtain ⟨m, hF⟩ := I2.fr
  refine PySem.W.sub_K hF I2.ok.mod.kin J O.at_ O.fi O.fn (wpAny_call ?_) (hsl _ _)
  refine codeAny_mono (F X.A.in1 X.stack s2 H2 [.ref c, .int j t] [.ref c, .int j] _ E hr.in1 I2.env0.in1 (.cons rfl (.cons ⟨t, rfl⟩ .nil)) q) fun r s' hq => ?_
  cases r with
  | error er => exact False.elim (hx pins σ H2 s2 er s' (I2.wish _) hq)
  | ok fl =>
    cases fl with
    | ret u =>
      obtain ⟨v, H', I3, rv, q3⟩ := I2.after hq
      exact ⟨v, H', I3, rv, q3⟩
    | next => exact False.elim hq
    | brk => exact False.elim hq
    | cont => exact False.elim hq
end
end Lk
namespace Lk
open PySem L2
/-- a def without defaults, by its promise as it stands -/
theorem fnr0 {P : Program} {w : World} {K : PySem.W.Frag} {mg : Str → Option Value} {base : Heap} {CX : CXT} {k : Nat} {f : Addr} {fd : FuncData} {ps : List Str} {sp : Sp} (F : FnOk P w K mg base CX k f fd ps sp) (hb : Binds K fd ps []) : FnR P w K mg base CX k f sp :=
  (F.raw hb .nil).imp fun vs H Q E h => by rw [List.append_nil]; exact h
end Lk
/-! ### x += y where the class has no def of its own for it -/
namespace PySem.W
open PySem PySem.Calls PyProof.Rows
section
variable {prog : Program} {w : World} {A : Around} {E : Value → Shared → Prop} {s : Shared} {K : Frag} {x C L f : Addr} {h₀ : Heap} {m : Str → Option Value} {ox : Obj} {od : Option Obj} {T : String}
theorem lk_bin1 {nm : String} {b : Value} {Q : Value → Shared → Prop} (F : Fr h₀ L s.heap m) (X₀ : K.In h₀) (I : InstAt s.heap x ox C od) (hb : Looks (model prog w) s.heap (typeOf b) (.ref C)) (hc : selfFirst K C = true)
    (hs : findIn K (.ref C) (PySem.dunder nm) = some (some (.ref f))) (hf : isFn K (.ref f) = true)
    (h : wpAny (model prog w) A (call (.ref f) [.ref x, b]) (CmpBack Q) E s) : wpAny (model prog w) A (binaryOp1 nm (.ref x) b) (fun r s' => ∃ v, r = some v ∧ Q v s') E s := by
  have X := X₀.keeps F.keep
  obtain ⟨cd, rest, hcd, hm⟩ := ksp_first hc
  unfold binaryOp1
  refine wpAny_bind (I.type.here (wpAny_bind (hb.here (wpAny_bind ((fills_K X hcd hm hs).here ?_)))))
  simp only [beq_self_eq_true, if_true]
  refine wpAny_bind (wpAny_pure ?_)
  simp only [Bool.and_false, Bool.false_eq_true, if_false, Bool.false_and]
  refine wpAny_bind (wpAny_pure ?_)
  simp only [Bool.false_eq_true, if_false]
  refine wpAny_bind (m := tryMethod (.ref x) _ b) ?_
  unfold tryMethod
  refine wpAny_bind (special_fn X I hs (beq_iff_eq.mp hf) (wpAny_mono h (fun v s' hv => ?_) fun _ _ e => e))
  cases v <;> first | exact hv.elim | exact wpAny_pure (wpAny_pure ⟨_, rfl, hv⟩)
theorem lk_bin1T {nm' : String} {b : Value} {fo ro rc : Option Value} {Q : Value → Shared → Prop} (F : Fr h₀ L s.heap m) (X₀ : K.In h₀) (I : InstAt s.heap x ox C od) (hb : typeOf b = pure (.type T)) (hc : selfFirst K C = true)
    (hs : findIn K (.ref C) (PySem.dunder nm') = some (some (.ref f))) (hf : isFn K (.ref f) = true) (hr : findIn K (.ref C) (dunderR nm') = some rc) (hp : rc = none ∨ ∃ g : Addr, rc = some (.ref g))
    (h1 : findIn K (.type T) (PySem.dunder nm') = some fo) (h2 : findIn K (.type T) (dunderR nm') = some ro) (hsub : subIn K (.type T) (.ref C) = some false)
    (h : wpAny (model prog w) A (call (.ref f) [.ref x, b]) (CmpBack Q) E s) : wpAny (model prog w) A (binaryOp1 nm' (.ref x) b) (fun r s' => ∃ v, r = some v ∧ Q v s') E s := by
  have X := X₀.keeps F.keep
  obtain ⟨cd, rest, hcd, hm⟩ := ksp_first hc
  have one := ksp_try X I hs hf h
  obtain ⟨hh, g, d, tt, os⟩ := s
  have L1 : Looks (model prog w) hh (typeOf (.ref x)) (.ref C) := I.type
  have L2 : Looks (model prog w) hh (typeOf b) (.type T) := Looks.of_pure hb
  have L3 : Looks (model prog w) hh (fillsNumberSlot (.ref C) nm') true := fills_K X hcd hm hs
  have L4 : Looks (model prog w) hh (fillsNumberSlot (.type T) nm') ((fo.isSome && !isSeqSlot fo) || (ro.isSome && !isSeqSlot ro)) := ksp_fillsT X h1 h2
  have L5 : Looks (model prog w) hh (isSubtype (.type T) (.ref C)) false := looks_subIn X hsub
  have L6 : Looks (model prog w) hh (numberSlotInPython (.ref C) nm') true := ksp_inPy X hs hr hp
  have L7 : Looks (model prog w) hh (numberSlotInPython (.type T) nm') false := Looks.of_pure rfl
  have L8 : Looks (model prog w) hh (typeLookup (.type T) (dunderR nm')) ro := looks_findIn X h2
  generalize ((fo.isSome && !isSeqSlot fo) || (ro.isSome && !isSeqSlot ro)) = right at L4
  have hne : (Value.ref C == Value.type T) = false := Bool.eq_false_iff.mpr fun q => by cases beq_iff_eq.mp q
  unfold binaryOp1
  refine wpAny_bind (L1.at (wpAny_bind (L2.at (wpAny_bind (L3.at ?_)))))
  simp only [hne, Bool.false_eq_true, if_false]
  cases right with
  | false =>
    ksp_lk
    refine wpAny_mono one (fun r s' hr' => ?_) fun _ _ e => e
    obtain ⟨v, rfl, hq⟩ := hr'
    ksp_lk
    exact ⟨_, rfl, hq⟩
  | true =>
    ksp_lk
    refine wpAny_mono one (fun r s' hr' => ?_) fun _ _ e => e
    obtain ⟨v, rfl, hq⟩ := hr'
    ksp_lk
    exact ⟨_, rfl, hq⟩
theorem lk_noI {M : Model} {h : Heap} {nm : String} {add : Bool} (X : K.In h) (hc : (clsIn K C).map (·.mro) = some [.ref C, .type "object"]) (h1 : findIn K (.ref C) (dunderI nm) = some none) (h2 : findIn K (.type "object") (dunderI nm) = some none) : Looks M h (fillsInplaceSlot (.ref C) nm add) false := by
  obtain ⟨cd, hcd, hm⟩ := Option.map_eq_some_iff.mp hc
  intro A Q E s k q
  have Lm : Looks M h (mroOf (.ref C)) cd.mro := (looks_clsIn X hcd).andThen (f := fun cd => pure cd.mro) .now
  have Lm' := Lm.keeps k
  obtain ⟨hh, g, d, tt, os⟩ := s
  have X' : K.In hh := X.keeps k
  have L1 : Looks M hh (typeLookup (.ref C) (dunderI nm)) none := looks_findIn X' h1
  have L2 : Looks M hh (typeLookup (.type "object") (dunderI nm)) none := looks_findIn X' h2
  unfold fillsInplaceSlot
  refine wpAny_bind (Lm'.at ?_)
  rw [hm, List.anyM_cons]
  refine wpAny_bind (wpAny_bind (L1.at ?_))
  refine wpAny_pure ?_
  simp only [Bool.false_eq_true, if_false]
  rw [List.anyM_cons]
  refine wpAny_bind (wpAny_bind (L2.at ?_))
  refine wpAny_pure ?_
  simp only [Bool.false_eq_true, if_false, List.anyM_nil]
  exact wpAny_pure q
theorem lk_inplace {op : Operator} {b : Value} {Q : Value → Shared → Prop} (F : Fr h₀ L s.heap m) (X₀ : K.In h₀) (I : InstAt s.heap x ox C od) (hc : (clsIn K C).map (·.mro) = some [.ref C, .type "object"]) (h1 : findIn K (.ref C) (dunderI op.info.2) = some none) (h2 : findIn K (.type "object") (dunderI op.info.2) = some none)
    (h : wpAny (model prog w) A (binaryOp1 op.info.2 (.ref x) b) (fun r s' => ∃ v, r = some v ∧ Q v s') E s) : wpAny (model prog w) A (inplaceOp op (.ref x) b) Q E s := by
  have X := X₀.keeps F.keep
  unfold inplaceOp
  refine wpAny_holding ?_
  refine wpAny_bind (I.type.here ?_)
  refine wpAny_bind ((lk_noI X hc h1 h2).here ?_)
  simp only [Bool.false_eq_true, if_false]
  refine wpAny_bind (wpAny_mono h (fun r s' hr' => ?_) fun _ _ e => e)
  obtain ⟨v, rfl, hq⟩ := hr'
  exact wpAny_pure hq
end
end PySem.W
namespace Lk
open PySem L2
section
variable {X : Cx} {CX : CXT} {n : Nat} {C g : Addr} {sp : Sp} {E : XK} {op : Operator}
structure InOk (K : PySem.W.Frag) (C : Addr) (nm : String) : Prop where
  mro : (PySem.W.clsIn K C).map (·.mro) = some [.ref C, .type "object"]
  own : PySem.W.findIn K (.ref C) (dunderI nm) = some none
  obj : PySem.W.findIn K (.type "object") (dunderI nm) = some none
theorem ip_bin (J : InOk X.K C op.info.2) (O : OpOk X.K C g op.info.2) (F : FnR X.prog X.w X.K X.mg X.base CX n g sp) (hr : Room n X.A) (hx : Passes CX X E) : PIp X op (rBin C sp E) := by
  intro pins s σ H x y v u Q I rx ry h
  obtain ⟨a, dx, fs, b, dy, gs, rfl, rfl, ha, hb, q⟩ := h
  cases (show v = Value.ref a from rx)
  cases (show u = Value.ref b from ry)
  obtain ⟨_, _, J1⟩ := inst_at I ha
  obtain ⟨_, _, J2⟩ := inst_at I hb
  obtain ⟨m, hF⟩ := I.fr
  refine PySem.W.lk_inplace hF I.ok.mod.kin J1 J.mro J.own J.obj (PySem.W.lk_bin1 hF I.ok.mod.kin J1 J2.type O.self O.at_ O.fn ?_)
  refine wpAny_mono (wpAny_call (run_fnR (us := [.ref a, .ref b]) (vs := [.ref a, .ref b]) F hr hx I (.cons rfl (.cons rfl .nil)) q)) (fun w s' z => ?_) fun _ _ x => x
  obtain ⟨z', H', I', rz, qz⟩ := z
  exact SlX.cmpback rz ⟨z', H', I', rz, qz⟩
theorem ip_binI (J : InOk X.K C op.info.2) (O : OpOk X.K C g op.info.2) (O2 : OpOkI X.K C op.info.2) (F : FnR X.prog X.w X.K X.mg X.base CX n g sp) (hr : Room n X.A) (hx : Passes CX X E) : PIp X op (rBinI C sp E) := by
  intro pins s σ H x y v u Q I rx ry h
  obtain ⟨a, dx, fs, j, rfl, rfl, ha, q⟩ := h
  cases (show v = Value.ref a from rx)
  obtain ⟨t, ej⟩ := (show ∃ t, u = Value.int j t from ry)
  subst ej
  obtain ⟨_, _, J1⟩ := inst_at I ha
  obtain ⟨m, hF⟩ := I.fr
  obtain ⟨rc, r1, r2⟩ := O2.r
  obtain ⟨fo, i1⟩ := O2.i1
  obtain ⟨ro, i2⟩ := O2.i2
  refine PySem.W.lk_inplace hF I.ok.mod.kin J1 J.mro J.own J.obj (PySem.W.lk_bin1T (T := "int") hF I.ok.mod.kin J1 rfl O.self O.at_ O.fn r1 r2 i1 i2 O2.sub ?_)
  refine wpAny_mono (wpAny_call (run_fnR (us := [.ref a, .int j t]) (vs := [.ref a, .int j]) F hr hx I (.cons rfl (.cons ⟨t, rfl⟩ .nil)) q)) (fun w s' z => ?_) fun _ _ x => x
  obtain ⟨z', H', I', rz, qz⟩ := z
  exact SlX.cmpback rz ⟨z', H', I', rz, qz⟩
end
end Lk
/-! rows of ints without zeros at the end; what stands at a place of a row -/
namespace Lk
def trimI (xs : List Int) : List Int := (xs.reverse.dropWhile (· == 0)).reverse
/-- the coefficient at a place, 0 behind the end -/
def co (xs : List Int) (k : Nat) : Int := xs.getD k 0
theorem dropWhile_all {α : Type} {p : α → Bool} : ∀ (l m : List α), (∀ x ∈ l, p x = true) → (l ++ m).dropWhile p = m.dropWhile p
  | [], m, _ => rfl
  | a :: l, m, h => by
    rw [List.cons_append, List.dropWhile_cons, if_pos (h a List.mem_cons_self)]
    exact dropWhile_all l m fun x hx => h x (List.mem_cons_of_mem _ hx)
theorem co_lt {xs : List Int} {k : Nat} (h : k < xs.length) : co xs k = xs[k] := by
  unfold co
  rw [List.getD_eq_getElem?_getD, List.getElem?_eq_getElem h]
  rfl
theorem co_ge {xs : List Int} {k : Nat} (h : xs.length ≤ k) : co xs k = 0 := by
  unfold co
  rw [List.getD_eq_getElem?_getD, List.getElem?_eq_none h]
  rfl
theorem co_get {xs : List Int} {k : Nat} {x : Int} (h : xs[k]? = some x) : co xs k = x := by
  unfold co
  rw [List.getD_eq_getElem?_getD, h]
  rfl
theorem trimI_of {xs : List Int} {n : Nat} (h : n ≤ xs.length) (hz : ∀ j, n ≤ j → j < xs.length → co xs j = 0) (hl : n = 0 ∨ co xs (n - 1) ≠ 0) : xs.take n = trimI xs := by
  have e : xs.reverse = (xs.drop n).reverse ++ (xs.take n).reverse := by
    rw [← List.reverse_append, List.take_append_drop]
  unfold trimI
  rw [e, dropWhile_all]
  · rcases hl with h0 | hl
    · subst h0
      rfl
    · have hn : 0 < n := by
        rcases Nat.eq_zero_or_pos n with h0 | h0
        · subst h0
          by_cases hx : 0 < xs.length
          · exact absurd (hz 0 (Nat.le_refl _) hx) hl
          · exact absurd (co_ge (by omega)) hl
        · exact h0
      have hlt : n - 1 < xs.length := by omega
      have e2 : xs.take n = xs.take (n - 1) ++ [xs[n - 1]] := by
        have := List.take_succ_eq_append_getElem hlt
        rw [show n - 1 + 1 = n by omega] at this
        exact this
      rw [co_lt hlt] at hl
      rw [e2, List.reverse_append, List.reverse_singleton, List.singleton_append, List.dropWhile_cons, if_neg (by simpa using hl), List.reverse_cons, List.reverse_reverse]
  · intro x hx
    obtain ⟨j, hj⟩ := List.getElem?_of_mem (List.mem_reverse.mp hx)
    rw [List.getElem?_drop] at hj
    have h2 := hz (n + j) (Nat.le_add_right _ _) (List.getElem?_eq_some_iff.mp hj).1
    rw [co_get hj] at h2
    rw [h2]
    rfl
/-- what is trimmed ends in no zero -/
theorem trimI_ex (xs : List Int) : ∃ n, n ≤ xs.length ∧ trimI xs = xs.take n ∧ (∀ j, n ≤ j → co xs j = 0) ∧ (n = 0 ∨ co xs (n - 1) ≠ 0) := by
  suffices h : ∀ m, m ≤ xs.length → (∀ j, m ≤ j → co xs j = 0) → ∃ n, n ≤ xs.length ∧ (∀ j, n ≤ j → co xs j = 0) ∧ (n = 0 ∨ co xs (n - 1) ≠ 0) by
    obtain ⟨n, h1, h2, h3⟩ := h xs.length (Nat.le_refl _) fun j hj => co_ge hj
    exact ⟨n, h1, (trimI_of h1 (fun j hj _ => h2 j hj) h3).symm, h2, h3⟩
  intro m
  induction m with
  | zero => exact fun _ h => ⟨0, Nat.zero_le _, h, .inl rfl⟩
  | succ m ih =>
    intro hm hz
    by_cases h0 : co xs m = 0
    · exact ih (by omega) fun j hj => by
        rcases Nat.eq_or_lt_of_le hj with e | e
        · exact e ▸ h0
        · exact hz j e
    · exact ⟨m + 1, hm, hz, .inr h0⟩
theorem co_take (xs : List Int) (n k : Nat) : co (xs.take n) k = if k < n then co xs k else 0 := by
  unfold co
  rw [List.getD_eq_getElem?_getD, List.getD_eq_getElem?_getD, List.getElem?_take]
  split <;> rfl
theorem co_trim (xs : List Int) (k : Nat) : co (trimI xs) k = co xs k := by
  obtain ⟨n, h1, h2, h3, _⟩ := trimI_ex xs
  rw [h2, co_take]
  split
  · rfl
  · exact (h3 k (by omega)).symm
theorem trim_last (xs : List Int) : (trimI xs).length = 0 ∨ co (trimI xs) ((trimI xs).length - 1) ≠ 0 := by
  obtain ⟨n, h1, h2, h3, h4⟩ := trimI_ex xs
  have hl : (trimI xs).length = n := by
    rw [h2, List.length_take]
    omega
  rw [hl, co_trim]
  exact h4
theorem trim_len (xs : List Int) : (trimI xs).length ≤ xs.length := by
  obtain ⟨n, h1, h2, _⟩ := trimI_ex xs
  rw [h2, List.length_take]
  omega
theorem ext_co {xs ys : List Int} (hl : xs.length = ys.length) (h : ∀ k, co xs k = co ys k) : xs = ys := by
  refine List.ext_getElem hl fun i h1 h2 => ?_
  rw [← co_lt h1, ← co_lt h2]
  exact h i
/-- rows with the same coefficients are the same when trimmed -/
theorem trim_ext {xs ys : List Int} (h : ∀ k, co xs k = co ys k) : trimI xs = trimI ys := by
  have hc : ∀ k, co (trimI xs) k = co (trimI ys) k := fun k => by rw [co_trim, co_trim, h]
  refine ext_co ?_ hc
  rcases Nat.lt_trichotomy (trimI xs).length (trimI ys).length with l | l | l
  · rcases trim_last ys with e | e
    · omega
    · exact absurd ((hc _).symm.trans (co_ge (by omega))) e
  · exact l
  · rcases trim_last xs with e | e
    · omega
    · exact absurd ((hc _).trans (co_ge (by omega))) e
theorem trim_id {xs : List Int} (h : xs.length = 0 ∨ co xs (xs.length - 1) ≠ 0) : trimI xs = xs := by
  rw [← trimI_of (Nat.le_refl _) (fun j h1 h2 => by omega) h, List.take_length]
theorem trim_trim (xs : List Int) : trimI (trimI xs) = trimI xs := trim_id (trim_last xs)
end Lk
/-! sequences of ints, instances of Poly as rows -/
namespace Lk
open PySem L2
def iVs (xs : List Int) : List V := xs.map V.int
theorem iVs_len (xs : List Int) : (iVs xs).length = xs.length := List.length_map ..
theorem iVs_get {xs : List Int} {j : Nat} (h : j < xs.length) : (iVs xs)[j]? = some (.int (co xs j)) := by
  unfold iVs
  rw [List.getElem?_map, List.getElem?_eq_getElem h, co_lt h]
  rfl
theorem iVs_cut (xs : List Int) (n : Nat) (h : n ≤ xs.length) : cutV (iVs xs) none (some (n : Int)) = iVs (xs.take n) := by
  unfold cutV iVs
  rw [show HT.sIx (xs.map V.int).length 0 none = 0 from rfl, HT.sIx_nat, List.length_map, List.drop_zero, List.map_take, Nat.min_eq_left h, Nat.sub_zero]
/-- a list or a tuple of ints -/
def SqI (K : PySem.W.Frag) (H : Hp) (a : Addr) (xs : List Int) : Prop := SqL K H a (iVs xs) ∨ SqT K H a (iVs xs)
section
variable {K : PySem.W.Frag} {H H' : Hp} {a p C : Addr} {xs row : List Int} {σ : L2.St} {ta tb tv : TE} {k : Int} {vs : List V}
theorem _root_.L2.Same.tup (e : Same H H') (h : SqT K H a vs) : SqT K H' a vs :=
  h.elim (fun h => .inl (h.elim (fun h => .inl (e _ _ h)) fun ⟨o, h⟩ => .inr ⟨o, e _ _ h⟩)) fun h => .inr h
theorem SqI.same (h : SqI K H a xs) (e : Same H H') : SqI K H' a xs := h.elim (fun h => .inl (e.seq h)) fun h => .inr (e.tup h)
theorem SqI.lst (h : H a = some (.lst (iVs xs))) : SqI K H a xs := .inl (.of h)
theorem SqI.tup (h : H a = some (.tup (iVs xs))) : SqI K H a xs := .inr (.of h)
theorem atI_iVs (h0 : 0 ≤ k) (h1 : k < xs.length) : atI (iVs xs) k = some (.int (co xs k.toNat)) := atI_of h0 (iVs_get (by omega))
theorem rix_I {Q : VK} (hs : SqI K H a xs) (h0 : 0 ≤ k) (h1 : k < xs.length) (q : Q (.int (co xs k.toNat)) H) : rIx K (.ref a) (.int k) H Q :=
  hs.elim (fun h => .inl ⟨a, _, k, _, rfl, rfl, h, atI_iVs h0 h1, q⟩) fun h => .inr (.inl ⟨a, _, k, _, rfl, rfl, h, atI_iVs h0 h1, q⟩)
theorem val_ixI (ha : Val ta σ H (.ref a)) (hb : Val tb σ H (.int k)) (hs : SqI K H a xs) (h0 : 0 ≤ k) (h1 : k < xs.length) : Val (tOp (rIx K) ta tb) σ H (.int (co xs k.toNat)) := fun Q q => ha _ (hb _ (rix_I hs h0 h1 q))
theorem val_ixLi (ha : Val ta σ H (.ref a)) (hb : Val tb σ H (.int k)) (hs : SqL K H a (iVs xs)) (h0 : 0 ≤ k) (h1 : k < xs.length) : Val (tOp (rIxL K) ta tb) σ H (.int (co xs k.toNat)) := val_ixL ha hb hs (atI_iVs h0 h1)
/-- an instance of the class C whose coefs is a tuple of ints -/
def PolyAt (K : PySem.W.Frag) (C : Addr) (H : Hp) (p : Addr) (row : List Int) : Prop := ∃ dx t, H p = some (.ins C dx [("coefs", .ref t)]) ∧ SqT K H t (iVs row)
theorem PolyAt.same (h : PolyAt K C H p row) (e : Same H H') : PolyAt K C H' p row := by
  obtain ⟨dx, t, h1, h2⟩ := h
  exact ⟨dx, t, e _ _ h1, e.tup h2⟩
/-- a comprehension over a range whose elements are ints, reckoned without heap change -/
theorem lcI {lo : Int} {n : Nat} {te : TE} {i : Nat} {H1 : Hp} {D : Addr} {Qd : Hp → Prop} (f : Nat → Int) (hD : H1 D = none) (hn : n ≤ sizeLine)
    (he : ∀ j H, j < n → Same H1 H → Val te ((wipe σ [i]).set i (some (.int (lo + j)))) H (.int (f j))) (hd : ∀ H, Same H1 H → H D = some (.lst (iVs ((List.range n).map f))) → Qd H) :
    ∃ W : Nat → Nat → Hp → Prop, (∃ m, W 0 m (upd H1 D (.lst []))) ∧ ∀ i' m H, W i' m H →
      ((Itr lo n).stop i' H ∧ Qd H) ∨ ((Itr lo n).go i' H ∧ ∃ Nx : Hp → Prop, (∀ H', Nx H' → ∃ m', m' < m ∧ W (i' + 1) m' H') ∧ ∀ x H', (Itr lo n).yld i' H x H' → gName i x (wipe σ [i]) H' fun σ2 H2 => wipe σ2 [i] = wipe σ [i] ∧ tYes σ2 H2 fun b H3 =>
        if b = true then te σ2 H3 fun y H4 => ∃ acc, H4 D = some (.lst acc) ∧ acc.length < sizeLine ∧ Nx (upd H4 D (.lst (acc ++ [y]))) else Nx H3) := by
  refine lc_range (fun j H => Same H1 H ∧ H D = some (.lst (iVs ((List.range j).map f)))) ⟨same_upd hD, upd_same⟩ ?_ ?_
  · rintro j H hj ⟨s1, h1⟩
    refine ⟨?_, ?_⟩
    · show wipe ((wipe σ [i]).set i _) [i] = wipe σ [i]
      show ((σ.set i none).set i _).set i none = σ.set i none
      rw [List.set_set, List.set_set]
    · refine he j H hj s1 (fun y H4 => ∃ acc, H4 D = some (.lst acc) ∧ acc.length < sizeLine ∧ Same H1 (upd H4 D (.lst (acc ++ [y]))) ∧ (upd H4 D (.lst (acc ++ [y]))) D = some (.lst (iVs ((List.range (j + 1)).map f)))) ⟨_, h1, ?_, ?_, ?_⟩
      · rw [iVs_len, List.length_map, List.length_range]
        omega
      · exact fun b o e => by rw [upd_ne (ne_of_none e hD)]; exact s1 b o e
      · rw [upd_same, List.range_succ, List.map_append]
        unfold iVs
        rw [List.map_append]
        rfl
  · rintro H ⟨s1, h1⟩
    exact hd H s1 h1
end
end Lk
namespace Lk
open PySem L2
section
variable {K : PySem.W.Frag} {H H' : Hp} {a o p t C dx : Addr} {xs ys row : List Int} {vs : List V} {fs : List (Str × V)} {σ : L2.St} {ta tb tv : TE} {k : Int} {E : XK}
theorem SqT.past (h : SqT K H t vs) (ho : H o = some (.ins C dx fs)) {u : HO} : SqT K (upd H o u) t vs := by
  rcases h with (h | ⟨w, h⟩) | h
  · exact .inl (.inl (by rw [upd_ne (fun e => by rw [e, ho] at h; cases h)]; exact h))
  · exact .inl (.inr ⟨w, by rw [upd_ne (fun e => by rw [e, ho] at h; cases h)]; exact h⟩)
  · exact .inr h
theorem SqT.ty (h : SqT K H t vs) : TyX K H (.ref t) (.type "tuple") := by
  rcases h with (h | ⟨w, h⟩) | ⟨w, its, n, h, hc, _⟩
  · exact .base (.tup h)
  · exact .fTuple h
  · exact .kTuple h hc
/-- Poly.__init__ -/
def spInit (K : PySem.W.Frag) (C : Addr) : Sp := fun vs H Q _ => ∃ (o p dx : Addr) (row : List Int), vs = [.ref o, .ref p] ∧ H o = some (.ins C dx []) ∧ SqT K H p (iVs row) ∧
  ∀ t H', (∀ b u, b ≠ o → H b = some u → H' b = some u) → H' o = some (.ins C dx [("coefs", .ref t)]) → SqT K H' t (iVs (trimI row)) → Q .non H'
/-- what the making of a Poly out of a row leaves -/
def Made (K : PySem.W.Frag) (C : Addr) (H : Hp) (row : List Int) (Q : VK) : Prop := ∀ p H', Same H H' → H p = none → PolyAt K C H' p row → Q (.ref p) H'
theorem make_row {Q : VK} (hl : row.length ≤ sizeLine) (k : Made K C H (trimI row) Q) (o dx : Addr) (ho : H o = none) (hd : H dx = none) (hne : dx ≠ o) :
    starSp 1 (spInit K C) (V.ref o :: iVs row) (upd (upd H dx (.own o)) o (.ins C dx [])) (fun v H2 => v = .non ∧ Q (.ref o) H2) E := by
  refine ⟨[.ref o], iVs row, rfl, rfl, by rw [iVs_len]; exact hl, fun p hp => ?_⟩
  have hpo : p ≠ o := fun e => by rw [e, upd_same] at hp; cases hp
  refine ⟨o, p, dx, row, rfl, ?_, SqT.of upd_same, fun t H' hk ho' ht => ⟨rfl, k o H' (fun b u e => ?_) ho ⟨dx, t, ho', ht⟩⟩⟩
  · rw [upd_ne hpo.symm]
    exact upd_same
  · have hbo := ne_of_none e ho
    have hbd := ne_of_none e hd
    have e2 : (upd (upd H dx (.own o)) o (.ins C dx [])) b = some u := by rw [upd_ne hbo, upd_ne hbd]; exact e
    exact hk b u hbo (kept e2 hp)
structure PolyC (K : PySem.W.Frag) (C : Addr) : Prop where
  cls : Cls K C
  na : NoAttr K C "coefs"
theorem val_coefs (P : PolyC K C) (ha : Val ta σ H (.ref o)) (hp : H o = some (.ins C dx [("coefs", .ref t)])) : Val (tFld K ta "coefs") σ H (.ref t) := fun Q q => ha _ ⟨o, C, dx, _, _, rfl, hp, P.cls, P.na, rfl, q⟩
theorem val_lenI (ha : Val ta σ H (.ref t)) (h : SqI K H t xs) : Val (tCB (fun xs H Q => ∃ p ys, xs = [V.ref p] ∧ (SqL K H p ys ∨ SqT K H p ys) ∧ Q (V.int ys.length) H) (tCons ta tNil)) σ H (.int xs.length) := fun Q q => ha _ ⟨t, _, rfl, h, by rw [iVs_len]; exact q⟩
/-- x[k] of a Poly -/
def coZ (row : List Int) (k : Int) : Int := if 0 ≤ k then co row k.toNat else 0
end
/-! ### == of rows -/
theorem dp_ints {K : PySem.W.Frag} {H : Hp} : ∀ xs : List Int, DpAll K H (iVs xs) (xs.map PyData.int)
  | [] => .nil
  | x :: xs => .cons (.int x) (dp_ints xs)
theorem dp_tup {K : PySem.W.Frag} {H : Hp} {t : Addr} {xs : List Int} (h : SqT K H t (iVs xs)) : Dp K H (.ref t) (.tuple (xs.map PyData.int)) := .tup h (dp_ints xs)
theorem dp_lst {K : PySem.W.Frag} {H : Hp} {t : Addr} {xs : List Int} (h : SqL K H t (iVs xs)) : Dp K H (.ref t) (.list (xs.map PyData.int)) := .lst h (dp_ints xs)
theorem eqv_all : ∀ xs ys : List Int, PyData.eqvAll (xs.map PyData.int) (ys.map PyData.int) = decide (xs = ys)
  | [], [] => rfl
  | [], _ :: _ => rfl
  | _ :: _, [] => rfl
  | x :: xs, y :: ys => by
    show (PyData.eqv (.int x) (.int y) && PyData.eqvAll (xs.map PyData.int) (ys.map PyData.int)) = _
    rw [eqv_all xs ys]
    show ((x == y) && _) = _
    by_cases h : x = y
    · subst h
      simp
    · simp [h]
theorem can_ints : ∀ xs : List Int, PyData.canLayAll0 (xs.map PyData.int) = true
  | [] => by simp [PyData.canLayAll0]
  | _ :: xs => by simp [PyData.canLayAll0, PyData.canLay0, can_ints xs]
theorem depth_ints : ∀ xs : List Int, PyData.depthAll (xs.map PyData.int) ≤ 1
  | [] => by simp [PyData.depthAll]
  | _ :: xs => by
    have := depth_ints xs
    simp only [List.map_cons, PyData.depthAll, PyData.depth]
    omega
theorem shaped_tup (xs : List Int) : SeqAt.shaped (.tuple (xs.map PyData.int)) = true := by
  have := depth_ints xs
  exact Bool.and_eq_true_iff.mpr ⟨by simp [PyData.canLay0, can_ints], decide_eq_true (by simp only [PyData.depth]; omega)⟩
theorem shaped_lst (xs : List Int) : SeqAt.shaped (.list (xs.map PyData.int)) = true := by
  have := depth_ints xs
  exact Bool.and_eq_true_iff.mpr ⟨by simp [PyData.canLay0, can_ints], decide_eq_true (by simp only [PyData.depth]; omega)⟩
section
variable {K : PySem.W.Frag} {H : Hp} {a b : Addr} {xs ys : List Int} {Q : VK}
theorem eqv_tup (xs ys : List Int) : PyData.eqv (.tuple (xs.map PyData.int)) (.tuple (ys.map PyData.int)) = decide (xs = ys) := eqv_all xs ys
theorem eqv_lst (xs ys : List Int) : PyData.eqv (.list (xs.map PyData.int)) (.list (ys.map PyData.int)) = decide (xs = ys) := eqv_all xs ys
theorem rEqT (ha : SqT K H a (iVs xs)) (hb : SqT K H b (iVs ys)) (k : Q (.bl (decide (xs = ys))) H) : rEqD K (.ref a) (.ref b) H Q := ⟨_, _, dp_tup ha, dp_tup hb, shaped_tup xs, shaped_tup ys, by rw [eqv_tup]; exact k⟩
theorem rEqL (ha : SqL K H a (iVs xs)) (hb : SqL K H b (iVs ys)) (k : Q (.bl (decide (xs = ys))) H) : rEqD K (.ref a) (.ref b) H Q := ⟨_, _, dp_lst ha, dp_lst hb, shaped_lst xs, shaped_lst ys, by rw [eqv_lst]; exact k⟩
theorem rNeL (ha : SqL K H a (iVs xs)) (hb : SqL K H b (iVs ys)) (k : Q (.bl (!decide (xs = ys))) H) : rNeD K (.ref a) (.ref b) H Q := ⟨_, _, dp_lst ha, dp_lst hb, shaped_lst xs, shaped_lst ys, by rw [eqv_lst]; exact k⟩
end
end Lk
namespace Lk
open PySem L2
theorem atI_last {xs : List Int} (h : 0 < xs.length) : atI (iVs xs) (-1) = some (.int (co xs (xs.length - 1))) := by
  unfold atI ixN
  rw [iVs_len, if_neg (by decide), if_pos (by omega)]
  show (iVs xs)[((-1 : Int) + xs.length).toNat]? = _
  rw [show ((-1 : Int) + xs.length).toNat = xs.length - 1 by omega]
  exact iVs_get (by omega)
theorem iVs_at {xs : List Int} {i : Nat} {y : V} (h : (iVs xs)[i]? = some y) : i < xs.length ∧ y = .int (co xs i) := by
  have hl : i < xs.length := by
    have := (List.getElem?_eq_some_iff.mp h).1
    rwa [iVs_len] at this
  rw [iVs_get hl] at h
  exact ⟨hl, (Option.some.inj h).symm⟩
end Lk
namespace Lk
open PySem L2
def tStrs (row : List Int) : List Str := row.map fun i => (Str.ofString (toString i))
def showP (row : List Int) : Str := Str.ofString "Poly(" ++ Txt.join (Str.ofString ", ") (tStrs row) ++ Str.ofString ")"
theorem tStrs_snoc (xs : List Int) (x : Int) : tStrs (xs ++ [x]) = tStrs xs ++ [Str.ofString (toString x)] := List.map_append
theorem tStrs_len {row : List Int} (hb : ∀ x ∈ row, x.natAbs.log2 < 1920) : ((tStrs row).map (·.length)).sum ≤ row.length * 1921 := by
  induction row with
  | nil => exact Nat.le_refl _
  | cons x xs ih =>
    have h1 := PyProof.Rows.int_text_len_1921 (hb x List.mem_cons_self)
    have h2 := ih fun y hy => hb y (List.mem_cons_of_mem _ hy)
    unfold tStrs at h2 ⊢
    simp only [List.map_cons, List.sum_cons, List.length_cons, Nat.succ_mul]
    omega
theorem tStrs_join {row : List Int} (hl : row.length ≤ 1000) (hb : ∀ x ∈ row, x.natAbs.log2 < 1920) :
    ((tStrs row).map (·.length)).sum + (tStrs row).length * (Str.ofString ", ").length ≤ 16777216 ∧ (Txt.join (Str.ofString ", ") (tStrs row)).length ≤ 2000000 := by
  have h1 := tStrs_len hb
  have h2 : (tStrs row).length = row.length := List.length_map ..
  have h3 : (Str.ofString ", ").length = 2 := by decide +kernel
  have h4 := StrLaws.join_length_le (Str.ofString ", ") (tStrs row)
  rw [h2, h3] at h4 ⊢
  refine ⟨by omega, ?_⟩
  show (Builtin.Str.glued _ _).length ≤ _
  rw [StrLaws.glued_eq_join]
  omega
end Lk
namespace Lk
open PySem L2
/-! what the defs of Poly and the laws' helpers promise -/
def spTrimmed (K : PySem.W.Frag) : Sp := fun vs H Q _ => ∃ (a : Addr) (row : List Int), vs = [.ref a] ∧ SqI K H a row ∧ ∀ t H', Same H H' → SqT K H' t (iVs (trimI row)) → Q (.ref t) H'
def spOf (K : PySem.W.Frag) (C : Addr) : Sp := fun vs H Q _ => ∃ (a : Addr) (row : List Int), vs = [.ref C, .ref a] ∧ SqI K H a row ∧ row.length ≤ sizeLine ∧ Made K C H (trimI row) Q
def spDegree (K : PySem.W.Frag) (C : Addr) : Sp := fun vs H Q _ => ∃ (p : Addr) (row : List Int), vs = [.ref p] ∧ PolyAt K C H p row ∧ Q (.int ((row.length : Int) - 1)) H
def spLen (K : PySem.W.Frag) (C : Addr) : Sp := fun vs H Q _ => ∃ (p : Addr) (row : List Int), vs = [.ref p] ∧ PolyAt K C H p row ∧ Q (.int (row.length : Int)) H
def spGet (K : PySem.W.Frag) (C : Addr) : Sp := fun vs H Q _ => ∃ (p : Addr) (row : List Int) (j : Int), vs = [.ref p, .int j] ∧ PolyAt K C H p row ∧ Q (.int (coZ row j)) H
def spEq (K : PySem.W.Frag) (C : Addr) : Sp := fun vs H Q _ => ∃ (p : Addr) (row : List Int) (y : V), vs = [.ref p, y] ∧ PolyAt K C H p row ∧
  ((∃ q row2, y = .ref q ∧ PolyAt K C H q row2 ∧ Q (.bl (decide (row = row2))) H) ∨ (∃ t, TyX K H y t ∧ PySem.W.kitOne K t (.ref C) = some false ∧ Q (.bl false) H))
def spRow (K : PySem.W.Frag) (C : Addr) : Sp := fun vs H Q _ => ∃ (p : Addr) (row : List Int), vs = [.ref p] ∧ PolyAt K C H p row ∧ trimI row = row ∧ ∀ l, H l = none → Q (.ref l) (upd H l (.lst (iVs row)))
def spTrim (K : PySem.W.Frag) : Sp := fun vs H Q _ => ∃ (a : Addr) (row : List Int), vs = [.ref a] ∧ SqL K H a (iVs row) ∧ row.length < 2 ^ 24 ∧ ∀ l H', Same H H' → H l = none → H' l = some (.lst (iVs (trimI row))) → Q (.ref l) H'
def spCoefs : Sp := fun vs H Q _ => ∃ b c, vs = [.ref b] ∧ BoxAt H b c ∧ ∀ p row H', row.length ≤ 7 → (∀ x ∈ row, x.natAbs ≤ 10 ^ 20) → H p = none → BoxAt H' b c → Ext b c H H' → H' p = some (.lst (iVs row)) → Q (.ref p) H'
def spRepr (K : PySem.W.Frag) (C : Addr) : Sp := fun vs H Q _ => ∃ (p : Addr) (row : List Int), vs = [.ref p] ∧ PolyAt K C H p row ∧ row.length ≤ 1000 ∧ (∀ x ∈ row, x.natAbs.log2 < 1920) ∧ ∀ H', Same H H' → Q (.str (showP row)) H'
def spShown (K : PySem.W.Frag) : Sp := fun vs H Q _ => ∃ (a : Addr) (row : List Int), vs = [.ref a] ∧ SqL K H a (iVs row) ∧ row.length ≤ 1000 ∧ (∀ x ∈ row, x.natAbs.log2 < 1920) ∧ ∀ H', Same H H' → Q (.str (showP row)) H'
end Lk
namespace Lk
open PySem L2
section
variable {K : PySem.W.Frag} {H : Hp} {l p t C : Addr} {vs ys : List V} {row : List Int} {u : HO}
theorem SqT.pastL (h : SqT K H t vs) (ho : H l = some (.lst ys)) : SqT K (upd H l u) t vs := by
  rcases h with (h | ⟨w, h⟩) | h
  · exact .inl (.inl (by rw [upd_ne (fun e => by rw [e, ho] at h; cases h)]; exact h))
  · exact .inl (.inr ⟨w, by rw [upd_ne (fun e => by rw [e, ho] at h; cases h)]; exact h⟩)
  · exact .inr h
theorem PolyAt.pastL (h : PolyAt K C H p row) (ho : H l = some (.lst ys)) : PolyAt K C (upd H l u) p row := by
  obtain ⟨dx, t, h1, h2⟩ := h
  exact ⟨dx, t, by rw [upd_ne (fun e => by rw [e, ho] at h1; cases h1)]; exact h1, SqT.pastL h2 ho⟩
theorem iVs_app (xs ys : List Int) : iVs (xs ++ ys) = iVs xs ++ iVs ys := List.map_append
end
end Lk
namespace Lk
open PySem L2
theorem iVs_cutE (xs : List Int) (lo hi : Option Int) : ∃ zs : List Int, cutV (iVs xs) lo hi = iVs zs ∧ zs.length ≤ xs.length := by
  have e : cutV (iVs xs) lo hi = iVs ((xs.drop (HT.sIx (iVs xs).length 0 lo)).take (HT.sIx (iVs xs).length (iVs xs).length hi - HT.sIx (iVs xs).length 0 lo)) := by
    unfold cutV iVs
    rw [List.map_take, List.map_drop]
  refine ⟨_, e, ?_⟩
  rw [List.length_take, List.length_drop]
  omega
end Lk
/-! what an expression comes to when it may lay new objects: a property of the value -/
namespace Lk
open PySem L2
/-- te comes to a value with R; the heap only grows -/
def EvR (te : TE) (σ : L2.St) (H : Hp) (R : Hp → V → Prop) : Prop := ∀ H1, Same H H1 → ∀ Q : VK, (∀ v H2, Same H1 H2 → R H2 v → Q v H2) → te σ H1 Q
/-- kept by growth -/
class Up (R : Hp → V → Prop) : Prop where
  up : ∀ {H H' : Hp} {v : V}, Same H H' → R H v → R H' v
def isV (v : V) : Hp → V → Prop := fun _ u => u = v
def isL (K : PySem.W.Frag) (row : List Int) : Hp → V → Prop := fun H v => ∃ p, v = .ref p ∧ SqL K H p (iVs row)
def isT (K : PySem.W.Frag) (row : List Int) : Hp → V → Prop := fun H v => ∃ p, v = .ref p ∧ SqT K H p (iVs row)
def isP (K : PySem.W.Frag) (C : Addr) (row : List Int) : Hp → V → Prop := fun H v => ∃ p, v = .ref p ∧ PolyAt K C H p row
instance {v : V} : Up (isV v) := ⟨fun _ h => h⟩
instance {K : PySem.W.Frag} {row : List Int} : Up (isL K row) := ⟨fun e ⟨p, h1, h2⟩ => ⟨p, h1, e.seq h2⟩⟩
instance {K : PySem.W.Frag} {row : List Int} : Up (isT K row) := ⟨fun e ⟨p, h1, h2⟩ => ⟨p, h1, e.tup h2⟩⟩
instance {K : PySem.W.Frag} {C : Addr} {row : List Int} : Up (isP K C row) := ⟨fun e ⟨p, h1, h2⟩ => ⟨p, h1, h2.same e⟩⟩
section
variable {K : PySem.W.Frag} {C : Addr} {σ : L2.St} {H H' : Hp} {ta tb te : TE} {R S T : Hp → V → Prop} {v w : V} {r : R2} {row row2 xs ys : List Int} {i : Nat} {E : XK} {sp : Sp} {n : Int}
theorem EvR.mono (h : EvR te σ H R) (e : Same H H') : EvR te σ H' R := fun H1 e1 => h H1 (e.trans e1)
theorem EvR.imp (h : EvR te σ H R) (k : ∀ H v, R H v → S H v) : EvR te σ H S := fun H1 e1 Q q => h H1 e1 Q fun v H2 e2 r => q v H2 e2 (k _ _ r)
theorem er_var [Up R] (h : σ[i]? = some (some v)) (hr : R H v) : EvR (tVar i) σ H R := fun H1 e Q q => ⟨v, h, q v H1 (Same.refl _) (Up.up e hr)⟩
theorem er_c : EvR (tC v) σ H (isV v) := fun H1 _ Q q => q v H1 (Same.refl _) rfl
theorem er_ev (h : EvR te σ H (isV v)) : Evl.Ev te σ H v := fun H1 e Q q => h H1 e Q fun u H2 e2 r => (show u = v from r) ▸ q H2 e2
theorem er_of (h : Evl.Ev te σ H v) : EvR te σ H (isV v) := fun H1 e Q q => h H1 e Q fun H2 e2 => q v H2 e2 rfl
theorem er_val (h : ∀ H1, Same H H1 → Val te σ H1 v) : EvR te σ H (isV v) := fun H1 e Q q => h H1 e Q (q v H1 (Same.refl _) rfl)
theorem er_op [Up R] (ha : EvR ta σ H R) (hb : EvR tb σ H S) (hr : ∀ H1 x y, Same H H1 → R H1 x → S H1 y → ∀ Q : VK, (∀ v H2, Same H1 H2 → T H2 v → Q v H2) → r x y H1 Q) : EvR (tOp r ta tb) σ H T := fun H1 e Q q =>
  ha H1 e _ fun x H2 e2 hx => hb H2 (e.trans e2) _ fun y H3 e3 hy => hr H3 x y ((e.trans e2).trans e3) (Up.up e3 hx) hy Q fun z H4 e4 hz => q z H4 ((e2.trans e3).trans e4) hz
theorem er_un {r : V → Hp → VK → Prop} (ha : EvR ta σ H R) (hr : ∀ H1 x, R H1 x → ∀ Q : VK, (∀ v H2, Same H1 H2 → T H2 v → Q v H2) → r x H1 Q) : EvR (tUn r ta) σ H T := fun H1 e Q q =>
  ha H1 e _ fun x H2 e2 hx => hr H2 x hx Q fun z H4 e4 hz => q z H4 (e2.trans e4) hz
theorem er_cb1 {r : List V → Hp → VK → Prop} (ha : EvR ta σ H R) (hr : ∀ H1 x, R H1 x → ∀ Q : VK, (∀ v H2, Same H1 H2 → T H2 v → Q v H2) → r [x] H1 Q) : EvR (tCB r (tCons ta tNil)) σ H T := fun H1 e Q q =>
  ha H1 e _ fun x H2 e2 hx => hr H2 x hx Q fun z H4 e4 hz => q z H4 (e2.trans e4) hz
theorem er_call1 (ha : EvR ta σ H R) (hr : ∀ H1 x, R H1 x → ∀ Q : VK, (∀ v H2, Same H1 H2 → T H2 v → Q v H2) → sp [x] H1 Q E) : EvR (tCall sp [] E (tCons ta tNil)) σ H T := fun H1 e Q q =>
  ha H1 e _ fun x H2 e2 hx => hr H2 x hx Q fun z H4 e4 hz => q z H4 (e2.trans e4) hz
theorem er_call2 [Up R] (ha : EvR ta σ H R) (hb : EvR tb σ H S) (hr : ∀ H1 x y, R H1 x → S H1 y → ∀ Q : VK, (∀ v H2, Same H1 H2 → T H2 v → Q v H2) → sp [x, y] H1 Q E) : EvR (tCall sp [] E (tCons ta (tCons tb tNil))) σ H T := fun H1 e Q q =>
  ha H1 e _ fun x H2 e2 hx => hb H2 (e.trans e2) _ fun y H3 e3 hy => hr H3 x y (Up.up e3 hx) hy Q fun z H4 e4 hz => q z H4 ((e2.trans e3).trans e4) hz
theorem er_int {f : Int → Int → Int} {a b : Int} (ha : EvR ta σ H (isV (.int a))) (hb : EvR tb σ H (isV (.int b))) : EvR (tOp (rI0 fun i j => .int (f i j)) ta tb) σ H (isV (.int (f a b))) :=
  er_op ha hb fun H1 x y _ hx hy Q q => ⟨a, b, hx, hy, q _ H1 (Same.refl _) rfl⟩
theorem er_ne (ha : EvR ta σ H (isV v)) (hb : EvR tb σ H (isV w)) (hs : scal v w = true) : EvR (tOp rNe ta tb) σ H (isV (.bl (!decide (v = w)))) :=
  er_op ha hb fun H1 x y _ hx hy Q q => by
    cases (show x = v from hx)
    cases (show y = w from hy)
    exact ⟨hs, q _ H1 (Same.refl _) rfl⟩
theorem er_eq (ha : EvR ta σ H (isV v)) (hb : EvR tb σ H (isV w)) (hs : scal v w = true) : EvR (tOp rEq ta tb) σ H (isV (.bl (decide (v = w)))) :=
  er_op ha hb fun H1 x y _ hx hy Q q => by
    cases (show x = v from hx)
    cases (show y = w from hy)
    exact ⟨hs, q _ H1 (Same.refl _) rfl⟩
theorem er_isB {a b : Bool} (ha : EvR ta σ H (isV (.bl a))) (hb : EvR tb σ H (isV (.bl b))) : EvR (tOp rIsB ta tb) σ H (isV (.bl (decide (a = b)))) := er_op ha hb fun H1 x y _ hx hy Q q => ⟨a, b, hx, hy, q _ H1 (Same.refl _) rfl⟩
theorem er_notB {a b : Bool} (ha : EvR ta σ H (isV (.bl a))) (hb : EvR tb σ H (isV (.bl b))) : EvR (tOp rNotB ta tb) σ H (isV (.bl (!decide (a = b)))) := er_op ha hb fun H1 x y _ hx hy Q q => ⟨a, b, hx, hy, q _ H1 (Same.refl _) rfl⟩
/-! lists and tuples of ints -/
theorem er_neL (ha : EvR ta σ H (isL K xs)) (hb : EvR tb σ H (isL K ys)) : EvR (tOp (rNeD K) ta tb) σ H (isV (.bl (!decide (xs = ys)))) :=
  er_op ha hb fun H1 _ _ _ ⟨p, ex, hx⟩ ⟨q, ey, hy⟩ Q k => by
    subst ex; subst ey
    exact rNeL hx hy (k _ H1 (Same.refl _) rfl)
theorem er_eqL (ha : EvR ta σ H (isL K xs)) (hb : EvR tb σ H (isL K ys)) : EvR (tOp (rEqD K) ta tb) σ H (isV (.bl (decide (xs = ys)))) :=
  er_op ha hb fun H1 _ _ _ ⟨p, ex, hx⟩ ⟨q, ey, hy⟩ Q k => by
    subst ex; subst ey
    exact rEqL hx hy (k _ H1 (Same.refl _) rfl)
theorem er_lenL (ha : EvR ta σ H (isL K xs)) : EvR (tCB (fun xs H Q => ∃ p ys, xs = [V.ref p] ∧ (SqL K H p ys ∨ SqT K H p ys) ∧ Q (V.int ys.length) H) (tCons ta tNil)) σ H (isV (.int xs.length)) :=
  er_cb1 ha fun H1 _ ⟨p, ex, hx⟩ Q k => ⟨p, _, by rw [ex], .inl hx, by rw [iVs_len]; exact k _ H1 (Same.refl _) rfl⟩
theorem er_list (ha : EvR ta σ H (isL K xs)) : EvR (tCB (fun xs H Q => ∃ p ys, xs = [V.ref p] ∧ (SqL K H p ys ∨ SqT K H p ys) ∧ ∀ l, H l = none → Q (V.ref l) (upd H l (.lst ys))) (tCons ta tNil)) σ H (isL K xs) :=
  er_cb1 ha fun H1 _ ⟨p, ex, hx⟩ Q k => ⟨p, _, by rw [ex], .inl hx, fun l hl => k _ _ (same_upd hl) ⟨l, rfl, SqL.of upd_same⟩⟩
theorem er_tuple (ha : EvR ta σ H (isL K xs)) : EvR (tCB (fun xs H Q => ∃ p ys, xs = [V.ref p] ∧ ((SqL K H p ys ∧ ∀ l, H l = none → Q (V.ref l) (upd H l (.tup ys))) ∨ (SqT K H p ys ∧ Q (V.ref p) H))) (tCons ta tNil)) σ H (isT K xs) :=
  er_cb1 ha fun H1 _ ⟨p, ex, hx⟩ Q k => ⟨p, _, by rw [ex], .inl ⟨hx, fun l hl => k _ _ (same_upd hl) ⟨l, rfl, SqT.of upd_same⟩⟩⟩
theorem er_lst {t : TA} (ha : ∀ H1, Same H H1 → ValA t σ H1 (iVs xs)) (hl : xs.length ≤ sizeLine) : EvR (tLst t) σ H (isL K xs) := fun H1 e Q q =>
  ha H1 e _ ⟨by rw [iVs_len]; exact hl, fun p hp => q _ _ (same_upd hp) ⟨p, rfl, SqL.of upd_same⟩⟩
/-! polynomials -/
theorem er_row (ha : EvR ta σ H (isP K C row)) (ht : trimI row = row) : EvR (tCall (spRow K C) [] E (tCons ta tNil)) σ H (isL K row) :=
  er_call1 ha fun H1 _ ⟨p, ex, hx⟩ Q k => ⟨p, row, by rw [ex], hx, ht, fun l hl => k _ _ (same_upd hl) ⟨l, rfl, SqL.of upd_same⟩⟩
theorem er_trim (ha : EvR ta σ H (isL K row)) (hl : row.length < 2 ^ 24) : EvR (tCall (spTrim K) [] E (tCons ta tNil)) σ H (isL K (trimI row)) :=
  er_call1 ha fun H1 _ ⟨p, ex, hx⟩ Q k => ⟨p, row, by rw [ex], hx, hl, fun l H2 s2 _ h2 => k _ _ s2 ⟨l, rfl, SqL.of h2⟩⟩
theorem er_polyOf (ha : EvR ta σ H (fun H v => ∃ p, v = .ref p ∧ SqI K H p row)) (hl : row.length ≤ sizeLine) : EvR (ClX.tCMeth C (spOf K C) E (tC (.ref C)) (tCons ta tNil)) σ H (isP K C (trimI row)) := fun H1 e Q q =>
  ⟨rfl, ha H1 e _ fun x H2 e2 ⟨p, ex, hx⟩ => ⟨p, row, by rw [ex], hx, hl, fun o H3 s3 _ ho => q _ H3 (e2.trans s3) ⟨o, rfl, ho⟩⟩⟩
theorem isL_I {H : Hp} {v : V} (h : isL K row H v) : ∃ p, v = .ref p ∧ SqI K H p row := let ⟨p, e, h⟩ := h; ⟨p, e, .inl h⟩
theorem isT_I {H : Hp} {v : V} (h : isT K row H v) : ∃ p, v = .ref p ∧ SqI K H p row := let ⟨p, e, h⟩ := h; ⟨p, e, .inr h⟩
theorem er_lenP (ha : EvR ta σ H (isP K C row)) (hl : row.length < 2 ^ 62) : EvR (tCB (rLenO C (spLen K C) E) (tCons ta tNil)) σ H (isV (.int row.length)) :=
  er_cb1 ha fun H1 _ ⟨p, ex, hx⟩ Q k => by
    obtain ⟨dx, t, h1, h2⟩ := id hx
    exact ⟨p, dx, _, by rw [ex], h1, p, row, rfl, hx, row.length, rfl, by omega, by omega, k _ H1 (Same.refl _) rfl⟩
theorem er_degree (ha : EvR ta σ H (isP K C row)) : EvR (tProp C (spDegree K C) [] E ta) σ H (isV (.int ((row.length : Int) - 1))) := fun H1 e Q q =>
  ha H1 e _ fun x H2 e2 ⟨p, ex, hx⟩ => by
    obtain ⟨dx, t, h1, h2⟩ := id hx
    exact ⟨p, dx, _, ex, h1, p, row, rfl, hx, q _ H2 e2 rfl⟩
theorem er_repr (ha : EvR ta σ H (isP K C row)) (hl : row.length ≤ 1000) (hb : ∀ x ∈ row, x.natAbs.log2 < 1920) : EvR (tCB (rReprO C (spRepr K C) E) (tCons ta tNil)) σ H (isV (.str (showP row))) :=
  er_cb1 ha fun H1 _ ⟨p, ex, hx⟩ Q k => by
    obtain ⟨dx, t, h1, h2⟩ := id hx
    exact ⟨p, dx, _, by rw [ex], h1, p, row, rfl, hx, hl, hb, fun H2 s2 => ⟨_, rfl, k _ H2 s2 rfl⟩⟩
theorem er_shown (ha : EvR ta σ H (isL K row)) (hl : row.length ≤ 1000) (hb : ∀ x ∈ row, x.natAbs.log2 < 1920) : EvR (tCall (spShown K) [] E (tCons ta tNil)) σ H (isV (.str (showP row))) :=
  er_call1 ha fun H1 _ ⟨p, ex, hx⟩ Q k => ⟨p, row, by rw [ex], hx, hl, hb, fun H2 s2 => k _ H2 s2 rfl⟩
theorem er_get (ha : EvR ta σ H (isP K C row)) (hb : EvR tb σ H (isV (.int n))) : EvR (tOp (rIxO C (spGet K C) E) ta tb) σ H (isV (.int (coZ row n))) :=
  er_op ha hb fun H1 _ _ _ ⟨p, ex, hx⟩ hy Q k => by
    obtain ⟨dx, t, h1, h2⟩ := id hx
    exact ⟨p, dx, _, n, ex, hy, h1, p, row, n, by rw [ex, show _ = V.int n from hy], hx, k _ H1 (Same.refl _) rfl⟩
structure PolyE (K : PySem.W.Frag) (C : Addr) : Prop where
  ty : ∀ {H : Hp} {p dx : Addr} {fs : List (Str × V)}, H p = some (.ins C dx fs) → TyX K H (.ref p) (.ref C)
  nf : PySem.W.notFirst K C (.ref C) = true
theorem er_eqP (P : PolyE K C) (ha : EvR ta σ H (isP K C row)) (hb : EvR tb σ H (isP K C row2)) : EvR (tOp (rEqO K C (spEq K C) E) ta tb) σ H (isV (.bl (decide (row = row2)))) :=
  er_op ha hb fun H1 _ _ _ ⟨p, ex, hx⟩ ⟨q, ey, hy⟩ Q k => by
    subst ex; subst ey
    obtain ⟨dx, t, h1, h2⟩ := id hx
    obtain ⟨dx', t', h1', h2'⟩ := id hy
    exact ⟨p, dx, _, _, rfl, h1, P.ty h1', P.nf, p, row, _, rfl, hx, .inl ⟨q, row2, rfl, hy, k _ H1 (Same.refl _) rfl⟩⟩
theorem er_neP (P : PolyE K C) (ha : EvR ta σ H (isP K C row)) (hb : EvR tb σ H (isP K C row2)) : EvR (tOp (rNeO K C (spEq K C) E) ta tb) σ H (isV (.bl (!decide (row = row2)))) :=
  er_op ha hb fun H1 _ _ _ ⟨p, ex, hx⟩ ⟨q, ey, hy⟩ Q k => by
    subst ex; subst ey
    obtain ⟨dx, t, h1, h2⟩ := id hx
    obtain ⟨dx', t', h1', h2'⟩ := id hy
    exact ⟨p, dx, _, _, rfl, h1, P.ty h1', P.nf, p, row, _, rfl, hx, .inl ⟨q, row2, rfl, hy, _, rfl, k _ H1 (Same.refl _) rfl⟩⟩
/-- == and != with what is no polynomial -/
def NotP (K : PySem.W.Frag) (C : Addr) (R : Hp → V → Prop) : Prop := ∀ H x, R H x → ∃ t, TyX K H x t ∧ PySem.W.notFirst K C t = true ∧ PySem.W.kitOne K t (.ref C) = some false
theorem er_eqX (N : NotP K C R) (ha : EvR ta σ H (isP K C row)) (hb : EvR tb σ H R) : EvR (tOp (rEqO K C (spEq K C) E) ta tb) σ H (isV (.bl false)) :=
  er_op ha hb fun H1 _ y _ ⟨p, ex, hx⟩ hy Q k => by
    subst ex
    obtain ⟨dx, t, h1, h2⟩ := id hx
    obtain ⟨ty, n1, n2, n3⟩ := N _ _ hy
    exact ⟨p, dx, _, ty, rfl, h1, n1, n2, p, row, _, rfl, hx, .inr ⟨ty, n1, n3, k _ H1 (Same.refl _) rfl⟩⟩
theorem er_neX (N : NotP K C R) (ha : EvR ta σ H (isP K C row)) (hb : EvR tb σ H R) : EvR (tOp (rNeO K C (spEq K C) E) ta tb) σ H (isV (.bl true)) :=
  er_op ha hb fun H1 _ y _ ⟨p, ex, hx⟩ hy Q k => by
    subst ex
    obtain ⟨dx, t, h1, h2⟩ := id hx
    obtain ⟨ty, n1, n2, n3⟩ := N _ _ hy
    exact ⟨p, dx, _, ty, rfl, h1, n1, n2, p, row, _, rfl, hx, .inr ⟨ty, n1, n3, _, rfl, k _ H1 (Same.refl _) rfl⟩⟩
end
end Lk
namespace Lk
open PySem L2
theorem SqL.ty {K : PySem.W.Frag} {H : Hp} {a : Addr} {vs : List V} (h : SqL K H a vs) : TyX K H (.ref a) (.type "list") := by
  rcases h with (h | ⟨w, h⟩) | ⟨w, its, n, h, hc, _⟩
  · exact .base (.lst h)
  · exact .base (.frz h)
  · exact .kList h hc
theorem er_makeR {K : PySem.W.Frag} {C : Addr} {σ : L2.St} {H : Hp} {E : XK} {t : TA} {row : List Int} (ha : ∀ H1, Same H H1 → ValA t σ H1 (iVs row)) (hl : row.length ≤ sizeLine) : EvR (StX.tMakeR C (starSp 1 (spInit K C)) E t) σ H (isP K C (trimI row)) := fun H1 e Q q =>
  ha H1 e _ fun o dx ho hd hne => make_row hl (fun p H' s' _ hp => q _ H' s' ⟨p, rfl, hp⟩) o dx ho hd hne
theorem er_cat {K : PySem.W.Frag} {σ : L2.St} {H : Hp} {ta tb : TE} {xs ys : List V} (ha : EvR ta σ H (fun H v => ∃ p, v = .ref p ∧ H p = some (.lst xs))) (hb : EvR tb σ H (fun H v => ∃ p, v = .ref p ∧ H p = some (.lst ys))) (hl : xs.length + ys.length ≤ sizeLine) :
    EvR (tOp rCat ta tb) σ H (fun H v => ∃ p, v = .ref p ∧ H p = some (.lst (xs ++ ys))) :=
  @er_op σ H ta tb (fun H v => ∃ p, v = .ref p ∧ H p = some (.lst xs)) _ _ rCat ⟨fun e ⟨p, h1, h2⟩ => ⟨p, h1, e _ _ h2⟩⟩ ha hb fun H1 x y _ ⟨p, ex, hx⟩ ⟨q, ey, hy⟩ Q k => ⟨p, q, xs, ys, ex, ey, hx, hy, hl, fun r hr => k _ _ (same_upd hr) ⟨r, rfl, upd_same⟩⟩
end Lk
namespace Lk
open PySem L2
/-- a list of ints of the run's own -/
def isN (row : List Int) : Hp → V → Prop := fun H v => ∃ p, v = .ref p ∧ H p = some (.lst (iVs row))
instance {row : List Int} : Up (isN row) := ⟨fun e ⟨p, h1, h2⟩ => ⟨p, h1, e _ _ h2⟩⟩
theorem isN_L {K : PySem.W.Frag} {row : List Int} {H : Hp} {v : V} (h : isN row H v) : isL K row H v := let ⟨p, e, h⟩ := h; ⟨p, e, SqL.of h⟩
section
variable {K : PySem.W.Frag} {C : Addr} {σ : L2.St} {H H' : Hp} {ta tb te : TE} {R S T : Hp → V → Prop} {v w : V} {row row2 xs ys : List Int} {E : XK} {n : Int} {b : Bool}
theorem er_nl {t : TA} (ha : ∀ H1, Same H H1 → ValA t σ H1 (iVs xs)) (hl : xs.length ≤ sizeLine) : EvR (tLst t) σ H (isN xs) := fun H1 e Q q =>
  ha H1 e _ ⟨by rw [iVs_len]; exact hl, fun p hp => q _ _ (same_upd hp) ⟨p, rfl, upd_same⟩⟩
theorem er_catN (ha : EvR ta σ H (isN xs)) (hb : EvR tb σ H (isN ys)) (hl : xs.length + ys.length ≤ sizeLine) : EvR (tOp rCat ta tb) σ H (isN (xs ++ ys)) :=
  er_op ha hb fun H1 x y _ ⟨p, ex, hx⟩ ⟨q, ey, hy⟩ Q k => ⟨p, q, _, _, ex, ey, hx, hy, by rw [iVs_len, iVs_len]; exact hl, fun r hr => k _ _ (same_upd hr) ⟨r, rfl, by rw [upd_same, iVs_app]⟩⟩
theorem er_ixL (ha : EvR ta σ H (isL K xs)) (hb : EvR tb σ H (isV (.int n))) (h0 : 0 ≤ n) (h1 : n < xs.length) : EvR (tOp (rIxL K) ta tb) σ H (isV (.int (co xs n.toNat))) :=
  er_op ha hb fun H1 x y _ ⟨p, ex, hx⟩ hy Q k => ⟨p, _, n, _, ex, hy, hx, atI_iVs h0 h1, k _ H1 (Same.refl _) rfl⟩
theorem er_isInt (ha : EvR ta σ H (isV (.int n))) {sp : Sp} (hs : ∀ H1 (Q : VK), Q (.bl true) H1 → sp [V.int n] H1 Q E) : EvR (tCall sp [] E (tCons ta tNil)) σ H (isV (.bl true)) :=
  er_call1 ha fun H1 x hx Q k => by
    cases (show x = _ from hx)
    exact hs H1 Q (k _ H1 (Same.refl _) rfl)
theorem t_no (h : EvR te σ H (isV (.bl b))) (e : b = false) : Evl.EvT (tTest te) σ H false := Evl.et_is (Evl.et_test (er_ev h)) e
theorem t_notB (h : EvR te σ H (isV (.bl b))) (e : b = true) : Evl.EvT (tNot (tB te)) σ H false := Evl.et_is (Evl.et_not (Evl.et_B (er_ev h))) (by rw [e]; rfl)
end
end Lk
/-! products of coefficients: sums over ranges, convolution, powers, bounds -/
namespace Lk
def S (f : Nat → Int) : Nat → Int
  | 0 => 0
  | n + 1 => S f n + f n
theorem S_zero {f : Nat → Int} {n : Nat} (h : ∀ i, i < n → f i = 0) : S f n = 0 := by
  induction n with
  | zero => rfl
  | succ n ih =>
    show S f n + f n = 0
    rw [ih fun i hi => h i (by omega), h n (by omega)]
    rfl
theorem S_congr {f g : Nat → Int} {n : Nat} (h : ∀ i, i < n → f i = g i) : S f n = S g n := by
  induction n with
  | zero => rfl
  | succ n ih =>
    show S f n + f n = S g n + g n
    rw [ih fun i hi => h i (by omega), h n (by omega)]
theorem S_add (f g : Nat → Int) (n : Nat) : S (fun i => f i + g i) n = S f n + S g n := by
  induction n with
  | zero => rfl
  | succ n ih =>
    show S (fun i => f i + g i) n + (f n + g n) = (S f n + f n) + (S g n + g n)
    rw [ih]
    omega
theorem S_mul (c : Int) (f : Nat → Int) (n : Nat) : S (fun i => c * f i) n = c * S f n := by
  induction n with
  | zero => exact (Int.mul_zero c).symm
  | succ n ih =>
    show S (fun i => c * f i) n + c * f n = c * (S f n + f n)
    rw [ih, Int.mul_add]
theorem S_mul' (c : Int) (f : Nat → Int) (n : Nat) : S (fun i => f i * c) n = S f n * c := by
  rw [Int.mul_comm, ← S_mul]
  exact S_congr fun i _ => Int.mul_comm _ _
theorem S_le {f g : Nat → Int} {n : Nat} (h : ∀ i, i < n → f i ≤ g i) : S f n ≤ S g n := by
  induction n with
  | zero => exact Int.le_refl _
  | succ n ih =>
    show S f n + f n ≤ S g n + g n
    have := ih fun i hi => h i (by omega)
    have := h n (by omega)
    omega
theorem S_abs (f : Nat → Int) (n : Nat) : ((S f n).natAbs : Int) ≤ S (fun i => ((f i).natAbs : Int)) n := by
  induction n with
  | zero => exact Int.le_refl _
  | succ n ih =>
    show ((S f n + f n).natAbs : Int) ≤ S (fun i => ((f i).natAbs : Int)) n + ((f n).natAbs : Int)
    omega
theorem S_head (f : Nat → Int) (n : Nat) : S f (n + 1) = f 0 + S (fun i => f (i + 1)) n := by
  induction n with
  | zero => show 0 + f 0 = f 0 + 0; omega
  | succ n ih =>
    show S f (n + 1) + f (n + 1) = f 0 + (S (fun i => f (i + 1)) n + f (n + 1))
    rw [ih]
    omega
theorem S_rev (n : Nat) : ∀ f : Nat → Int, S f (n + 1) = S (fun i => f (n - i)) (n + 1) := by
  induction n with
  | zero => intro f; rfl
  | succ n ih =>
    intro f
    rw [S_head (fun i => f (n + 1 - i))]
    show S f (n + 1) + f (n + 1) = f (n + 1 - 0) + S (fun i => f (n + 1 - (i + 1))) (n + 1)
    rw [ih f, S_congr (f := fun i => f (n + 1 - (i + 1))) (g := fun i => f (n - i)) fun i _ => by rw [Nat.add_sub_add_right]]
    rw [Nat.sub_zero]
    omega
/-- what stands behind is 0 -/
theorem S_more {f : Nat → Int} {n m : Nat} (hn : n ≤ m) (h : ∀ i, n ≤ i → i < m → f i = 0) : S f m = S f n := by
  induction m with
  | zero => rw [show n = 0 by omega]
  | succ m ih =>
    rcases Nat.eq_or_lt_of_le hn with e | l
    · rw [e]
    · show S f m + f m = S f n
      rw [ih (by omega) fun i h1 h2 => h i h1 (by omega), h m (by omega) (by omega), Int.add_zero]
theorem S_shift {f : Nat → Int} {s m : Nat} (h : ∀ i, i < s → f i = 0) : S f (s + m) = S (fun j => f (s + j)) m := by
  induction m with
  | zero => exact S_zero h
  | succ m ih =>
    show S f (s + m) + f (s + m) = S (fun j => f (s + j)) m + f (s + m)
    rw [ih]
theorem S_tri (F : Nat → Nat → Int) (n : Nat) : S (fun i => S (fun j => F j (i - j)) (i + 1)) n = S (fun j => S (fun l => F j l) (n - j)) n := by
  induction n with
  | zero => rfl
  | succ n ih =>
    show S (fun i => S (fun j => F j (i - j)) (i + 1)) n + S (fun j => F j (n - j)) (n + 1) = S (fun j => S (fun l => F j l) (n + 1 - j)) (n + 1)
    rw [ih, S_congr (f := fun j => S (fun l => F j l) (n + 1 - j)) (g := fun j => S (fun l => F j l) (n - j) + F j (n - j)) (n := n + 1) fun j hj => by
      rw [show n + 1 - j = (n - j) + 1 by omega]
      rfl]
    rw [S_add]
    show _ = (S (fun j => S (fun l => F j l) (n - j)) n + S (fun l => F n l) (n - n)) + _
    rw [Nat.sub_self]
    show _ = (_ + 0) + _
    omega
/-- the product's coefficient -/
def cv (f g : Nat → Int) (k : Nat) : Int := S (fun i => f i * g (k - i)) (k + 1)
theorem cv_comm (f g : Nat → Int) (k : Nat) : cv f g k = cv g f k := by
  unfold cv
  rw [S_rev]
  refine S_congr fun i hi => ?_
  rw [show k - (k - i) = i by omega, Int.mul_comm]
theorem cv_congr {f f' g g' : Nat → Int} (h1 : ∀ k, f k = f' k) (h2 : ∀ k, g k = g' k) (k : Nat) : cv f g k = cv f' g' k := S_congr fun i _ => by rw [h1, h2]
theorem cv_assoc (f g h : Nat → Int) (k : Nat) : cv (cv f g) h k = cv f (cv g h) k := by
  have e1 : cv (cv f g) h k = S (fun i => S (fun j => (fun j l => f j * g l * h (k - (j + l))) j (i - j)) (i + 1)) (k + 1) := by
    refine S_congr fun i hi => ?_
    show S (fun j => f j * g (i - j)) (i + 1) * h (k - i) = _
    rw [← S_mul']
    refine S_congr fun j hj => ?_
    show _ = f j * g (i - j) * h (k - (j + (i - j)))
    rw [show j + (i - j) = i by omega]
  refine e1.trans ((S_tri (fun j l => f j * g l * h (k - (j + l))) (k + 1)).trans ?_)
  refine S_congr fun j hj => ?_
  show S (fun l => f j * g l * h (k - (j + l))) (k + 1 - j) = f j * cv g h (k - j)
  rw [show k + 1 - j = (k - j) + 1 by omega]
  unfold cv
  rw [← S_mul]
  refine S_congr fun l hl => ?_
  rw [Int.mul_assoc, show k - (j + l) = k - j - l by omega]
def oneC (k : Nat) : Int := if k = 0 then 1 else 0
theorem one_cv (f : Nat → Int) (k : Nat) : cv oneC f k = f k := by
  unfold cv
  rw [S_head]
  rw [S_zero fun i hi => by show (if i + 1 = 0 then 1 else 0) * _ = (0 : Int); rw [if_neg (by omega), Int.zero_mul]]
  show 1 * f (k - 0) + 0 = _
  rw [Nat.sub_zero]
  omega
/-- the n-th power -/
def pw (f : Nat → Int) : Nat → Nat → Int
  | 0 => oneC
  | n + 1 => cv (pw f n) f
theorem pw_add (f : Nat → Int) (a b k : Nat) : cv (pw f a) (pw f b) k = pw f (a + b) k := by
  induction b generalizing k with
  | zero => exact (cv_comm _ _ _).trans (one_cv _ _)
  | succ b ih =>
    show cv (pw f a) (cv (pw f b) f) k = cv (pw f (a + b)) f k
    rw [← cv_assoc]
    exact cv_congr ih (fun _ => rfl) k
theorem pw_congr {f g : Nat → Int} (h : ∀ k, f k = g k) (n k : Nat) : pw f n k = pw g n k := by
  induction n generalizing k with
  | zero => rfl
  | succ n ih => exact cv_congr ih h k
theorem pw_one (f : Nat → Int) (k : Nat) : pw f 1 k = f k := one_cv f k
/-! the sum of all absolute values -/
def Nb (m : Nat) (f : Nat → Int) : Prop := ∀ n, S (fun k => ((f k).natAbs : Int)) n ≤ m
theorem Nb.congr {m : Nat} {f g : Nat → Int} (h : Nb m f) (e : ∀ k, f k = g k) : Nb m g := fun n => by
  rw [← S_congr (f := fun k => ((f k).natAbs : Int)) fun i _ => by rw [e]]
  exact h n
theorem Nb.mono {m n : Nat} {f : Nat → Int} (h : Nb m f) (l : m ≤ n) : Nb n f := fun k => by
  have := h k
  omega
theorem Nb.at {m : Nat} {f : Nat → Int} (h : Nb m f) (k : Nat) : (f k).natAbs ≤ m := by
  have h1 := h (k + 1)
  have h2 : 0 ≤ S (fun k => ((f k).natAbs : Int)) k := by
    have := S_le (f := fun _ => 0) (g := fun k => ((f k).natAbs : Int)) (n := k) fun i _ => Int.natCast_nonneg _
    rw [S_zero (f := fun _ => 0) fun _ _ => rfl] at this
    exact this
  have h3 : S (fun k => ((f k).natAbs : Int)) (k + 1) = S (fun k => ((f k).natAbs : Int)) k + ((f k).natAbs : Int) := rfl
  omega
theorem Nb.mul {a b : Nat} {f g : Nat → Int} (h1 : Nb a f) (h2 : Nb b g) : Nb (a * b) (cv f g) := fun n => by
  refine Int.le_trans (S_le (g := fun k => S (fun i => (fun i l => ((f i).natAbs : Int) * ((g l).natAbs : Int)) i (k - i)) (k + 1)) fun k _ => ?_) ?_
  · refine Int.le_trans (S_abs _ _) (Int.le_of_eq (S_congr fun i _ => ?_))
    rw [Int.natAbs_mul]
    exact Int.natCast_mul _ _
  · refine Int.le_trans (Int.le_of_eq (S_tri (fun i l => ((f i).natAbs : Int) * ((g l).natAbs : Int)) n)) ?_
    refine Int.le_trans (S_le (g := fun i => ((f i).natAbs : Int) * (b : Int)) fun i _ => ?_) ?_
    · show S (fun l => ((f i).natAbs : Int) * ((g l).natAbs : Int)) (n - i) ≤ _
      rw [S_mul]
      exact Int.mul_le_mul_of_nonneg_left (h2 (n - i)) (Int.natCast_nonneg _)
    · rw [S_mul', Int.natCast_mul]
      exact Int.mul_le_mul_of_nonneg_right (h1 n) (Int.natCast_nonneg _)
theorem Nb.one : Nb 1 oneC := fun n => by
  cases n with
  | zero => decide
  | succ n =>
    rw [S_head, S_zero fun i hi => by show (((if i + 1 = 0 then (1 : Int) else 0).natAbs : Nat) : Int) = 0; rw [if_neg (by omega)]; rfl]
    decide
theorem Nb.pw {m : Nat} {f : Nat → Int} (h : Nb m f) (n : Nat) : Nb (m ^ n) (pw f n) := by
  induction n with
  | zero => exact Nb.one
  | succ n ih => exact ih.mul h
end Lk
/-! sums, negatives, multiples of rows; comprehensions over sequences of ints -/
namespace Lk
open PySem L2
def addI (xs ys : List Int) : List Int := (List.range (max xs.length ys.length)).map fun j => co xs j + co ys j
def negI (xs : List Int) : List Int := xs.map fun x => -x
def scaleI (n : Int) (xs : List Int) : List Int := xs.map fun x => n * x
theorem co_map {f : Int → Int} (h0 : f 0 = 0) (xs : List Int) (k : Nat) : co (xs.map f) k = f (co xs k) := by
  unfold co
  rw [List.getD_eq_getElem?_getD, List.getD_eq_getElem?_getD, List.getElem?_map]
  cases xs[k]? with
  | none => exact h0.symm
  | some x => rfl
theorem co_neg (xs : List Int) (k : Nat) : co (negI xs) k = -co xs k := co_map (f := fun x => -x) rfl xs k
theorem co_scale (n : Int) (xs : List Int) (k : Nat) : co (scaleI n xs) k = n * co xs k := co_map (f := fun x => n * x) (Int.mul_zero n) xs k
theorem co_range (n : Nat) (f : Nat → Int) (k : Nat) : co ((List.range n).map f) k = if k < n then f k else 0 := by
  by_cases h : k < n
  · rw [if_pos h, co_lt (by rw [List.length_map, List.length_range]; exact h), List.getElem_map, List.getElem_range]
  · rw [if_neg h, co_ge (by rw [List.length_map, List.length_range]; omega)]
theorem co_add (xs ys : List Int) (k : Nat) : co (addI xs ys) k = co xs k + co ys k := by
  unfold addI
  rw [co_range]
  split
  · rfl
  · rw [co_ge (by omega), co_ge (by omega)]
    rfl
theorem add_len (xs ys : List Int) : (addI xs ys).length = max xs.length ys.length := by
  unfold addI
  rw [List.length_map, List.length_range]
section
variable {K : PySem.W.Frag} {H H' : Hp} {a b p C : Addr} {xs ys row : List Int} {σ : L2.St} {te : TE} {i : Nat} {H1 : Hp} {D : Addr} {Qd : Hp → Prop}
/-- a comprehension over a tuple of ints -/
theorem lcT (f : Int → Int) (hT : SqT K H1 a (iVs xs)) (hD : H1 D = none) (hn : xs.length ≤ sizeLine)
    (he : ∀ x H, x ∈ xs → Same H1 H → Val te ((wipe σ [i]).set i (some (.int x))) H (.int (f x))) (hd : ∀ H, Same H1 H → H D = some (.lst (iVs (xs.map f))) → Qd H) :
    ∃ W : Nat → Nat → Hp → Prop, (∃ m, W 0 m (upd H1 D (.lst []))) ∧ ∀ i' m H, W i' m H →
      ((Itt K a).stop i' H ∧ Qd H) ∨ ((Itt K a).go i' H ∧ ∃ Nx : Hp → Prop, (∀ H', Nx H' → ∃ m', m' < m ∧ W (i' + 1) m' H') ∧ ∀ x H', (Itt K a).yld i' H x H' → gName i x (wipe σ [i]) H' fun σ2 H2 => wipe σ2 [i] = wipe σ [i] ∧ tYes σ2 H2 fun b H3 =>
        if b = true then te σ2 H3 fun y H4 => ∃ acc, H4 D = some (.lst acc) ∧ acc.length < sizeLine ∧ Nx (upd H4 D (.lst (acc ++ [y]))) else Nx H3) := by
  refine lc_tup (xs := iVs xs) (fun j H => Same H1 H ∧ H D = some (.lst (iVs ((xs.take j).map f)))) ⟨same_upd hD, upd_same⟩ (fun j H _ h => h.1.tup hT) ?_ ?_
  · rintro j y H hi ⟨s1, h1⟩
    obtain ⟨hj, rfl⟩ := iVs_at hi
    refine ⟨?_, ?_⟩
    · show ((σ.set i none).set i _).set i none = σ.set i none
      rw [List.set_set, List.set_set]
    · refine he (co xs j) H (by rw [co_lt hj]; exact List.getElem_mem hj) s1 (fun y H4 => ∃ acc, H4 D = some (.lst acc) ∧ acc.length < sizeLine ∧ Same H1 (upd H4 D (.lst (acc ++ [y]))) ∧ (upd H4 D (.lst (acc ++ [y]))) D = some (.lst (iVs ((xs.take (j + 1)).map f)))) ⟨_, h1, ?_, ?_, ?_⟩
      · rw [iVs_len, List.length_map, List.length_take]
        omega
      · exact fun b o e => by rw [upd_ne (ne_of_none e hD)]; exact s1 b o e
      · rw [upd_same, List.take_succ_eq_append_getElem hj, List.map_append, iVs_app, co_lt hj]
        rfl
  · rintro H ⟨s1, h1⟩
    rw [iVs_len, List.take_length] at h1
    exact hd H s1 h1
theorem lcL (f : Int → Int) (hT : SqL K H1 a (iVs xs)) (hD : H1 D = none) (hn : xs.length ≤ sizeLine)
    (he : ∀ x H, x ∈ xs → Same H1 H → Val te ((wipe σ [i]).set i (some (.int x))) H (.int (f x))) (hd : ∀ H, Same H1 H → H D = some (.lst (iVs (xs.map f))) → Qd H) :
    ∃ W : Nat → Nat → Hp → Prop, (∃ m, W 0 m (upd H1 D (.lst []))) ∧ ∀ i' m H, W i' m H →
      ((Itl K a).stop i' H ∧ Qd H) ∨ ((Itl K a).go i' H ∧ ∃ Nx : Hp → Prop, (∀ H', Nx H' → ∃ m', m' < m ∧ W (i' + 1) m' H') ∧ ∀ x H', (Itl K a).yld i' H x H' → gName i x (wipe σ [i]) H' fun σ2 H2 => wipe σ2 [i] = wipe σ [i] ∧ tYes σ2 H2 fun b H3 =>
        if b = true then te σ2 H3 fun y H4 => ∃ acc, H4 D = some (.lst acc) ∧ acc.length < sizeLine ∧ Nx (upd H4 D (.lst (acc ++ [y]))) else Nx H3) := by
  refine lc_list (xs := iVs xs) (fun j H => Same H1 H ∧ H D = some (.lst (iVs ((xs.take j).map f)))) ⟨same_upd hD, upd_same⟩ (fun j H _ h => h.1.seq hT) ?_ ?_
  · rintro j y H hi ⟨s1, h1⟩
    obtain ⟨hj, rfl⟩ := iVs_at hi
    refine ⟨?_, ?_⟩
    · show ((σ.set i none).set i _).set i none = σ.set i none
      rw [List.set_set, List.set_set]
    · refine he (co xs j) H (by rw [co_lt hj]; exact List.getElem_mem hj) s1 (fun y H4 => ∃ acc, H4 D = some (.lst acc) ∧ acc.length < sizeLine ∧ Same H1 (upd H4 D (.lst (acc ++ [y]))) ∧ (upd H4 D (.lst (acc ++ [y]))) D = some (.lst (iVs ((xs.take (j + 1)).map f)))) ⟨_, h1, ?_, ?_, ?_⟩
      · rw [iVs_len, List.length_map, List.length_take]
        omega
      · exact fun b o e => by rw [upd_ne (ne_of_none e hD)]; exact s1 b o e
      · rw [upd_same, List.take_succ_eq_append_getElem hj, List.map_append, iVs_app, co_lt hj]
        rfl
  · rintro H ⟨s1, h1⟩
    rw [iVs_len, List.take_length] at h1
    exact hd H s1 h1
end
theorem iVs_set (xs : List Int) (i : Nat) (x : Int) : (iVs xs).set i (.int x) = iVs (xs.set i x) := List.map_set.symm
theorem co_set {xs : List Int} {i : Nat} (h : i < xs.length) (x : Int) (j : Nat) : co (xs.set i x) j = if j = i then x else co xs j := by
  unfold co
  rw [List.getD_eq_getElem?_getD, List.getD_eq_getElem?_getD, List.getElem?_set]
  by_cases e : i = j
  · subst e
    rw [if_pos rfl, if_pos rfl, if_pos h]
    rfl
  · rw [if_neg e, if_neg (fun z => e z.symm)]
theorem setL_I {H : Hp} {D : Addr} {cur : List Int} {k x : Int} {N : Hp → Prop} (h : H D = some (.lst (iVs cur))) (h0 : 0 ≤ k) (h1 : k < cur.length) (q : N (upd H D (.lst (iVs (cur.set k.toNat x))))) : rSetL (.ref D) (.int k) (.int x) H N := by
  refine ⟨D, _, k, k.toNat, rfl, rfl, h, ?_, by rw [iVs_set]; exact q⟩
  unfold ixN
  rw [iVs_len, if_pos h0, if_pos h1]
theorem dun_add : PySem.dunder "add" = "__add__" := by decide +kernel
theorem dunr_add : dunderR "add" = "__radd__" := by decide +kernel
theorem duni_add : dunderI "add" = "__iadd__" := by decide +kernel
theorem dun_sub : PySem.dunder "sub" = "__sub__" := by decide +kernel
theorem dunr_sub : dunderR "sub" = "__rsub__" := by decide +kernel
theorem duni_sub : dunderI "sub" = "__isub__" := by decide +kernel
theorem dun_mul : PySem.dunder "mul" = "__mul__" := by decide +kernel
theorem dunr_mul : dunderR "mul" = "__rmul__" := by decide +kernel
theorem duni_mul : dunderI "mul" = "__imul__" := by decide +kernel
/-! promises -/
/-- a polynomial or an int, as a row -/
def RowOf (K : PySem.W.Frag) (C : Addr) (H : Hp) (y : V) (row : List Int) : Prop := (∃ p, y = .ref p ∧ PolyAt K C H p row) ∨ (∃ n, y = .int n ∧ row = trimI [n])
theorem RowOf.same {K : PySem.W.Frag} {C : Addr} {H H' : Hp} {y : V} {row : List Int} (h : RowOf K C H y row) (e : Same H H') : RowOf K C H' y row := h.elim (fun ⟨p, a, b⟩ => .inl ⟨p, a, b.same e⟩) .inr
def spCoefAt (K : PySem.W.Frag) : Sp := fun vs H Q _ => ∃ (a : Addr) (row : List Int) (k : Int), vs = [.ref a, .int k] ∧ SqI K H a row ∧ 0 ≤ k ∧ Q (.int (co row k.toNat)) H
def spPlus (K : PySem.W.Frag) : Sp := fun vs H Q _ => ∃ (a b : Addr) (xs ys : List Int), vs = [.ref a, .ref b] ∧ SqI K H a xs ∧ SqI K H b ys ∧ xs.length ≤ 2 ^ 20 ∧ ys.length ≤ 2 ^ 20 ∧ ∀ t H', Same H H' → SqT K H' t (iVs (trimI (addI xs ys))) → Q (.ref t) H'
def spNeg (K : PySem.W.Frag) : Sp := fun vs H Q _ => ∃ (a : Addr) (xs : List Int), vs = [.ref a] ∧ SqT K H a (iVs xs) ∧ xs.length ≤ 2 ^ 20 ∧ ∀ t H', Same H H' → SqT K H' t (iVs (negI xs)) → Q (.ref t) H'
def spRowOf (K : PySem.W.Frag) (C : Addr) : Sp := fun vs H Q _ => ∃ (y : V) (row : List Int), vs = [y] ∧ RowOf K C H y row ∧ ∀ t H', Same H H' → SqT K H' t (iVs row) → Q (.ref t) H'
/-- self op other, F the row of the answer -/
def spBin (F : List Int → List Int → List Int) (K : PySem.W.Frag) (C : Addr) : Sp := fun vs H Q _ => ∃ (p : Addr) (xs : List Int) (y : V) (ys : List Int), vs = [.ref p, y] ∧ PolyAt K C H p xs ∧ RowOf K C H y ys ∧ xs.length ≤ 2 ^ 19 ∧ ys.length ≤ 2 ^ 19 ∧ Made K C H (trimI (F xs ys)) Q
def spNegP (K : PySem.W.Frag) (C : Addr) : Sp := fun vs H Q _ => ∃ (p : Addr) (xs : List Int), vs = [.ref p] ∧ PolyAt K C H p xs ∧ xs.length ≤ 2 ^ 19 ∧ Made K C H (trimI (negI xs)) Q
def subI (xs ys : List Int) : List Int := addI xs (negI ys)
def rsubI (xs ys : List Int) : List Int := addI ys (negI xs)
theorem Made.back {K : PySem.W.Frag} {C : Addr} {H H' : Hp} {row : List Int} {Q : VK} (h : Made K C H row Q) (e : Same H H') : Made K C H' row Q := fun p H2 s2 hp => h p H2 (e.trans s2) (e.free hp)
def spRadd (K : PySem.W.Frag) (C : Addr) : Sp := fun vs H Q _ => ∃ (p : Addr) (xs : List Int) (n : Int), vs = [.ref p, .int n] ∧ PolyAt K C H p xs ∧ xs.length ≤ 2 ^ 19 ∧ Made K C H (trimI (addI xs (trimI [n]))) Q
/-- the laws' own sums -/
def spLawPlus (K : PySem.W.Frag) : Sp := fun vs H Q _ => ∃ (a b : Addr) (xs ys : List Int), vs = [.ref a, .ref b] ∧ SqL K H a (iVs xs) ∧ SqL K H b (iVs ys) ∧ xs.length ≤ 50000 ∧ ys.length ≤ 50000 ∧ ∀ l H', Same H H' → H l = none → H' l = some (.lst (iVs (trimI (addI xs ys)))) → Q (.ref l) H'
def spScaled (K : PySem.W.Frag) : Sp := fun vs H Q _ => ∃ (a : Addr) (xs : List Int) (n : Int), vs = [.ref a, .int n] ∧ SqL K H a (iVs xs) ∧ xs.length ≤ 50000 ∧ (∀ x ∈ xs, x.natAbs < 2 ^ 400000) ∧ n.natAbs < 2 ^ 400000 ∧ ∀ l H', Same H H' → H l = none → H' l = some (.lst (iVs (trimI (scaleI n xs)))) → Q (.ref l) H'
end Lk
namespace Lk
open PySem L2
/-! bounds of a row's ints -/
def Bd (m : Nat) (xs : List Int) : Prop := ∀ k, (co xs k).natAbs ≤ m
theorem bd_of {m : Nat} {xs : List Int} (h : ∀ x ∈ xs, x.natAbs ≤ m) : Bd m xs := fun k => by
  by_cases hk : k < xs.length
  · rw [co_lt hk]
    exact h _ (List.getElem_mem hk)
  · rw [co_ge (by omega)]
    exact Nat.zero_le _
theorem Bd.mem {m : Nat} {xs : List Int} (h : Bd m xs) {x : Int} (hx : x ∈ xs) : x.natAbs ≤ m := by
  obtain ⟨k, hk⟩ := List.getElem?_of_mem hx
  rw [← co_get hk]
  exact h k
theorem Bd.trim {m : Nat} {xs : List Int} (h : Bd m xs) : Bd m (trimI xs) := fun k => by rw [co_trim]; exact h k
theorem Bd.scale {m : Nat} {xs : List Int} (h : Bd m xs) (n : Int) : Bd (n.natAbs * m) (scaleI n xs) := fun k => by rw [co_scale, Int.natAbs_mul]; exact Nat.mul_le_mul_left _ (h k)
theorem Bd.add {m n : Nat} {xs ys : List Int} (h : Bd m xs) (h2 : Bd n ys) : Bd (m + n) (addI xs ys) := fun k => by
  rw [co_add]
  have := h k
  have := h2 k
  omega
theorem Bd.mono {m n : Nat} {xs : List Int} (h : Bd m xs) (l : m ≤ n) : Bd n xs := fun k => Nat.le_trans (h k) l
theorem Bd.lt {m : Nat} {xs : List Int} {b : Nat} (h : Bd m xs) (l : m < 2 ^ b) (hb : b ≤ 400000 := by decide) : ∀ x ∈ xs, x.natAbs < 2 ^ 400000 := fun x hx => Nat.lt_of_le_of_lt (h.mem hx) (Nat.lt_of_lt_of_le l (Nat.pow_le_pow_right (by decide) hb))
theorem co_one_neg (n : Int) (k : Nat) : co [-n] k = -co [n] k := co_neg [n] k
theorem scale_len (n : Int) (xs : List Int) : (scaleI n xs).length = xs.length := List.length_map ..
theorem co_nil (k : Nat) : co [] k = 0 := rfl
section
variable {K : PySem.W.Frag} {C : Addr} {σ : L2.St} {H : Hp} {ta tb te : TE} {R : Hp → V → Prop} {x y : V} {xs ys : List Int} {E : XK} {n : Int} {F : List Int → List Int → List Int} {i : Nat} {t2 : TS} {D : Ends} {Q : VK}
theorem q_asgR (h : EvR te σ H R) (k : ∀ v H1, Same H H1 → R H1 v → t2 D (σ.set i (some v)) H1) : tSeq (tAsg te (gName i)) t2 D σ H := h H (Same.refl _) _ k
theorem s_asgR (h : EvR te σ H R) (k : ∀ v H1, Same H H1 → R H1 v → D.nx (σ.set i (some v)) H1) : tAsg te (gName i) D σ H := h H (Same.refl _) _ k
theorem bin_P (hx : isP K C xs H x) (hy : isP K C ys H y) (lx : xs.length ≤ 2 ^ 19) (ly : ys.length ≤ 2 ^ 19) (k : ∀ v H2, Same H H2 → isP K C (trimI (F xs ys)) H2 v → Q v H2) : rBin C (spBin F K C) E x y H Q := by
  obtain ⟨p, rfl, hp⟩ := hx
  obtain ⟨q, rfl, hq⟩ := hy
  obtain ⟨dx, t, h1, h2⟩ := id hp
  obtain ⟨dx', t', h1', h2'⟩ := id hq
  exact ⟨p, dx, _, q, dx', _, rfl, rfl, h1, h1', p, xs, _, ys, rfl, hp, .inl ⟨q, rfl, hq⟩, lx, ly, fun o H' s' _ ho => k _ H' s' ⟨o, rfl, ho⟩⟩
theorem bin_I (hx : isP K C xs H x) (hy : y = .int n) (lx : xs.length ≤ 2 ^ 19) (k : ∀ v H2, Same H H2 → isP K C (trimI (F xs (trimI [n]))) H2 v → Q v H2) : rBinI C (spBin F K C) E x y H Q := by
  obtain ⟨p, rfl, hp⟩ := hx
  subst hy
  obtain ⟨dx, t, h1, h2⟩ := id hp
  exact ⟨p, dx, _, n, rfl, rfl, h1, p, xs, _, _, rfl, hp, .inr ⟨n, rfl, rfl⟩, lx, Nat.le_trans (trim_len [n]) (by show 1 ≤ 2 ^ 19; decide), fun o H' s' _ ho => k _ H' s' ⟨o, rfl, ho⟩⟩
theorem bin_R (hx : x = .int n) (hy : isP K C ys H y) (ly : ys.length ≤ 2 ^ 19) (k : ∀ v H2, Same H H2 → isP K C (trimI (F ys (trimI [n]))) H2 v → Q v H2) : rBinR C (spBin F K C) E x y H Q := by
  obtain ⟨p, rfl, hp⟩ := hy
  subst hx
  obtain ⟨dx, t, h1, h2⟩ := id hp
  exact ⟨p, dx, _, n, rfl, rfl, h1, p, ys, _, _, rfl, hp, .inr ⟨n, rfl, rfl⟩, ly, Nat.le_trans (trim_len [n]) (by show 1 ≤ 2 ^ 19; decide), fun o H' s' _ ho => k _ H' s' ⟨o, rfl, ho⟩⟩
theorem radd_R (hx : x = .int n) (hy : isP K C ys H y) (ly : ys.length ≤ 2 ^ 19) (k : ∀ v H2, Same H H2 → isP K C (trimI (addI ys (trimI [n]))) H2 v → Q v H2) : rBinR C (spRadd K C) E x y H Q := by
  obtain ⟨p, rfl, hp⟩ := hy
  subst hx
  obtain ⟨dx, t, h1, h2⟩ := id hp
  exact ⟨p, dx, _, n, rfl, rfl, h1, p, ys, n, rfl, hp, ly, fun o H' s' _ ho => k _ H' s' ⟨o, rfl, ho⟩⟩
theorem er_bin (ha : EvR ta σ H (isP K C xs)) (hb : EvR tb σ H (isP K C ys)) (lx : xs.length ≤ 2 ^ 19) (ly : ys.length ≤ 2 ^ 19) : EvR (tOp (rBin C (spBin F K C) E) ta tb) σ H (isP K C (trimI (F xs ys))) :=
  er_op ha hb fun _ _ _ _ hx hy _ k => bin_P hx hy lx ly k
theorem er_binI (ha : EvR ta σ H (isP K C xs)) (hb : EvR tb σ H (isV (.int n))) (lx : xs.length ≤ 2 ^ 19) : EvR (tOp (rBinI C (spBin F K C) E) ta tb) σ H (isP K C (trimI (F xs (trimI [n])))) :=
  er_op ha hb fun _ _ _ _ hx hy _ k => bin_I hx hy lx k
theorem er_binR (ha : EvR ta σ H (isV (.int n))) (hb : EvR tb σ H (isP K C ys)) (ly : ys.length ≤ 2 ^ 19) : EvR (tOp (rBinR C (spBin F K C) E) ta tb) σ H (isP K C (trimI (F ys (trimI [n])))) :=
  er_op ha hb fun _ _ _ _ hx hy _ k => bin_R hx hy ly k
theorem er_radd (ha : EvR ta σ H (isV (.int n))) (hb : EvR tb σ H (isP K C ys)) (ly : ys.length ≤ 2 ^ 19) : EvR (tOp (rBinR C (spRadd K C) E) ta tb) σ H (isP K C (trimI (addI ys (trimI [n])))) :=
  er_op ha hb fun _ _ _ _ hx hy _ k => radd_R hx hy ly k
theorem er_neg (ha : EvR ta σ H (isP K C xs)) (lx : xs.length ≤ 2 ^ 19) : EvR (tUn (rUnO C (spNegP K C) E) ta) σ H (isP K C (trimI (negI xs))) :=
  er_un ha fun H1 _ ⟨p, ex, hp⟩ Q k => by
    subst ex
    obtain ⟨dx, t, h1, h2⟩ := id hp
    exact ⟨p, dx, _, rfl, h1, p, xs, rfl, hp, lx, fun o H' s' _ ho => k _ H' s' ⟨o, rfl, ho⟩⟩
theorem er_lplus (ha : EvR ta σ H (isL K xs)) (hb : EvR tb σ H (isL K ys)) (lx : xs.length ≤ 50000) (ly : ys.length ≤ 50000) : EvR (tCall (spLawPlus K) [] E (tCons ta (tCons tb tNil))) σ H (isL K (trimI (addI xs ys))) :=
  er_call2 ha hb fun H1 _ _ ⟨p, ex, hp⟩ ⟨q, ey, hq⟩ Q k => ⟨p, q, xs, ys, by rw [ex, ey], hp, hq, lx, ly, fun l H2 s2 _ h2 => k _ H2 s2 ⟨l, rfl, SqL.of h2⟩⟩
theorem er_scaled (ha : EvR ta σ H (isL K xs)) (hb : EvR tb σ H (isV (.int n))) (lx : xs.length ≤ 50000) (hx : ∀ x ∈ xs, x.natAbs < 2 ^ 400000) (hn : n.natAbs < 2 ^ 400000) : EvR (tCall (spScaled K) [] E (tCons ta (tCons tb tNil))) σ H (isL K (trimI (scaleI n xs))) :=
  er_call2 ha hb fun H1 _ _ ⟨p, ex, hp⟩ hy Q k => ⟨p, xs, n, by rw [ex, show _ = V.int n from hy], hp, lx, hx, hn, fun l H2 s2 _ h2 => k _ H2 s2 ⟨l, rfl, SqL.of h2⟩⟩
end
end Lk
namespace Lk
theorem lt_big {n : Int} (b : Nat) (h : n.natAbs < 2 ^ b) (hb : b ≤ 400000) : n.natAbs < 2 ^ 400000 := Nat.lt_of_lt_of_le h (Nat.pow_le_pow_right (by decide) hb)
theorem m1_big : (-1 : Int).natAbs < 2 ^ 400000 := lt_big 1 (by decide) (by decide)
end Lk
namespace Lk
open PySem L2
/-! products of rows -/
def mulI (xs ys : List Int) : List Int := (List.range (xs.length + ys.length - 1)).map (cv (co xs) (co ys))
theorem co_mul (xs ys : List Int) (k : Nat) : co (mulI xs ys) k = cv (co xs) (co ys) k := by
  unfold mulI
  rw [co_range]
  split
  · rfl
  · refine (S_zero fun i hi => ?_).symm
    by_cases h : i < xs.length
    · rw [co_ge (xs := ys) (by omega), Int.mul_zero]
    · rw [co_ge (by omega), Int.zero_mul]
theorem mul_len (xs ys : List Int) : (mulI xs ys).length = xs.length + ys.length - 1 := by
  unfold mulI
  rw [List.length_map, List.length_range]
theorem sum_map (f : Nat → Int) (n : Nat) : ((List.range n).map f).sum = S f n := by
  induction n with
  | zero => rfl
  | succ n ih =>
    rw [List.range_succ, List.map_append, List.sum_append, ih]
    show S f n + (f n + 0) = S f n + f n
    omega
/-- the terms that are asked are all that count -/
theorem cv_part (xs ys : List Int) (k s m : Nat) (hs : ∀ i, i < s → i ≤ k → ys.length ≤ k - i ∨ xs.length ≤ i) (ht : ∀ i, s + m ≤ i → i ≤ k → xs.length ≤ i) (hk : s + m ≤ k + 1) : S (fun j => co xs (s + j) * co ys (k - (s + j))) m = cv (co xs) (co ys) k := by
  unfold cv
  rw [S_more hk fun i h2 h3 => by rw [co_ge (ht i h2 (by omega)), Int.zero_mul]]
  rw [S_shift fun i hi => ?_]
  rcases hs i hi (by omega) with h | h
  · rw [co_ge h, Int.mul_zero]
  · rw [co_ge h, Int.zero_mul]
theorem cv_none (xs ys : List Int) (k : Nat) (h : ∀ i, i ≤ k → xs.length ≤ i ∨ ys.length ≤ k - i) : cv (co xs) (co ys) k = 0 := S_zero fun i hi => by
  rcases h i (by omega) with h | h
  · rw [co_ge h, Int.zero_mul]
  · rw [co_ge h, Int.mul_zero]
/-- ints of a bounded size -/
def Sm (xs : List Int) : Prop := ∀ k, (co xs k).natAbs < 2 ^ 400000
theorem Sm.trim {xs : List Int} (h : Sm xs) : Sm (trimI xs) := fun k => by rw [co_trim]; exact h k
def spCross (K : PySem.W.Frag) : Sp := fun vs H Q _ => ∃ (a b : Addr) (xs ys : List Int) (k : Int), vs = [.ref a, .ref b, .int k] ∧ SqI K H a xs ∧ SqI K H b ys ∧ 0 ≤ k ∧ k < 2 ^ 21 ∧ xs.length ≤ 2 ^ 19 ∧ ys.length ≤ 2 ^ 19 ∧ Sm xs ∧ Sm ys ∧ ∀ H', Same H H' → Q (.int (cv (co xs) (co ys) k.toNat)) H'
def spTimes (K : PySem.W.Frag) : Sp := fun vs H Q _ => ∃ (a b : Addr) (xs ys : List Int), vs = [.ref a, .ref b] ∧ SqI K H a xs ∧ SqI K H b ys ∧ xs.length ≤ 2 ^ 19 ∧ ys.length ≤ 2 ^ 19 ∧ Sm xs ∧ Sm ys ∧ ∀ t H', Same H H' → SqT K H' t (iVs (trimI (mulI xs ys))) → Q (.ref t) H'
/-- the row of the n-th power, by its coefficients -/
def IsPow (f : Nat → Int) (n : Nat) (row : List Int) : Prop := trimI row = row ∧ ∀ k, co row k = pw f n k
def spPower (K : PySem.W.Frag) : Sp := fun vs H Q _ => ∃ (a : Addr) (xs : List Int) (n : Int) (m : Nat), vs = [.ref a, .int n] ∧ SqT K H a (iVs xs) ∧ trimI xs = xs ∧ 0 ≤ n ∧ n ≤ 1000 ∧ xs.length ≤ 200 ∧ 1 ≤ m ∧ Nb m (co xs) ∧ m < 2 ^ 300 ∧ ∀ t row H', Same H H' → IsPow (co xs) n.toNat row → SqT K H' t (iVs row) → Q (.ref t) H'
def spMul (K : PySem.W.Frag) (C : Addr) : Sp := fun vs H Q _ => ∃ (p : Addr) (xs : List Int) (y : V) (ys : List Int), vs = [.ref p, y] ∧ PolyAt K C H p xs ∧ RowOf K C H y ys ∧ xs.length ≤ 2 ^ 18 ∧ ys.length ≤ 2 ^ 18 ∧ Sm xs ∧ Sm ys ∧ Made K C H (trimI (mulI xs ys)) Q
def spPow (K : PySem.W.Frag) (C : Addr) : Sp := fun vs H Q _ => ∃ (p : Addr) (xs : List Int) (n : Int) (m : Nat), vs = [.ref p, .int n] ∧ PolyAt K C H p xs ∧ trimI xs = xs ∧ 0 ≤ n ∧ n ≤ 1000 ∧ xs.length ≤ 200 ∧ 1 ≤ m ∧ Nb m (co xs) ∧ m < 2 ^ 300 ∧ ∀ row, IsPow (co xs) n.toNat row → Made K C H row Q
def spRmul (K : PySem.W.Frag) (C : Addr) : Sp := fun vs H Q _ => ∃ (p : Addr) (xs : List Int) (n : Int), vs = [.ref p, .int n] ∧ PolyAt K C H p xs ∧ xs.length ≤ 2 ^ 18 ∧ Sm xs ∧ Sm [n] ∧ Made K C H (trimI (mulI xs (trimI [n]))) Q
def spLawTimes (K : PySem.W.Frag) : Sp := fun vs H Q _ => ∃ (a b : Addr) (xs ys : List Int), vs = [.ref a, .ref b] ∧ SqL K H a (iVs xs) ∧ SqL K H b (iVs ys) ∧ xs.length ≤ 50000 ∧ ys.length ≤ 50000 ∧ Sm xs ∧ Sm ys ∧ ∀ l H', Same H H' → H l = none → H' l = some (.lst (iVs (trimI (mulI xs ys)))) → Q (.ref l) H'
end Lk
namespace Lk
open PySem L2
theorem cv_far {f g : Nat → Int} {a b : Nat} (hf : ∀ k, a ≤ k → f k = 0) (hg : ∀ k, b ≤ k → g k = 0) (k : Nat) (h : a + b ≤ k) : cv f g k = 0 := S_zero fun i hi => by
  by_cases ha : a ≤ i
  · rw [hf i ha, Int.zero_mul]
  · rw [hg (k - i) (by omega), Int.mul_zero]
theorem pw_far {f : Nat → Int} {L : Nat} (hf : ∀ k, L ≤ k → f k = 0) (n : Nat) : ∀ k, n * L + 1 ≤ k → pw f n k = 0 := by
  induction n with
  | zero => intro k hk; exact if_neg (by omega)
  | succ n ih => intro k hk; exact cv_far ih hf k (by rw [Nat.succ_mul] at hk; omega)
theorem len_le {xs : List Int} {N : Nat} (ht : trimI xs = xs) (h : ∀ k, N ≤ k → co xs k = 0) : xs.length ≤ N := by
  have := trim_last xs
  rw [ht] at this
  rcases this with e | e
  · omega
  · rcases Nat.lt_or_ge (xs.length - 1) N with l | l
    · omega
    · exact absurd (h _ l) e
theorem IsPow.len {f : Nat → Int} {n L : Nat} {row : List Int} (h : IsPow f n row) (hf : ∀ k, L ≤ k → f k = 0) : row.length ≤ n * L + 1 := len_le h.1 fun k hk => by rw [h.2]; exact pw_far hf n k hk
theorem IsPow.sm {f : Nat → Int} {n m : Nat} {row : List Int} (h : IsPow f n row) (hn : n ≤ 1000) (h1 : 1 ≤ m) (hb : Nb m f) (hm : m < 2 ^ 300) : Sm row := fun k => by
  rw [h.2]
  have h2 := (hb.pw n).at k
  have h3 : m ^ n ≤ m ^ 1000 := Nat.pow_le_pow_right h1 hn
  have h4 : m ^ 1000 ≤ (2 ^ 300) ^ 1000 := Nat.pow_le_pow_left (Nat.le_of_lt hm) 1000
  rw [← Nat.pow_mul] at h4
  exact Nat.lt_of_le_of_lt (Nat.le_trans h2 (Nat.le_trans h3 h4)) (Nat.pow_lt_pow_right (by decide) (by decide))
theorem IsPow.mul {f : Nat → Int} {a b : Nat} {xs ys : List Int} (h1 : IsPow f a xs) (h2 : IsPow f b ys) : IsPow f (a + b) (trimI (mulI xs ys)) := ⟨trim_trim _, fun k => by
  rw [co_trim, co_mul, cv_congr h1.2 h2.2, pw_add]⟩
theorem IsPow.uniq {f g : Nat → Int} {a : Nat} {xs ys : List Int} (h1 : IsPow f a xs) (h2 : IsPow g a ys) (e : ∀ k, f k = g k) : xs = ys := by
  rw [← h1.1, ← h2.1]
  exact trim_ext fun k => by rw [h1.2, h2.2, pw_congr e]
theorem co_one (k : Nat) : co [1] k = oneC k := by
  cases k with
  | zero => rfl
  | succ k => rfl
theorem IsPow.one {f : Nat → Int} : IsPow f 0 [1] := ⟨rfl, co_one⟩
section
variable {K : PySem.W.Frag} {σ : L2.St} {H : Hp} {ta tb te : TE} {i j : Int}
theorem val_max (ha : Val ta σ H (.int i)) (hb : Val tb σ H (.int j)) : Val (tCB (fun xs H Q => ∃ i j, xs = [V.int i, V.int j] ∧ Q (V.int (if j > i then j else i)) H) (tCons ta (tCons tb tNil))) σ H (.int (if j > i then j else i)) := fun Q q => ha _ (hb _ ⟨i, j, rfl, q⟩)
theorem val_min (ha : Val ta σ H (.int i)) (hb : Val tb σ H (.int j)) : Val (tCB (fun xs H Q => ∃ i j, xs = [V.int i, V.int j] ∧ Q (V.int (if j < i then j else i)) H) (tCons ta (tCons tb tNil))) σ H (.int (if j < i then j else i)) := fun Q q => ha _ (hb _ ⟨i, j, rfl, q⟩)
/-- a comprehension over a range whose elements may lay new objects -/
theorem lcE {lo : Int} {n : Nat} {te : TE} {i : Nat} {H1 : Hp} {D : Addr} {Qd : Hp → Prop} (f : Nat → Int) (hD : H1 D = none) (hn : n ≤ sizeLine)
    (he : ∀ j H, j < n → Same H1 H → EvR te ((wipe σ [i]).set i (some (.int (lo + j)))) H (isV (.int (f j)))) (hd : ∀ H, Same H1 H → H D = some (.lst (iVs ((List.range n).map f))) → Qd H) :
    ∃ W : Nat → Nat → Hp → Prop, (∃ m, W 0 m (upd H1 D (.lst []))) ∧ ∀ i' m H, W i' m H →
      ((Itr lo n).stop i' H ∧ Qd H) ∨ ((Itr lo n).go i' H ∧ ∃ Nx : Hp → Prop, (∀ H', Nx H' → ∃ m', m' < m ∧ W (i' + 1) m' H') ∧ ∀ x H', (Itr lo n).yld i' H x H' → gName i x (wipe σ [i]) H' fun σ2 H2 => wipe σ2 [i] = wipe σ [i] ∧ tYes σ2 H2 fun b H3 =>
        if b = true then te σ2 H3 fun y H4 => ∃ acc, H4 D = some (.lst acc) ∧ acc.length < sizeLine ∧ Nx (upd H4 D (.lst (acc ++ [y]))) else Nx H3) := by
  refine lc_range (fun j H => Same H1 H ∧ H D = some (.lst (iVs ((List.range j).map f)))) ⟨same_upd hD, upd_same⟩ ?_ ?_
  · rintro j H hj ⟨s1, h1⟩
    refine ⟨?_, ?_⟩
    · show ((σ.set i none).set i _).set i none = σ.set i none
      rw [List.set_set, List.set_set]
    · refine he j H hj s1 H (Same.refl _) (fun y H4 => ∃ acc, H4 D = some (.lst acc) ∧ acc.length < sizeLine ∧ Same H1 (upd H4 D (.lst (acc ++ [y]))) ∧ (upd H4 D (.lst (acc ++ [y]))) D = some (.lst (iVs ((List.range (j + 1)).map f)))) fun v H4 s4 hv => ?_
      cases (show v = V.int (f j) from hv)
      refine ⟨_, s4 _ _ h1, ?_, fun b o e => by rw [upd_ne (ne_of_none e hD)]; exact s4 _ _ (s1 b o e), ?_⟩
      · rw [iVs_len, List.length_map, List.length_range]
        omega
      · rw [upd_same, List.range_succ, List.map_append, iVs_app]
        rfl
  · rintro H ⟨s1, h1⟩
    exact hd H s1 h1
end
end Lk
namespace Lk
open PySem L2
theorem dun_pow : PySem.dunder "pow" = "__pow__" := by decide +kernel
theorem dunr_pow : dunderR "pow" = "__rpow__" := by decide +kernel
theorem nb_of {M L : Nat} {xs : List Int} (h : Bd M xs) (hl : xs.length ≤ L) : Nb (L * M) (co xs) := by
  have c : ∀ n, S (fun k => ((co xs k).natAbs : Int)) n ≤ (n : Int) * (M : Int) := fun n => by
    induction n with
    | zero => exact Int.le_of_eq (Int.zero_mul _).symm
    | succ n ih =>
      have h1 := h n
      show S (fun k => ((co xs k).natAbs : Int)) n + ((co xs n).natAbs : Int) ≤ ((n + 1 : Nat) : Int) * (M : Int)
      rw [show ((n + 1 : Nat) : Int) = (n : Int) + 1 from rfl, Int.add_mul, Int.one_mul]
      omega
  have mono : ∀ n, n ≤ L → (n : Int) * (M : Int) ≤ ((L * M : Nat) : Int) := fun n hn => by
    rw [Int.natCast_mul]
    exact Int.mul_le_mul_of_nonneg_right (by omega) (Int.natCast_nonneg _)
  intro n
  rcases Nat.le_total n L with l | l
  · exact Int.le_trans (c n) (mono n l)
  · rw [S_more l fun i h1 h2 => by rw [co_ge (by omega)]; rfl]
    exact Int.le_trans (c L) (mono L (Nat.le_refl _))
theorem cv_const (f : Nat → Int) (n : Int) (k : Nat) : cv f (co [n]) k = n * f k := by
  unfold cv
  show S (fun i => f i * co [n] (k - i)) k + f k * co [n] (k - k) = _
  rw [S_zero fun i hi => by rw [co_ge (xs := [n]) (by show 1 ≤ k - i; omega), Int.mul_zero], Nat.sub_self, Int.zero_add]
  exact Int.mul_comm _ _
theorem mul_one (xs : List Int) (n : Int) : trimI (mulI xs (trimI [n])) = trimI (scaleI n xs) := trim_ext fun k => by
  rw [co_mul, cv_congr (fun _ => rfl) (co_trim [n]), cv_const, co_scale]
theorem mul_comm' (xs ys : List Int) : trimI (mulI ys xs) = trimI (mulI xs ys) := trim_ext fun k => by rw [co_mul, co_mul, cv_comm]
theorem sm_of {m b : Nat} {xs : List Int} (h : Bd m xs) (l : m < 2 ^ b) (hb : b ≤ 400000) : Sm xs := fun k => Nat.lt_of_le_of_lt (h k) (Nat.lt_of_lt_of_le l (Nat.pow_le_pow_right (by decide) hb))
theorem sm_nil : Sm [] := fun k => by
  rw [co_nil]
  exact Nat.pow_pos (by decide)
/-- the n-th power, a polynomial -/
def isPw (K : PySem.W.Frag) (C : Addr) (f : Nat → Int) (n : Nat) : Hp → V → Prop := fun H v => ∃ row, IsPow f n row ∧ isP K C row H v
instance {K : PySem.W.Frag} {C : Addr} {f : Nat → Int} {n : Nat} : Up (isPw K C f n) := ⟨fun e ⟨r, h1, h2⟩ => ⟨r, h1, Up.up e h2⟩⟩
/-- arguments, each with its own property -/
def EvRA (ta : TA) (σ : L2.St) (H : Hp) (s n : Nat) (R : Nat → Hp → V → Prop) : Prop := ∀ H1, Same H H1 → ∀ Q : List V → Hp → Prop, (∀ vs H2, Same H1 H2 → vs.length = n → (∀ i v, vs[i]? = some v → R (s + i) H2 v) → Q vs H2) → ta σ H1 Q
section
variable {K : PySem.W.Frag} {C : Addr} {σ : L2.St} {H : Hp} {ta tb te : TE} {x y : V} {xs ys : List Int} {E : XK} {n : Int} {Q : VK} {m : Nat}
theorem era_nil {s : Nat} {R : Nat → Hp → V → Prop} : EvRA tNil σ H s 0 R := fun H1 _ Q q => q [] H1 (Same.refl _) rfl fun i v h => (by cases h)
theorem era_cons {s n : Nat} {R : Nat → Hp → V → Prop} {tr : TA} [∀ i, Up (R i)] (ha : EvR ta σ H (R s)) (hr : EvRA tr σ H (s + 1) n R) : EvRA (tCons ta tr) σ H s (n + 1) R := fun H1 e Q q =>
  ha H1 e _ fun v H2 e2 hv => hr H2 (e.trans e2) _ fun vs H3 e3 hl hvs => q (v :: vs) H3 (e2.trans e3) (by rw [List.length_cons, hl]) fun i w hw => by
    cases i with
    | zero =>
      cases hw
      exact Up.up e3 hv
    | succ i =>
      have := hvs i w hw
      rwa [show s + 1 + i = s + (i + 1) by omega] at this
theorem mul_P (hx : isP K C xs H x) (hy : isP K C ys H y) (lx : xs.length ≤ 2 ^ 18) (ly : ys.length ≤ 2 ^ 18) (bx : Sm xs) (by_ : Sm ys) (k : ∀ v H2, Same H H2 → isP K C (trimI (mulI xs ys)) H2 v → Q v H2) : rBin C (spMul K C) E x y H Q := by
  obtain ⟨p, rfl, hp⟩ := hx
  obtain ⟨q, rfl, hq⟩ := hy
  obtain ⟨dx, t, h1, h2⟩ := id hp
  obtain ⟨dx', t', h1', h2'⟩ := id hq
  exact ⟨p, dx, _, q, dx', _, rfl, rfl, h1, h1', p, xs, _, ys, rfl, hp, .inl ⟨q, rfl, hq⟩, lx, ly, bx, by_, fun o H' s' _ ho => k _ H' s' ⟨o, rfl, ho⟩⟩
theorem mul_I (hx : isP K C xs H x) (hy : y = .int n) (lx : xs.length ≤ 2 ^ 18) (bx : Sm xs) (bn : Sm [n]) (k : ∀ v H2, Same H H2 → isP K C (trimI (mulI xs (trimI [n]))) H2 v → Q v H2) : rBinI C (spMul K C) E x y H Q := by
  obtain ⟨p, rfl, hp⟩ := hx
  subst hy
  obtain ⟨dx, t, h1, h2⟩ := id hp
  exact ⟨p, dx, _, n, rfl, rfl, h1, p, xs, _, _, rfl, hp, .inr ⟨n, rfl, rfl⟩, lx, Nat.le_trans (trim_len [n]) (by show 1 ≤ 2 ^ 18; decide), bx, bn.trim, fun o H' s' _ ho => k _ H' s' ⟨o, rfl, ho⟩⟩
theorem rmul_R (hx : x = .int n) (hy : isP K C ys H y) (ly : ys.length ≤ 2 ^ 18) (by_ : Sm ys) (bn : Sm [n]) (k : ∀ v H2, Same H H2 → isP K C (trimI (mulI ys (trimI [n]))) H2 v → Q v H2) : rBinR C (spRmul K C) E x y H Q := by
  obtain ⟨p, rfl, hp⟩ := hy
  subst hx
  obtain ⟨dx, t, h1, h2⟩ := id hp
  exact ⟨p, dx, _, n, rfl, rfl, h1, p, ys, n, rfl, hp, ly, by_, bn, fun o H' s' _ ho => k _ H' s' ⟨o, rfl, ho⟩⟩
theorem pow_I (hx : isP K C xs H x) (hy : y = .int n) (tx : trimI xs = xs) (h0 : 0 ≤ n) (h1 : n ≤ 1000) (lx : xs.length ≤ 200) (m1 : 1 ≤ m) (hb : Nb m (co xs)) (hm : m < 2 ^ 300) (k : ∀ v H2, Same H H2 → isPw K C (co xs) n.toNat H2 v → Q v H2) : rBinI C (spPow K C) E x y H Q := by
  obtain ⟨p, rfl, hp⟩ := hx
  subst hy
  obtain ⟨dx, t, h1', h2⟩ := id hp
  exact ⟨p, dx, _, n, rfl, rfl, h1', p, xs, n, m, rfl, hp, tx, h0, h1, lx, m1, hb, hm, fun row pR o H' s' _ ho => k _ H' s' ⟨row, pR, o, rfl, ho⟩⟩
theorem er_mul (ha : EvR ta σ H (isP K C xs)) (hb : EvR tb σ H (isP K C ys)) (lx : xs.length ≤ 2 ^ 18) (ly : ys.length ≤ 2 ^ 18) (bx : Sm xs) (by_ : Sm ys) : EvR (tOp (rBin C (spMul K C) E) ta tb) σ H (isP K C (trimI (mulI xs ys))) := er_op ha hb fun _ _ _ _ hx hy _ k => mul_P hx hy lx ly bx by_ k
theorem er_mulI (ha : EvR ta σ H (isP K C xs)) (hb : EvR tb σ H (isV (.int n))) (lx : xs.length ≤ 2 ^ 18) (bx : Sm xs) (bn : Sm [n]) : EvR (tOp (rBinI C (spMul K C) E) ta tb) σ H (isP K C (trimI (mulI xs (trimI [n])))) := er_op ha hb fun _ _ _ _ hx hy _ k => mul_I hx hy lx bx bn k
theorem er_rmul (ha : EvR ta σ H (isV (.int n))) (hb : EvR tb σ H (isP K C ys)) (ly : ys.length ≤ 2 ^ 18) (by_ : Sm ys) (bn : Sm [n]) : EvR (tOp (rBinR C (spRmul K C) E) ta tb) σ H (isP K C (trimI (mulI ys (trimI [n])))) := er_op ha hb fun _ _ _ _ hx hy _ k => rmul_R hx hy ly by_ bn k
theorem er_pow (ha : EvR ta σ H (isP K C xs)) (hb : EvR tb σ H (isV (.int n))) (tx : trimI xs = xs) (h0 : 0 ≤ n) (h1 : n ≤ 1000) (lx : xs.length ≤ 200) (m1 : 1 ≤ m) (hb' : Nb m (co xs)) (hm : m < 2 ^ 300) : EvR (tOp (rBinI C (spPow K C) E) ta tb) σ H (isPw K C (co xs) n.toNat) := er_op ha hb fun _ _ _ _ hx hy _ k => pow_I hx hy tx h0 h1 lx m1 hb' hm k
theorem er_ltimes (ha : EvR ta σ H (isL K xs)) (hb : EvR tb σ H (isL K ys)) (lx : xs.length ≤ 50000) (ly : ys.length ≤ 50000) (bx : Sm xs) (by_ : Sm ys) : EvR (tCall (spLawTimes K) [] E (tCons ta (tCons tb tNil))) σ H (isL K (trimI (mulI xs ys))) :=
  er_call2 ha hb fun H1 _ _ ⟨p, ex, hp⟩ ⟨q, ey, hq⟩ Q k => ⟨p, q, xs, ys, by rw [ex, ey], hp, hq, lx, ly, bx, by_, fun l H2 s2 _ h2 => k _ H2 s2 ⟨l, rfl, SqL.of h2⟩⟩
/-- the row of a power -/
theorem er_rowPw {f : Nat → Int} {i : Nat} {row : List Int} (ha : EvR ta σ H (isPw K C f i)) (hr : IsPow f i row) : EvR (tCall (spRow K C) [] E (tCons ta tNil)) σ H (isL K row) :=
  er_row (ha.imp fun H v ⟨r, h1, h2⟩ => (h1.uniq hr fun _ => rfl) ▸ h2) hr.1
end
end Lk
namespace Lk
open PySem L2
/-- a loop over a list display whose elements may lay new objects -/
theorem q_forA {K : PySem.W.Frag} {σ : L2.St} {H : Hp} {ta : TA} {s n : Nat} {R : Nat → Hp → V → Prop} [hR : ∀ i, Up (R i)] {g : TG} {tb t2 : TS} {D : Ends} (h : EvRA ta σ H s n R) (hn : n ≤ sizeLine) (Pv : Addr → List V → Nat → L2.St → Hp → Prop)
    (h0 : ∀ p vs H1, Same H H1 → vs.length = n → (∀ i v, vs[i]? = some v → R (s + i) H1 v) → H1 p = some (.lst vs) → Pv p vs 0 σ H1) (hl : ∀ p vs i σ' H', Pv p vs i σ' H' → H' p = some (.lst vs))
    (hs : ∀ p vs i x σ' H', vs.length = n → vs[i]? = some x → Pv p vs i σ' H' → g x σ' H' fun σ2 H2 => tb { D with nx := Pv p vs (i + 1), ct := Pv p vs (i + 1), bk := t2 D } σ2 H2)
    (hd : ∀ p vs σ' H', Pv p vs n σ' H' → t2 D σ' H') : tSeq (tFor (iList K (tLst ta)) g tb) t2 D σ H :=
  h H (Same.refl _) _ fun vs H2 s2 hlen hv => ⟨by rw [hlen]; exact hn, fun p hp => ⟨p, rfl, ⟨vs, SqL.of upd_same⟩, for_list (K := K) (a := p) (xs := vs) (D := { D with nx := t2 D }) (Pv p vs)
    (h0 p vs _ (s2.trans (same_upd hp)) hlen (fun i v e => Up.up (same_upd hp) (hv i v e)) upd_same) (fun i σ' H' _ q => SqL.of (hl p vs i σ' H' q)) (fun i x σ' H' e q => hs p vs i x σ' H' hlen e q) (fun σ' H' q => hd p vs σ' H' (hlen ▸ q))⟩⟩
end Lk
/-! values of rows at a/d, times a power of d -/
namespace Lk
/-- Horner from the lowest power: the sum of f k * a ^ k * d ^ (n - 1 - k) -/
def VS (f : Nat → Int) (a d : Int) : Nat → Int
  | 0 => 0
  | n + 1 => VS f a d n * d + f n * a ^ n
theorem VS_congr {f g : Nat → Int} {a d : Int} : ∀ {n : Nat}, (∀ i, i < n → f i = g i) → VS f a d n = VS g a d n
  | 0, _ => rfl
  | n + 1, h => by
    show VS f a d n * d + f n * a ^ n = VS g a d n * d + g n * a ^ n
    rw [VS_congr fun i hi => h i (by omega), h n (by omega)]
theorem VS_head (a d : Int) : ∀ (n : Nat) (f : Nat → Int), VS f a d (n + 1) = VS (fun k => f (k + 1)) a d n * a + f 0 * d ^ n
  | 0, f => by show 0 * d + f 0 * a ^ 0 = 0 * a + f 0 * d ^ 0; rw [Int.pow_zero, Int.pow_zero, Int.zero_mul, Int.zero_mul]
  | n + 1, f => by
    show VS f a d (n + 1) * d + f (n + 1) * a ^ (n + 1) = (VS (fun k => f (k + 1)) a d n * d + f (n + 1) * a ^ n) * a + f 0 * d ^ (n + 1)
    rw [VS_head a d n f, Int.pow_succ, Int.pow_succ]
    generalize VS (fun k => f (k + 1)) a d n = v
    generalize a ^ n = p
    generalize d ^ n = q
    grind
theorem VS_more {f : Nat → Int} {a d : Int} {n : Nat} (h : f n = 0) : VS f a d (n + 1) = VS f a d n * d := by
  show VS f a d n * d + f n * a ^ n = _
  rw [h, Int.zero_mul, Int.add_zero]
theorem VS_far {f : Nat → Int} {a d : Int} {n : Nat} (h : ∀ k, n ≤ k → f k = 0) (j : Nat) : VS f a d (n + j) = VS f a d n * d ^ j := by
  induction j with
  | zero => rw [Int.pow_zero, Int.mul_one]; rfl
  | succ j ih =>
    rw [← Nat.add_assoc, VS_more (h _ (by omega)), ih, Int.pow_succ, Int.mul_assoc]
theorem VS_low {f : Nat → Int} {a d : Int} : ∀ {n : Nat}, (∀ k, k < n → f k = 0) → VS f a d n = 0
  | 0, _ => rfl
  | n + 1, h => by
    show VS f a d n * d + f n * a ^ n = 0
    rw [VS_low fun k hk => h k (by omega), h n (by omega), Int.zero_mul, Int.zero_mul, Int.add_zero]
/-- sizes -/
theorem VS_bd {f : Nat → Int} {a d : Int} {c m : Nat} (hf : ∀ k, (f k).natAbs < 2 ^ c) (ha : a.natAbs < 2 ^ m) (hd : d.natAbs < 2 ^ m) : ∀ n, (VS f a d n).natAbs < 2 ^ (c + (m + 1) * n)
  | 0 => by show (0 : Int).natAbs < _; exact Nat.pow_pos (by decide)
  | n + 1 => by
    have ih := VS_bd hf ha hd n
    show (VS f a d n * d + f n * a ^ n).natAbs < _
    have h1 : (VS f a d n * d).natAbs < 2 ^ (c + (m + 1) * n + m) := by
      rw [Int.natAbs_mul, Nat.pow_add]
      exact Nat.mul_lt_mul'' ih hd
    have h2 : (f n * a ^ n).natAbs < 2 ^ (c + (m + 1) * n + m) := by
      rw [Int.natAbs_mul, Int.natAbs_pow]
      have p1 : a.natAbs ^ n ≤ (2 ^ m) ^ n := Nat.pow_le_pow_left (Nat.le_of_lt ha) n
      rw [← Nat.pow_mul] at p1
      have p2 : (f n).natAbs * a.natAbs ^ n < 2 ^ c * 2 ^ (m * n) := Nat.lt_of_le_of_lt (Nat.mul_le_mul_left _ p1) (Nat.mul_lt_mul_of_pos_right (hf n) (Nat.pow_pos (by decide)))
      rw [← Nat.pow_add] at p2
      refine Nat.lt_of_lt_of_le p2 (Nat.pow_le_pow_right (by decide) ?_)
      rw [Nat.add_mul]
      omega
    have e : c + (m + 1) * (n + 1) = (c + (m + 1) * n + m) + 1 := by rw [Nat.mul_succ]; omega
    rw [e, Nat.pow_succ]
    omega
theorem pow_bd {d : Int} {m : Nat} (hd : d.natAbs < 2 ^ m) (i : Nat) : (d ^ i).natAbs ≤ 2 ^ (m * i) := by
  rw [Int.natAbs_pow, Nat.pow_mul]
  exact Nat.pow_le_pow_left (Nat.le_of_lt hd) i
theorem pow_lt' {d : Int} {m : Nat} (hd : d.natAbs < 2 ^ m) (i : Nat) : (d ^ i).natAbs < 2 ^ (m * i + 1) := Nat.lt_of_le_of_lt (pow_bd hd i) (Nat.pow_lt_pow_right (by decide) (by omega))
/-- the steps by which a common divisor is taken out -/
theorem vr_step {V T B d : Int} {i : Nat} (h : V * B = T * d ^ i) (hd : 0 < d) (hB : 1 ≤ B) (hg : Nat.gcd T.natAbs B.natAbs = 1) :
    V * (B * (d / ((Nat.gcd T.natAbs d.natAbs : Nat) : Int))) = T / ((Nat.gcd T.natAbs d.natAbs : Nat) : Int) * d ^ (i + 1) ∧ 1 ≤ B * (d / ((Nat.gcd T.natAbs d.natAbs : Nat) : Int)) ∧ B * (d / ((Nat.gcd T.natAbs d.natAbs : Nat) : Int)) ≤ B * d ∧
      Nat.gcd (T / ((Nat.gcd T.natAbs d.natAbs : Nat) : Int)).natAbs (B * (d / ((Nat.gcd T.natAbs d.natAbs : Nat) : Int))).natAbs = 1 ∧ (T / ((Nat.gcd T.natAbs d.natAbs : Nat) : Int)).natAbs ≤ T.natAbs := by
  have gpos : 0 < Nat.gcd T.natAbs d.natAbs := Nat.gcd_pos_of_pos_right _ (by omega)
  have dT : ((Nat.gcd T.natAbs d.natAbs : Nat) : Int) ∣ T := Int.natAbs_dvd_natAbs.mp (by rw [Int.natAbs_natCast]; exact Nat.gcd_dvd_left _ _)
  have dD : ((Nat.gcd T.natAbs d.natAbs : Nat) : Int) ∣ d := Int.natAbs_dvd_natAbs.mp (by rw [Int.natAbs_natCast]; exact Nat.gcd_dvd_right _ _)
  have eT := Int.ediv_mul_cancel dT
  have eD := Int.ediv_mul_cancel dD
  have aT : (T / ((Nat.gcd T.natAbs d.natAbs : Nat) : Int)).natAbs = T.natAbs / Nat.gcd T.natAbs d.natAbs := by
    rw [Int.natAbs_ediv, if_pos (.inr (.inr dT)), Int.natAbs_natCast]
    rfl
  have aD : (d / ((Nat.gcd T.natAbs d.natAbs : Nat) : Int)).natAbs = d.natAbs / Nat.gcd T.natAbs d.natAbs := by
    rw [Int.natAbs_ediv, if_pos (.inr (.inr dD)), Int.natAbs_natCast]
    rfl
  have cop : Nat.Coprime (T.natAbs / Nat.gcd T.natAbs d.natAbs) (d.natAbs / Nat.gcd T.natAbs d.natAbs) := Nat.coprime_div_gcd_div_gcd gpos
  have cop2 : Nat.Coprime (T.natAbs / Nat.gcd T.natAbs d.natAbs) B.natAbs := Nat.Coprime.coprime_div_left hg (Nat.gcd_dvd_left _ _)
  have g0 : ((Nat.gcd T.natAbs d.natAbs : Nat) : Int) ≠ 0 := by omega
  have q1 : 1 ≤ d / ((Nat.gcd T.natAbs d.natAbs : Nat) : Int) := by
    by_cases z : 1 ≤ d / ((Nat.gcd T.natAbs d.natAbs : Nat) : Int)
    · exact z
    · have : d / ((Nat.gcd T.natAbs d.natAbs : Nat) : Int) * ((Nat.gcd T.natAbs d.natAbs : Nat) : Int) ≤ 0 := Int.mul_nonpos_of_nonpos_of_nonneg (by omega) (by omega)
      omega
  have q2 : d / ((Nat.gcd T.natAbs d.natAbs : Nat) : Int) ≤ d := by
    have : d / ((Nat.gcd T.natAbs d.natAbs : Nat) : Int) * 1 ≤ d / ((Nat.gcd T.natAbs d.natAbs : Nat) : Int) * ((Nat.gcd T.natAbs d.natAbs : Nat) : Int) := Int.mul_le_mul_of_nonneg_left (by omega) (by omega)
    omega
  refine ⟨?_, ?_, Int.mul_le_mul_of_nonneg_left q2 (by omega), ?_, ?_⟩
  · refine Int.eq_of_mul_eq_mul_right g0 ?_
    rw [Int.pow_succ]
    generalize ((Nat.gcd T.natAbs d.natAbs : Nat) : Int) = g at *
    generalize d / g = x at *
    generalize T / g = y at *
    generalize d ^ i = p at *
    grind
  · have := Int.mul_le_mul hB q1 (by decide) (by omega)
    omega
  · rw [Int.natAbs_mul, aT, aD]
    exact Nat.Coprime.mul_right cop2 cop
  · rw [aT]
    exact Nat.div_le_self _ _
/-- the lowest terms of V * d / d ^ n -/
theorem vr_end {V T B d : Int} {n i : Nat} (h : V * B = T * d ^ i) (hd : 0 < d) (hB : 1 ≤ B) (hg : Nat.gcd T.natAbs B.natAbs = 1) (hn : n = i + 1 ∨ (n = 0 ∧ i = 0 ∧ V = 0)) : T = ratN (V * d) (d ^ n) ∧ B = ratD (V * d) (d ^ n) := by
  have hp : ∀ j : Nat, d ^ j ≠ 0 := fun j => Int.pow_ne_zero (by omega)
  have e := rat_cross (n := V * d) (hp n)
  have lo : Low T B := ⟨hB, hg⟩
  have l2 := rat_low (n := V * d) (hp n)
  refine low_unique lo l2 ?_
  rcases hn with e1 | ⟨e1, e2, e3⟩
  · subst e1
    have e4 : (T * ratD (V * d) (d ^ (i + 1))) * d ^ (i + 1) = (ratN (V * d) (d ^ (i + 1)) * B) * d ^ (i + 1) := by
      rw [Int.pow_succ] at e ⊢
      generalize ratD (V * d) (d ^ i * d) = x at *
      generalize ratN (V * d) (d ^ i * d) = y at *
      generalize d ^ i = p at *
      grind
    exact Int.eq_of_mul_eq_mul_right (hp _) e4
  · subst e1 e2 e3
    rw [Int.pow_zero, Int.zero_mul] at *
    rw [Int.mul_one] at h
    subst h
    rw [Int.zero_mul, Int.mul_one] at *
    rw [e, Int.zero_mul]
end Lk
/-! turning a tuple about by a slice with the step -1: what the machine does, and the rule for an expression -/
namespace HT
open PySem PySem.Spec PyProof.Rows
section
variable {prog : Program} {w : World} {A : Around} {E : Value → Shared → Prop} {s : Shared}
theorem rv_places (n : Nat) : Builtin.Slice.slicePlaces ((n : Int) - 1) (-1) (-1) = n := by
  simp only [Builtin.Slice.slicePlaces, show ¬ ((-1 : Int) > 0) by decide, if_false, show (- -1 : Int) = 1 by decide, Int.ediv_one]
  split <;> omega
/-- the items that such a slice picks -/
theorem rv_pick (xs : Array Value) : ((List.range xs.size).filterMap fun (m : Nat) => xs[(((xs.size : Int) - 1) + (m : Int) * (-1)).toNat]?).toArray = xs.toList.reverse.toArray := by
  have e : (fun (m : Nat) => xs[(((xs.size : Int) - 1) + (m : Int) * (-1)).toNat]?) = (fun j => xs[j]?) ∘ fun m => xs.size - 1 - m := funext fun m => by
    show xs[(((xs.size : Int) - 1) + (m : Int) * (-1)).toNat]? = xs[xs.size - 1 - m]?
    rw [show (((xs.size : Int) - 1) + (m : Int) * (-1)).toNat = xs.size - 1 - m by omega]
  rw [e, ← List.filterMap_map, PySem.W.krv_range, List.filterMap_reverse, PySem.W.krv_all]
theorem rv_applied {sl : Addr} {vl vu vs : Value} {n : Nat} {Q : Int × Int × Nat → Shared → Prop} (S : s.heap.IsSliceOf sl vl vu vs) (p1 : IsPart vl none) (p2 : IsPart vu none) (p3 : IsPart vs (some (-1)))
    (h : Q ((n : Int) - 1, -1, n) s) : wpAny (model prog w) A (Builtin.Slice.sliceApplied (.ref sl) (pure (n : Int))) Q E s := by
  obtain ⟨_, h1, _, h2⟩ := id S
  have fin : wpAny (model prog w) A (pure ((n : Int) - 1, (-1 : Int), Builtin.Slice.slicePlaces ((n : Int) - 1) (-1) (-1))) Q E s := by rw [rv_places]; exact wpAny_pure h
  unfold Builtin.Slice.sliceApplied Builtin.Slice.sliceFields
  exact wpAny_bind (wpAny_bind (wpAny_field h1 h2 (x := vl) rfl (wpAny_bind (wpAny_field h1 h2 (x := vu) rfl (wpAny_bind (wpAny_field h1 h2 (x := vs) rfl (wpAny_pure (wpAny_bind (slicePart_ p3 (by
    show wpAny _ _ (if ((-1 : Int) == 0) = true then _ else _) _ _ s
    rw [if_neg (by decide)]
    exact wpAny_bind (slicePart_ p1 (wpAny_bind (slicePart_ p2 (wpAny_bind (wpAny_pure fin)))))))))))))))
theorem rv_item {t sl : Addr} {its : Array Value} {vl vu vs : Value} {Q : Value → Shared → Prop} (T : IsTup s.heap t its) (S : s.heap.IsSliceOf sl vl vu vs) (p1 : IsPart vl none) (p2 : IsPart vu none) (p3 : IsPart vs (some (-1))) (hz : its.size ≤ sizeLine)
    (h : Q (.ref s.heap.objs.size) { s with heap := s.heap.push { cls := .type "tuple", data := .seq its.toList.reverse.toArray } }) : wpAny (model prog w) A (getItem (.ref t) (.ref sl)) Q E s := by
  have room : sizeOk (.seq its.toList.reverse.toArray) := by
    show its.toList.reverse.toArray.size ≤ sizeLine
    simpa using hz
  have S' := id S
  obtain ⟨os, h1, h2, _⟩ := S'
  unfold getItem
  try with_reducible refine wpAny_holding ?_
  first | refine wpAny_bind (wpAny_pure ?_) | skip
  refine wpAny_bind (wpAny_sequenceKey T.typeIs (by decide) (wpAny_bind (wpAny_callSpecial?_slot (name := Str.ofString "__getitem__") T.typeIs slot_tuple_getitem (wpAny_call_entry slot_tuple_getitem T.typeIs entry_tuple_getitem (?_ : wpAny _ _ (Builtin.Tuple.tupleItemsOf (.ref t) >>= _) _ _ s) (args_tuple_getitem _ _)))))
  have k0 : s.TypeIs (.ref sl) "slice" := ⟨os, h1, h2⟩
  refine wpAny_bind (tupleItemsOf_ T (wpAny_bind (wpAny_typeOf k0 ?_)))
  rw [if_pos (by decide)]
  refine wpAny_bind (rv_applied S p1 p2 p3 (?_ : wpAny _ _ (if (((its.size : Int) - 1) == 0 && (-1 : Int) == 1 && its.size == its.size) = true then _ else _) _ _ s))
  rw [if_neg (by simp), rv_pick]
  first
    | exact wpAny_bind (m := Builtin.Tuple.tupleExact _) (wpAny_newObj_type (wpAny_pure ⟨_, rfl, wpAny_pure h⟩) room)
    | exact wpAny_bind (wpAny_bind (m := Builtin.Tuple.tupleExact _) (wpAny_newObj_type (wpAny_pure (wpAny_pure ⟨_, rfl, wpAny_pure h⟩)) room))
    | exact wpAny_bind (m := Builtin.Tuple.tupleExact _) (wpAny_newObj_type (wpAny_bind (wpAny_pure (wpAny_pure ⟨_, rfl, wpAny_pure h⟩))) room)
    | exact wpAny_bind (wpAny_bind (m := Builtin.Tuple.tupleExact _) (wpAny_newObj_type (wpAny_pure ⟨_, rfl, wpAny_pure h⟩) room))
end
end HT
namespace Lk
open PySem L2 PySem.Spec PyProof.Rows HT
/-- a list, or a tuple, turned about: a new object of the same kind -/
def tRevI (K : PySem.W.Frag) (te : TE) : TE := fun σ H Q => te σ H fun x H1 => ∃ a xs, x = .ref a ∧ ((SqL K H1 a xs ∧ ∀ p, H1 p = none → Q (.ref p) (upd H1 p (.lst xs.reverse))) ∨ (SqT K H1 a xs ∧ ∀ p, H1 p = none → Q (.ref p) (upd H1 p (.tup xs.reverse))))
section
variable {X : Cx}
theorem pe_revI {e : Expr} {te : TE} {k : Nat} {p1 p2 p3 pos : Pos} (he : PE X e te) : PE X (.Subscript e (.Slice none none (some (.UnaryOp .USub (.Constant (.int 1) k p1) p2)) p3) pos) (tRevI X.K te) := ⟨fun pins s σ H Q I h => by
  refine Subscript_ (thn (he.run pins s σ H _ I h) fun v s1 ⟨x, H1, I1, r1, a, xs, ex, q⟩ => ?_)
  subst ex
  cases r1
  have back : PO X (some (.UnaryOp .USub (.Constant (.int 1) k p1) p2)) (tPart (tUn (rU fun i => .int (-i)) (tC (.int 1)))) := po_some (pe_un un_neg pe_int)
  refine wpAny_Slice (thn (po_none.run pins s1 σ H1 (fun o K1 => o = none ∧ K1 = H1) I1 ⟨rfl, rfl⟩) fun vl s2 ⟨_, _, I2, pl, e1, e2⟩ => ?_)
  subst e1 e2
  refine thn (po_none.run pins s2 σ _ (fun o K1 => o = none ∧ K1 = _) I2 ⟨rfl, rfl⟩) fun vu s3 ⟨_, _, I3, pu, e1, e2⟩ => ?_
  subst e1 e2
  refine thn (back.run pins s3 σ _ (fun o K1 => o = some (-1) ∧ K1 = _) I3 ⟨1, rfl, -1, rfl, rfl, rfl⟩) fun vs s4 ⟨_, H4, I4, ps, e1, e2⟩ => ?_
  subst e1 e2
  have I5 : Inv X pins σ _ { s4 with heap := s4.heap.push { cls := .type "slice", data := .fields #[vl, vu, vs] } } := I4.kept (t' := s4.toks) fun _ _ q => Heap.get?_push_of_some _ q
  have free := I5.hok.fresh (Nat.le_refl _)
  show wpAny (model X.prog X.w) X.A (subscriptTail e (.Slice none none (some (.UnaryOp .USub (.Constant (.int 1) k p1) p2)) p3) (.ref a) (.ref s4.heap.objs.size)) (EP X pins σ Q) X.xe _
  rcases q with ⟨hx, q⟩ | ⟨hx, q⟩
  · obtain ⟨its, r, L, hz⟩ := I5.list hx
    have n1 := r.length
    refine tail_any (ops := [.ref a, .ref s4.heap.objs.size]) L.isList.typeIs PySem.slot_list_getitem.lookup (wpAny_getItem_list_slice L.isList (Heap.IsSliceOf.new _ vl vu vs) pl pu ps (by decide) ?_ (by rw [List.size_toArray]; omega)) (by with_unfolding_all rfl)
    rw [PySem.W.krv_pick]
    exact ⟨.ref _, _, I5.laid (t' := s4.toks) (o := .lst xs.reverse) (fun _ _ q => Heap.get?_push_of_some _ q) (Nat.le_refl _) ⟨by rw [List.length_reverse]; exact hz, _, 0, r.reverse, Heap.get?_push_size _ rfl⟩, rfl, q _ free⟩
  · obtain ⟨its, r, L, hz⟩ := I5.tuple hx
    have n1 := r.length
    refine tail_any (ops := [.ref a, .ref s4.heap.objs.size]) L.typeIs slot_tuple_getitem.lookup (rv_item L (Heap.IsSliceOf.new _ vl vu vs) pl pu ps (by rw [List.size_toArray]; omega) ?_) (by with_unfolding_all rfl)
    exact ⟨.ref _, _, I5.laid (t' := s4.toks) (o := .tup xs.reverse) (fun _ _ q => Heap.get?_push_of_some _ q) (Nat.le_refl _) ⟨by rw [List.length_reverse]; exact hz, _, r.reverse, IsTup.new _ _⟩, rfl, q _ free⟩⟩
end
end Lk
/-! paths: the powers of x and of 1 - x; the numbers of orders -/
namespace Lk
def Xc : Nat → Int := co [0, 1]
def Yc : Nat → Int := co [1, -1]
/-- the coefficients of x ^ w * (1 - x) ^ l -/
def Pc (w l : Nat) : Nat → Int := cv (pw Xc w) (pw Yc l)
theorem Xc_at (k : Nat) : Xc k = if k = 1 then 1 else 0 := by
  match k with
  | 0 => rfl
  | 1 => rfl
  | k + 2 => rfl
theorem Yc_at (k : Nat) : Yc k = if k = 0 then 1 else if k = 1 then -1 else 0 := by
  match k with
  | 0 => rfl
  | 1 => rfl
  | k + 2 => rfl
theorem XY (k : Nat) : Xc k + Yc k = oneC k := by
  match k with
  | 0 => rfl
  | 1 => rfl
  | k + 2 => rfl
theorem cv_X (g : Nat → Int) (k : Nat) : cv Xc g k = if k = 0 then 0 else g (k - 1) := by
  cases k with
  | zero => show 0 + Xc 0 * g (0 - 0) = 0; rw [show Xc 0 = 0 from rfl]; omega
  | succ k =>
    rw [if_neg (by omega)]
    unfold cv
    rw [S_head, S_head, S_zero fun i hi => by rw [Xc_at, if_neg (by omega), Int.zero_mul]]
    show Xc 0 * g (k + 1 - 0) + (Xc (0 + 1) * g (k + 1 - (0 + 1)) + 0) = _
    rw [show Xc 0 = 0 from rfl, show Xc (0 + 1) = 1 from rfl, Int.zero_mul, Int.one_mul, show k + 1 - (0 + 1) = k + 1 - 1 from rfl]
    omega
theorem cv_Y (g : Nat → Int) (k : Nat) : cv g Yc k = g k - (if k = 0 then 0 else g (k - 1)) := by
  rw [cv_comm]
  cases k with
  | zero =>
    show 0 + Yc 0 * g (0 - 0) = _
    rw [show Yc 0 = 1 from rfl, if_pos rfl, Int.one_mul, Nat.sub_zero]
    omega
  | succ k =>
    rw [if_neg (by omega)]
    unfold cv
    rw [S_head, S_head, S_zero fun i hi => by rw [Yc_at, if_neg (by omega), if_neg (by omega), Int.zero_mul]]
    show Yc 0 * g (k + 1 - 0) + (Yc (0 + 1) * g (k + 1 - (0 + 1)) + 0) = _
    rw [show Yc 0 = 1 from rfl, show Yc (0 + 1) = -1 from rfl, Int.one_mul, Nat.sub_zero, show k + 1 - (0 + 1) = k + 1 - 1 from rfl]
    omega
theorem pwX_cv (w : Nat) : ∀ (g : Nat → Int) (k : Nat), cv (pw Xc w) g k = if k < w then 0 else g (k - w) := by
  induction w with
  | zero => intro g k; rw [if_neg (by omega)]; exact one_cv g k
  | succ w ih =>
    intro g k
    show cv (cv (pw Xc w) Xc) g k = _
    rw [cv_assoc, ih, cv_X]
    by_cases h : k < w
    · rw [if_pos h, if_pos (by omega)]
    · by_cases h2 : k = w
      · rw [if_neg h, if_pos (by omega), if_pos (by omega)]
      · rw [if_neg h, if_neg (by omega), if_neg (by omega), show k - w - 1 = k - (w + 1) by omega]
theorem Pc_at (w l k : Nat) : Pc w l k = if k < w then 0 else pw Yc l (k - w) := pwX_cv w _ k
/-- 1 - x: beyond the power there is nothing, and at it 1 or -1 -/
theorem pwY_far (l : Nat) : ∀ k, l < k → pw Yc l k = 0 := by
  induction l with
  | zero => intro k hk; exact if_neg (by omega)
  | succ l ih =>
    intro k hk
    show cv (pw Yc l) Yc k = 0
    rw [cv_Y, ih k (by omega), if_neg (by omega), ih (k - 1) (by omega)]
    rfl
theorem pwY_end (l : Nat) : (pw Yc l l).natAbs = 1 := by
  induction l with
  | zero => rfl
  | succ l ih =>
    show (cv (pw Yc l) Yc (l + 1)).natAbs = 1
    rw [cv_Y, pwY_far l (l + 1) (by omega), if_neg (by omega), show l + 1 - 1 = l from rfl]
    omega
theorem Pc_far {w l k : Nat} (h : w + l < k) : Pc w l k = 0 := by
  rw [Pc_at, if_neg (by omega), pwY_far l _ (by omega)]
theorem Pc_end (w l : Nat) : Pc w l (w + l) ≠ 0 := by
  rw [Pc_at, if_neg (by omega), show w + l - w = l by omega]
  have := pwY_end l
  omega
theorem nbX : Nb 1 Xc := nb_1 where
  nb_1 : Nb 1 Xc := fun n => by
    rcases Nat.le_total n 2 with h | h
    · match n, h with
      | 0, _ => decide
      | 1, _ => decide
      | 2, _ => decide
    · rw [S_more h fun i h1 _ => by rw [Xc_at, if_neg (by omega)]; rfl]
      decide
theorem nbY : Nb 2 Yc := fun n => by
  rcases Nat.le_total n 2 with h | h
  · match n, h with
    | 0, _ => decide
    | 1, _ => decide
    | 2, _ => decide
  · rw [S_more h fun i h1 _ => by rw [Yc_at, if_neg (by omega), if_neg (by omega)]; rfl]
    decide
theorem Pc_bd (w l k : Nat) : (Pc w l k).natAbs ≤ 2 ^ l := by
  have := ((nbX.pw w).mul (nbY.pw l)).at k
  rw [Nat.one_pow, Nat.one_mul] at this
  exact this
theorem cv_add (f g h : Nat → Int) (k : Nat) : cv f (fun i => g i + h i) k = cv f g k + cv f h k := by
  unfold cv
  rw [← S_add]
  exact S_congr fun i _ => Int.mul_add _ _ _
theorem Pc_step (k l j : Nat) : Pc (k + 1) l j + Pc k (l + 1) j = Pc k l j := by
  have e1 : Pc (k + 1) l j = cv (Pc k l) Xc j := by
    show cv (cv (pw Xc k) Xc) (pw Yc l) j = cv (cv (pw Xc k) (pw Yc l)) Xc j
    rw [cv_assoc, cv_assoc]
    exact cv_congr (fun _ => rfl) (fun i => cv_comm _ _ i) j
  have e2 : Pc k (l + 1) j = cv (Pc k l) Yc j := (cv_assoc _ _ _ _).symm
  rw [e1, e2, ← cv_add, cv_congr (g := fun i => Xc i + Yc i) (g' := oneC) (fun _ => rfl) XY, cv_comm, one_cv]
/-- the number of orders of t tries with k wins -/
def bn : Nat → Nat → Int
  | 0, k => if k = 0 then 1 else 0
  | _ + 1, 0 => 1
  | t + 1, k + 1 => bn t k + bn t (k + 1)
theorem bn_zero (t : Nat) : bn t 0 = 1 := by
  cases t <;> rfl
theorem bn_far (t : Nat) : ∀ k, t < k → bn t k = 0 := by
  induction t with
  | zero => intro k hk; exact if_neg (by omega)
  | succ t ih =>
    intro k hk
    match k, hk with
    | k + 1, hk =>
      show bn t k + bn t (k + 1) = 0
      rw [ih k (by omega), ih (k + 1) (by omega)]
      rfl
theorem bn_end (t : Nat) : bn t t = 1 := by
  induction t with
  | zero => rfl
  | succ t ih =>
    show bn t t + bn t (t + 1) = 1
    rw [ih, bn_far t (t + 1) (by omega)]
    rfl
theorem bn_bd (t : Nat) : ∀ k, 0 ≤ bn t k ∧ bn t k ≤ 2 ^ t := by
  induction t with
  | zero => intro k; unfold bn; split <;> decide
  | succ t ih =>
    intro k
    have p : (1 : Int) ≤ 2 ^ t := by have := ih 0; rw [bn_zero] at this; exact this.2
    have e : (2 : Int) ^ (t + 1) = 2 ^ t * 2 := Int.pow_succ _ _
    match k with
    | 0 => exact ⟨by show (0 : Int) ≤ 1; decide, by show (1 : Int) ≤ 2 ^ (t + 1); omega⟩
    | k + 1 =>
      have a := ih k
      have b := ih (k + 1)
      show 0 ≤ bn t k + bn t (k + 1) ∧ bn t k + bn t (k + 1) ≤ 2 ^ (t + 1)
      omega
theorem binom (t : Nat) : ∀ j, S (fun k => bn t k * Pc k (t - k) j) (t + 1) = oneC j := by
  induction t with
  | zero =>
    intro j
    show 0 + bn 0 0 * Pc 0 (0 - 0) j = _
    rw [bn_zero, Pc_at, if_neg (by omega)]
    show 0 + 1 * oneC (j - 0) = _
    rw [Nat.sub_zero]
    omega
  | succ t ih =>
    intro j
    rw [S_head, bn_zero]
    have e1 : S (fun i => bn (t + 1) (i + 1) * Pc (i + 1) (t + 1 - (i + 1)) j) (t + 1) = S (fun i => bn t i * Pc (i + 1) (t - i) j) (t + 1) + S (fun i => bn t (i + 1) * Pc (i + 1) (t - (i + 1) + 1) j) (t + 1) := by
      rw [← S_add]
      refine S_congr fun i hi => ?_
      show (bn t i + bn t (i + 1)) * Pc (i + 1) (t + 1 - (i + 1)) j = bn t i * Pc (i + 1) (t - i) j + bn t (i + 1) * Pc (i + 1) (t - (i + 1) + 1) j
      rw [show t + 1 - (i + 1) = t - i by omega]
      rcases Nat.eq_or_lt_of_le (show i ≤ t by omega) with e | e
      · subst e
        rw [bn_far i (i + 1) (by omega), Int.add_zero, Int.zero_mul, Int.add_zero]
      · rw [show t - (i + 1) + 1 = t - i by omega, Int.add_mul]
    have e2 : (1 : Int) * Pc 0 (t + 1 - 0) j + S (fun i => bn t (i + 1) * Pc (i + 1) (t - (i + 1) + 1) j) (t + 1) = S (fun i => bn t i * Pc i (t - i + 1) j) (t + 1 + 1) := by
      rw [S_head (fun i => bn t i * Pc i (t - i + 1) j) (t + 1), bn_zero]
      rfl
    have e3 : S (fun i => bn t i * Pc i (t - i + 1) j) (t + 1 + 1) = S (fun i => bn t i * Pc i (t - i + 1) j) (t + 1) := by
      show _ + bn t (t + 1) * Pc (t + 1) (t - (t + 1) + 1) j = _
      rw [bn_far t (t + 1) (by omega), Int.zero_mul, Int.add_zero]
    rw [e1]
    have e4 : (1 : Int) * Pc 0 (t + 1 - 0) j + (S (fun i => bn t i * Pc (i + 1) (t - i) j) (t + 1) + S (fun i => bn t (i + 1) * Pc (i + 1) (t - (i + 1) + 1) j) (t + 1)) = S (fun i => bn t i * Pc (i + 1) (t - i) j) (t + 1) + S (fun i => bn t i * Pc i (t - i + 1) j) (t + 1) := by
      rw [← e3, ← e2]
      omega
    rw [e4, ← S_add, ← ih j]
    refine S_congr fun i hi => ?_
    rw [← Int.mul_add, Pc_step]
/-! values of paths -/
theorem VS_Y {p : Nat → Int} {a d : Int} : ∀ n, VS (cv p Yc) a d (n + 1) = VS p a d (n + 1) - a * VS p a d n
  | 0 => by
    show 0 * d + cv p Yc 0 * a ^ 0 = (0 * d + p 0 * a ^ 0) - a * 0
    rw [cv_Y, if_pos rfl, Int.sub_zero]
    omega
  | n + 1 => by
    show VS (cv p Yc) a d (n + 1) * d + cv p Yc (n + 1) * a ^ (n + 1) = (VS p a d (n + 1) * d + p (n + 1) * a ^ (n + 1)) - a * (VS p a d n * d + p n * a ^ n)
    rw [VS_Y n, cv_Y, if_neg (by omega), show n + 1 - 1 = n from rfl, Int.pow_succ]
    generalize VS p a d (n + 1) = u
    generalize VS p a d n = v
    generalize p (n + 1) = r
    generalize p n = q
    generalize a ^ n = z
    grind
theorem VS_pwY (a d : Int) (l : Nat) : VS (pw Yc l) a d (l + 1) = (d - a) ^ l := by
  induction l with
  | zero => show 0 * d + 1 * a ^ 0 = _; rw [Int.pow_zero, Int.pow_zero]; omega
  | succ l ih =>
    show VS (cv (pw Yc l) Yc) a d (l + 1 + 1) = _
    rw [VS_Y, VS_more (pwY_far l (l + 1) (by omega)), ih, Int.pow_succ]
    generalize (d - a) ^ l = z
    grind
theorem VS_Pc (a d : Int) (w l : Nat) : VS (Pc w l) a d (w + l + 1) = a ^ w * (d - a) ^ l := by
  rw [← VS_pwY]
  have : ∀ m, VS (Pc w l) a d (w + m) = a ^ w * VS (pw Yc l) a d m := fun m => by
    induction m with
    | zero => exact (VS_low fun k hk => by rw [Pc_at, if_pos (by omega)]).trans (Int.mul_zero _).symm
    | succ m ih =>
      show VS (Pc w l) a d (w + m) * d + Pc w l (w + m) * a ^ (w + m) = a ^ w * (VS (pw Yc l) a d m * d + pw Yc l m * a ^ m)
      rw [ih, Pc_at, if_neg (by omega), show w + m - w = m by omega, Int.pow_add]
      generalize VS (pw Yc l) a d m = u
      generalize pw Yc l m = v
      generalize a ^ w = z
      generalize a ^ m = y
      grind
  exact this (l + 1)
/-- the row of a path -/
def IsPath (w l : Nat) (row : List Int) : Prop := trimI row = row ∧ ∀ k, co row k = Pc w l k
end Lk
namespace Lk
open PySem L2
theorem co_app (xs ys : List Int) (k : Nat) : co (xs ++ ys) k = if k < xs.length then co xs k else co ys (k - xs.length) := by
  unfold co
  rw [List.getD_eq_getElem?_getD, List.getD_eq_getElem?_getD, List.getD_eq_getElem?_getD]
  by_cases h : k < xs.length
  · rw [if_pos h, List.getElem?_append_left h]
  · rw [if_neg h, List.getElem?_append_right (by omega)]
theorem Pc_X (k l j : Nat) : Pc (k + 1) l j = cv (Pc k l) Xc j := by
  show cv (cv (pw Xc k) Xc) (pw Yc l) j = cv (cv (pw Xc k) (pw Yc l)) Xc j
  rw [cv_assoc, cv_assoc]
  exact cv_congr (fun _ => rfl) (fun i => cv_comm _ _ i) j
theorem Pc_Y (k l j : Nat) : Pc k (l + 1) j = cv (Pc k l) Yc j := (cv_assoc _ _ _ _).symm
theorem IsPath.one : IsPath 0 0 [1] := ⟨rfl, fun k => by rw [co_one]; exact (one_cv oneC k).symm⟩
theorem IsPath.x {w l : Nat} {row : List Int} (h : IsPath w l row) : IsPath (w + 1) l (trimI (mulI row [0, 1])) := ⟨trim_trim _, fun k => by rw [co_trim, co_mul, Pc_X]; exact cv_congr h.2 (fun _ => rfl) k⟩
theorem IsPath.y {w l : Nat} {row : List Int} (h : IsPath w l row) : IsPath w (l + 1) (trimI (mulI row [1, -1])) := ⟨trim_trim _, fun k => by rw [co_trim, co_mul, Pc_Y]; exact cv_congr h.2 (fun _ => rfl) k⟩
theorem IsPath.of {w l : Nat} {R : List Int} (h : IsPow Yc l R) : IsPath w l (trimI ((List.range w).map (fun _ => (0 : Int)) ++ R)) := ⟨trim_trim _, fun k => by
  rw [co_trim, co_app, List.length_map, List.length_range, Pc_at]
  by_cases e : k < w
  · rw [if_pos e, if_pos e, co_range, if_pos e]
  · rw [if_neg e, if_neg e, h.2]⟩
theorem IsPath.uniq {w l : Nat} {xs ys : List Int} (h1 : IsPath w l xs) (h2 : IsPath w l ys) : xs = ys := by
  rw [← h1.1, ← h2.1]
  exact trim_ext fun k => by rw [h1.2, h2.2]
theorem IsPath.le {w l : Nat} {row : List Int} (h : IsPath w l row) : row.length ≤ w + l + 1 := len_le h.1 fun k hk => by rw [h.2]; exact Pc_far (by omega)
theorem IsPath.len {w l : Nat} {row : List Int} (h : IsPath w l row) : row.length = w + l + 1 := by
  have h1 := h.le
  by_cases e : w + l < row.length
  · omega
  · exact absurd ((h.2 _).symm.trans (co_ge (by omega))) (Pc_end w l)
theorem IsPath.bd {w l : Nat} {row : List Int} (h : IsPath w l row) : Bd (2 ^ l) row := fun k => by rw [h.2]; exact Pc_bd w l k
theorem IsPath.sm {w l : Nat} {row : List Int} (h : IsPath w l row) (hl : l ≤ 1000) : Sm row := fun k => Nat.lt_of_le_of_lt (h.bd k) (Nat.pow_lt_pow_right (by decide) (by omega))
def isPt (K : PySem.W.Frag) (C : Addr) (w l : Nat) : Hp → V → Prop := fun H v => ∃ row, IsPath w l row ∧ isP K C row H v
instance {K : PySem.W.Frag} {C : Addr} {w l : Nat} : Up (isPt K C w l) := ⟨fun e ⟨r, h1, h2⟩ => ⟨r, h1, Up.up e h2⟩⟩
def isPtL (K : PySem.W.Frag) (w l : Nat) : Hp → V → Prop := fun H v => ∃ row, IsPath w l row ∧ isL K row H v
instance {K : PySem.W.Frag} {w l : Nat} : Up (isPtL K w l) := ⟨fun e ⟨r, h1, h2⟩ => ⟨r, h1, Up.up e h2⟩⟩
def spPathP (K : PySem.W.Frag) (C : Addr) : Sp := fun vs H Q _ => ∃ (w l : Int), vs = [.ref C, .int w, .int l] ∧ 0 ≤ w ∧ w ≤ 1000 ∧ 0 ≤ l ∧ l ≤ 1000 ∧ ∀ row, IsPath w.toNat l.toNat row → Made K C H row Q
def spLawPath (K : PySem.W.Frag) : Sp := fun vs H Q _ => ∃ (w l : Int), vs = [.int w, .int l] ∧ 0 ≤ w ∧ w ≤ 1000 ∧ 0 ≤ l ∧ l ≤ 1000 ∧ ∀ p row H', Same H H' → IsPath w.toNat l.toNat row → SqL K H' p (iVs row) → Q (.ref p) H'
section
variable {K : PySem.W.Frag} {C : Addr} {σ : L2.St} {H H' : Hp} {ta tb te : TE} {R S T : Hp → V → Prop} {v w : V} {row row2 xs ys : List Int} {i : Nat} {E : XK} {n m : Int}
theorem er_path (ha : EvR ta σ H (isV (.int n))) (hb : EvR tb σ H (isV (.int m))) (h0 : 0 ≤ n) (h1 : n ≤ 1000) (h2 : 0 ≤ m) (h3 : m ≤ 1000) : EvR (ClX.tCMeth C (spPathP K C) E (tC (.ref C)) (tCons ta (tCons tb tNil))) σ H (isPt K C n.toNat m.toNat) := fun H1 e Q q =>
  ⟨rfl, ha H1 e _ fun x H2 e2 hx => hb H2 (e.trans e2) _ fun y H3 e3 hy => ⟨n, m, by rw [show x = V.int n from hx, show y = V.int m from hy], h0, h1, h2, h3, fun row hp o H4 s4 _ ho => q _ H4 ((e2.trans e3).trans s4) ⟨row, hp, o, rfl, ho⟩⟩⟩
theorem er_lpath (ha : EvR ta σ H (isV (.int n))) (hb : EvR tb σ H (isV (.int m))) (h0 : 0 ≤ n) (h1 : n ≤ 1000) (h2 : 0 ≤ m) (h3 : m ≤ 1000) : EvR (tCall (spLawPath K) [] E (tCons ta (tCons tb tNil))) σ H (isPtL K n.toNat m.toNat) :=
  er_call2 ha hb fun H1 _ _ hx hy Q k => ⟨n, m, by rw [show _ = V.int n from hx, show _ = V.int m from hy], h0, h1, h2, h3, fun p row H2 s2 hp h => k _ H2 s2 ⟨row, hp, p, rfl, h⟩⟩
/-- a comprehension over a range, as an expression -/
theorem er_lcR {f : Nat → Int} {j : Nat} (ha : EvR ta σ H (isV (.int n))) (h0 : -100000 ≤ n) (h1 : n ≤ 100000) (he : ∀ i H', i < n.toNat → Same H H' → Val te ((wipe σ [j]).set j (some (.int (0 + (i : Int))))) H' (.int (f i))) : EvR (tLc (iRng1 (tCons ta tNil)) (gName j) tYes te [j]) σ H (isN ((List.range n.toNat).map f)) := fun H1 e Q q =>
  ha H1 e _ fun v H2 e2 hv => ⟨n, by rw [show v = V.int n from hv], by omega, by omega, fun D hD => lcI f hD (by show n.toNat ≤ 2 ^ 24; omega) (fun i H' hi s => he i H' hi ((e.trans e2).trans s)) (fun H3 s3 h3 => q _ H3 (e2.trans s3) ⟨D, rfl, h3⟩)⟩
end
end Lk
namespace Pf
open PySem L2 Lk
def top (i : Nat) : Stmt := PySem.Challenge.pw_lookstop_k10_paths.main.body.getD i (.Pass ⟨0, 0, 0, 0⟩)
abbrev s_is_integer : Stmt := (top 9)
abbrev N_is_integer : List Str := ["value"]
abbrev s_trimmed : Stmt := (top 11)
abbrev N_trimmed : List Str := ["coefs", "size"]
abbrev s_plus : Stmt := (top 12)
abbrev N_plus : List Str := ["first", "second", "size", "place"]
abbrev s_negated : Stmt := (top 13)
abbrev N_negated : List Str := ["row", "coef"]
abbrev s_times : Stmt := (top 14)
abbrev N_times : List Str := ["first", "second", "place"]
abbrev s_power : Stmt := (top 15)
abbrev N_power : List Str := ["row", "exponent", "result", "square", "left"]
abbrev s_path_row : Stmt := (top 16)
abbrev N_path_row : List Str := ["wins", "losses", "_"]
abbrev s_value_at : Stmt := (top 19)
abbrev N_value_at : List Str := ["row", "num", "den", "total", "scale", "coef"]
abbrev s_value_ratio : Stmt := (top 20)
abbrev N_value_ratio : List Str := ["row", "num", "den"]
abbrev s_lowest_terms : Stmt := (top 21)
abbrev N_lowest_terms : List Str := ["top", "den", "exponent", "left", "bottom", "done", "shared"]
abbrev s_raised : Stmt := (top 24)
abbrev N_raised : List Str := ["number", "exponent", "result", "_"]
abbrev s__coef : Stmt := (top 25)
abbrev N__coef : List Str := ["row", "place"]
abbrev s__cross_sum : Stmt := (top 26)
abbrev N__cross_sum : List Str := ["first", "second", "place", "start", "stop", "at"]
abbrev s_Poly___init__ : Stmt := (inClass (top 60) 0)
abbrev N_Poly___init__ : List Str := ["self", "coefs"]
abbrev s_Poly_of : Stmt := (inClass (top 60) 1)
abbrev N_Poly_of : List Str := ["cls", "coefs"]
abbrev s_Poly_path : Stmt := (inClass (top 60) 2)
abbrev N_Poly_path : List Str := ["cls", "wins", "losses", "row"]
abbrev s_Poly_degree : Stmt := (inClass (top 60) 3)
abbrev N_Poly_degree : List Str := ["self"]
abbrev s_Poly___call__ : Stmt := (inClass (top 60) 5)
abbrev N_Poly___call__ : List Str := ["self", "at", "num", "den"]
abbrev s_Poly___len__ : Stmt := (inClass (top 60) 6)
abbrev N_Poly___len__ : List Str := ["self"]
abbrev s_Poly___repr__ : Stmt := (inClass (top 60) 7)
abbrev N_Poly___repr__ : List Str := ["self", "texts", "coef"]
abbrev s_Poly___getitem__ : Stmt := (inClass (top 60) 9)
abbrev N_Poly___getitem__ : List Str := ["self", "at"]
abbrev s_Poly___add__ : Stmt := (inClass (top 60) 10)
abbrev N_Poly___add__ : List Str := ["self", "other", "row", "total"]
abbrev s_Poly___radd__ : Stmt := (inClass (top 60) 11)
abbrev N_Poly___radd__ : List Str := ["self", "other"]
abbrev s_Poly___neg__ : Stmt := (inClass (top 60) 12)
abbrev N_Poly___neg__ : List Str := ["self", "row"]
abbrev s_Poly___sub__ : Stmt := (inClass (top 60) 13)
abbrev N_Poly___sub__ : List Str := ["self", "other", "row", "total"]
abbrev s_Poly___rsub__ : Stmt := (inClass (top 60) 14)
abbrev N_Poly___rsub__ : List Str := ["self", "other", "row", "total"]
abbrev s_Poly___mul__ : Stmt := (inClass (top 60) 15)
abbrev N_Poly___mul__ : List Str := ["self", "other", "row", "total"]
abbrev s_Poly___rmul__ : Stmt := (inClass (top 60) 16)
abbrev N_Poly___rmul__ : List Str := ["self", "other"]
abbrev s_Poly___pow__ : Stmt := (inClass (top 60) 18)
abbrev N_Poly___pow__ : List Str := ["self", "other", "row"]
abbrev s_Poly___eq__ : Stmt := (inClass (top 60) 19)
abbrev N_Poly___eq__ : List Str := ["self", "other"]
abbrev s__row_of : Stmt := (top 61)
abbrev N__row_of : List Str := ["value"]
abbrev s__law_box : Stmt := (top 63)
abbrev N__law_box : List Str := ["_law_script", "_law_cell"]
abbrev s__law_take : Stmt := (top 64)
abbrev N__law_take : List Str := ["_law_box_here", "_law_size", "_law_cells", "_law_worth", "_law_at", "_law_digit", "_law_stirred"]
abbrev s__law_gcd : Stmt := (top 65)
abbrev N__law_gcd : List Str := ["_law_a", "_law_b"]
abbrev s__law_ratio : Stmt := (top 66)
abbrev N__law_ratio : List Str := ["_law_num", "_law_den", "_law_divisor"]
abbrev s__law_share : Stmt := (top 67)
abbrev N__law_share : List Str := ["_law_box_here", "_law_most", "_law_den"]
abbrev s__law_is_integer : Stmt := (top 68)
abbrev N__law_is_integer : List Str := ["_law_value"]
abbrev s__law_row : Stmt := (top 69)
abbrev N__law_row : List Str := ["_law_poly", "_law_x"]
abbrev s__law_trim : Stmt := (top 70)
abbrev N__law_trim : List Str := ["_law_row_here", "_law_size", "_law_k"]
abbrev s__law_times : Stmt := (top 71)
abbrev N__law_times : List Str := ["_law_a", "_law_b", "_law_row_here", "_law_i", "_law_j", "_law_k"]
abbrev s__law_path : Stmt := (top 72)
abbrev N__law_path : List Str := ["_law_wins", "_law_losses", "_law_row_here", "_law_k"]
abbrev s__law_orders : Stmt := (top 73)
abbrev N__law_orders : List Str := ["_law_tries", "_law_row_here", "_law_k", "_law_j"]
abbrev s_law : Stmt := (top 74)
abbrev N_law : List Str := ["_law_script", "_law_box_here", "_law_wins", "_law_losses", "_law_tries", "_law_at", "_law_poly", "_law_found", "_law_top", "_law_bottom", "_law_k", "_law_orders_here", "_law_total"]
structure Adr where
  f_is_integer : Addr
  d_is_integer : FuncData
  f_trimmed : Addr
  d_trimmed : FuncData
  f_plus : Addr
  d_plus : FuncData
  f_negated : Addr
  d_negated : FuncData
  f_times : Addr
  d_times : FuncData
  f_power : Addr
  d_power : FuncData
  f_path_row : Addr
  d_path_row : FuncData
  f_value_at : Addr
  d_value_at : FuncData
  f_value_ratio : Addr
  d_value_ratio : FuncData
  f_lowest_terms : Addr
  d_lowest_terms : FuncData
  f_raised : Addr
  d_raised : FuncData
  f__coef : Addr
  d__coef : FuncData
  f__cross_sum : Addr
  d__cross_sum : FuncData
  f_Poly___init__ : Addr
  d_Poly___init__ : FuncData
  f_Poly_of : Addr
  d_Poly_of : FuncData
  f_Poly_path : Addr
  d_Poly_path : FuncData
  f_Poly_degree : Addr
  d_Poly_degree : FuncData
  f_Poly___call__ : Addr
  d_Poly___call__ : FuncData
  f_Poly___len__ : Addr
  d_Poly___len__ : FuncData
  f_Poly___repr__ : Addr
  d_Poly___repr__ : FuncData
  f_Poly___getitem__ : Addr
  d_Poly___getitem__ : FuncData
  f_Poly___add__ : Addr
  d_Poly___add__ : FuncData
  f_Poly___radd__ : Addr
  d_Poly___radd__ : FuncData
  f_Poly___neg__ : Addr
  d_Poly___neg__ : FuncData
  f_Poly___sub__ : Addr
  d_Poly___sub__ : FuncData
  f_Poly___rsub__ : Addr
  d_Poly___rsub__ : FuncData
  f_Poly___mul__ : Addr
  d_Poly___mul__ : FuncData
  f_Poly___rmul__ : Addr
  d_Poly___rmul__ : FuncData
  f_Poly___pow__ : Addr
  d_Poly___pow__ : FuncData
  f_Poly___eq__ : Addr
  d_Poly___eq__ : FuncData
  f__row_of : Addr
  d__row_of : FuncData
  f__law_box : Addr
  d__law_box : FuncData
  f__law_take : Addr
  d__law_take : FuncData
  f__law_gcd : Addr
  d__law_gcd : FuncData
  f__law_ratio : Addr
  d__law_ratio : FuncData
  f__law_share : Addr
  d__law_share : FuncData
  f__law_is_integer : Addr
  d__law_is_integer : FuncData
  f__law_row : Addr
  d__law_row : FuncData
  f__law_trim : Addr
  d__law_trim : FuncData
  f__law_times : Addr
  d__law_times : FuncData
  f__law_path : Addr
  d__law_path : FuncData
  f__law_orders : Addr
  d__law_orders : FuncData
  f_law : Addr
  d_law : FuncData
  p_Poly_of : Addr
  p_Poly_path : Addr
  p_Poly_degree : Addr
  C_StopError : Addr
  C_InvalidRatio : Addr
  C_NotExact : Addr
  C_Poly : Addr
structure Txt (K : PySem.W.Frag) (mg : Str → Option Value) (A : Adr) : Prop where
  F_is_integer : Fun K "is_integer" "is_integer" s_is_integer A.f_is_integer A.d_is_integer
  k_is_integer : PySem.W.keepIn K (.ref A.f_is_integer) = true
  b_is_integer : Binds K A.d_is_integer ["value"] []
  g_is_integer : mg "is_integer" = some (.ref A.f_is_integer)
  F_trimmed : Fun K "trimmed" "trimmed" s_trimmed A.f_trimmed A.d_trimmed
  k_trimmed : PySem.W.keepIn K (.ref A.f_trimmed) = true
  b_trimmed : Binds K A.d_trimmed ["coefs"] []
  g_trimmed : mg "trimmed" = some (.ref A.f_trimmed)
  F_plus : Fun K "plus" "plus" s_plus A.f_plus A.d_plus
  k_plus : PySem.W.keepIn K (.ref A.f_plus) = true
  b_plus : Binds K A.d_plus ["first", "second"] []
  g_plus : mg "plus" = some (.ref A.f_plus)
  F_negated : Fun K "negated" "negated" s_negated A.f_negated A.d_negated
  k_negated : PySem.W.keepIn K (.ref A.f_negated) = true
  b_negated : Binds K A.d_negated ["row"] []
  g_negated : mg "negated" = some (.ref A.f_negated)
  F_times : Fun K "times" "times" s_times A.f_times A.d_times
  k_times : PySem.W.keepIn K (.ref A.f_times) = true
  b_times : Binds K A.d_times ["first", "second"] []
  g_times : mg "times" = some (.ref A.f_times)
  F_power : Fun K "power" "power" s_power A.f_power A.d_power
  k_power : PySem.W.keepIn K (.ref A.f_power) = true
  b_power : Binds K A.d_power ["row", "exponent"] []
  g_power : mg "power" = some (.ref A.f_power)
  F_path_row : Fun K "path_row" "path_row" s_path_row A.f_path_row A.d_path_row
  k_path_row : PySem.W.keepIn K (.ref A.f_path_row) = true
  b_path_row : Binds K A.d_path_row ["wins", "losses"] []
  g_path_row : mg "path_row" = some (.ref A.f_path_row)
  F_value_at : Fun K "value_at" "value_at" s_value_at A.f_value_at A.d_value_at
  k_value_at : PySem.W.keepIn K (.ref A.f_value_at) = true
  b_value_at : Binds K A.d_value_at ["row", "num", "den"] []
  g_value_at : mg "value_at" = some (.ref A.f_value_at)
  F_value_ratio : Fun K "value_ratio" "value_ratio" s_value_ratio A.f_value_ratio A.d_value_ratio
  k_value_ratio : PySem.W.keepIn K (.ref A.f_value_ratio) = true
  b_value_ratio : Binds K A.d_value_ratio ["row", "num", "den"] []
  g_value_ratio : mg "value_ratio" = some (.ref A.f_value_ratio)
  F_lowest_terms : Fun K "lowest_terms" "lowest_terms" s_lowest_terms A.f_lowest_terms A.d_lowest_terms
  k_lowest_terms : PySem.W.keepIn K (.ref A.f_lowest_terms) = true
  b_lowest_terms : Binds K A.d_lowest_terms ["top", "den", "exponent"] []
  g_lowest_terms : mg "lowest_terms" = some (.ref A.f_lowest_terms)
  F_raised : Fun K "raised" "raised" s_raised A.f_raised A.d_raised
  k_raised : PySem.W.keepIn K (.ref A.f_raised) = true
  b_raised : Binds K A.d_raised ["number", "exponent"] []
  g_raised : mg "raised" = some (.ref A.f_raised)
  F__coef : Fun K "_coef" "_coef" s__coef A.f__coef A.d__coef
  k__coef : PySem.W.keepIn K (.ref A.f__coef) = true
  b__coef : Binds K A.d__coef ["row", "place"] []
  g__coef : mg "_coef" = some (.ref A.f__coef)
  F__cross_sum : Fun K "_cross_sum" "_cross_sum" s__cross_sum A.f__cross_sum A.d__cross_sum
  k__cross_sum : PySem.W.keepIn K (.ref A.f__cross_sum) = true
  b__cross_sum : Binds K A.d__cross_sum ["first", "second", "place"] []
  g__cross_sum : mg "_cross_sum" = some (.ref A.f__cross_sum)
  F_Poly___init__ : Fun K "__init__" "Poly.__init__" s_Poly___init__ A.f_Poly___init__ A.d_Poly___init__
  k_Poly___init__ : PySem.W.keepIn K (.ref A.f_Poly___init__) = true
  m_Poly___init__ : PySem.W.findIn K (.ref A.C_Poly) "__init__" = some (some (.ref A.f_Poly___init__))
  i_Poly___init__ : PySem.W.isFn K (.ref A.f_Poly___init__) = true
  t_Poly___init__ : PySem.W.typeIn K (.ref A.f_Poly___init__) = some (.type "function")
  F_Poly_of : Fun K "of" "Poly.of" s_Poly_of A.f_Poly_of A.d_Poly_of
  k_Poly_of : PySem.W.keepIn K (.ref A.f_Poly_of) = true
  b_Poly_of : Binds K A.d_Poly_of ["cls", "coefs"] []
  m_Poly_of : PySem.W.findCls K (.ref A.C_Poly) (.type "type") "of" = some (.get (.builtin "classmethod.__get__") (.ref A.p_Poly_of) .none (.ref A.C_Poly))
  r_Poly_of : ∃ rest, PySem.W.recIn K A.p_Poly_of "classmethod" = some (.ref A.f_Poly_of :: rest)
  n_Poly_of : PySem.W.fnIn K A.f_Poly_of = true
  F_Poly_path : Fun K "path" "Poly.path" s_Poly_path A.f_Poly_path A.d_Poly_path
  k_Poly_path : PySem.W.keepIn K (.ref A.f_Poly_path) = true
  b_Poly_path : Binds K A.d_Poly_path ["cls", "wins", "losses"] []
  m_Poly_path : PySem.W.findCls K (.ref A.C_Poly) (.type "type") "path" = some (.get (.builtin "classmethod.__get__") (.ref A.p_Poly_path) .none (.ref A.C_Poly))
  r_Poly_path : ∃ rest, PySem.W.recIn K A.p_Poly_path "classmethod" = some (.ref A.f_Poly_path :: rest)
  n_Poly_path : PySem.W.fnIn K A.f_Poly_path = true
  F_Poly_degree : Fun K "degree" "Poly.degree" s_Poly_degree A.f_Poly_degree A.d_Poly_degree
  k_Poly_degree : PySem.W.keepIn K (.ref A.f_Poly_degree) = true
  b_Poly_degree : Binds K A.d_Poly_degree ["self"] []
  m_Poly_degree : PySem.W.findIn K (.ref A.C_Poly) "degree" = some (some (.ref A.p_Poly_degree))
  s_Poly_degree : PySem.W.specialIn K (.ref A.p_Poly_degree) "__get__" = some (some (.builtin "property.__get__"))
  u_Poly_degree : PySem.W.takesIn K (.ref A.p_Poly_degree) = some true
  r_Poly_degree : ∃ rest, PySem.W.recIn K A.p_Poly_degree "property" = some (.ref A.f_Poly_degree :: rest)
  F_Poly___call__ : Fun K "__call__" "Poly.__call__" s_Poly___call__ A.f_Poly___call__ A.d_Poly___call__
  k_Poly___call__ : PySem.W.keepIn K (.ref A.f_Poly___call__) = true
  b_Poly___call__ : Binds K A.d_Poly___call__ ["self", "at"] []
  m_Poly___call__ : PySem.W.findIn K (.ref A.C_Poly) "__call__" = some (some (.ref A.f_Poly___call__))
  i_Poly___call__ : PySem.W.isFn K (.ref A.f_Poly___call__) = true
  t_Poly___call__ : PySem.W.typeIn K (.ref A.f_Poly___call__) = some (.type "function")
  F_Poly___len__ : Fun K "__len__" "Poly.__len__" s_Poly___len__ A.f_Poly___len__ A.d_Poly___len__
  k_Poly___len__ : PySem.W.keepIn K (.ref A.f_Poly___len__) = true
  b_Poly___len__ : Binds K A.d_Poly___len__ ["self"] []
  m_Poly___len__ : PySem.W.findIn K (.ref A.C_Poly) "__len__" = some (some (.ref A.f_Poly___len__))
  i_Poly___len__ : PySem.W.isFn K (.ref A.f_Poly___len__) = true
  t_Poly___len__ : PySem.W.typeIn K (.ref A.f_Poly___len__) = some (.type "function")
  F_Poly___repr__ : Fun K "__repr__" "Poly.__repr__" s_Poly___repr__ A.f_Poly___repr__ A.d_Poly___repr__
  k_Poly___repr__ : PySem.W.keepIn K (.ref A.f_Poly___repr__) = true
  b_Poly___repr__ : Binds K A.d_Poly___repr__ ["self"] []
  m_Poly___repr__ : PySem.W.findIn K (.ref A.C_Poly) "__repr__" = some (some (.ref A.f_Poly___repr__))
  i_Poly___repr__ : PySem.W.isFn K (.ref A.f_Poly___repr__) = true
  t_Poly___repr__ : PySem.W.typeIn K (.ref A.f_Poly___repr__) = some (.type "function")
  F_Poly___getitem__ : Fun K "__getitem__" "Poly.__getitem__" s_Poly___getitem__ A.f_Poly___getitem__ A.d_Poly___getitem__
  k_Poly___getitem__ : PySem.W.keepIn K (.ref A.f_Poly___getitem__) = true
  b_Poly___getitem__ : Binds K A.d_Poly___getitem__ ["self", "at"] []
  m_Poly___getitem__ : PySem.W.findIn K (.ref A.C_Poly) "__getitem__" = some (some (.ref A.f_Poly___getitem__))
  i_Poly___getitem__ : PySem.W.isFn K (.ref A.f_Poly___getitem__) = true
  t_Poly___getitem__ : PySem.W.typeIn K (.ref A.f_Poly___getitem__) = some (.type "function")
  F_Poly___add__ : Fun K "__add__" "Poly.__add__" s_Poly___add__ A.f_Poly___add__ A.d_Poly___add__
  k_Poly___add__ : PySem.W.keepIn K (.ref A.f_Poly___add__) = true
  b_Poly___add__ : Binds K A.d_Poly___add__ ["self", "other"] []
  m_Poly___add__ : PySem.W.findIn K (.ref A.C_Poly) "__add__" = some (some (.ref A.f_Poly___add__))
  i_Poly___add__ : PySem.W.isFn K (.ref A.f_Poly___add__) = true
  t_Poly___add__ : PySem.W.typeIn K (.ref A.f_Poly___add__) = some (.type "function")
  F_Poly___radd__ : Fun K "__radd__" "Poly.__radd__" s_Poly___radd__ A.f_Poly___radd__ A.d_Poly___radd__
  k_Poly___radd__ : PySem.W.keepIn K (.ref A.f_Poly___radd__) = true
  b_Poly___radd__ : Binds K A.d_Poly___radd__ ["self", "other"] []
  m_Poly___radd__ : PySem.W.findIn K (.ref A.C_Poly) "__radd__" = some (some (.ref A.f_Poly___radd__))
  i_Poly___radd__ : PySem.W.isFn K (.ref A.f_Poly___radd__) = true
  t_Poly___radd__ : PySem.W.typeIn K (.ref A.f_Poly___radd__) = some (.type "function")
  F_Poly___neg__ : Fun K "__neg__" "Poly.__neg__" s_Poly___neg__ A.f_Poly___neg__ A.d_Poly___neg__
  k_Poly___neg__ : PySem.W.keepIn K (.ref A.f_Poly___neg__) = true
  b_Poly___neg__ : Binds K A.d_Poly___neg__ ["self"] []
  m_Poly___neg__ : PySem.W.findIn K (.ref A.C_Poly) "__neg__" = some (some (.ref A.f_Poly___neg__))
  i_Poly___neg__ : PySem.W.isFn K (.ref A.f_Poly___neg__) = true
  t_Poly___neg__ : PySem.W.typeIn K (.ref A.f_Poly___neg__) = some (.type "function")
  F_Poly___sub__ : Fun K "__sub__" "Poly.__sub__" s_Poly___sub__ A.f_Poly___sub__ A.d_Poly___sub__
  k_Poly___sub__ : PySem.W.keepIn K (.ref A.f_Poly___sub__) = true
  b_Poly___sub__ : Binds K A.d_Poly___sub__ ["self", "other"] []
  m_Poly___sub__ : PySem.W.findIn K (.ref A.C_Poly) "__sub__" = some (some (.ref A.f_Poly___sub__))
  i_Poly___sub__ : PySem.W.isFn K (.ref A.f_Poly___sub__) = true
  t_Poly___sub__ : PySem.W.typeIn K (.ref A.f_Poly___sub__) = some (.type "function")
  F_Poly___rsub__ : Fun K "__rsub__" "Poly.__rsub__" s_Poly___rsub__ A.f_Poly___rsub__ A.d_Poly___rsub__
  k_Poly___rsub__ : PySem.W.keepIn K (.ref A.f_Poly___rsub__) = true
  b_Poly___rsub__ : Binds K A.d_Poly___rsub__ ["self", "other"] []
  m_Poly___rsub__ : PySem.W.findIn K (.ref A.C_Poly) "__rsub__" = some (some (.ref A.f_Poly___rsub__))
  i_Poly___rsub__ : PySem.W.isFn K (.ref A.f_Poly___rsub__) = true
  t_Poly___rsub__ : PySem.W.typeIn K (.ref A.f_Poly___rsub__) = some (.type "function")
  F_Poly___mul__ : Fun K "__mul__" "Poly.__mul__" s_Poly___mul__ A.f_Poly___mul__ A.d_Poly___mul__
  k_Poly___mul__ : PySem.W.keepIn K (.ref A.f_Poly___mul__) = true
  b_Poly___mul__ : Binds K A.d_Poly___mul__ ["self", "other"] []
  m_Poly___mul__ : PySem.W.findIn K (.ref A.C_Poly) "__mul__" = some (some (.ref A.f_Poly___mul__))
  i_Poly___mul__ : PySem.W.isFn K (.ref A.f_Poly___mul__) = true
  t_Poly___mul__ : PySem.W.typeIn K (.ref A.f_Poly___mul__) = some (.type "function")
  F_Poly___rmul__ : Fun K "__rmul__" "Poly.__rmul__" s_Poly___rmul__ A.f_Poly___rmul__ A.d_Poly___rmul__
  k_Poly___rmul__ : PySem.W.keepIn K (.ref A.f_Poly___rmul__) = true
  b_Poly___rmul__ : Binds K A.d_Poly___rmul__ ["self", "other"] []
  m_Poly___rmul__ : PySem.W.findIn K (.ref A.C_Poly) "__rmul__" = some (some (.ref A.f_Poly___rmul__))
  i_Poly___rmul__ : PySem.W.isFn K (.ref A.f_Poly___rmul__) = true
  t_Poly___rmul__ : PySem.W.typeIn K (.ref A.f_Poly___rmul__) = some (.type "function")
  F_Poly___pow__ : Fun K "__pow__" "Poly.__pow__" s_Poly___pow__ A.f_Poly___pow__ A.d_Poly___pow__
  k_Poly___pow__ : PySem.W.keepIn K (.ref A.f_Poly___pow__) = true
  b_Poly___pow__ : Binds K A.d_Poly___pow__ ["self", "other"] []
  m_Poly___pow__ : PySem.W.findIn K (.ref A.C_Poly) "__pow__" = some (some (.ref A.f_Poly___pow__))
  i_Poly___pow__ : PySem.W.isFn K (.ref A.f_Poly___pow__) = true
  t_Poly___pow__ : PySem.W.typeIn K (.ref A.f_Poly___pow__) = some (.type "function")
  F_Poly___eq__ : Fun K "__eq__" "Poly.__eq__" s_Poly___eq__ A.f_Poly___eq__ A.d_Poly___eq__
  k_Poly___eq__ : PySem.W.keepIn K (.ref A.f_Poly___eq__) = true
  b_Poly___eq__ : Binds K A.d_Poly___eq__ ["self", "other"] []
  m_Poly___eq__ : PySem.W.findIn K (.ref A.C_Poly) "__eq__" = some (some (.ref A.f_Poly___eq__))
  i_Poly___eq__ : PySem.W.isFn K (.ref A.f_Poly___eq__) = true
  t_Poly___eq__ : PySem.W.typeIn K (.ref A.f_Poly___eq__) = some (.type "function")
  F__row_of : Fun K "_row_of" "_row_of" s__row_of A.f__row_of A.d__row_of
  k__row_of : PySem.W.keepIn K (.ref A.f__row_of) = true
  b__row_of : Binds K A.d__row_of ["value"] []
  g__row_of : mg "_row_of" = some (.ref A.f__row_of)
  F__law_box : Fun K "_law_box" "_law_box" s__law_box A.f__law_box A.d__law_box
  k__law_box : PySem.W.keepIn K (.ref A.f__law_box) = true
  b__law_box : Binds K A.d__law_box ["_law_script"] []
  g__law_box : mg "_law_box" = some (.ref A.f__law_box)
  F__law_take : Fun K "_law_take" "_law_take" s__law_take A.f__law_take A.d__law_take
  k__law_take : PySem.W.keepIn K (.ref A.f__law_take) = true
  b__law_take : Binds K A.d__law_take ["_law_box_here", "_law_size"] []
  g__law_take : mg "_law_take" = some (.ref A.f__law_take)
  F__law_gcd : Fun K "_law_gcd" "_law_gcd" s__law_gcd A.f__law_gcd A.d__law_gcd
  k__law_gcd : PySem.W.keepIn K (.ref A.f__law_gcd) = true
  b__law_gcd : Binds K A.d__law_gcd ["_law_a", "_law_b"] []
  g__law_gcd : mg "_law_gcd" = some (.ref A.f__law_gcd)
  F__law_ratio : Fun K "_law_ratio" "_law_ratio" s__law_ratio A.f__law_ratio A.d__law_ratio
  k__law_ratio : PySem.W.keepIn K (.ref A.f__law_ratio) = true
  b__law_ratio : Binds K A.d__law_ratio ["_law_num", "_law_den"] []
  g__law_ratio : mg "_law_ratio" = some (.ref A.f__law_ratio)
  F__law_share : Fun K "_law_share" "_law_share" s__law_share A.f__law_share A.d__law_share
  k__law_share : PySem.W.keepIn K (.ref A.f__law_share) = true
  b__law_share : Binds K A.d__law_share ["_law_box_here", "_law_most"] []
  g__law_share : mg "_law_share" = some (.ref A.f__law_share)
  F__law_is_integer : Fun K "_law_is_integer" "_law_is_integer" s__law_is_integer A.f__law_is_integer A.d__law_is_integer
  k__law_is_integer : PySem.W.keepIn K (.ref A.f__law_is_integer) = true
  b__law_is_integer : Binds K A.d__law_is_integer ["_law_value"] []
  g__law_is_integer : mg "_law_is_integer" = some (.ref A.f__law_is_integer)
  F__law_row : Fun K "_law_row" "_law_row" s__law_row A.f__law_row A.d__law_row
  k__law_row : PySem.W.keepIn K (.ref A.f__law_row) = true
  b__law_row : Binds K A.d__law_row ["_law_poly"] []
  g__law_row : mg "_law_row" = some (.ref A.f__law_row)
  F__law_trim : Fun K "_law_trim" "_law_trim" s__law_trim A.f__law_trim A.d__law_trim
  k__law_trim : PySem.W.keepIn K (.ref A.f__law_trim) = true
  b__law_trim : Binds K A.d__law_trim ["_law_row_here"] []
  g__law_trim : mg "_law_trim" = some (.ref A.f__law_trim)
  F__law_times : Fun K "_law_times" "_law_times" s__law_times A.f__law_times A.d__law_times
  k__law_times : PySem.W.keepIn K (.ref A.f__law_times) = true
  b__law_times : Binds K A.d__law_times ["_law_a", "_law_b"] []
  g__law_times : mg "_law_times" = some (.ref A.f__law_times)
  F__law_path : Fun K "_law_path" "_law_path" s__law_path A.f__law_path A.d__law_path
  k__law_path : PySem.W.keepIn K (.ref A.f__law_path) = true
  b__law_path : Binds K A.d__law_path ["_law_wins", "_law_losses"] []
  g__law_path : mg "_law_path" = some (.ref A.f__law_path)
  F__law_orders : Fun K "_law_orders" "_law_orders" s__law_orders A.f__law_orders A.d__law_orders
  k__law_orders : PySem.W.keepIn K (.ref A.f__law_orders) = true
  b__law_orders : Binds K A.d__law_orders ["_law_tries"] []
  g__law_orders : mg "_law_orders" = some (.ref A.f__law_orders)
  F_law : Fun K "law" "law" s_law A.f_law A.d_law
  k_law : PySem.W.keepIn K (.ref A.f_law) = true
  b_law : Binds K A.d_law ["_law_script"] []
  g_law : mg "law" = some (.ref A.f_law)
  g_StopError : mg "StopError" = some (.ref A.C_StopError)
  g_InvalidRatio : mg "InvalidRatio" = some (.ref A.C_InvalidRatio)
  g_NotExact : mg "NotExact" = some (.ref A.C_NotExact)
  g_Poly : mg "Poly" = some (.ref A.C_Poly)
  mk0_Poly : PySem.W.makesIn K A.C_Poly = true
  kp_Poly : PySem.W.keepIn K (.ref A.C_Poly) = true
  pg_Poly : PySem.W.plainGet K A.C_Poly Str.empty = true
  hd_Poly : PySem.W.hasDictIn K A.C_Poly = true
  po_Poly : PySem.W.plainOver K A.C_Poly = true
  sa_Poly : PySem.W.findIn K (.ref A.C_Poly) "__setattr__" = some (some (.builtin "object.__setattr__"))
  nc_Poly : PySem.W.findIn K (.ref A.C_Poly) "coefs" = some none
  rd_Poly : PySem.W.readsIn K A.C_Poly (.type "type") = true
  cg_Poly : PySem.W.specialIn K (.ref A.C_Poly) "__getattribute__" = some (some (.builtin "type.__getattribute__"))
  ha_Poly : PySem.W.findIn K (.ref A.C_Poly) "__class__" = some (some (.builtin "object.__class__"))
  hn_Poly : PySem.W.specialIn K (.builtin "object.__class__") "__get__" = some (some (.builtin "getset_descriptor.__get__"))
  ht_Poly : PySem.W.takesIn K (.builtin "object.__class__") = some true
  hm_Poly : PySem.W.mroIn K A.C_Poly (.type "object") = some true
  ki_Poly : PySem.W.kitOne K (.ref A.C_Poly) (.ref A.C_Poly) = some true
  n_Poly : PySem.W.fnIn K A.f_Poly___getitem__ = true
  k_int_Poly : PySem.W.kitOne K (.type "int") (.ref A.C_Poly) = some false
  k_tuple_Poly : PySem.W.kitOne K (.type "tuple") (.ref A.C_Poly) = some false
  k_list_Poly : PySem.W.kitOne K (.type "list") (.ref A.C_Poly) = some false
  k_str_Poly : PySem.W.kitOne K (.type "str") (.ref A.C_Poly) = some false
  q_int_Poly : PySem.W.notFirst K A.C_Poly (.type "int") = true
  q_tuple_Poly : PySem.W.notFirst K A.C_Poly (.type "tuple") = true
  q_list_Poly : PySem.W.notFirst K A.C_Poly (.type "list") = true
  q_str_Poly : PySem.W.notFirst K A.C_Poly (.type "str") = true
  q_own_Poly : PySem.W.notFirst K A.C_Poly (.ref A.C_Poly) = true
  ne_Poly : PySem.W.findIn K (.ref A.C_Poly) "__ne__" = some (some (.builtin "object.__ne__"))
  ob_Poly : PySem.W.subIn K (.ref A.C_Poly) (.type "object") = some true
  sf_Poly : PySem.W.selfFirst K A.C_Poly = true
  si_Poly : PySem.W.subIn K (.type "int") (.ref A.C_Poly) = some false
  ri_Poly : PySem.W.subIn K (.ref A.C_Poly) (.type "int") = some false
  i1add_Poly : PySem.W.findIn K (.type "int") "__add__" = some (some (.builtin "int.__add__"))
  i2add_Poly : PySem.W.findIn K (.type "int") "__radd__" = some (some (.builtin "int.__radd__"))
  iiadd_Poly : PySem.W.findIn K (.ref A.C_Poly) "__iadd__" = some none
  ioadd_Poly : PySem.W.findIn K (.type "object") "__iadd__" = some none
  i1sub_Poly : PySem.W.findIn K (.type "int") "__sub__" = some (some (.builtin "int.__sub__"))
  i2sub_Poly : PySem.W.findIn K (.type "int") "__rsub__" = some (some (.builtin "int.__rsub__"))
  iisub_Poly : PySem.W.findIn K (.ref A.C_Poly) "__isub__" = some none
  iosub_Poly : PySem.W.findIn K (.type "object") "__isub__" = some none
  mro_Poly : (PySem.W.clsIn K A.C_Poly).map (·.mro) = some [.ref A.C_Poly, .type "object"]
  i1mul_Poly : PySem.W.findIn K (.type "int") "__mul__" = some (some (.builtin "int.__mul__"))
  i2mul_Poly : PySem.W.findIn K (.type "int") "__rmul__" = some (some (.builtin "int.__rmul__"))
  iimul_Poly : PySem.W.findIn K (.ref A.C_Poly) "__imul__" = some none
  iomul_Poly : PySem.W.findIn K (.type "object") "__imul__" = some none
  i1pow_Poly : PySem.W.findIn K (.type "int") "__pow__" = some (some (.builtin "int.__pow__"))
  i2pow_Poly : PySem.W.findIn K (.type "int") "__rpow__" = some (some (.builtin "int.__rpow__"))
  rpow_Poly : PySem.W.findIn K (.ref A.C_Poly) "__rpow__" = some none
  fi_Poly_call : PySem.W.fnIn K A.f_Poly___call__ = true
  z_abs : mg "abs" = none
  z_bool : mg "bool" = none
  g_gcd : mg "gcd" = some (.builtin "math.gcd")
  z_int : mg "int" = none
  z_isinstance : mg "isinstance" = none
  z_len : mg "len" = none
  z_list : mg "list" = none
  z_max : mg "max" = none
  z_min : mg "min" = none
  z_range : mg "range" = none
  z_str : mg "str" = none
  z_sum : mg "sum" = none
  z_tuple : mg "tuple" = none
section
variable {P : Program} {w : World} {K : PySem.W.Frag} {mg : Str → Option Value} {base : Heap} {A : Adr}
theorem sc_is_integer : FnScope N_is_integer ["value"] (defScope s_is_integer) := ⟨rfl, rfl, rfl, by decide +kernel, rfl, by decide +kernel, by decide +kernel⟩

def spIsIntP : Sp := fun vs H Q _ => ∃ n : Int, vs = [.int n] ∧ Q (.bl true) H
theorem ok_is_integer (T : Txt K mg A) : FnOk P w K mg base CX0 1 A.f_is_integer A.d_is_integer ["value"] spIsIntP := by
  refine T.F_is_integer.ok sc_is_integer (fun vs H Q E h => ?_) (fun cdv Ar outer s H vs Q E hr h => ?_)
  · obtain ⟨n, rfl, _⟩ := h
    rfl
  · obtain ⟨n, rfl, k⟩ := h
    refine ⟨_, (pss_one (ps_ret (pe_and (pe_callB call_isi (by rfl) T.z_isinstance (by decide +kernel) (pa_cons (pv 0) (pa_cons (pe_bltn (v := .ty "int") (u := .type "int") (by rfl) T.z_int (by decide +kernel) (by rfl)) pa_nil))) (pe_one (pe_not (pe_callB call_isi (by rfl) T.z_isinstance (by decide +kernel) (pa_cons (pv 0) (pa_cons (pe_bltn (v := .ty "bool") (u := .type "bool") (by rfl) T.z_bool (by decide +kernel) (by rfl)) pa_nil)))))))), ?_⟩
    exact sR ⟨_, rfl, _, _, _, _, true, rfl, .ty "int", .base (.int _), kit_ty (by decide +kernel), true, rfl, iteT ⟨_, rfl, _, _, _, _, false, rfl, .ty "bool", .base (.int _), kit_ty (by decide +kernel), false, rfl, k⟩⟩
theorem sc_trimmed : FnScope N_trimmed ["coefs"] (defScope s_trimmed) := ⟨rfl, rfl, rfl, by decide +kernel, rfl, by decide +kernel, by decide +kernel⟩
theorem ok_trimmed (T : Txt K mg A) : FnOk P w K mg base CX0 2 A.f_trimmed A.d_trimmed ["coefs"] (spTrimmed K) := by
  refine T.F_trimmed.ok sc_trimmed (fun vs H Q E h => ?_) (fun cdv Ar outer s H vs Q E hr h => ?_)
  · obtain ⟨a, row, rfl, _⟩ := h
    rfl
  · obtain ⟨a, row, rfl, hS, k⟩ := h
    refine ⟨_, (pss_cons (ps_set (i := 1) sc_trimmed.nd rfl (Or.inl rfl) (pe_callB call_len_seq (by rfl) T.z_len (by decide +kernel) (pa_cons (pv 0) pa_nil)))
      (pss_cons (ps_while PassesOwn.never (PW.pt (pw_and (pt_cmpR op_gt (pv 1) pe_int (nomark _)) (pw_and1 (pt_cmpR op_eq (pe_ix ix_seq (pv 0) (pe_op op_sub (pv 1) pe_int) (fun _ _ => rfl)) pe_int (nomark _))))) (pss_one (ps_aug (i := 1) sc_trimmed.nd rfl (Or.inl rfl) pe_int ip_sub)))
      (pss_one (ps_ret (pe_callTy call_tuple_of (by rfl) T.z_tuple (by decide +kernel) (pa_cons (pe_slice (sl_list.or sl_tupA) (pv 0) po_none (po_some (pv 1))) pa_nil)))))), ?_⟩
    refine qS ⟨_, rfl, a, iVs row, rfl, hS, ?_⟩
    refine q_whileA (fun m σ' H' => σ' = [some (.ref a), some (.int (m : Int))] ∧ H' = H ∧ m ≤ row.length ∧ ∀ j, m ≤ j → co row j = 0) row.length ⟨by rw [iVs_len]; rfl, rfl, Nat.le_refl _, fun j hj => co_ge hj⟩ ?_
    rintro m σ' H' ⟨rfl, rfl, hm, hz⟩
    refine ⟨decide ((0 : Int) < (m : Int)) && decide (V.int (co row ((m : Int) - 1).toNat) = V.int 0), ?_, fun hb N hN => ?_, fun hb => ?_⟩
    · refine ans_and' (ans_of ?_) fun z => ans_of (val_eq (val_ixI ?_ ?_ hS (xs := row) ?_ ?_) val_c rfl)
      · (repeat' (first | exact val_var rfl | exact val_c | exact va_nil | with_reducible apply va_cons | with_reducible apply val_op0 | with_reducible apply val_un | with_reducible apply val_abs | with_reducible apply val_int| with_reducible apply val_gcd | with_reducible apply val_gcdc | with_reducible apply val_isB | with_reducible apply val_notB | with_reducible apply val_chain | with_reducible apply val_eq | with_reducible apply val_ne | with_reducible apply val_andV | with_reducible apply val_orV | with_reducible apply val_notV | with_reducible apply val_opC | with_reducible apply ans_of | with_reducible apply ans_B | with_reducible apply ans_not | with_reducible apply ans_and' | with_reducible apply ans_or' | with_reducible intro _ | (show scal _ _ = true; rfl) | exact wide_mul (by assumption) (by assumption) (by decide) (by decide) (by decide)))
      · (repeat' (first | exact val_var rfl | exact val_c | exact va_nil | with_reducible apply va_cons | with_reducible apply val_op0 | with_reducible apply val_un | with_reducible apply val_abs | with_reducible apply val_int| with_reducible apply val_gcd | with_reducible apply val_gcdc | with_reducible apply val_isB | with_reducible apply val_notB | with_reducible apply val_chain | with_reducible apply val_eq | with_reducible apply val_ne | with_reducible apply val_andV | with_reducible apply val_orV | with_reducible apply val_notV | with_reducible apply val_opC | with_reducible apply ans_of | with_reducible apply ans_B | with_reducible apply ans_not | with_reducible apply ans_and' | with_reducible apply ans_or' | with_reducible intro _ | (show scal _ _ = true; rfl) | exact wide_mul (by assumption) (by assumption) (by decide) (by decide) (by decide)))
      · (repeat' (first | exact val_var rfl | exact val_c | exact va_nil | with_reducible apply va_cons | with_reducible apply val_op0 | with_reducible apply val_un | with_reducible apply val_abs | with_reducible apply val_int| with_reducible apply val_gcd | with_reducible apply val_gcdc | with_reducible apply val_isB | with_reducible apply val_notB | with_reducible apply val_chain | with_reducible apply val_eq | with_reducible apply val_ne | with_reducible apply val_andV | with_reducible apply val_orV | with_reducible apply val_notV | with_reducible apply val_opC | with_reducible apply ans_of | with_reducible apply ans_B | with_reducible apply ans_not | with_reducible apply ans_and' | with_reducible apply ans_or' | with_reducible intro _ | (show scal _ _ = true; rfl) | exact wide_mul (by assumption) (by assumption) (by decide) (by decide) (by decide)))
      · have := of_decide_eq_true z
        omega
      · omega
    · obtain ⟨h1, h2⟩ := Bool.and_eq_true_iff.mp hb
      have h1' := of_decide_eq_true h1
      have h2' := V.int.inj (of_decide_eq_true h2)
      refine ⟨_, rfl, _, _, rfl, rfl, hN _ _ (m - 1) (by omega) ⟨?_, rfl, by omega, fun j hj => ?_⟩⟩
      · have e : ((m : Int) - 1) = ((m - 1 : Nat) : Int) := by omega
        show [some (V.ref a), some (V.int ((m : Int) - 1))] = _
        rw [e]
      · by_cases e : j = m - 1
        · rw [e, ← h2']
          congr 1
          omega
        · exact hz j (by omega)
    · have e1 : row.take m = trimI row := by
        refine trimI_of hm (fun j h1 _ => hz j h1) ?_
        rcases Nat.eq_zero_or_pos m with h0 | h0
        · exact .inl h0
        · refine .inr fun e => ?_
          rw [show ((m : Int) - 1).toNat = m - 1 by omega, e, decide_eq_true (by omega : (0 : Int) < (m : Int)), decide_eq_true rfl] at hb
          cases hb
      refine sR ⟨_, rfl, _, rfl, _, rfl, ?_⟩
      rcases hS with h | h
      · refine .inl ⟨a, _, rfl, h, fun p hp => ?_⟩
        rw [iVs_cut row m hm, e1]
        exact ⟨p, _, rfl, .inl ⟨SqL.of upd_same, fun l hl => k l _ (Same.trans (same_upd hp) (same_upd hl)) (SqT.of upd_same)⟩⟩
      · refine .inr ⟨a, _, rfl, h, fun hw => ?_, fun _ p hp => ?_⟩
        · have hm2 : m = row.length := by
            have := hw.2
            rw [HT.sIx_nat, iVs_len] at this
            omega
          rw [hm2, List.take_length] at e1
          rw [e1] at h
          exact ⟨a, _, rfl, .inr ⟨h, k a _ (Same.refl _) (by rw [← e1] at h ⊢; exact h)⟩⟩
        · rw [iVs_cut row m hm, e1]
          exact ⟨p, _, rfl, .inr ⟨SqT.of upd_same, k p _ (same_upd hp) (SqT.of upd_same)⟩⟩
theorem sc__coef : FnScope N__coef ["row", "place"] (defScope s__coef) := ⟨rfl, rfl, rfl, by decide +kernel, rfl, by decide +kernel, by decide +kernel⟩
theorem ok__coef (T : Txt K mg A) : FnOk P w K mg base CX0 1 A.f__coef A.d__coef ["row", "place"] (spCoefAt K) := by
  refine T.F__coef.ok sc__coef (fun vs H Q E h => ?_) (fun cdv Ar outer s H vs Q E hr h => ?_)
  · obtain ⟨a, row, k, rfl, _⟩ := h
    rfl
  · obtain ⟨a, row, j, rfl, hS, h0, k⟩ := h
    refine ⟨_, (pss_cons (ps_if (pt_cmpR op_lt (pv 1) (pe_callB call_len_seq (by rfl) T.z_len (by decide +kernel) (pa_cons (pv 0) pa_nil)) (nomark _)) (pss_one (ps_ret (pe_ix ix_seq (pv 0) (pv 1) (fun _ _ => rfl)))) pss_nil)
      (pss_one (ps_ret pe_int))), ?_⟩
    refine q_when (ans_of (val_op0 (val_var rfl) (val_lenI (val_var rfl) hS))) (fun z => ?_) (fun z => ?_)
    · exact sR ((val_ixI (val_var rfl) (val_var rfl) hS h0 (of_decide_eq_true z)).at k)
    · have z2 := of_decide_eq_false z
      rw [co_ge (by omega)] at k
      exact sR (val_c.at k)
theorem sc_plus : FnScope N_plus ["first", "second"] (defScope s_plus) := ⟨rfl, rfl, rfl, by decide +kernel, rfl, by decide +kernel, by decide +kernel⟩
theorem ok_plus (T : Txt K mg A) : FnOk P w K mg base CX0 3 A.f_plus A.d_plus ["first", "second"] (spPlus K) := by
  have Gtrimmed := ok_trimmed (P := P) (w := w) (base := base) T
  have G_coef := ok__coef (P := P) (w := w) (base := base) T
  refine T.F_plus.ok sc_plus (fun vs H Q E h => ?_) (fun cdv Ar outer s H vs Q E hr h => ?_)
  · obtain ⟨a, b, xs, ys, rfl, _⟩ := h
    rfl
  · obtain ⟨a, b, xs, ys, rfl, hA, hB, lx, ly, k⟩ := h
    refine ⟨_, (pss_cons (ps_set (i := 2) sc_plus.nd rfl (Or.inl rfl) (pe_callB (call_max2 rfl) (by rfl) T.z_max (by decide +kernel) (pa_cons (pe_callB call_len_seq (by rfl) T.z_len (by decide +kernel) (pa_cons (pv 0) pa_nil)) (pa_cons (pe_callB call_len_seq (by rfl) T.z_len (by decide +kernel) (pa_cons (pv 1) pa_nil)) pa_nil))))
      (pss_one (ps_ret (pe_call Gtrimmed (hr.mono (by decide)) rfl T.g_trimmed T.k_trimmed T.b_trimmed .nil pass0 (pa_cons (pe_lc (own := [("place", 3)]) (g := gName 3) (tt := tYes) rfl sc_plus.nd (pi_range1 (by rfl) T.z_range (pa_cons (pv 2) pa_nil)) (blkOk_by (own := [("place", 3)]) (N := N_plus) (sc := defScope s_plus) (by decide +kernel)) (fun _ _ _ _ _ => (pg_name (i := 3) sc_plus.nd rfl (Or.inl rfl))) (fun _ _ _ _ _ => pts_nil) (fun _ _ _ _ _ => (pe_op op_add (pe_call G_coef (hr.mono (by decide)) rfl T.g__coef T.k__coef T.b__coef .nil pass0 (pa_cons (pv 0) (pa_cons (pv 3) pa_nil))) (pe_call G_coef (hr.mono (by decide)) rfl T.g__coef T.k__coef T.b__coef .nil pass0 (pa_cons (pv 1) (pa_cons (pv 3) pa_nil)))))) pa_nil))))), ?_⟩
    refine qS ⟨_, rfl, a, _, rfl, hA, _, rfl, b, _, rfl, hB, _, _, rfl, ?_⟩
    rw [iVs_len, iVs_len]
    have en : (if (ys.length : Int) > (xs.length : Int) then (ys.length : Int) else (xs.length : Int)) = ((max xs.length ys.length : Nat) : Int) := by
      split <;> omega
    rw [en]
    refine sR ⟨_, rfl, _, rfl, by omega, by omega, fun D hD => ?_⟩
    refine lcI (fun j => co xs j + co ys j) hD (by show _ ≤ 2 ^ 24; omega) (fun j H2 hj s2 => ?_) (fun H2 s2 h2 => ?_)
    · refine val_op0 (g := fun i j => V.int (i + j)) (val_call (va_cons (val_var rfl) (va_cons (val_var rfl) va_nil)) fun Q q => ⟨a, xs, (0 : Int) + (j : Int), rfl, hA.same s2, by omega, ?_⟩) (val_call (va_cons (val_var rfl) (va_cons (val_var rfl) va_nil)) fun Q q => ⟨b, ys, (0 : Int) + (j : Int), rfl, hB.same s2, by omega, ?_⟩)
      · rw [show ((0 : Int) + (j : Int)).toNat = j by omega]
        exact q
      · rw [show ((0 : Int) + (j : Int)).toNat = j by omega]
        exact q
    · exact ⟨D, _, rfl, SqI.lst h2, fun t H3 s3 ht => k t H3 (s2.trans s3) ht⟩
theorem sc_negated : FnScope N_negated ["row"] (defScope s_negated) := ⟨rfl, rfl, rfl, by decide +kernel, rfl, by decide +kernel, by decide +kernel⟩
theorem ok_negated (T : Txt K mg A) : FnOk P w K mg base CX0 1 A.f_negated A.d_negated ["row"] (spNeg K) := by
  refine T.F_negated.ok sc_negated (fun vs H Q E h => ?_) (fun cdv Ar outer s H vs Q E hr h => ?_)
  · obtain ⟨a, xs, rfl, _⟩ := h
    rfl
  · obtain ⟨a, xs, rfl, hT, lx, k⟩ := h
    refine ⟨_, (pss_one (ps_ret (pe_callTy call_tuple_of (by rfl) T.z_tuple (by decide +kernel) (pa_cons (pe_lc (own := [("coef", 1)]) (g := gName 1) (tt := tYes) rfl sc_negated.nd (pi_tup (pv 0)) (blkOk_by (own := [("coef", 1)]) (N := N_negated) (sc := defScope s_negated) (by decide +kernel)) (fun _ _ _ _ _ => (pg_name (i := 1) sc_negated.nd rfl (Or.inl rfl))) (fun _ _ _ _ _ => pts_nil) (fun _ _ _ _ _ => (pe_un un_neg (pv 1)))) pa_nil)))), ?_⟩
    refine sR ⟨_, rfl, a, rfl, ⟨_, hT⟩, fun D hD => ?_⟩
    refine lcT (fun x => -x) hT hD (by show _ ≤ 2 ^ 24; omega) (fun x H2 hx s2 => val_un (g := fun i => V.int (-i)) (val_var rfl)) (fun H2 s2 h2 => ?_)
    exact ⟨D, _, rfl, .inl ⟨SqL.of h2, fun l hl => k l _ (s2.trans (same_upd hl)) (SqT.of upd_same)⟩⟩
theorem sc__cross_sum : FnScope N__cross_sum ["first", "second", "place"] (defScope s__cross_sum) := ⟨rfl, rfl, rfl, by decide +kernel, rfl, by decide +kernel, by decide +kernel⟩
theorem ok__cross_sum (T : Txt K mg A) : FnOk P w K mg base CX0 1 A.f__cross_sum A.d__cross_sum ["first", "second", "place"] (spCross K) := by
  refine T.F__cross_sum.ok sc__cross_sum (fun vs H Q E h => ?_) (fun cdv Ar outer s H vs Q E hr h => ?_)
  · obtain ⟨a, b, xs, ys, k, rfl, _⟩ := h
    rfl
  · obtain ⟨a, b, xs, ys, j, rfl, hA, hB, h0, h21, lx, ly, bx, by_, k⟩ := h
    refine ⟨_, (pss_cons (ps_set (i := 3) sc__cross_sum.nd rfl (Or.inl rfl) (pe_callB (call_max2 rfl) (by rfl) T.z_max (by decide +kernel) (pa_cons pe_int (pa_cons (pe_op op_sub (pe_op op_add (pv 2) pe_int) (pe_callB call_len_seq (by rfl) T.z_len (by decide +kernel) (pa_cons (pv 1) pa_nil))) pa_nil))))
      (pss_cons (ps_set (i := 4) sc__cross_sum.nd rfl (Or.inl rfl) (pe_callB (call_min2 rfl) (by rfl) T.z_min (by decide +kernel) (pa_cons (pe_op op_add (pv 2) pe_int) (pa_cons (pe_callB call_len_seq (by rfl) T.z_len (by decide +kernel) (pa_cons (pv 0) pa_nil)) pa_nil))))
      (pss_one (ps_ret (pe_callB (cr_sum rfl) (by rfl) T.z_sum (by decide +kernel) (pa_cons (pe_lc (own := [("at", 5)]) (g := gName 5) (tt := tYes) rfl sc__cross_sum.nd (pi_range2 (by rfl) T.z_range (pa_cons (pv 3) (pa_cons (pv 4) pa_nil))) (blkOk_by (own := [("at", 5)]) (N := N__cross_sum) (sc := defScope s__cross_sum) (by decide +kernel)) (fun _ _ _ _ _ => (pg_name (i := 5) sc__cross_sum.nd rfl (Or.inl rfl))) (fun _ _ _ _ _ => pts_nil) (fun _ _ _ _ _ => (pe_op op_mulW (pe_ix (show IxR _ (rIx K) from ix_seq) (pv 0) (pv 5) (fun _ _ => rfl)) (pe_ix (show IxR _ (rIx K) from ix_seq) (pv 1) (pe_op op_sub (pv 2) (pv 5)) (fun _ _ => rfl))))) pa_nil)))))), ?_⟩
    obtain ⟨kk, rfl⟩ : ∃ kk : Nat, j = (kk : Int) := ⟨j.toNat, by omega⟩
    refine q_set (val_to (v := .int ((kk + 1 - ys.length : Nat) : Int)) (val_max val_c (val_op0 (g := fun i j => V.int (i - j)) (val_op0 (g := fun i j => V.int (i + j)) (val_var rfl) val_c) (val_lenI (val_var rfl) hB))) ?_) ?_
    · congr 1
      split <;> omega
    refine q_set (val_to (v := .int ((min (kk + 1) xs.length : Nat) : Int)) (val_min (val_op0 (g := fun i j => V.int (i + j)) (val_var rfl) val_c) (val_lenI (val_var rfl) hA)) ?_) ?_
    · congr 1
      split <;> omega
    generalize hs : kk + 1 - ys.length = s0
    generalize ht : min (kk + 1) xs.length = t0
    refine sR ⟨_, rfl, _, rfl, _, _, rfl, ⟨by omega, by omega, by omega, by omega⟩, fun D hD => ?_⟩
    generalize hm : ((t0 : Int) - (s0 : Int)).toNat = m
    refine lcI (fun j => co xs (s0 + j) * co ys (kk - (s0 + j))) hD (by show _ ≤ 2 ^ 24; omega) (fun i H2 hi s2 => ?_) (fun H2 s2 h2 => ?_)
    · have e1 := val_ixI (K := K) (H := H2) (σ := [some (.ref a), some (.ref b), some (.int (kk : Int)), some (.int (s0 : Int)), some (.int (t0 : Int)), some (.int ((s0 : Int) + (i : Int)))]) (val_var (i := 0) rfl) (val_var (i := 5) rfl) (hA.same s2) (by omega) (by omega)
      have e2 := val_ixI (K := K) (H := H2) (σ := [some (.ref a), some (.ref b), some (.int (kk : Int)), some (.int (s0 : Int)), some (.int (t0 : Int)), some (.int ((s0 : Int) + (i : Int)))]) (val_var (i := 1) rfl) (val_op0 (g := fun i j => V.int (i - j)) (val_var (i := 2) rfl) (val_var (i := 5) rfl)) (hB.same s2) (k := (kk : Int) - ((s0 : Int) + (i : Int))) (by omega) (by omega)
      rw [show ((s0 : Int) + (i : Int)).toNat = s0 + i by omega] at e1
      rw [show ((kk : Int) - ((s0 : Int) + (i : Int))).toNat = kk - (s0 + i) by omega] at e2
      exact val_opC (C := CMulW) (g := fun i j => V.int (i * j)) e1 e2 (wide_mul (bx _) (by_ _) (by decide) (by decide) (by decide))
    · refine ⟨D, (List.range m).map fun j => co xs (s0 + j) * co ys (kk - (s0 + j)), rfl, SqL.of h2, ?_⟩
      rw [sum_map, cv_part xs ys kk s0 m (fun i h1 h2 => .inl (by omega)) (fun i h1 h2 => by omega) (by omega)]
      exact k H2 s2
theorem sc_times : FnScope N_times ["first", "second"] (defScope s_times) := ⟨rfl, rfl, rfl, by decide +kernel, rfl, by decide +kernel, by decide +kernel⟩
theorem ok_times (T : Txt K mg A) : FnOk P w K mg base CX0 3 A.f_times A.d_times ["first", "second"] (spTimes K) := by
  have G_cross_sum := ok__cross_sum (P := P) (w := w) (base := base) T
  have Gtrimmed := ok_trimmed (P := P) (w := w) (base := base) T
  refine T.F_times.ok sc_times (fun vs H Q E h => ?_) (fun cdv Ar outer s H vs Q E hr h => ?_)
  · obtain ⟨a, b, xs, ys, rfl, _⟩ := h
    rfl
  · obtain ⟨a, b, xs, ys, rfl, hA, hB, lx, ly, bx, by_, k⟩ := h
    refine ⟨_, (pss_one (ps_ret (pe_call Gtrimmed (hr.mono (by decide)) rfl T.g_trimmed T.k_trimmed T.b_trimmed .nil pass0 (pa_cons (pe_lc (own := [("place", 2)]) (g := gName 2) (tt := tYes) rfl sc_times.nd (pi_range1 (by rfl) T.z_range (pa_cons (pe_op op_sub (pe_op op_add (pe_callB call_len_seq (by rfl) T.z_len (by decide +kernel) (pa_cons (pv 0) pa_nil)) (pe_callB call_len_seq (by rfl) T.z_len (by decide +kernel) (pa_cons (pv 1) pa_nil))) pe_int) pa_nil)) (blkOk_by (own := [("place", 2)]) (N := N_times) (sc := defScope s_times) (by decide +kernel)) (fun _ _ _ _ _ => (pg_name (i := 2) sc_times.nd rfl (Or.inl rfl))) (fun _ _ _ _ _ => pts_nil) (fun _ _ _ _ _ => (pe_call G_cross_sum (hr.mono (by decide)) rfl T.g__cross_sum T.k__cross_sum T.b__cross_sum .nil pass0 (pa_cons (pv 0) (pa_cons (pv 1) (pa_cons (pv 2) pa_nil)))))) pa_nil)))), ?_⟩
    refine sR ⟨_, rfl, a, _, rfl, hA, _, rfl, b, _, rfl, hB, _, _, rfl, rfl, _, _, rfl, rfl, _, rfl, ?_⟩
    rw [iVs_len, iVs_len]
    refine ⟨by omega, by omega, fun D hD => ?_⟩
    rw [show ((xs.length : Int) + (ys.length : Int) - 1).toNat = xs.length + ys.length - 1 by omega]
    refine lcE (fun j => cv (co xs) (co ys) j) hD (by show _ ≤ 2 ^ 24; omega) (fun j H2 hj s2 => ?_) (fun H2 s2 h2 => ⟨D, mulI xs ys, rfl, SqI.lst h2, fun t H3 s3 ht => k t H3 (s2.trans s3) ht⟩)
    refine fun H3 e3 Q q => ⟨_, rfl, _, rfl, _, rfl, a, b, xs, ys, (0 : Int) + (j : Int), rfl, hA.same (s2.trans e3), hB.same (s2.trans e3), by omega, by omega, lx, ly, bx, by_, fun H4 s4 => q _ H4 s4 ?_⟩
    rw [show ((0 : Int) + (j : Int)).toNat = j by omega]
    rfl
theorem sc_power : FnScope N_power ["row", "exponent"] (defScope s_power) := ⟨rfl, rfl, rfl, by decide +kernel, rfl, by decide +kernel, by decide +kernel⟩
theorem ok_power (T : Txt K mg A) : FnOk P w K mg base CX0 4 A.f_power A.d_power ["row", "exponent"] (spPower K) := by
  have Gtimes := ok_times (P := P) (w := w) (base := base) T
  refine T.F_power.ok sc_power (fun vs H Q E h => ?_) (fun cdv Ar outer s H vs Q E hr h => ?_)
  · obtain ⟨a, xs, n, m, rfl, _⟩ := h
    rfl
  · obtain ⟨a, xs, n, m0, rfl, hA, tx, h0, h1000, lx, m1, hb, hm, k⟩ := h
    refine ⟨_, (pss_cons (ps_set (i := 2) sc_power.nd rfl (Or.inl rfl) (pe_tup (pa_cons pe_int pa_nil)))
      (pss_cons (ps_set (i := 3) sc_power.nd rfl (Or.inl rfl) (pv 0))
      (pss_cons (ps_set (i := 4) sc_power.nd rfl (Or.inl rfl) (pv 1))
      (pss_cons (ps_while PassesOwn.never (pt_cmpR op_gt (pv 4) pe_int (nomark _)) (Evl.pss_cut (ps_if (pt_truth (pe_op op_and (pv 4) pe_int) (by intro _; rfl)) (pss_one (ps_set (i := 2) sc_power.nd rfl (Or.inl rfl) (pe_call Gtimes (hr.mono (by decide)) rfl T.g_times T.k_times T.b_times .nil pass0 (pa_cons (pv 2) (pa_cons (pv 3) pa_nil))))) pss_nil)
      (pss_cons (ps_set (i := 4) sc_power.nd rfl (Or.inl rfl) (pe_op op_fdivW (pv 4) pe_int))
      (pss_one (ps_if (pt_cmpR op_gt (pv 4) pe_int (nomark _)) (pss_one (ps_set (i := 3) sc_power.nd rfl (Or.inl rfl) (pe_call Gtimes (hr.mono (by decide)) rfl T.g_times T.k_times T.b_times .nil pass0 (pa_cons (pv 3) (pa_cons (pv 3) pa_nil))))) pss_nil)))))
      (pss_one (ps_ret (pv 2))))))), ?_⟩
    obtain ⟨nn, rfl⟩ : ∃ nn : Nat, n = (nn : Int) := ⟨n.toNat, by omega⟩
    refine qS ⟨(by show 1 ≤ sizeLine; decide), fun r hr => ?_⟩
    refine qS ⟨_, rfl, ?_⟩
    refine qS ⟨_, rfl, ?_⟩
    have hf : ∀ k, xs.length ≤ k → co xs k = 0 := fun k hk => co_ge hk
    have hlen : ∀ {i : Nat} {R : List Int}, i ≤ nn → IsPow (co xs) i R → R.length ≤ 2 ^ 19 := fun {i R} hi h => by
      have h1 := h.len hf
      have h2 : i * xs.length ≤ 1000 * 200 := Nat.mul_le_mul (by omega) lx
      omega
    have hsm : ∀ {i : Nat} {R : List Int}, i ≤ nn → IsPow (co xs) i R → Sm R := fun {i R} hi h => h.sm (by omega) m1 hb hm
    have s1 : Same H (upd H r (.tup [.int 1])) := same_upd hr
    refine q_whileA (fun l σ' H' => ∃ (r s : Addr) (R Sq : List Int) (i j : Nat), σ' = [some (.ref a), some (.int (nn : Int)), some (.ref r), some (.ref s), some (.int (l : Int))] ∧ Same H H' ∧ SqT K H' r (iVs R) ∧ SqT K H' s (iVs Sq) ∧ IsPow (co xs) i R ∧ (l = 0 → i = nn) ∧ (0 < l → IsPow (co xs) j Sq ∧ i + j * l = nn)) nn
      ⟨r, a, [1], xs, 0, 1, rfl, s1, SqT.of upd_same, s1.tup hA, IsPow.one, fun e => e.symm, fun _ => ⟨⟨tx, fun k => (pw_one _ k).symm⟩, by omega⟩⟩ ?_
    rintro l σ' H' ⟨r, s, R, Sq, i, j, rfl, s', hR, hSq, pR, z0, z1⟩
    refine ⟨decide ((0 : Int) < (l : Int)), ans_of (val_op0 (g := fun i j => V.bl (decide (j < i))) (val_var rfl) val_c), fun hb1 N hN => ?_, fun hb1 => ?_⟩
    · have hl : 0 < l := by
        have := of_decide_eq_true hb1
        omega
      obtain ⟨pS, eij⟩ := z1 hl
      have hj1 : j ≤ j * l := Nat.le_mul_of_pos_right j hl
      have hj : j ≤ nn := by omega
      have hi : i ≤ nn := by omega
      have el : l = 2 * (l / 2) + l % 2 := (Nat.div_add_mod l 2).symm
      have ejl : j * l = j * (2 * (l / 2)) + j * (l % 2) := by rw [← Nat.mul_add, ← el]
      refine ⟨fun σ' H' => ∃ (r : Addr) (R : List Int) (i' : Nat), σ' = [some (.ref a), some (.int (nn : Int)), some (.ref r), some (.ref s), some (.int (l : Int))] ∧ Same H H' ∧ SqT K H' r (iVs R) ∧ SqT K H' s (iVs Sq) ∧ IsPow (co xs) i' R ∧ i' + j * (2 * (l / 2)) = nn, ?_, ?_⟩
      · refine sW ⟨_, rfl, _, _, rfl, rfl, decide (l % 2 = 1), ?_, ite2 (fun z => ?_) (fun z => ?_)⟩
        · show decide (l % 2 = 1) = (Builtin.bitAnd (l : Int) 1 != 0)
          rw [PyProof.Rows.bitAnd_m1]
          rcases Nat.mod_two_eq_zero_or_one l with h | h
          · rw [h, show (l : Int) % 2 = 0 by omega]
            rfl
          · rw [h, show (l : Int) % 2 = 1 by omega]
            rfl
        · have z2 := of_decide_eq_true z
          rw [z2, Nat.mul_one] at ejl
          refine sS (call_of (va_cons (val_var rfl) (va_cons (val_var rfl) va_nil)) ⟨r, s, R, Sq, rfl, .inr hR, .inr hSq, hlen hi pR, hlen hj pS, hsm hi pR, hsm hj pS, fun t H3 s3 ht => ?_⟩)
          exact ⟨t, _, i + j, rfl, s'.trans s3, ht, s3.tup hSq, pR.mul pS, by omega⟩
        · have z2 : l % 2 = 0 := by
            have : ¬ l % 2 = 1 := fun e => z (decide_eq_true e)
            omega
          rw [z2, Nat.mul_zero] at ejl
          exact ⟨r, R, i, rfl, s', hR, hSq, pR, by omega⟩
      rintro σ2 H2 ⟨r2, R2, i2, rfl, s2, hR2, hS2, pR2, e2⟩
      have ed : ((l : Int) / 2) = ((l / 2 : Nat) : Int) := by omega
      refine q_set (v := .int ((l / 2 : Nat) : Int)) (val_to (val_opC (C := CDivW) (g := fun i j => V.int (i / j)) (val_var rfl) val_c ⟨by decide, by decide⟩) (by rw [ed])) ?_
      refine s_when (ans_of (val_op0 (g := fun i j => V.bl (decide (j < i))) (val_var rfl) val_c)) (fun z => ?_) (fun z => ?_)
      · have z2 := of_decide_eq_true z
        have hl2 : 0 < l / 2 := by omega
        have ej : j * (2 * (l / 2)) = (j + j) * (l / 2) := by rw [← Nat.mul_assoc, Nat.mul_two]
        refine sS (call_of (va_cons (val_var rfl) (va_cons (val_var rfl) va_nil)) ⟨s, s, Sq, Sq, rfl, .inr hS2, .inr hS2, hlen hj pS, hlen hj pS, hsm hj pS, hsm hj pS, fun t H3 s3 ht => ?_⟩)
        exact hN _ _ (l / 2) (by omega) ⟨r2, t, R2, _, i2, j + j, rfl, s2.trans s3, s3.tup hR2, ht, pR2, fun e => by omega, fun _ => ⟨pS.mul pS, by omega⟩⟩
      · have z2 := of_decide_eq_false z
        have hl2 : l / 2 = 0 := by omega
        refine hN _ _ (l / 2) (by omega) ⟨r2, s, R2, Sq, i2, j, rfl, s2, hR2, hS2, pR2, fun _ => ?_, fun e => by omega⟩
        simp only [hl2, Nat.mul_zero, Nat.add_zero] at e2
        exact e2
    · have hl : l = 0 := by
        have := of_decide_eq_false hb1
        omega
      have hi := z0 hl
      subst hi
      exact sR ⟨_, rfl, k r R H' s' pR hR⟩
theorem sc_path_row : FnScope N_path_row ["wins", "losses"] (defScope s_path_row) := ⟨rfl, rfl, rfl, by decide +kernel, rfl, by decide +kernel, by decide +kernel⟩

def spPathRow (K : PySem.W.Frag) : Sp := fun vs H Q _ => ∃ (w l : Int), vs = [.int w, .int l] ∧ 0 ≤ w ∧ w ≤ 1000 ∧ 0 ≤ l ∧ l ≤ 1000 ∧ ∀ t R H', Same H H' → IsPow (co [1, -1]) l.toNat R → SqT K H' t (iVs ((List.range w.toNat).map (fun _ => 0) ++ R)) → Q (.ref t) H'
theorem ok_path_row (T : Txt K mg A) : FnOk P w K mg base CX0 5 A.f_path_row A.d_path_row ["wins", "losses"] (spPathRow K) := by
  have Gpower := ok_power (P := P) (w := w) (base := base) T
  refine T.F_path_row.ok sc_path_row (fun vs H Q E h => ?_) (fun cdv Ar outer s H vs Q E hr h => ?_)
  · obtain ⟨w, l, rfl, _⟩ := h
    rfl
  · obtain ⟨w, l, rfl, w0, w1, l0, l1, k⟩ := h
    refine ⟨_, (pss_one (ps_ret (pe_op op_catA (pe_callTy call_tuple_of (by rfl) T.z_tuple (by decide +kernel) (pa_cons (pe_lc (own := [("_", 2)]) (g := gName 2) (tt := tYes) rfl sc_path_row.nd (pi_range1 (by rfl) T.z_range (pa_cons (pv 0) pa_nil)) (blkOk_by (own := [("_", 2)]) (N := N_path_row) (sc := defScope s_path_row) (by decide +kernel)) (fun _ _ _ _ _ => (pg_name (i := 2) sc_path_row.nd rfl (Or.inl rfl))) (fun _ _ _ _ _ => pts_nil) (fun _ _ _ _ _ => pe_int)) pa_nil)) (pe_call Gpower (hr.mono (by decide)) rfl T.g_power T.k_power T.b_power .nil pass0 (pa_cons (pe_tup (pa_cons pe_int (pa_cons (pe_un un_neg pe_int) pa_nil))) (pa_cons (pv 1) pa_nil)))))), ?_⟩
    refine sR ⟨_, rfl, w, rfl, by omega, by omega, fun D hD => ?_⟩
    refine lcI (fun _ => 0) hD (by show _ ≤ 2 ^ 24; omega) (fun j H2 hj s2 => val_c) (fun H2 s2 h2 => ?_)
    refine ⟨D, _, rfl, .inl ⟨SqL.of h2, fun q hq => ?_⟩⟩
    refine ⟨_, rfl, (by show 2 ≤ sizeLine; decide), fun r hr => ?_⟩
    have hq' : upd (upd H2 q (.tup (iVs ((List.range w.toNat).map fun _ => 0)))) r (.tup (iVs [1, -1])) q = some (.tup (iVs ((List.range w.toNat).map fun _ => 0))) := kept upd_same hr
    have sq : Same H (upd (upd H2 q (.tup (iVs ((List.range w.toNat).map fun _ => 0)))) r (.tup (iVs [1, -1]))) := (s2.trans (same_upd hq)).trans (same_upd hr)
    refine ⟨_, rfl, r, [1, -1], l, 2, rfl, SqT.of upd_same, by decide, l0, l1, by decide, by decide, (nb_of (M := 1) (L := 2) (bd_of (by decide)) (by decide)), by decide, fun t R H3 s3 pR ht => ?_⟩
    have hf : ∀ k, 2 ≤ k → co [1, -1] k = 0 := fun k hk => co_ge hk
    have lR := pR.len hf
    have lz : ((List.range w.toNat).map fun _ => (0 : Int)).length = w.toNat := by rw [List.length_map, List.length_range]
    refine ⟨q, t, _, _, rfl, rfl, SqT.of (s3 _ _ hq'), ht, ?_, fun e => ?_, fun _ e => ?_, fun _ _ p hp => ?_⟩
    · rw [iVs_len, iVs_len, lz]
      show _ ≤ 2 ^ 24
      omega
    · have e2 : ((List.range w.toNat).map fun _ => (0 : Int)) = [] := List.map_eq_nil_iff.mp e
      refine k t R H3 (sq.trans s3) pR ?_
      rw [e2]
      exact ht
    · have e2 : R = [] := List.map_eq_nil_iff.mp e
      refine k q R H3 (sq.trans s3) pR ?_
      rw [e2, List.append_nil]
      exact SqT.of (s3 _ _ hq')
    · refine k p R _ ((sq.trans s3).trans (same_upd hp)) pR (SqT.of ?_)
      rw [upd_same, iVs_app]
theorem sc_value_at : FnScope N_value_at ["row", "num", "den"] (defScope s_value_at) := ⟨rfl, rfl, rfl, by decide +kernel, rfl, by decide +kernel, by decide +kernel⟩

def spValueAt (K : PySem.W.Frag) : Sp := fun vs H Q _ => ∃ (a : Addr) (row : List Int) (num den : Int) (c m : Nat), vs = [.ref a, .int num, .int den] ∧ SqT K H a (iVs row) ∧ ((∀ k, (co row k).natAbs < 2 ^ c) ∧ num.natAbs < 2 ^ m ∧ den.natAbs < 2 ^ m ∧ 1 ≤ m ∧ m ≤ 400 ∧ c ≤ 100000 ∧ row.length ≤ 1000) ∧ ∀ H', Same H H' → Q (.int (VS (co row) num den row.length)) H'
theorem rev_at {row : List Int} {i : Nat} {y : V} (h : (iVs row).reverse[i]? = some y) : i < row.length ∧ y = .int (co row (row.length - 1 - i)) := by
  have hi : i < row.length := by
    have := (List.getElem?_eq_some_iff.mp h).1
    rw [List.length_reverse, iVs_len] at this
    exact this
  refine ⟨hi, ?_⟩
  rw [List.getElem?_reverse (by rw [iVs_len]; exact hi), iVs_len, iVs_get (by omega)] at h
  exact (Option.some.inj h).symm
theorem ok_value_at (T : Txt K mg A) : FnOk P w K mg base CX0 1 A.f_value_at A.d_value_at ["row", "num", "den"] (spValueAt K) := by
  refine T.F_value_at.ok sc_value_at (fun vs H Q E h => ?_) (fun cdv Ar outer s H vs Q E hr h => ?_)
  · obtain ⟨a, row, num, den, c, m, rfl, _⟩ := h
    rfl
  · obtain ⟨a, row, num, den, c, m, rfl, hT, ⟨bc, bn, bd, m1, m4, hc, hl⟩, k⟩ := h
    refine ⟨_, (pss_cons (ps_set (i := 3) sc_value_at.nd rfl (Or.inl rfl) pe_int)
      (pss_cons (ps_set (i := 4) sc_value_at.nd rfl (Or.inl rfl) pe_int)
      (pss_cons (ps_for PassesOwn.never rfl (pi_tup (pe_revI (pv 0))) (pg_name (i := 5) sc_value_at.nd rfl (Or.inl rfl)) (pss_cons (ps_set (i := 3) sc_value_at.nd rfl (Or.inl rfl) (pe_op op_add (pe_op op_mulW (pv 3) (pv 1)) (pe_op op_mulW (pv 5) (pv 4))))
      (pss_one (ps_set (i := 4) sc_value_at.nd rfl (Or.inl rfl) (pe_op op_mulW (pv 4) (pv 2))))))
      (pss_one (ps_ret (pv 3)))))), ?_⟩
    refine q_set val_c ?_
    refine q_set val_c ?_
    refine ⟨_, rfl, a, iVs row, rfl, .inr ⟨hT, fun p hp => ⟨p, rfl, ⟨_, SqT.of upd_same⟩, for_tup (K := K) (a := p) (xs := (iVs row).reverse) (fun i σ' H' => (∃ v5, σ' = [some (.ref a), some (.int num), some (.int den), some (.int (VS (fun k => co row (row.length - i + k)) num den i)), some (.int (den ^ i)), v5]) ∧ H' = upd H p (.tup (iVs row).reverse)) ⟨⟨none, by rw [Int.pow_zero]; rfl⟩, rfl⟩ (fun i σ' H' _ ⟨_, e⟩ => e ▸ SqT.of upd_same) ?_ ?_⟩⟩⟩
    · rintro i y σ' H' hi ⟨⟨v5, rfl⟩, rfl⟩
      obtain ⟨hlt, rfl⟩ := rev_at hi
      have hT0 := VS_bd (f := fun k => co row (row.length - i + k)) (a := num) (d := den) (c := c) (m := m) (fun k => bc _) bn bd i
      have hS0 := pow_lt' bd i
      have hm1 : (m + 1) * i ≤ 401 * 1000 := Nat.mul_le_mul (by omega) (by omega)
      have hm2 : m * i ≤ 400 * 1000 := Nat.mul_le_mul (by omega) (by omega)
      have est : VS (fun k => co row (row.length - (i + 1) + k)) num den (i + 1) = VS (fun k => co row (row.length - i + k)) num den i * num + co row (row.length - 1 - i) * den ^ i := by
        rw [VS_head]
        congr 2
        · exact VS_congr fun k hk => by rw [show row.length - (i + 1) + (k + 1) = row.length - i + k by omega]
        · rw [show row.length - (i + 1) + 0 = row.length - 1 - i by omega]
      refine q_set (v := .int (VS (fun k => co row (row.length - (i + 1) + k)) num den (i + 1))) ?_ ?_
      · rw [est]
        exact val_op0 (g := fun i j => V.int (i + j)) (val_opC (C := CMulW) (g := fun i j => V.int (i * j)) (val_var rfl) (val_var rfl) (wide_mul (a := c + (m + 1) * i + 1) (Nat.lt_of_lt_of_le hT0 (Nat.pow_le_pow_right (by decide) (by omega))) bn (by omega) (by omega) (by omega))) (val_opC (C := CMulW) (g := fun i j => V.int (i * j)) (val_var rfl) (val_var rfl) (wide_mul (a := c + 1) (Nat.lt_of_lt_of_le (bc _) (Nat.pow_le_pow_right (by decide) (by omega))) hS0 (by omega) (by omega) (by omega)))
      · refine s_set (v := .int (den ^ i * den)) (val_opC (C := CMulW) (g := fun i j => V.int (i * j)) (val_var rfl) (val_var rfl) (wide_mul hS0 bd (by omega) (by omega) (by omega))) ?_
        exact ⟨⟨_, by rw [Int.pow_succ]; rfl⟩, rfl⟩
    · rintro σ' H' ⟨⟨v5, rfl⟩, rfl⟩
      rw [List.length_reverse, iVs_len]
      dsimp only
      have e : VS (fun k => co row (row.length - row.length + k)) num den row.length = VS (co row) num den row.length := VS_congr fun k _ => by rw [Nat.sub_self, Nat.zero_add]
      rw [e]
      exact sR ((val_var (v := .int (VS (co row) num den row.length)) rfl).at (k _ (same_upd hp)))
theorem sc_raised : FnScope N_raised ["number", "exponent"] (defScope s_raised) := ⟨rfl, rfl, rfl, by decide +kernel, rfl, by decide +kernel, by decide +kernel⟩

def spRaised : Sp := fun vs H Q _ => ∃ (x e : Int) (m : Nat), vs = [.int x, .int e] ∧ x.natAbs < 2 ^ m ∧ 1 ≤ m ∧ m ≤ 400 ∧ -2000 ≤ e ∧ e ≤ 2000 ∧ Q (.int (x ^ e.toNat)) H
theorem ok_raised (T : Txt K mg A) : FnOk P w K mg base CX0 1 A.f_raised A.d_raised ["number", "exponent"] spRaised := by
  refine T.F_raised.ok sc_raised (fun vs H Q E h => ?_) (fun cdv Ar outer s H vs Q E hr h => ?_)
  · obtain ⟨x, e, m, rfl, _⟩ := h
    rfl
  · obtain ⟨x, e, m, rfl, bx, m1, m4, e0, e1, k⟩ := h
    refine ⟨_, (pss_cons (ps_set (i := 2) sc_raised.nd rfl (Or.inl rfl) pe_int)
      (pss_cons (ps_for PassesOwn.never rfl (pi_range1 (by rfl) T.z_range (pa_cons (pv 1) pa_nil)) (pg_name (i := 3) sc_raised.nd rfl (Or.inl rfl)) (pss_one (ps_set (i := 2) sc_raised.nd rfl (Or.inl rfl) (pe_op op_mulW (pv 2) (pv 0)))))
      (pss_one (ps_ret (pv 2))))), ?_⟩
    refine q_set val_c ?_
    refine ⟨_, rfl, e, rfl, by omega, by omega, for_range (fun i σ' H' => (∃ v3, σ' = [some (.int x), some (.int e), some (.int (x ^ i)), v3]) ∧ H' = H) ⟨⟨none, by rw [Int.pow_zero]; rfl⟩, rfl⟩ ?_ ?_⟩
    · rintro i σ' H' hi ⟨⟨v3, rfl⟩, rfl⟩
      have hS0 := pow_lt' bx i
      have hm2 : m * i ≤ 400 * 2000 := Nat.mul_le_mul (by omega) (by omega)
      refine s_set (v := .int (x ^ i * x)) (val_opC (C := CMulW) (g := fun i j => V.int (i * j)) (val_var rfl) (val_var rfl) (wide_mul hS0 bx (by omega) (by omega) (by omega))) ?_
      exact ⟨⟨_, by rw [Int.pow_succ]; rfl⟩, rfl⟩
    · rintro σ' H' ⟨⟨v3, rfl⟩, rfl⟩
      dsimp only
      exact sR ((val_var (v := .int (x ^ e.toNat)) rfl).at k)
theorem sc_lowest_terms : FnScope N_lowest_terms ["top", "den", "exponent"] (defScope s_lowest_terms) := ⟨rfl, rfl, rfl, by decide +kernel, rfl, by decide +kernel, by decide +kernel⟩

/-- top over a power of den, in lowest terms -/
def spLowest : Sp := fun vs H Q _ => ∃ (X den : Int) (n c m : Nat), vs = [.int X, .int den, .int ((n : Int) - 1)] ∧ 0 < den ∧ den.natAbs < 2 ^ m ∧ 1 ≤ m ∧ m ≤ 400 ∧ c ≤ 100000 ∧ n ≤ 1000 ∧ X.natAbs < 2 ^ (c + (m + 1) * n + 1) ∧ (n = 0 → X = 0) ∧ ∀ p H', Same H H' → H p = none → H' p = some (.tup [.int (ratN (X * den) (den ^ n)), .int (ratD (X * den) (den ^ n))]) → Q (.ref p) H'
theorem ok_lowest_terms (T : Txt K mg A) : FnOk P w K mg base CX0 2 A.f_lowest_terms A.d_lowest_terms ["top", "den", "exponent"] spLowest := by
  have Graised := ok_raised (P := P) (w := w) (base := base) T
  refine T.F_lowest_terms.ok sc_lowest_terms (fun vs H Q E h => ?_) (fun cdv Ar outer s H vs Q E hr h => ?_)
  · obtain ⟨X, den, n, c, m, rfl, _⟩ := h
    rfl
  · obtain ⟨X, den, n, c, m, rfl, hd, bd, m1, m4, hc, hl, hV, hV0, k⟩ := h
    refine ⟨_, (pss_cons (ps_set (i := 3) sc_lowest_terms.nd rfl (Or.inl rfl) (pv 0))
      (pss_cons (ps_set (i := 4) sc_lowest_terms.nd rfl (Or.inl rfl) pe_int)
      (pss_cons (ps_for PassesOwn.never rfl (pi_range1 (by rfl) T.z_range (pa_cons (pv 2) pa_nil)) (pg_name (i := 5) sc_lowest_terms.nd rfl (Or.inl rfl)) (pss_cons (ps_set (i := 6) sc_lowest_terms.nd rfl (Or.inl rfl) (pe_callBfun cr_gcd (by rfl) T.g_gcd (pa_cons (pv 3) (pa_cons (pv 1) pa_nil))))
      (pss_cons (ps_if (pt_cmpR op_eq (pv 6) pe_int (nomark _)) (pss_one (ps_ret (pe_tup (pa_cons (pv 3) (pa_cons (pe_op op_mulW (pv 4) (pe_call Graised (hr.mono (by decide)) rfl T.g_raised T.k_raised T.b_raised .nil pass0 (pa_cons (pv 1) (pa_cons (pe_op op_sub (pv 2) (pv 5)) pa_nil)))) pa_nil))))) pss_nil)
      (pss_cons (ps_set (i := 3) sc_lowest_terms.nd rfl (Or.inl rfl) (pe_op op_fdivW (pv 3) (pv 6)))
      (pss_one (ps_set (i := 4) sc_lowest_terms.nd rfl (Or.inl rfl) (pe_op op_mulW (pv 4) (pe_op op_fdivW (pv 1) (pv 6)))))))))
      (pss_one (ps_ret (pe_tup (pa_cons (pv 3) (pa_cons (pv 4) pa_nil)))))))), ?_⟩
    refine q_set (val_var rfl) ?_
    refine q_set val_c ?_
    have hm1 : (m + 1) * n ≤ 401 * 1000 := Nat.mul_le_mul (by omega) (by omega)
    have fin : ∀ {T B : Int} {i : Nat} {p : Addr} {H' : Hp}, X * B = T * den ^ i → 1 ≤ B → Nat.gcd T.natAbs B.natAbs = 1 → (n = i + 1 ∨ (n = 0 ∧ i = 0 ∧ X = 0)) → Same H H' → H' p = none → Q (.ref p) (upd H' p (.tup [.int T, .int B])) := fun {T B i p H'} h h1 h2 h3 s hp => by
      obtain ⟨e1, e2⟩ := vr_end (V := X) (d := den) h hd h1 h2 h3
      refine k p _ (s.trans (same_upd hp)) (s.free hp) ?_
      rw [upd_same, ← e1, ← e2]
    refine ⟨_, rfl, (n : Int) - 1, rfl, by omega, by omega, for_range (fun i σ' H' => (∃ T B v6 v7, σ' = [some (.int X), some (.int den), some (.int ((n : Int) - 1)), some (.int T), some (.int B), v6, v7] ∧ X * B = T * den ^ i ∧ 1 ≤ B ∧ B ≤ den ^ i ∧ Nat.gcd T.natAbs B.natAbs = 1 ∧ T.natAbs ≤ X.natAbs) ∧ H' = H) ⟨⟨X, 1, _, _, rfl, by rw [Int.pow_zero], by decide, by rw [Int.pow_zero]; decide, Nat.gcd_one_right _, Nat.le_refl _⟩, rfl⟩ ?_ ?_⟩
    · rintro i σ' H' hi ⟨⟨T, B, v6, v7, rfl, h1, h2, h2b, h3, h4⟩, rfl⟩
      have hBp : B.natAbs < 2 ^ (m * i + 1) := by
        have q := pow_lt' bd i
        omega
      have hmi : m * i ≤ 400 * 1000 := Nat.mul_le_mul (by omega) (by omega)
      have hgle : Nat.gcd T.natAbs den.natAbs ≤ den.natAbs := Nat.gcd_le_right _ (by omega)
      have gpos : 0 < Nat.gcd T.natAbs den.natAbs := Nat.gcd_pos_of_pos_right _ (by omega)
      obtain ⟨w1, w2, w3, w4, w5⟩ := vr_step (V := X) (B := B) h1 hd h2 h3
      refine qS ⟨_, rfl, _, rfl, T, den, rfl, ?_⟩
      refine q_when (b := decide (V.int ((Nat.gcd T.natAbs den.natAbs : Nat) : Int) = V.int 1)) (ans_of (val_eq (val_var rfl) val_c rfl)) (fun z => ?_) (fun z => ?_)
      · have z1 : ((Nat.gcd T.natAbs den.natAbs : Nat) : Int) = 1 := V.int.inj (of_decide_eq_true z)
        have z2 : Nat.gcd T.natAbs den.natAbs = 1 := by omega
        have hk : ((n : Int) - 1 - (0 + (i : Int))).toNat = n - 1 - i := by omega
        have hP := pow_lt' bd (n - 1 - i)
        have hP2 : m * (n - 1 - i) ≤ 400 * 1000 := Nat.mul_le_mul (by omega) (by omega)
        refine sR ⟨_, rfl, _, rfl, _, rfl, _, rfl, _, rfl, _, _, rfl, rfl, den, _, m, rfl, bd, m1, m4, by omega, by omega, ?_⟩
        rw [hk]
        refine ⟨_, _, rfl, rfl, wide_mul hBp hP (by omega) (by omega) (by omega), (by show 2 ≤ sizeLine; decide), fun p hp => ?_⟩
        refine fin (i := n - 1) ?_ ?_ ?_ (.inl (by omega)) (Same.refl _) hp
        · rw [← Int.mul_assoc, h1, Int.mul_assoc, ← Int.pow_add, show i + (n - 1 - i) = n - 1 by omega]
        · have q : 0 < den ^ (n - 1 - i) := Int.pow_pos hd
          have := Int.mul_le_mul h2 (show 1 ≤ den ^ (n - 1 - i) by omega) (by decide) (by omega)
          omega
        · rw [Int.natAbs_mul, Int.natAbs_pow]
          exact Nat.Coprime.mul_right h3 (Nat.Coprime.pow_right _ z2)
      · have glog : (((Nat.gcd T.natAbs den.natAbs : Nat) : Int)).natAbs.log2 < 9000 := lgp (n := 400) (by
          have q : den.natAbs < 2 ^ 400 := Nat.lt_of_lt_of_le bd (Nat.pow_le_pow_right (by decide) m4)
          omega)
        refine q_set (v := .int (T / ((Nat.gcd T.natAbs den.natAbs : Nat) : Int))) (val_opC (C := CDivW) (g := fun i j => V.int (i / j)) (val_var rfl) (val_var rfl) ⟨by omega, glog⟩) ?_
        have hq : (den / ((Nat.gcd T.natAbs den.natAbs : Nat) : Int)).natAbs < 2 ^ m := by
          rw [Int.natAbs_ediv, if_pos (.inr (.inr (Int.natAbs_dvd_natAbs.mp (by rw [Int.natAbs_natCast]; exact Nat.gcd_dvd_right _ _))))]
          exact Nat.lt_of_le_of_lt (Nat.div_le_self _ _) bd
        refine s_set (v := .int (B * (den / ((Nat.gcd T.natAbs den.natAbs : Nat) : Int)))) (val_opC (C := CMulW) (g := fun i j => V.int (i * j)) (val_var rfl) (val_opC (C := CDivW) (g := fun i j => V.int (i / j)) (val_var rfl) (val_var rfl) ⟨by omega, glog⟩) (wide_mul hBp hq (by omega) (by omega) (by omega))) ?_
        refine ⟨⟨_, _, _, _, rfl, w1, w2, ?_, w4, Nat.le_trans w5 h4⟩, rfl⟩
        rw [Int.pow_succ]
        exact Int.le_trans w3 (Int.mul_le_mul_of_nonneg_right h2b (by omega))
    · rintro σ' H' ⟨⟨T, B, v6, v7, rfl, h1, h2, h2b, h3, h4⟩, rfl⟩
      dsimp only
      refine sR ⟨_, rfl, _, rfl, (by show 2 ≤ sizeLine; decide), fun p hp => fin h1 h2 h3 ?_ (Same.refl _) hp⟩
      rcases Nat.eq_zero_or_pos n with e | e
      · exact .inr ⟨e, by omega, hV0 e⟩
      · exact .inl (by omega)
theorem sc_value_ratio : FnScope N_value_ratio ["row", "num", "den"] (defScope s_value_ratio) := ⟨rfl, rfl, rfl, by decide +kernel, rfl, by decide +kernel, by decide +kernel⟩

/-- the value of a row at num/den, in lowest terms -/
def vNum (row : List Int) (num den : Int) : Int := ratN (VS (co row) num den row.length * den) (den ^ row.length)
def vDen (row : List Int) (num den : Int) : Int := ratD (VS (co row) num den row.length * den) (den ^ row.length)
def spValueRatio (K : PySem.W.Frag) : Sp := fun vs H Q _ => ∃ (a : Addr) (row : List Int) (num den : Int) (c m : Nat), vs = [.ref a, .int num, .int den] ∧ SqT K H a (iVs row) ∧ 0 < den ∧ ((∀ k, (co row k).natAbs < 2 ^ c) ∧ num.natAbs < 2 ^ m ∧ den.natAbs < 2 ^ m ∧ 1 ≤ m ∧ m ≤ 400 ∧ c ≤ 100000 ∧ row.length ≤ 1000) ∧ ∀ p H', Same H H' → H p = none → H' p = some (.tup [.int (vNum row num den), .int (vDen row num den)]) → Q (.ref p) H'
theorem ok_value_ratio (T : Txt K mg A) : FnOk P w K mg base CX0 3 A.f_value_ratio A.d_value_ratio ["row", "num", "den"] (spValueRatio K) := by
  have Gvalue_at := ok_value_at (P := P) (w := w) (base := base) T
  have Glowest_terms := ok_lowest_terms (P := P) (w := w) (base := base) T
  refine T.F_value_ratio.ok sc_value_ratio (fun vs H Q E h => ?_) (fun cdv Ar outer s H vs Q E hr h => ?_)
  · obtain ⟨a, row, num, den, c, m, rfl, _⟩ := h
    rfl
  · obtain ⟨a, row, num, den, c, m, rfl, hT, hd, hB, k⟩ := h
    refine ⟨_, (pss_one (ps_ret (pe_call Glowest_terms (hr.mono (by decide)) rfl T.g_lowest_terms T.k_lowest_terms T.b_lowest_terms .nil pass0 (pa_cons (pe_call Gvalue_at (hr.mono (by decide)) rfl T.g_value_at T.k_value_at T.b_value_at .nil pass0 (pa_cons (pv 0) (pa_cons (pv 1) (pa_cons (pv 2) pa_nil)))) (pa_cons (pv 2) (pa_cons (pe_op op_sub (pe_callB call_len_seq (by rfl) T.z_len (by decide +kernel) (pa_cons (pv 0) pa_nil)) pe_int) pa_nil)))))), ?_⟩
    obtain ⟨bc, bn, bd, m1, m4, hc, hl⟩ := id hB
    refine sR ⟨_, rfl, _, rfl, _, rfl, a, row, num, den, c, m, rfl, hT, hB, fun H1 s1 => ?_⟩
    have hT1 := s1.tup hT
    have hV := VS_bd (f := co row) (a := num) (d := den) bc bn bd row.length
    have hV0 : row.length = 0 → VS (co row) num den row.length = 0 := fun e => by rw [e]; rfl
    refine ⟨_, rfl, _, rfl, a, _, rfl, .inr hT1, _, _, rfl, rfl, ?_⟩
    rw [iVs_len]
    exact ⟨_, den, row.length, c, m, rfl, hd, bd, m1, m4, hc, hl, Nat.lt_of_lt_of_le hV (Nat.pow_le_pow_right (by decide) (by omega)), hV0, fun p H' s hp h => k p H' (s1.trans s) (s1.free hp) h⟩
theorem sc_Poly___init__ : FnScope N_Poly___init__ ["self", "coefs"] (defScope s_Poly___init__) := ⟨rfl, rfl, rfl, by decide +kernel, rfl, by decide +kernel, by decide +kernel⟩

theorem Txt.pc (T : Txt K mg A) : PolyC K A.C_Poly := ⟨⟨T.pg_Poly, T.hd_Poly, T.po_Poly, T.sa_Poly⟩, T.nc_Poly⟩
theorem Txt.mk_Poly (T : Txt K mg A) : Mk K A.C_Poly A.f_Poly___init__ := ⟨T.mk0_Poly, T.m_Poly___init__, T.i_Poly___init__, T.kp_Poly⟩
theorem Txt.crd_Poly (T : Txt K mg A) : ClX.CRead K A.C_Poly (.type "type") := ⟨T.rd_Poly, T.cg_Poly⟩
theorem Txt.ty_Poly (T : Txt K mg A) {H : Hp} {p dx : Addr} {fs : List (Str × V)} (h : H p = some (.ins A.C_Poly dx fs)) : TyX K H (.ref p) (.ref A.C_Poly) := .base (.ins h T.pc.cls T.ha_Poly T.hn_Poly T.ht_Poly T.hm_Poly)
theorem ok_Poly___init__ (T : Txt K mg A) : FnR P w K mg base CX0 3 A.f_Poly___init__ (starSp 1 (spInit K A.C_Poly)) := by
  have Gtrimmed := ok_trimmed (P := P) (w := w) (base := base) T
  refine okStar (ps := ["self"]) T.F_Poly___init__ sc_Poly___init__ StX.cxUp_none (fun kV doc pm an cdv ct us rest h => (match us, rest, h with | [_], [], _ => rfl | [_], _ :: _, _ => rfl)) (fun cdv Ar outer s H vs Q E hr h => ?_)
  obtain ⟨o, p, dx, row, rfl, ho, hT, k⟩ := h
    
  refine ⟨_, PSs.nox (pss_one (ps_fld (pv 0) (pe_call Gtrimmed (hr.mono (by decide)) rfl T.g_trimmed T.k_trimmed T.b_trimmed .nil pass0 (pa_cons (pv 1) pa_nil)) rfl)), ?_⟩
  refine ⟨_, rfl, p, row, rfl, .inr hT, fun t H' s1 ht => ⟨_, rfl, o, _, dx, [], rfl, s1 _ _ ho, T.pc.cls, T.pc.na, by decide, ?_⟩⟩
  refine k t _ (fun b u hb e => ?_) upd_same (Lk.SqT.past ht (s1 _ _ ho))
  rw [upd_ne hb]
  exact s1 _ _ e
theorem sc_Poly_of : FnScope N_Poly_of ["cls", "coefs"] (defScope s_Poly_of) := ⟨rfl, rfl, rfl, by decide +kernel, rfl, by decide +kernel, by decide +kernel⟩
theorem ok_Poly_of (T : Txt K mg A) : FnOk P w K mg base CX0 5 A.f_Poly_of A.d_Poly_of ["cls", "coefs"] (spOf K A.C_Poly) := by
  have GPoly___init__ := ok_Poly___init__ (P := P) (w := w) (base := base) T
  refine T.F_Poly_of.ok sc_Poly_of (fun vs H Q E h => ?_) (fun cdv Ar outer s H vs Q E hr h => ?_)
  · obtain ⟨a, row, rfl, _⟩ := h
    rfl
  · obtain ⟨a, row, rfl, hS, hl, k⟩ := h
    refine ⟨_, (pss_one (ps_ret (pe_makeLS (i := 0) (C := A.C_Poly) T.mk_Poly GPoly___init__ (hr.mono (by decide)) pass0 rfl (Or.inl rfl) (pv 1)))), ?_⟩
    exact sR ⟨rfl, _, rfl, a, iVs row, rfl, hS.symm, make_row hl k⟩
theorem sc_Poly_path : FnScope N_Poly_path ["cls", "wins", "losses"] (defScope s_Poly_path) := ⟨rfl, rfl, rfl, by decide +kernel, rfl, by decide +kernel, by decide +kernel⟩
theorem ok_Poly_path (T : Txt K mg A) : FnOk P w K mg base CX0 7 A.f_Poly_path A.d_Poly_path ["cls", "wins", "losses"] (spPathP K A.C_Poly) := by
  have Gpath_row := ok_path_row (P := P) (w := w) (base := base) T
  have GPoly___init__ := ok_Poly___init__ (P := P) (w := w) (base := base) T
  refine T.F_Poly_path.ok sc_Poly_path (fun vs H Q E h => ?_) (fun cdv Ar outer s H vs Q E hr h => ?_)
  · obtain ⟨w, l, rfl, _⟩ := h
    rfl
  · obtain ⟨w, l, rfl, w0, w1, l0, l1, k⟩ := h
    refine ⟨_, (pss_cons (ps_set (i := 3) sc_Poly_path.nd rfl (Or.inl rfl) (pe_call Gpath_row (hr.mono (by decide)) rfl T.g_path_row T.k_path_row T.b_path_row .nil pass0 (pa_cons (pv 1) (pa_cons (pv 2) pa_nil))))
      (pss_one (ps_ret (pe_makeLS (i := 0) (C := A.C_Poly) T.mk_Poly GPoly___init__ (hr.mono (by decide)) pass0 rfl (Or.inl rfl) (pv 3))))), ?_⟩
    refine qS ⟨_, rfl, _, rfl, w, l, rfl, w0, w1, l0, l1, fun t R H1 s1 pR ht => ?_⟩
    have hf : ∀ k, 2 ≤ k → co [1, -1] k = 0 := fun k hk => co_ge hk
    have lR := pR.len hf
    exact sR ⟨rfl, _, rfl, t, iVs _, rfl, .inl ht, make_row (by rw [List.length_append, List.length_map, List.length_range]; show _ ≤ 2 ^ 24; omega) ((k _ (IsPath.of pR)).back s1)⟩
theorem sc_Poly_degree : FnScope N_Poly_degree ["self"] (defScope s_Poly_degree) := ⟨rfl, rfl, rfl, by decide +kernel, rfl, by decide +kernel, by decide +kernel⟩
theorem ok_Poly_degree (T : Txt K mg A) : FnOk P w K mg base CX0 1 A.f_Poly_degree A.d_Poly_degree ["self"] (spDegree K A.C_Poly) := by
  refine T.F_Poly_degree.ok sc_Poly_degree (fun vs H Q E h => ?_) (fun cdv Ar outer s H vs Q E hr h => ?_)
  · obtain ⟨p, row, rfl, _⟩ := h
    rfl
  · obtain ⟨p, row, rfl, ⟨dx, t, hp, ht⟩, k⟩ := h
    refine ⟨_, (pss_one (ps_ret (pe_op op_sub (pe_callB call_len_seq (by rfl) T.z_len (by decide +kernel) (pa_cons (pe_fld (pv 0) rfl) pa_nil)) pe_int))), ?_⟩
    refine sR ((val_op0 (val_lenI (val_coefs T.pc (val_var rfl) hp) (.inr ht)) val_c).at k)
theorem sc_Poly___call__ : FnScope N_Poly___call__ ["self", "at"] (defScope s_Poly___call__) := ⟨rfl, rfl, rfl, by decide +kernel, rfl, by decide +kernel, by decide +kernel⟩

def spPCall (K : PySem.W.Frag) (C : Addr) : Sp := fun vs H Q _ => ∃ (p q : Addr) (row : List Int) (num den : Int) (c m : Nat), vs = [.ref p, .ref q] ∧ PolyAt K C H p row ∧ SqT K H q [.int num, .int den] ∧ 0 < den ∧ ((∀ k, (co row k).natAbs < 2 ^ c) ∧ num.natAbs < 2 ^ m ∧ den.natAbs < 2 ^ m ∧ 1 ≤ m ∧ m ≤ 400 ∧ c ≤ 100000 ∧ row.length ≤ 1000) ∧ ∀ r H', Same H H' → H r = none → H' r = some (.tup [.int (vNum row num den), .int (vDen row num den)]) → Q (.ref r) H'
theorem Txt.co_Poly (T : Txt K mg A) : StX.CallO K A.C_Poly A.f_Poly___call__ := ⟨T.m_Poly___call__, T.i_Poly___call__, T.fi_Poly_call⟩
theorem ok_Poly___call__ (T : Txt K mg A) : FnOk P w K mg base CX0 4 A.f_Poly___call__ A.d_Poly___call__ ["self", "at"] (spPCall K A.C_Poly) := by
  have Gvalue_ratio := ok_value_ratio (P := P) (w := w) (base := base) T
  refine T.F_Poly___call__.ok sc_Poly___call__ (fun vs H Q E h => ?_) (fun cdv Ar outer s H vs Q E hr h => ?_)
  · obtain ⟨p, q, row, num, den, c, m, rfl, _⟩ := h
    rfl
  · obtain ⟨p, q, row, num, den, c, m, rfl, ⟨dx, t, hp, ht⟩, hq, hd, hB, k⟩ := h
    refine ⟨_, (pss_cons (ps_asg (pv 1) (pg_tup (by rfl) (pgs_cons (pg_name (i := 2) sc_Poly___call__.nd rfl (Or.inl rfl)) (pgs_cons (pg_name (i := 3) sc_Poly___call__.nd rfl (Or.inl rfl)) pgs_nil))))
      (pss_one (ps_ret (pe_call Gvalue_ratio (hr.mono (by decide)) rfl T.g_value_ratio T.k_value_ratio T.b_value_ratio .nil pass0 (pa_cons (pe_fld (pv 0) rfl) (pa_cons (pv 2) (pa_cons (pv 3) pa_nil))))))), ?_⟩
    apply qU2 (val_var rfl) hq
    exact sR ⟨_, rfl, p, _, dx, _, _, rfl, hp, T.pc.cls, T.pc.na, rfl, _, rfl, _, rfl, t, row, num, den, c, m, rfl, ht, hd, hB, k⟩
theorem sc_Poly___len__ : FnScope N_Poly___len__ ["self"] (defScope s_Poly___len__) := ⟨rfl, rfl, rfl, by decide +kernel, rfl, by decide +kernel, by decide +kernel⟩
theorem ok_Poly___len__ (T : Txt K mg A) : FnOk P w K mg base CX0 1 A.f_Poly___len__ A.d_Poly___len__ ["self"] (spLen K A.C_Poly) := by
  refine T.F_Poly___len__.ok sc_Poly___len__ (fun vs H Q E h => ?_) (fun cdv Ar outer s H vs Q E hr h => ?_)
  · obtain ⟨p, row, rfl, _⟩ := h
    rfl
  · obtain ⟨p, row, rfl, ⟨dx, t, hp, ht⟩, k⟩ := h
    refine ⟨_, (pss_one (ps_ret (pe_callB call_len_seq (by rfl) T.z_len (by decide +kernel) (pa_cons (pe_fld (pv 0) rfl) pa_nil)))), ?_⟩
    refine sR ((val_lenI (val_coefs T.pc (val_var rfl) hp) (.inr ht)).at k)
theorem sc_Poly___repr__ : FnScope N_Poly___repr__ ["self"] (defScope s_Poly___repr__) := ⟨rfl, rfl, rfl, by decide +kernel, rfl, by decide +kernel, by decide +kernel⟩
theorem ok_Poly___repr__ (T : Txt K mg A) : FnOk P w K mg base CX0 1 A.f_Poly___repr__ A.d_Poly___repr__ ["self"] (spRepr K A.C_Poly) := by
  refine T.F_Poly___repr__.ok sc_Poly___repr__ (fun vs H Q E h => ?_) (fun cdv Ar outer s H vs Q E hr h => ?_)
  · obtain ⟨p, row, rfl, _⟩ := h
    rfl
  · obtain ⟨p, row, rfl, ⟨dx, t, hp, ht⟩, hl, hb, k⟩ := h
    refine ⟨_, (pss_cons (ps_setLc (i := 1) (own := [("coef", 2)]) (g := gName 2) (tt := tYes) rfl sc_Poly___repr__.nd rfl rfl (sw_true rfl rfl rfl (by decide +kernel)) (pi_tup (pe_fld (pv 0) rfl)) (blkOk_by (own := [("coef", 2)]) (N := N_Poly___repr__) (sc := defScope s_Poly___repr__) (by decide +kernel)) (fun _ _ _ _ _ => (pg_name (i := 2) sc_Poly___repr__.nd rfl (Or.inl rfl))) (fun _ _ _ _ _ => pts_nil) (fun _ _ _ _ _ => (pe_callTy call_str_int (by rfl) T.z_str (by decide +kernel) (pa_cons (pv 2) pa_nil))))
      (pss_one (ps_ret (pe_joined (PJ.cons pe_str (PJ.cons (pe_fmt (pe_join pe_str (pv 1))) (PJ.cons pe_str PJ.nil))))))), ?_⟩
    refine qS ⟨_, rfl, p, _, dx, _, _, rfl, hp, T.pc.cls, T.pc.na, rfl, t, rfl, ⟨_, ht⟩, fun D hD => ?_⟩
    refine lc_tup (K := K) (a := t) (xs := iVs row) (fun i H' => Same H H' ∧ H' D = some (.lst ((tStrs (row.take i)).map V.str))) ⟨same_upd hD, upd_same⟩ (fun i H' _ h => h.1.tup ht) ?_ ?_
    · rintro i y H' hi ⟨s1, h1⟩
      obtain ⟨hl2, rfl⟩ := iVs_at hi
      have hx := hb _ (List.getElem_mem hl2)
      rw [← co_lt hl2] at hx
      refine ⟨rfl, _, rfl, _, rfl, hx, _, h1, ?_, fun b o e => by rw [upd_ne (ne_of_none e hD)]; exact s1 b o e, ?_⟩
      · rw [List.length_map, tStrs, List.length_map, List.length_take]
        show _ < 2 ^ 24
        omega
      · rw [upd_same, List.take_succ_eq_append_getElem hl2, tStrs_snoc, List.map_append, co_lt hl2]
        rfl
    · rintro H2 ⟨s2, h2⟩
      rw [iVs_len, List.take_length] at h2
      obtain ⟨j1, j2⟩ := tStrs_join hl hb
      have e5 : (Str.ofString "Poly(").length = 5 := by decide +kernel
      have e1 : (Str.ofString ")").length = 1 := by decide +kernel
      refine sR ⟨_, rfl, by rw [Str.empty_append, e5]; decide, ?_⟩
      refine ⟨⟨_, rfl⟩, _, rfl, _, D, tStrs row, rfl, rfl, .inl (SqL.of h2), j1, ?_⟩
      refine .inl ⟨_, rfl, Nat.le_trans j2 (by decide), _, rfl, ?_, ?_⟩
      · rw [Str.empty_append, Str.length_append, e5]
        show _ ≤ 2 ^ 24
        omega
      · refine ⟨_, rfl, ?_, ?_⟩
        · rw [Str.empty_append, Str.length_append, Str.length_append, e5, e1]
          show _ ≤ 2 ^ 24
          omega
        · have q := k H2 s2
          unfold showP at q
          rw [Str.empty_append]
          exact q
theorem sc_Poly___getitem__ : FnScope N_Poly___getitem__ ["self", "at"] (defScope s_Poly___getitem__) := ⟨rfl, rfl, rfl, by decide +kernel, rfl, by decide +kernel, by decide +kernel⟩
theorem ok_Poly___getitem__ (T : Txt K mg A) : FnOk P w K mg base CX0 1 A.f_Poly___getitem__ A.d_Poly___getitem__ ["self", "at"] (spGet K A.C_Poly) := by
  refine T.F_Poly___getitem__.ok sc_Poly___getitem__ (fun vs H Q E h => ?_) (fun cdv Ar outer s H vs Q E hr h => ?_)
  · obtain ⟨p, row, j, rfl, _⟩ := h
    rfl
  · obtain ⟨p, row, j, rfl, ⟨dx, t, hp, ht⟩, k⟩ := h
    refine ⟨_, (pss_cons (ps_if (pt_chain op_le op_lt pe_int (pv 1) (pe_callB call_len_seq (by rfl) T.z_len (by decide +kernel) (pa_cons (pe_fld (pv 0) rfl) pa_nil))) (pss_one (ps_ret (pe_ix ix_tup (pe_fld (pv 0) rfl) (pv 1) (fun _ _ => rfl)))) pss_nil)
      (pss_one (ps_ret pe_int))), ?_⟩
    refine q_when (ans_of (val_chain val_c (val_var rfl) (val_lenI (val_coefs T.pc (val_var rfl) hp) (.inr ht)))) (fun z => ?_) (fun z => ?_)
    · obtain ⟨z1, z2⟩ := Bool.and_eq_true_iff.mp z
      have z1' : 0 ≤ j := of_decide_eq_true z1
      have z2' : j < row.length := of_decide_eq_true z2
      refine sR ((val_ixT (val_coefs T.pc (val_var rfl) hp) (val_var rfl) ht (atI_iVs z1' z2')).at ?_)
      rw [coZ, if_pos z1'] at k
      exact k
    · refine sR (val_c.at ?_)
      have e : coZ row j = 0 := by
        unfold coZ
        split
        · refine co_ge ?_
          rename_i h0
          rw [decide_eq_true h0, Bool.true_and] at z
          have := of_decide_eq_false z
          omega
        · rfl
      rw [e] at k
      exact k
theorem sc__row_of : FnScope N__row_of ["value"] (defScope s__row_of) := ⟨rfl, rfl, rfl, by decide +kernel, rfl, by decide +kernel, by decide +kernel⟩
theorem ok__row_of (T : Txt K mg A) : FnOk P w K mg base CX0 3 A.f__row_of A.d__row_of ["value"] (spRowOf K A.C_Poly) := by
  have Gtrimmed := ok_trimmed (P := P) (w := w) (base := base) T
  have Gis_integer := ok_is_integer (P := P) (w := w) (base := base) T
  refine T.F__row_of.ok sc__row_of (fun vs H Q E h => ?_) (fun cdv Ar outer s H vs Q E hr h => ?_)
  · obtain ⟨y, row, rfl, _⟩ := h
    rfl
  · obtain ⟨y, row, rfl, hy, k⟩ := h
    refine ⟨_, (pss_cons (ps_if (pt_val (pe_callB call_isi (by rfl) T.z_isinstance (by decide +kernel) (pa_cons (pv 0) (pa_cons (pe_glob (v := .ref A.C_Poly) rfl T.g_Poly rfl) pa_nil)))) (pss_one (ps_ret (pe_fld (pv 0) rfl))) pss_nil)
      (pss_cons (ps_if (pt_val (pe_call Gis_integer (hr.mono (by decide)) rfl T.g_is_integer T.k_is_integer T.b_is_integer .nil pass0 (pa_cons (pv 0) pa_nil))) (pss_one (ps_ret (pe_call Gtrimmed (hr.mono (by decide)) rfl T.g_trimmed T.k_trimmed T.b_trimmed .nil pass0 (pa_cons (pe_tup (pa_cons (pv 0) pa_nil)) pa_nil)))) pss_nil)
      (pss_one (ps_ret pe_non)))), ?_⟩
    rcases hy with ⟨p, rfl, dx, t, hp, ht⟩ | ⟨n, rfl, rfl⟩
    · refine qW ⟨_, rfl, _, _, _, _, true, rfl, .own _, T.ty_Poly hp, T.ki_Poly, true, rfl, iteT ?_⟩
      exact sR ((val_coefs T.pc (val_var rfl) hp).at (k t H (Same.refl _) ht))
    · refine qW ⟨_, rfl, _, _, _, _, false, rfl, .own _, .base (.int n), T.k_int_Poly, false, rfl, iteF ?_⟩
      refine qW ⟨_, rfl, n, rfl, true, rfl, iteT ?_⟩
      exact sR ⟨_, rfl, by show 1 ≤ sizeLine; decide, fun q hq => ⟨q, [n], rfl, SqI.tup upd_same, fun t H' s' ht => k t H' ((same_upd hq).trans s') ht⟩⟩
theorem sc_Poly___add__ : FnScope N_Poly___add__ ["self", "other"] (defScope s_Poly___add__) := ⟨rfl, rfl, rfl, by decide +kernel, rfl, by decide +kernel, by decide +kernel⟩
theorem ok_Poly___add__ (T : Txt K mg A) : FnOk P w K mg base CX0 6 A.f_Poly___add__ A.d_Poly___add__ ["self", "other"] (spBin addI K A.C_Poly) := by
  have G_row_of := ok__row_of (P := P) (w := w) (base := base) T
  have Gplus := ok_plus (P := P) (w := w) (base := base) T
  have GPoly___init__ := ok_Poly___init__ (P := P) (w := w) (base := base) T
  refine T.F_Poly___add__.ok sc_Poly___add__ (fun vs H Q E h => ?_) (fun cdv Ar outer s H vs Q E hr h => ?_)
  · obtain ⟨p, xs, y, ys, rfl, _⟩ := h
    rfl
  · obtain ⟨p, xs, y, ys, rfl, ⟨dx, t, hp, ht⟩, hy, lx, ly, k⟩ := h
    refine ⟨_, (pss_cons (ps_set (i := 2) sc_Poly___add__.nd rfl (Or.inl rfl) (pe_call G_row_of (hr.mono (by decide)) rfl T.g__row_of T.k__row_of T.b__row_of .nil pass0 (pa_cons (pv 1) pa_nil)))
      (pss_cons (ps_if (pt_cmpR op_isN (pv 2) pe_non (nomark _)) (pss_one ps_never) pss_nil)
      (pss_cons (ps_set (i := 3) sc_Poly___add__.nd rfl (Or.inl rfl) (pe_call Gplus (hr.mono (by decide)) rfl T.g_plus T.k_plus T.b_plus .nil pass0 (pa_cons (pe_fld (pv 0) rfl) (pa_cons (pv 2) pa_nil))))
      (pss_one (ps_ret (pe_makeS T.mk_Poly GPoly___init__ (hr.mono (by decide)) rfl T.g_Poly pass0 (pv 3))))))), ?_⟩
    refine qS ⟨_, rfl, y, ys, rfl, hy, fun r H1 s1 hr => ?_⟩
    refine qW ⟨_, rfl, rfl, _, rfl, iteF ?_⟩
    have hp1 := s1 _ _ hp
    have ht1 := s1.tup ht

    refine qS ⟨_, rfl, p, _, dx, _, _, rfl, hp1, T.pc.cls, T.pc.na, rfl, _, rfl, t, r, xs, ys, rfl, .inr ht1, .inr hr, by omega, by omega, fun q H2 s2 hq => ?_⟩
    have hl := trim_len (addI xs ys)
    rw [add_len] at hl
    refine sR ⟨_, rfl, q, _, rfl, .inl hq, make_row (by show _ ≤ 2 ^ 24; omega) ?_⟩
    rw [trim_trim]
    exact k.back (s1.trans s2)
theorem sc_Poly___radd__ : FnScope N_Poly___radd__ ["self", "other"] (defScope s_Poly___radd__) := ⟨rfl, rfl, rfl, by decide +kernel, rfl, by decide +kernel, by decide +kernel⟩

theorem Txt.op_add (T : Txt K mg A) : OpOk K A.C_Poly A.f_Poly___add__ "add" := ⟨T.sf_Poly, by rw [dun_add]; exact T.m_Poly___add__, T.i_Poly___add__⟩
theorem Txt.opi_add (T : Txt K mg A) : OpOkI K A.C_Poly "add" := ⟨⟨_, by rw [dunr_add]; exact T.m_Poly___radd__, .inr ⟨_, rfl⟩⟩, ⟨_, by rw [dun_add]; exact T.i1add_Poly⟩, ⟨_, by rw [dunr_add]; exact T.i2add_Poly⟩, T.si_Poly⟩
theorem ok_Poly___radd__ (T : Txt K mg A) : FnOk P w K mg base CX0 7 A.f_Poly___radd__ A.d_Poly___radd__ ["self", "other"] (spRadd K A.C_Poly) := by
  have GPoly___add__ := ok_Poly___add__ (P := P) (w := w) (base := base) T
  refine T.F_Poly___radd__.ok sc_Poly___radd__ (fun vs H Q E h => ?_) (fun cdv Ar outer s H vs Q E hr h => ?_)
  · obtain ⟨p, xs, n, rfl, _⟩ := h
    rfl
  · obtain ⟨p, xs, n, rfl, hp, lx, k⟩ := h
    refine ⟨_, (pss_one (ps_ret (pe_op (op_binI T.op_add T.opi_add (fnr0 GPoly___add__ T.b_Poly___add__) (hr.mono (by decide)) pass0) (pv 0) (pv 1)))), ?_⟩
    obtain ⟨dx, t, h1, h2⟩ := id hp
    exact sR ⟨_, rfl, _, rfl, p, dx, _, n, rfl, rfl, h1, p, xs, _, trimI [n], rfl, hp, .inr ⟨n, rfl, rfl⟩, lx, Nat.le_trans (trim_len [n]) (by show 1 ≤ 2 ^ 19; decide), k⟩
theorem sc_Poly___neg__ : FnScope N_Poly___neg__ ["self"] (defScope s_Poly___neg__) := ⟨rfl, rfl, rfl, by decide +kernel, rfl, by decide +kernel, by decide +kernel⟩
theorem ok_Poly___neg__ (T : Txt K mg A) : FnOk P w K mg base CX0 5 A.f_Poly___neg__ A.d_Poly___neg__ ["self"] (spNegP K A.C_Poly) := by
  have Gnegated := ok_negated (P := P) (w := w) (base := base) T
  have GPoly___init__ := ok_Poly___init__ (P := P) (w := w) (base := base) T
  refine T.F_Poly___neg__.ok sc_Poly___neg__ (fun vs H Q E h => ?_) (fun cdv Ar outer s H vs Q E hr h => ?_)
  · obtain ⟨p, xs, rfl, _⟩ := h
    rfl
  · obtain ⟨p, xs, rfl, ⟨dx, t, hp1, ht⟩, lx, k⟩ := h
    refine ⟨_, (pss_cons (ps_set (i := 1) sc_Poly___neg__.nd rfl (Or.inl rfl) (pe_call Gnegated (hr.mono (by decide)) rfl T.g_negated T.k_negated T.b_negated .nil pass0 (pa_cons (pe_fld (pv 0) rfl) pa_nil)))
      (pss_one (ps_ret (pe_makeS T.mk_Poly GPoly___init__ (hr.mono (by decide)) rfl T.g_Poly pass0 (pv 1))))), ?_⟩
    refine qS ⟨_, rfl, p, _, dx, _, _, rfl, hp1, T.pc.cls, T.pc.na, rfl, t, xs, rfl, ht, by omega, fun q H2 s2 hq => ?_⟩
    exact sR ⟨_, rfl, q, _, rfl, .inl hq, make_row (by unfold negI; rw [List.length_map]; show _ ≤ 2 ^ 24; omega) (k.back s2)⟩
theorem sc_Poly___sub__ : FnScope N_Poly___sub__ ["self", "other"] (defScope s_Poly___sub__) := ⟨rfl, rfl, rfl, by decide +kernel, rfl, by decide +kernel, by decide +kernel⟩
theorem ok_Poly___sub__ (T : Txt K mg A) : FnOk P w K mg base CX0 6 A.f_Poly___sub__ A.d_Poly___sub__ ["self", "other"] (spBin subI K A.C_Poly) := by
  have G_row_of := ok__row_of (P := P) (w := w) (base := base) T
  have Gplus := ok_plus (P := P) (w := w) (base := base) T
  have Gnegated := ok_negated (P := P) (w := w) (base := base) T
  have GPoly___init__ := ok_Poly___init__ (P := P) (w := w) (base := base) T
  refine T.F_Poly___sub__.ok sc_Poly___sub__ (fun vs H Q E h => ?_) (fun cdv Ar outer s H vs Q E hr h => ?_)
  · obtain ⟨p, xs, y, ys, rfl, _⟩ := h
    rfl
  · obtain ⟨p, xs, y, ys, rfl, ⟨dx, t, hp, ht⟩, hy, lx, ly, k⟩ := h
    refine ⟨_, (pss_cons (ps_set (i := 2) sc_Poly___sub__.nd rfl (Or.inl rfl) (pe_call G_row_of (hr.mono (by decide)) rfl T.g__row_of T.k__row_of T.b__row_of .nil pass0 (pa_cons (pv 1) pa_nil)))
      (pss_cons (ps_if (pt_cmpR op_isN (pv 2) pe_non (nomark _)) (pss_one ps_never) pss_nil)
      (pss_cons (ps_set (i := 3) sc_Poly___sub__.nd rfl (Or.inl rfl) (pe_call Gplus (hr.mono (by decide)) rfl T.g_plus T.k_plus T.b_plus .nil pass0 (pa_cons (pe_fld (pv 0) rfl) (pa_cons (pe_call Gnegated (hr.mono (by decide)) rfl T.g_negated T.k_negated T.b_negated .nil pass0 (pa_cons (pv 2) pa_nil)) pa_nil))))
      (pss_one (ps_ret (pe_makeS T.mk_Poly GPoly___init__ (hr.mono (by decide)) rfl T.g_Poly pass0 (pv 3))))))), ?_⟩
    refine qS ⟨_, rfl, y, ys, rfl, hy, fun r H1 s1 hr => ?_⟩
    refine qW ⟨_, rfl, rfl, _, rfl, iteF ?_⟩
    have hp1 := s1 _ _ hp
    have ht1 := s1.tup ht
    have ln : ∀ zs : List Int, (negI zs).length = zs.length := fun zs => List.length_map ..

    refine qS ⟨_, rfl, p, _, dx, _, _, rfl, hp1, T.pc.cls, T.pc.na, rfl, _, rfl, r, ys, rfl, hr, by omega, fun q0 H2 s2 hq0 => ?_⟩
    refine ⟨t, q0, xs, negI ys, rfl, .inr (s2.tup ht1), .inr hq0, by omega, by rw [ln]; omega, fun q H3 s3 hq => ?_⟩
    have hl := trim_len (addI xs (negI ys))
    rw [add_len, ln] at hl
    refine sR ⟨_, rfl, q, _, rfl, .inl hq, make_row (by show _ ≤ 2 ^ 24; omega) ?_⟩
    rw [trim_trim]
    exact k.back ((s1.trans s2).trans s3)
theorem sc_Poly___rsub__ : FnScope N_Poly___rsub__ ["self", "other"] (defScope s_Poly___rsub__) := ⟨rfl, rfl, rfl, by decide +kernel, rfl, by decide +kernel, by decide +kernel⟩
theorem ok_Poly___rsub__ (T : Txt K mg A) : FnOk P w K mg base CX0 6 A.f_Poly___rsub__ A.d_Poly___rsub__ ["self", "other"] (spBin rsubI K A.C_Poly) := by
  have G_row_of := ok__row_of (P := P) (w := w) (base := base) T
  have Gplus := ok_plus (P := P) (w := w) (base := base) T
  have Gnegated := ok_negated (P := P) (w := w) (base := base) T
  have GPoly___init__ := ok_Poly___init__ (P := P) (w := w) (base := base) T
  refine T.F_Poly___rsub__.ok sc_Poly___rsub__ (fun vs H Q E h => ?_) (fun cdv Ar outer s H vs Q E hr h => ?_)
  · obtain ⟨p, xs, y, ys, rfl, _⟩ := h
    rfl
  · obtain ⟨p, xs, y, ys, rfl, ⟨dx, t, hp, ht⟩, hy, lx, ly, k⟩ := h
    refine ⟨_, (pss_cons (ps_set (i := 2) sc_Poly___rsub__.nd rfl (Or.inl rfl) (pe_call G_row_of (hr.mono (by decide)) rfl T.g__row_of T.k__row_of T.b__row_of .nil pass0 (pa_cons (pv 1) pa_nil)))
      (pss_cons (ps_if (pt_cmpR op_isN (pv 2) pe_non (nomark _)) (pss_one ps_never) pss_nil)
      (pss_cons (ps_set (i := 3) sc_Poly___rsub__.nd rfl (Or.inl rfl) (pe_call Gplus (hr.mono (by decide)) rfl T.g_plus T.k_plus T.b_plus .nil pass0 (pa_cons (pv 2) (pa_cons (pe_call Gnegated (hr.mono (by decide)) rfl T.g_negated T.k_negated T.b_negated .nil pass0 (pa_cons (pe_fld (pv 0) rfl) pa_nil)) pa_nil))))
      (pss_one (ps_ret (pe_makeS T.mk_Poly GPoly___init__ (hr.mono (by decide)) rfl T.g_Poly pass0 (pv 3))))))), ?_⟩
    refine qS ⟨_, rfl, y, ys, rfl, hy, fun r H1 s1 hr => ?_⟩
    refine qW ⟨_, rfl, rfl, _, rfl, iteF ?_⟩
    have hp1 := s1 _ _ hp
    have ht1 := s1.tup ht
    have ln : ∀ zs : List Int, (negI zs).length = zs.length := fun zs => List.length_map ..

    refine qS ⟨_, rfl, _, rfl, p, _, dx, _, _, rfl, hp1, T.pc.cls, T.pc.na, rfl, t, xs, rfl, ht1, by omega, fun q0 H2 s2 hq0 => ?_⟩
    refine ⟨r, q0, ys, negI xs, rfl, .inr (s2.tup hr), .inr hq0, by omega, by rw [ln]; omega, fun q H3 s3 hq => ?_⟩
    have hl := trim_len (addI ys (negI xs))
    rw [add_len, ln] at hl
    refine sR ⟨_, rfl, q, _, rfl, .inl hq, make_row (by show _ ≤ 2 ^ 24; omega) ?_⟩
    rw [trim_trim]
    exact k.back ((s1.trans s2).trans s3)
theorem sc_Poly___mul__ : FnScope N_Poly___mul__ ["self", "other"] (defScope s_Poly___mul__) := ⟨rfl, rfl, rfl, by decide +kernel, rfl, by decide +kernel, by decide +kernel⟩
theorem ok_Poly___mul__ (T : Txt K mg A) : FnOk P w K mg base CX0 6 A.f_Poly___mul__ A.d_Poly___mul__ ["self", "other"] (spMul K A.C_Poly) := by
  have G_row_of := ok__row_of (P := P) (w := w) (base := base) T
  have Gtimes := ok_times (P := P) (w := w) (base := base) T
  have GPoly___init__ := ok_Poly___init__ (P := P) (w := w) (base := base) T
  refine T.F_Poly___mul__.ok sc_Poly___mul__ (fun vs H Q E h => ?_) (fun cdv Ar outer s H vs Q E hr h => ?_)
  · obtain ⟨p, xs, y, ys, rfl, _⟩ := h
    rfl
  · obtain ⟨p, xs, y, ys, rfl, ⟨dx, t, hp, ht⟩, hy, lx, ly, bx, by_, k⟩ := h
    refine ⟨_, (pss_cons (ps_set (i := 2) sc_Poly___mul__.nd rfl (Or.inl rfl) (pe_call G_row_of (hr.mono (by decide)) rfl T.g__row_of T.k__row_of T.b__row_of .nil pass0 (pa_cons (pv 1) pa_nil)))
      (pss_cons (ps_if (pt_cmpR op_isN (pv 2) pe_non (nomark _)) (pss_one ps_never) pss_nil)
      (pss_cons (ps_set (i := 3) sc_Poly___mul__.nd rfl (Or.inl rfl) (pe_call Gtimes (hr.mono (by decide)) rfl T.g_times T.k_times T.b_times .nil pass0 (pa_cons (pe_fld (pv 0) rfl) (pa_cons (pv 2) pa_nil))))
      (pss_one (ps_ret (pe_makeS T.mk_Poly GPoly___init__ (hr.mono (by decide)) rfl T.g_Poly pass0 (pv 3))))))), ?_⟩
    refine qS ⟨_, rfl, y, ys, rfl, hy, fun r H1 s1 hr => ?_⟩
    refine qW ⟨_, rfl, rfl, _, rfl, iteF ?_⟩
    have hp1 := s1 _ _ hp
    have ht1 := s1.tup ht
    refine qS ⟨_, rfl, p, _, dx, _, _, rfl, hp1, T.pc.cls, T.pc.na, rfl, _, rfl, t, r, xs, ys, rfl, .inr ht1, .inr hr, by omega, by omega, bx, by_, fun q H2 s2 hq => ?_⟩
    have hl := trim_len (mulI xs ys)
    rw [mul_len] at hl
    refine sR ⟨_, rfl, q, _, rfl, .inl hq, make_row (by show _ ≤ 2 ^ 24; omega) ?_⟩
    rw [trim_trim]
    exact k.back (s1.trans s2)
theorem sc_Poly___rmul__ : FnScope N_Poly___rmul__ ["self", "other"] (defScope s_Poly___rmul__) := ⟨rfl, rfl, rfl, by decide +kernel, rfl, by decide +kernel, by decide +kernel⟩

theorem Txt.op_mul (T : Txt K mg A) : OpOk K A.C_Poly A.f_Poly___mul__ "mul" := ⟨T.sf_Poly, by rw [dun_mul]; exact T.m_Poly___mul__, T.i_Poly___mul__⟩
theorem Txt.opi_mul (T : Txt K mg A) : OpOkI K A.C_Poly "mul" := ⟨⟨_, by rw [dunr_mul]; exact T.m_Poly___rmul__, .inr ⟨_, rfl⟩⟩, ⟨_, by rw [dun_mul]; exact T.i1mul_Poly⟩, ⟨_, by rw [dunr_mul]; exact T.i2mul_Poly⟩, T.si_Poly⟩
theorem ok_Poly___rmul__ (T : Txt K mg A) : FnOk P w K mg base CX0 7 A.f_Poly___rmul__ A.d_Poly___rmul__ ["self", "other"] (spRmul K A.C_Poly) := by
  have GPoly___mul__ := ok_Poly___mul__ (P := P) (w := w) (base := base) T
  refine T.F_Poly___rmul__.ok sc_Poly___rmul__ (fun vs H Q E h => ?_) (fun cdv Ar outer s H vs Q E hr h => ?_)
  · obtain ⟨p, xs, n, rfl, _⟩ := h
    rfl
  · obtain ⟨p, xs, n, rfl, hp, lx, bx, bn, k⟩ := h
    refine ⟨_, (pss_one (ps_ret (pe_op (op_binI T.op_mul T.opi_mul (fnr0 GPoly___mul__ T.b_Poly___mul__) (hr.mono (by decide)) pass0) (pv 0) (pv 1)))), ?_⟩
    obtain ⟨dx, t, h1, h2⟩ := id hp
    exact sR ⟨_, rfl, _, rfl, p, dx, _, n, rfl, rfl, h1, p, xs, _, trimI [n], rfl, hp, .inr ⟨n, rfl, rfl⟩, lx, Nat.le_trans (trim_len [n]) (by show 1 ≤ 2 ^ 18; decide), bx, bn.trim, k⟩
theorem sc_Poly___pow__ : FnScope N_Poly___pow__ ["self", "other"] (defScope s_Poly___pow__) := ⟨rfl, rfl, rfl, by decide +kernel, rfl, by decide +kernel, by decide +kernel⟩
theorem ok_Poly___pow__ (T : Txt K mg A) : FnOk P w K mg base CX0 6 A.f_Poly___pow__ A.d_Poly___pow__ ["self", "other"] (spPow K A.C_Poly) := by
  have Gpower := ok_power (P := P) (w := w) (base := base) T
  have GPoly___init__ := ok_Poly___init__ (P := P) (w := w) (base := base) T
  have Gis_integer := ok_is_integer (P := P) (w := w) (base := base) T
  refine T.F_Poly___pow__.ok sc_Poly___pow__ (fun vs H Q E h => ?_) (fun cdv Ar outer s H vs Q E hr h => ?_)
  · obtain ⟨p, xs, n, m, rfl, _⟩ := h
    rfl
  · obtain ⟨p, xs, n, m, rfl, ⟨dx, t, hp1, ht⟩, tx, h0, h1, lx, m1, hb, hm, k⟩ := h
    refine ⟨_, (pss_cons (ps_if (pt_not (pt_val (pe_call Gis_integer (hr.mono (by decide)) rfl T.g_is_integer T.k_is_integer T.b_is_integer .nil pass0 (pa_cons (pv 1) pa_nil)))) (pss_one ps_never) pss_nil)
      (pss_cons (ps_set (i := 2) sc_Poly___pow__.nd rfl (Or.inl rfl) (pe_call Gpower (hr.mono (by decide)) rfl T.g_power T.k_power T.b_power .nil pass0 (pa_cons (pe_fld (pv 0) rfl) (pa_cons (pv 1) pa_nil))))
      (pss_one (ps_ret (pe_makeS T.mk_Poly GPoly___init__ (hr.mono (by decide)) rfl T.g_Poly pass0 (pv 2)))))), ?_⟩
    refine qW ⟨_, rfl, n, rfl, true, rfl, iteF ?_⟩
    refine qS ⟨_, rfl, p, _, dx, _, _, rfl, hp1, T.pc.cls, T.pc.na, rfl, _, rfl, t, xs, n, m, rfl, ht, tx, h0, h1, lx, m1, hb, hm, fun q row H2 s2 pR hq => ?_⟩
    have hf : ∀ k, xs.length ≤ k → co xs k = 0 := fun k hk => co_ge hk
    have hl := pR.len hf
    have h2 : n.toNat * xs.length ≤ 1000 * 200 := Nat.mul_le_mul (by omega) lx
    refine sR ⟨_, rfl, q, _, rfl, .inl hq, make_row (by show _ ≤ 2 ^ 24; omega) ?_⟩
    rw [pR.1]
    exact (k row pR).back s2
theorem sc_Poly___eq__ : FnScope N_Poly___eq__ ["self", "other"] (defScope s_Poly___eq__) := ⟨rfl, rfl, rfl, by decide +kernel, rfl, by decide +kernel, by decide +kernel⟩
theorem ok_Poly___eq__ (T : Txt K mg A) : FnOk P w K mg base CX0 1 A.f_Poly___eq__ A.d_Poly___eq__ ["self", "other"] (spEq K A.C_Poly) := by
  refine T.F_Poly___eq__.ok sc_Poly___eq__ (fun vs H Q E h => ?_) (fun cdv Ar outer s H vs Q E hr h => ?_)
  · obtain ⟨p, row, y, rfl, _⟩ := h
    rfl
  · obtain ⟨p, row, y, rfl, ⟨dx, t, hp, ht⟩, k⟩ := h
    refine ⟨_, (pss_one (ps_ret (pe_and (pe_callB call_isi (by rfl) T.z_isinstance (by decide +kernel) (pa_cons (pv 1) (pa_cons (pe_glob (v := .ref A.C_Poly) rfl T.g_Poly rfl) pa_nil))) (pe_one (pe_cmpR (op_eqD hr.units) (pe_fld (pv 0) rfl) (pe_fld (pv 1) rfl) (nomark _)))))), ?_⟩
    rcases k with ⟨q, row2, rfl, ⟨dx2, t2, hq, ht2⟩, k⟩ | ⟨ty, hy, hk, k⟩
    · refine sR ⟨_, rfl, _, _, _, _, true, rfl, .own _, T.ty_Poly hq, T.ki_Poly, true, rfl, iteT ?_⟩
      exact (val_coefs T.pc (val_var rfl) hp).at ((val_coefs T.pc (val_var rfl) hq).at (rEqT ht ht2 k))
    · exact sR ⟨_, rfl, _, _, _, _, false, rfl, .own _, hy, hk, false, rfl, iteF k⟩
theorem sc__law_box : FnScope N__law_box ["_law_script"] (defScope s__law_box) := ⟨rfl, rfl, rfl, by decide +kernel, rfl, by decide +kernel, by decide +kernel⟩
theorem ok__law_box (T : Txt K mg A) : FnOk P w K mg base CX0 1 A.f__law_box A.d__law_box ["_law_script"] (spBox K) := by
  refine T.F__law_box.ok sc__law_box (fun vs H Q E h => ?_) (fun cdv Ar outer s H vs Q E hr h => ?_)
  · obtain ⟨a, ns, rfl, _⟩ := h
    rfl
  · obtain ⟨a, ns, rfl, hS, hlen, k⟩ := h
    refine ⟨_, (pss_one (ps_ret (pe_lst (pa_cons (pe_lc (own := [("_law_cell", 1)]) (g := gName 1) (tt := tYes) rfl sc__law_box.nd (pi_list (pe_slice sl_list (pv 0) po_none (po_some pe_int))) (blkOk_by (own := [("_law_cell", 1)]) (N := N__law_box) (sc := defScope s__law_box) (by decide +kernel)) (fun _ _ _ _ _ => (pg_name (i := 1) sc__law_box.nd rfl (Or.inl rfl))) (fun _ _ _ _ _ => pts_nil) (fun _ _ _ _ _ => (pe_callB call_abs (by rfl) T.z_abs (by decide +kernel) (pa_cons (pe_callTy call_int1 (by rfl) T.z_int (by decide +kernel) (pa_cons (pv 1) pa_nil)) pa_nil)))) (pa_cons pe_int (pa_cons pe_int pa_nil)))))), ?_⟩
    refine ⟨_, rfl, 63, rfl, a, _, rfl, hS, fun p hp => ?_⟩
    have ecut : cutV (ns.map V.int) none (some 63) = (ns.map V.int) := by
      unfold cutV
      have e63 : ∀ n, HT.sIx n n (some (63 : Int)) = min 63 n := fun n => HT.sIx_nat n n 63
      rw [show HT.sIx (ns.map V.int).length 0 none = 0 from rfl, e63, List.length_map]
      rw [List.drop_zero, List.take_of_length_le]
      rw [List.length_map]
      omega
    rw [ecut]
    refine ⟨p, rfl, ⟨_, SqL.of upd_same⟩, fun D hD => ?_⟩
    have hDp : D ≠ p := fun e => (by rw [e, upd_same] at hD; cases hD)
    have hD0 : H D = none := by rw [upd_ne hDp] at hD; exact hD
    refine lc_list (K := K) (a := p) (xs := ns.map V.int) (fun i H' => Same H H' ∧ H' p = some (.lst (ns.map V.int)) ∧ ∃ ms : List Int, H' D = some (.lst (ms.map V.int)) ∧ ms.length = i ∧ ∀ x ∈ ms, 0 ≤ x)
      ⟨Same.trans (same_upd hp) (same_upd hD), by rw [upd_ne hDp.symm, upd_same], [], upd_same, rfl, fun x hx => (by cases hx)⟩
      (fun i H' _ h => SqL.of h.2.1) ?_ ?_
    · rintro i y H' hi ⟨s1, h1, ms, h2, hl, h3⟩
      have hi63 : i < ns.length := by
        have q := (List.getElem?_eq_some_iff.mp hi).1
        rw [List.length_map] at q
        exact q
      obtain ⟨u, rfl⟩ : ∃ u, y = V.int u := by
        rw [List.getElem?_map] at hi
        cases e : ns[i]? with
        | none =>
          rw [e] at hi
          cases hi
        | some u =>
          rw [e] at hi
          exact ⟨u, (Option.some.inj hi).symm⟩
      refine ⟨rfl, ?_⟩
      refine ⟨_, rfl, .inl ⟨u, rfl, u, rfl, ?_⟩⟩
      rw [iabs]
      refine ⟨_, h2, ?_, (fun b o e => by rw [upd_ne (ne_of_none e hD0)]; exact s1 b o e), ?_, ms ++ [((u.natAbs : Nat) : Int)], ?_, ?_, ?_⟩
      · rw [List.length_map, hl]
        exact small1000 (by omega)
      · rw [upd_ne hDp.symm]
        exact h1
      · rw [List.map_append]
        exact upd_same
      · rw [List.length_append, hl]
        rfl
      · intro x hx
        rcases List.mem_append.mp hx with hx | hx
        · exact h3 x hx
        · rw [List.mem_singleton.mp hx]
          exact Int.natCast_nonneg _
    · rintro H' ⟨s1, h1, ms, h2, hl, h3⟩
      refine ⟨?_, fun b hb => ?_⟩
      · show 3 ≤ sizeLine
        decide
      · have hbD : b ≠ D := fun e => (by rw [e, h2] at hb; cases hb)
        refine k b D _ (Same.trans s1 (same_upd hb)) (s1.free hb) hD0 ⟨ms, 0, 1, upd_same, ?_, ?_, h3, by omega, by omega, by omega⟩
        · rw [upd_ne hbD.symm]
          exact h2
        · rw [hl, List.length_map]
          omega
theorem sc__law_take : FnScope N__law_take ["_law_box_here", "_law_size"] (defScope s__law_take) := ⟨rfl, rfl, rfl, by decide +kernel, rfl, by decide +kernel, by decide +kernel⟩
theorem ok__law_take (T : Txt K mg A) : FnOk P w K mg base CX0 1 A.f__law_take A.d__law_take ["_law_box_here", "_law_size"] spTake := by
  refine T.F__law_take.ok sc__law_take (fun vs H Q E h => ?_) (fun cdv Ar outer s H vs Q E hr h => ?_)
  · obtain ⟨b, c, n, rfl, _⟩ := h
    rfl
  · obtain ⟨b, c, n, rfl, hB, hn, hlog, k⟩ := h
    refine ⟨_, (pss_cons (ps_set (i := 2) sc__law_take.nd rfl (Or.inl rfl) (pe_ix ix_list (pv 0) pe_int (fun _ _ => rfl)))
      (pss_cons (ps_set (i := 3) sc__law_take.nd rfl (Or.inl rfl) pe_int)
      (Evl.pss_cut (ps_if (pt_cmpR op_gt (pe_callB call_len_seq (by rfl) T.z_len (by decide +kernel) (pa_cons (pv 2) pa_nil)) pe_int (nomark _)) (pss_cons (ps_set (i := 4) sc__law_take.nd rfl (Or.inl rfl) (pe_op op_mod (pe_callTy call_int1 (by rfl) T.z_int (by decide +kernel) (pa_cons (pe_ix ix_list (pv 0) pe_int (fun _ _ => rfl)) pa_nil)) (pe_callB call_len_seq (by rfl) T.z_len (by decide +kernel) (pa_cons (pv 2) pa_nil))))
      (pss_cons (ps_if (pt_cmpR op_ge (pe_ix ix_list (pv 2) (pv 4) (fun _ _ => rfl)) (pe_op op_pow pe_int pe_int) (nomark _)) (pss_cons (ps_set (i := 5) sc__law_take.nd rfl (Or.inl rfl) (pe_op op_mod (pe_callTy call_int1 (by rfl) T.z_int (by decide +kernel) (pa_cons (pe_ix ix_list (pv 2) (pv 4) (fun _ _ => rfl)) pa_nil)) (pv 1)))
      (pss_cons (ps_asg (pe_op op_fdivW (pe_ix ix_list (pv 2) (pv 4) (fun _ _ => rfl)) (pv 1)) (pg_sub (pv 2) (pv 4) set_list))
      (pss_one (ps_ret (pv 5))))) pss_nil)
      (pss_cons (ps_asg (pe_op op_add (pe_ix ix_list (pv 0) pe_int (fun _ _ => rfl)) pe_int) (pg_sub (pv 0) pe_int set_list))
      (pss_one (ps_set (i := 3) sc__law_take.nd rfl (Or.inl rfl) (pe_op op_add (pe_op op_mulW (pe_ix ix_list (pv 2) (pv 4) (fun _ _ => rfl)) pe_int) pe_int)))))) pss_nil)
      (pss_cons (ps_asg (pe_op op_mod (pe_callTy call_int1 (by rfl) T.z_int (by decide +kernel) (pa_cons (pe_op op_add (pe_op op_mulW (pe_ix ix_list (pv 0) pe_int (fun _ _ => rfl)) pe_int) (pv 3)) pa_nil)) pe_int) (pg_sub (pv 0) pe_int set_list))
      (pss_cons (ps_set (i := 6) sc__law_take.nd rfl (Or.inl rfl) (pe_op op_mod (pe_callTy call_int1 (by rfl) T.z_int (by decide +kernel) (pa_cons (pe_op op_add (pe_op op_mulW (pe_ix ix_list (pv 0) pe_int (fun _ _ => rfl)) pe_int) (pe_op op_fdivW (pe_ix ix_list (pv 0) pe_int (fun _ _ => rfl)) pe_int)) pa_nil)) pe_int))
      (pss_one (ps_ret (pe_op op_mod (pe_callTy call_int1 (by rfl) T.z_int (by decide +kernel) (pa_cons (pe_op op_fdivW (pv 6) pe_int) pa_nil)) (pv 1))))))))), ?_⟩
    have hbc := hB.ne
    obtain ⟨ns, kk, s, h1, h2, hl, h0, k0, s0, s1⟩ := hB
    have hlen : (ns.map V.int).length = ns.length := List.length_map ..
    refine qS ⟨_, rfl, b, _, _, _, rfl, rfl, SqL.of h1, rfl, ?_⟩
    apply q_set
    case h => (repeat' (first | exact val_var rfl | exact val_c | exact va_nil | with_reducible apply va_cons | with_reducible apply val_op0 | with_reducible apply val_un | with_reducible apply val_abs | with_reducible apply val_int| with_reducible apply val_gcd | with_reducible apply val_gcdc | with_reducible apply val_isB | with_reducible apply val_notB | with_reducible apply val_chain | with_reducible apply val_eq | with_reducible apply val_ne | with_reducible apply val_andV | with_reducible apply val_orV | with_reducible apply val_notV | with_reducible apply val_opC | with_reducible apply ans_of | with_reducible apply ans_B | with_reducible apply ans_not | with_reducible apply ans_and' | with_reducible apply ans_or' | with_reducible intro _ | (show scal _ _ = true; rfl) | exact wide_mul (by assumption) (by assumption) (by decide) (by decide) (by decide)))
    refine ⟨fun σ' H' => ∃ (w k' : Int) (v4 v5 : Option V), σ' = [some (.ref b), some (.int n), some (.ref c), some (.int w), v4, v5, none] ∧ 0 ≤ k' ∧ H' b = some (.lst [.ref c, .int k', .int s]) ∧ H' c = some (.lst (ns.map V.int)) ∧ ∀ a, a ≠ b → a ≠ c → H' a = H a, ?_, ?_⟩
    · refine sW ⟨_, rfl, c, _, rfl, .inl (SqL.of h2), _, _, rfl, rfl, _, rfl, ite2 (fun hp => ?_) (fun hp => ?_)⟩
      · have hp' : (0 : Int) < ((ns.map V.int).length : Int) := of_decide_eq_true hp
        refine qS ⟨_, rfl, b, _, _, _, rfl, rfl, SqL.of h1, rfl, .inl ⟨_, rfl, _, rfl, c, _, rfl, .inl (SqL.of h2), _, _, rfl, rfl, hp', ?_⟩⟩
        obtain ⟨x, hx, hx0, hix⟩ := pickP ns (fun x => 0 ≤ x) h0 (d := kk % ((ns.map V.int).length : Int)) (Int.emod_nonneg _ (by omega)) (by rw [← hlen]; exact Int.emod_lt_of_pos _ hp')
        refine qW ⟨_, rfl, _, rfl, c, _, _, _, rfl, rfl, SqL.of h2, hx, _, _, rfl, rfl, ⟨by decide, by decide, by decide⟩, _, _, rfl, rfl, _, rfl, ite2 (fun hq => ?_) (fun hq => ?_)⟩
        · refine qS ⟨_, rfl, _, rfl, c, _, _, _, rfl, rfl, SqL.of h2, hx, .inl ⟨_, rfl, _, rfl, _, _, rfl, rfl, hn, ?_⟩⟩
          refine qB ⟨_, rfl, _, rfl, c, _, _, _, rfl, rfl, SqL.of h2, hx, _, rfl, _, _, rfl, rfl, ⟨hn, hlog⟩, _, rfl, _, rfl, c, _, _, _, rfl, rfl, h2, (by have q := hix; rw [← hlen] at q; exact q), ?_⟩
          refine ⟨_, rfl, ?_⟩
          refine k _ _ (Int.emod_nonneg _ (by omega)) (Int.emod_lt_of_pos _ hn) ⟨ns.set (kk % ((ns.map V.int).length : Int)).toNat (x / n), kk, s, ?_, ?_, ?_, ?_, k0, s0, s1⟩ (fun a hab hac => upd_ne hac)
          · rw [upd_ne hbc]
            exact h1
          · rw [List.map_set]
            exact upd_same
          · rw [List.length_set]
            exact hl
          · intro y hy
            rcases List.mem_or_eq_of_mem_set hy with hy | hy
            · exact h0 y hy
            · rw [hy]
              exact Int.ediv_nonneg hx0 (by omega)
        · refine qB ⟨_, rfl, b, _, _, _, rfl, rfl, SqL.of h1, rfl, _, _, rfl, rfl, _, rfl, b, _, _, 1, rfl, rfl, h1, rfl, ?_⟩
          refine sS ⟨_, rfl, _, rfl, c, _, _, _, rfl, rfl, SqL.of ((upd_ne hbc.symm).trans h2), hx, _, _, rfl, rfl, ?_, _, _, rfl, rfl, ?_⟩
          · have hx18 : ¬ (10 : Int) ^ (18 : Int).toNat ≤ x := fun z => hq (decide_eq_true z)
            have hx18' : x < 10 ^ 18 := by
              rw [show (18 : Int).toNat = 18 from rfl] at hx18
              omega
            exact wide_mul (a := 70) (b := 20) (by omega) (by decide) (by decide) (by decide) (by decide)
          · exact ⟨_, kk + 1, _, _, rfl, by omega, upd_same, (upd_ne hbc.symm).trans h2, fun a hab hac => upd_ne hab⟩
      · exact ⟨_, kk, _, _, rfl, k0, h1, h2, fun a _ _ => rfl⟩
    · rintro σ' H' ⟨w, k', v4, v5, rfl, hk', hb, hc, he⟩
      refine qB ⟨_, rfl, b, _, _, _, rfl, rfl, SqL.of hb, rfl, _, _, rfl, rfl, wide_mul (a := 40) (b := 20) (by omega) (by decide) (by decide) (by decide) (by decide), _, rfl, _, _, rfl, rfl, .inl ⟨_, rfl, _, _, rfl, rfl, (by decide : (0 : Int) < 2147483647), _, rfl, b, _, _, 2, rfl, rfl, hb, rfl, ?_⟩⟩
      dsimp only
      have e0 := Int.emod_nonneg (s * 48271 + w) (by decide : (2147483647 : Int) ≠ 0)
      have e1 := Int.emod_lt_of_pos (s * 48271 + w) (by decide : (0 : Int) < 2147483647)
      generalize (s * 48271 + w) % 2147483647 = s' at e0 e1 ⊢
      have hb' : (upd H' b (.lst ([.ref c, .int k', .int s].set 2 (.int s')))) b = some (.lst [.ref c, .int k', .int s']) := upd_same
      refine qS ⟨_, rfl, b, _, _, _, rfl, rfl, SqL.of hb', rfl, _, _, rfl, rfl, wide_mul (a := 40) (b := 20) (by omega) (by decide) (by decide) (by decide) (by decide), _, rfl, b, _, _, _, rfl, rfl, SqL.of hb', rfl, _, _, rfl, rfl, ⟨by decide, by decide⟩, _, _, rfl, rfl, .inl ⟨_, rfl, _, _, rfl, rfl, (by decide : (0 : Int) < 2147483629), ?_⟩⟩
      refine ⟨_, rfl, _, _, rfl, rfl, ⟨by decide, by decide⟩, .inl ⟨_, rfl, _, rfl, _, _, rfl, rfl, hn, ?_⟩⟩
      exact k _ _ (Int.emod_nonneg _ (by omega)) (Int.emod_lt_of_pos _ hn) ⟨ns, k', s', hb', (upd_ne hbc.symm).trans hc, hl, h0, hk', e0, e1⟩ (fun a hab hac => (upd_ne hab).trans (he a hab hac))
theorem sc__law_gcd : FnScope N__law_gcd ["_law_a", "_law_b"] (defScope s__law_gcd) := ⟨rfl, rfl, rfl, by decide +kernel, rfl, by decide +kernel, by decide +kernel⟩
theorem ok__law_gcd (T : Txt K mg A) : FnOk P w K mg base CX0 1 A.f__law_gcd A.d__law_gcd ["_law_a", "_law_b"] spGcd := by
  refine T.F__law_gcd.ok sc__law_gcd (fun vs H Q E h => ?_) (fun cdv Ar outer s H vs Q E hr h => ?_)
  · obtain ⟨m, n, rfl, _⟩ := h
    rfl
  · obtain ⟨m, n, rfl, k⟩ := h
    refine ⟨_, (pss_cons (ps_set (i := 0) sc__law_gcd.nd rfl (Or.inl rfl) (pe_callB call_abs (by rfl) T.z_abs (by decide +kernel) (pa_cons (pv 0) pa_nil)))
      (pss_cons (ps_set (i := 1) sc__law_gcd.nd rfl (Or.inl rfl) (pe_callB call_abs (by rfl) T.z_abs (by decide +kernel) (pa_cons (pv 1) pa_nil)))
      (pss_cons (ps_while PassesOwn.never (pt_cmpR op_gt (pv 1) pe_int (nomark _)) (pss_one (ps_par (i := 0) (j := 1) (by rfl) sc__law_gcd.nd rfl rfl (by decide) rfl rfl (pa_cons (pv 1) (pa_cons (pe_op op_mod (pe_callTy call_int1 (by rfl) T.z_int (by decide +kernel) (pa_cons (pv 0) pa_nil)) (pv 1)) pa_nil)) (by rfl))))
      (pss_one (ps_ret (pv 0)))))), ?_⟩
    apply q_set
    case h => (repeat' (first | exact val_var rfl | exact val_c | exact va_nil | with_reducible apply va_cons | with_reducible apply val_op0 | with_reducible apply val_un | with_reducible apply val_abs | with_reducible apply val_int| with_reducible apply val_gcd | with_reducible apply val_gcdc | with_reducible apply val_isB | with_reducible apply val_notB | with_reducible apply val_chain | with_reducible apply val_eq | with_reducible apply val_ne | with_reducible apply val_andV | with_reducible apply val_orV | with_reducible apply val_notV | with_reducible apply val_opC | with_reducible apply ans_of | with_reducible apply ans_B | with_reducible apply ans_not | with_reducible apply ans_and' | with_reducible apply ans_or' | with_reducible intro _ | (show scal _ _ = true; rfl) | exact wide_mul (by assumption) (by assumption) (by decide) (by decide) (by decide)))
    apply q_set
    case h => (repeat' (first | exact val_var rfl | exact val_c | exact va_nil | with_reducible apply va_cons | with_reducible apply val_op0 | with_reducible apply val_un | with_reducible apply val_abs | with_reducible apply val_int| with_reducible apply val_gcd | with_reducible apply val_gcdc | with_reducible apply val_isB | with_reducible apply val_notB | with_reducible apply val_chain | with_reducible apply val_eq | with_reducible apply val_ne | with_reducible apply val_andV | with_reducible apply val_orV | with_reducible apply val_notV | with_reducible apply val_opC | with_reducible apply ans_of | with_reducible apply ans_B | with_reducible apply ans_not | with_reducible apply ans_and' | with_reducible apply ans_or' | with_reducible intro _ | (show scal _ _ = true; rfl) | exact wide_mul (by assumption) (by assumption) (by decide) (by decide) (by decide)))
    refine q_whileA (fun mm σ' H' => ∃ a b : Nat, σ' = [some (.int (a : Int)), some (.int (b : Int))] ∧ H' = H ∧ mm = b ∧ Nat.gcd a b = Nat.gcd m.natAbs n.natAbs) n.natAbs ⟨_, _, rfl, rfl, rfl, rfl⟩ ?_
    rintro mm σ' H' ⟨a, b, rfl, rfl, rfl, hg⟩
    refine ⟨decide ((0 : Int) < (mm : Int)), ?_, fun hb N hN => ?_, fun hb => ?_⟩
    · (repeat' (first | exact val_var rfl | exact val_c | exact va_nil | with_reducible apply va_cons | with_reducible apply val_op0 | with_reducible apply val_un | with_reducible apply val_abs | with_reducible apply val_int| with_reducible apply val_gcd | with_reducible apply val_gcdc | with_reducible apply val_isB | with_reducible apply val_notB | with_reducible apply val_chain | with_reducible apply val_eq | with_reducible apply val_ne | with_reducible apply val_andV | with_reducible apply val_orV | with_reducible apply val_notV | with_reducible apply val_opC | with_reducible apply ans_of | with_reducible apply ans_B | with_reducible apply ans_not | with_reducible apply ans_and' | with_reducible apply ans_or' | with_reducible intro _ | (show scal _ _ = true; rfl) | exact wide_mul (by assumption) (by assumption) (by decide) (by decide) (by decide)))
    · have hb' : (0 : Int) < (mm : Int) := of_decide_eq_true hb
      apply s_par
      case h => (repeat' (first | exact val_var rfl | exact val_c | exact va_nil | with_reducible apply va_cons | with_reducible apply val_op0 | with_reducible apply val_un | with_reducible apply val_abs | with_reducible apply val_int| with_reducible apply val_gcd | with_reducible apply val_gcdc | with_reducible apply val_isB | with_reducible apply val_notB | with_reducible apply val_chain | with_reducible apply val_eq | with_reducible apply val_ne | with_reducible apply val_andV | with_reducible apply val_orV | with_reducible apply val_notV | with_reducible apply val_opC | with_reducible apply ans_of | with_reducible apply ans_B | with_reducible apply ans_not | with_reducible apply ans_and' | with_reducible apply ans_or' | with_reducible intro _ | (show scal _ _ = true; rfl) | exact wide_mul (by assumption) (by assumption) (by decide) (by decide) (by decide))); exact hb'
      refine hN _ _ (a % mm) (Nat.mod_lt _ (by omega)) ⟨mm, a % mm, ?_, rfl, rfl, ?_⟩
      · rw [Int.natCast_emod] <;> rfl
      · rw [Nat.gcd_comm mm (a % mm), ← Nat.gcd_rec, Nat.gcd_comm]
        exact hg
    · have hb' : ¬ (0 : Int) < (mm : Int) := of_decide_eq_false hb
      apply s_ret
      case h => (repeat' (first | exact val_var rfl | exact val_c | exact va_nil | with_reducible apply va_cons | with_reducible apply val_op0 | with_reducible apply val_un | with_reducible apply val_abs | with_reducible apply val_int| with_reducible apply val_gcd | with_reducible apply val_gcdc | with_reducible apply val_isB | with_reducible apply val_notB | with_reducible apply val_chain | with_reducible apply val_eq | with_reducible apply val_ne | with_reducible apply val_andV | with_reducible apply val_orV | with_reducible apply val_notV | with_reducible apply val_opC | with_reducible apply ans_of | with_reducible apply ans_B | with_reducible apply ans_not | with_reducible apply ans_and' | with_reducible apply ans_or' | with_reducible intro _ | (show scal _ _ = true; rfl) | exact wide_mul (by assumption) (by assumption) (by decide) (by decide) (by decide)))
      have hb0 : mm = 0 := by omega
      rw [hb0, Nat.gcd_zero_right] at hg
      rw [hg]
      exact k
theorem sc__law_ratio : FnScope N__law_ratio ["_law_num", "_law_den"] (defScope s__law_ratio) := ⟨rfl, rfl, rfl, by decide +kernel, rfl, by decide +kernel, by decide +kernel⟩

def spLRatio : Sp := fun vs H Q _ => ∃ (n d : Int), vs = [.int n, .int d] ∧ d.natAbs.log2 < 9000 ∧ d ≠ 0 ∧ ∀ p, H p = none → Q (.ref p) (upd H p (.tup [.int (ratN n d), .int (ratD n d)]))
theorem ok__law_ratio (T : Txt K mg A) : FnOk P w K mg base CX0 2 A.f__law_ratio A.d__law_ratio ["_law_num", "_law_den"] spLRatio := by
  have G_law_gcd := ok__law_gcd (P := P) (w := w) (base := base) T
  refine T.F__law_ratio.ok sc__law_ratio (fun vs H Q E h => ?_) (fun cdv Ar outer s H vs Q E hr h => ?_)
  · obtain ⟨n, d, rfl, _⟩ := h
    rfl
  · obtain ⟨n, d, rfl, hlog, hd, k⟩ := h
    refine ⟨_, (pss_cons (ps_set (i := 2) sc__law_ratio.nd rfl (Or.inl rfl) (pe_call G_law_gcd (hr.mono (by decide)) rfl T.g__law_gcd T.k__law_gcd T.b__law_gcd .nil pass0 (pa_cons (pv 0) (pa_cons (pv 1) pa_nil))))
      (pss_cons (ps_if (pt_cmpR op_lt (pv 1) pe_int (nomark _)) (pss_one (ps_set (i := 2) sc__law_ratio.nd rfl (Or.inl rfl) (pe_un un_neg (pv 2)))) pss_nil)
      (pss_one (ps_ret (pe_tup (pa_cons (pe_op op_fdivZ (pv 0) (pv 2)) (pa_cons (pe_op op_fdivZ (pv 1) (pv 2)) pa_nil))))))), ?_⟩
    apply q_set
    case h => (repeat' (first | exact val_var rfl | exact val_c | exact va_nil | with_reducible apply va_cons | with_reducible apply val_op0 | with_reducible apply val_un | with_reducible apply val_abs | with_reducible apply val_int| with_reducible apply val_gcd | with_reducible apply val_gcdc | with_reducible apply val_isB | with_reducible apply val_notB | with_reducible apply val_chain | with_reducible apply val_eq | with_reducible apply val_ne | with_reducible apply val_andV | with_reducible apply val_orV | with_reducible apply val_notV | with_reducible apply val_opC | with_reducible apply ans_of | with_reducible apply ans_B | with_reducible apply ans_not | with_reducible apply ans_and' | with_reducible apply ans_or' | with_reducible intro _ | (show scal _ _ = true; rfl) | exact wide_mul (by assumption) (by assumption) (by decide) (by decide) (by decide)))
    have hlast : ∀ σ' : L2.St, σ' = [some (.int n), some (.int d), some (.int (rdiv n d))] → (tRet (tTup (tCons (tOp (rI CDivZ fun i j => .int (i.fdiv j)) (tVar 0) (tVar 2)) (tCons (tOp (rI CDivZ fun i j => .int (i.fdiv j)) (tVar 1) (tVar 2)) tNil)))) { nx := fun _ H' => Q .non H', rt := Q } σ' H := by
      rintro σ' rfl
      refine sR ⟨_, rfl, _, rfl, _, _, rfl, rfl, ⟨rdiv_ne hd, rdiv_log hd hlog⟩, _, rfl, _, rfl, _, _, rfl, rfl, ⟨rdiv_ne hd, rdiv_log hd hlog⟩, (by show 2 ≤ sizeLine; decide), fun p hp => k p hp⟩
    refine qW ⟨_, rfl, _, _, rfl, rfl, _, rfl, ite2 (fun hlt => ?_) (fun hlt => ?_)⟩
    · apply s_set
      case h => (repeat' (first | exact val_var rfl | exact val_c | exact va_nil | with_reducible apply va_cons | with_reducible apply val_op0 | with_reducible apply val_un | with_reducible apply val_abs | with_reducible apply val_int| with_reducible apply val_gcd | with_reducible apply val_gcdc | with_reducible apply val_isB | with_reducible apply val_notB | with_reducible apply val_chain | with_reducible apply val_eq | with_reducible apply val_ne | with_reducible apply val_andV | with_reducible apply val_orV | with_reducible apply val_notV | with_reducible apply val_opC | with_reducible apply ans_of | with_reducible apply ans_B | with_reducible apply ans_not | with_reducible apply ans_and' | with_reducible apply ans_or' | with_reducible intro _ | (show scal _ _ = true; rfl) | exact wide_mul (by assumption) (by assumption) (by decide) (by decide) (by decide)))
      refine hlast _ ?_
      have hlt' : d < 0 := of_decide_eq_true hlt
      unfold rdiv
      rw [if_pos hlt']
      rfl
    · refine hlast _ ?_
      have hlt' : ¬ d < 0 := fun z => hlt (decide_eq_true z)
      unfold rdiv
      rw [if_neg hlt']
      rfl
theorem sc__law_share : FnScope N__law_share ["_law_box_here", "_law_most"] (defScope s__law_share) := ⟨rfl, rfl, rfl, by decide +kernel, rfl, by decide +kernel, by decide +kernel⟩

def spShare : Sp := fun vs H Q _ => ∃ b c m, vs = [.ref b, .int m] ∧ BoxAt H b c ∧ 0 < m ∧ m ≤ 10 ^ 31 ∧ ∀ p n d H', Low n d → 0 ≤ n → n ≤ d → d ≤ m → H p = none → BoxAt H' b c → Ext b c H H' → H' p = some (.tup [.int n, .int d]) → Q (.ref p) H'
theorem rat_share {n d : Int} (h0 : 0 ≤ n) (h1 : n ≤ d) (hd : 0 < d) : 0 ≤ ratN n d ∧ ratN n d ≤ ratD n d ∧ ratD n d ≤ d := by
  have hd' : d ≠ 0 := by omega
  have a := ratN_mul (n := n) hd'
  have b := ratD_mul (n := n) hd'
  have r : 0 < rdiv n d := by
    have := rdiv_ne (n := n) hd'
    unfold rdiv at *
    rw [if_neg (by omega)] at *
    omega
  refine ⟨?_, ?_, ?_⟩
  · refine Int.not_lt.mp fun q => ?_
    have := Int.mul_neg_of_neg_of_pos q r
    omega
  · exact Int.le_of_mul_le_mul_right (by rw [a, b]; exact h1) r
  · have := ratD_le (n := n) hd'
    have := (rat_low (n := n) hd').1
    omega
theorem ok__law_share (T : Txt K mg A) : FnOk P w K mg base CX0 3 A.f__law_share A.d__law_share ["_law_box_here", "_law_most"] spShare := by
  have G_law_take := ok__law_take (P := P) (w := w) (base := base) T
  have G_law_ratio := ok__law_ratio (P := P) (w := w) (base := base) T
  refine T.F__law_share.ok sc__law_share (fun vs H Q E h => ?_) (fun cdv Ar outer s H vs Q E hr h => ?_)
  · obtain ⟨b, c, n, rfl, _⟩ := h
    rfl
  · obtain ⟨b, c, m, rfl, B1, m0, m1, k⟩ := h
    refine ⟨_, (pss_cons (ps_set (i := 2) sc__law_share.nd rfl (Or.inl rfl) (pe_op op_add pe_int (pe_call G_law_take (hr.mono (by decide)) rfl T.g__law_take T.k__law_take T.b__law_take .nil pass0 (pa_cons (pv 0) (pa_cons (pv 1) pa_nil)))))
      (pss_one (ps_ret (pe_call G_law_ratio (hr.mono (by decide)) rfl T.g__law_ratio T.k__law_ratio T.b__law_ratio .nil pass0 (pa_cons (pe_call G_law_take (hr.mono (by decide)) rfl T.g__law_take T.k__law_take T.b__law_take .nil pass0 (pa_cons (pv 0) (pa_cons (pe_op op_add (pv 2) pe_int) pa_nil))) (pa_cons (pv 2) pa_nil)))))), ?_⟩
    refine qS ⟨_, rfl, _, rfl, b, c, m, rfl, B1, m0, lgp (n := 110) (by omega), fun u H2 u0 u1 B2 e2 => ⟨_, _, rfl, rfl, ?_⟩⟩
    refine sR ⟨_, rfl, _, rfl, _, _, rfl, rfl, b, c, _, rfl, B2, by omega, lgp (n := 110) (by omega), fun x H3 x0 x1 B3 e3 => ⟨_, rfl, _, _, rfl, lgp (n := 110) (by omega), by omega, fun r hr => ?_⟩⟩
    obtain ⟨z1, z2, z3⟩ := rat_share (n := x) (d := 1 + u) x0 (by omega) (by omega)
    have xx : Ext b c H H3 := fun a o ab ac h => (e3 a ab ac).trans ((e2 a ab ac).trans h)
    have hr0 : H r = none := by
      cases q : H r with
      | none => rfl
      | some o =>
        have := xx r o (B3.neb hr).1 (B3.neb hr).2 q
        rw [hr] at this
        cases this
    exact k r _ _ _ (rat_low (by omega)) z1 z2 (by omega) hr0 (B3.same (same_upd hr)) (xx.trans (.of (same_upd hr))) upd_same
theorem sc__law_is_integer : FnScope N__law_is_integer ["_law_value"] (defScope s__law_is_integer) := ⟨rfl, rfl, rfl, by decide +kernel, rfl, by decide +kernel, by decide +kernel⟩

def spIsInt : Sp := fun vs H Q _ => ∃ n : Int, vs = [.int n] ∧ Q (.bl true) H
theorem ok__law_is_integer (T : Txt K mg A) : FnOk P w K mg base CX0 1 A.f__law_is_integer A.d__law_is_integer ["_law_value"] spIsInt := by
  refine T.F__law_is_integer.ok sc__law_is_integer (fun vs H Q E h => ?_) (fun cdv Ar outer s H vs Q E hr h => ?_)
  · obtain ⟨n, rfl, _⟩ := h
    rfl
  · obtain ⟨n, rfl, k⟩ := h
    refine ⟨_, (pss_one (ps_ret (pe_and (pe_callB call_isi (by rfl) T.z_isinstance (by decide +kernel) (pa_cons (pv 0) (pa_cons (pe_bltn (v := .ty "int") (u := .type "int") (by rfl) T.z_int (by decide +kernel) (by rfl)) pa_nil))) (pe_one (pe_not (pe_callB call_isi (by rfl) T.z_isinstance (by decide +kernel) (pa_cons (pv 0) (pa_cons (pe_bltn (v := .ty "bool") (u := .type "bool") (by rfl) T.z_bool (by decide +kernel) (by rfl)) pa_nil)))))))), ?_⟩
    exact sR ⟨_, rfl, _, _, _, _, true, rfl, .ty "int", .base (.int _), kit_ty (by decide +kernel), true, rfl, iteT ⟨_, rfl, _, _, _, _, false, rfl, .ty "bool", .base (.int _), kit_ty (by decide +kernel), false, rfl, k⟩⟩
theorem sc__law_row : FnScope N__law_row ["_law_poly"] (defScope s__law_row) := ⟨rfl, rfl, rfl, by decide +kernel, rfl, by decide +kernel, by decide +kernel⟩
theorem ok__law_row (T : Txt K mg A) : FnOk P w K mg base CX0 2 A.f__law_row A.d__law_row ["_law_poly"] (spRow K A.C_Poly) := by
  have G_law_is_integer := ok__law_is_integer (P := P) (w := w) (base := base) T
  refine T.F__law_row.ok sc__law_row (fun vs H Q E h => ?_) (fun cdv Ar outer s H vs Q E hr h => ?_)
  · obtain ⟨p, row, rfl, _⟩ := h
    rfl
  · obtain ⟨p, row, rfl, ⟨dx, t, hp, ht⟩, hrow, k⟩ := h
    refine ⟨_, (pss_cons (ps_if (PW.pt (pw_or (pt_not (pt_val (pe_callB call_isi (by rfl) T.z_isinstance (by decide +kernel) (pa_cons (pv 0) (pa_cons (pe_glob (v := .ref A.C_Poly) rfl T.g_Poly rfl) pa_nil))))) (pw_or1 (pt_not (pt_val (pe_callB call_isi (by rfl) T.z_isinstance (by decide +kernel) (pa_cons (pe_fld (pv 0) rfl) (pa_cons (pe_bltn (v := .ty "tuple") (u := .type "tuple") (by rfl) T.z_tuple (by decide +kernel) (by rfl)) pa_nil)))))))) (pss_one (ps_ret pe_non)) pss_nil)
      (pss_cons (ps_for PassesOwn.never rfl (pi_tup (pe_fld (pv 0) rfl)) (pg_name (i := 1) sc__law_row.nd rfl (Or.inl rfl)) (pss_one (ps_if (pt_not (pt_val (pe_call G_law_is_integer (hr.mono (by decide)) rfl T.g__law_is_integer T.k__law_is_integer T.b__law_is_integer .nil pass0 (pa_cons (pv 1) pa_nil)))) (pss_one (ps_ret pe_non)) pss_nil)))
      (pss_cons (ps_if (PW.pt (pw_and (pt_cmpR op_gt (pe_callB call_len_seq (by rfl) T.z_len (by decide +kernel) (pa_cons (pe_fld (pv 0) rfl) pa_nil)) pe_int (nomark _)) (pw_and1 (pt_cmpR op_eq (pe_ix ix_tup (pe_fld (pv 0) rfl) (pe_un un_neg pe_int) (fun _ _ => rfl)) pe_int (nomark _))))) (pss_one (ps_ret pe_non)) pss_nil)
      (pss_one (ps_ret (pe_callTy call_list_of (by rfl) T.z_list (by decide +kernel) (pa_cons (pe_fld (pv 0) rfl) pa_nil))))))), ?_⟩
    have vc : ∀ {σ : L2.St}, σ[0]? = some (some (V.ref p)) → Val (tFld K (tVar 0) "coefs") σ H (.ref t) := fun e => val_coefs T.pc (val_var e) hp
    refine qW ⟨_, rfl, _, _, _, _, true, rfl, .own _, T.ty_Poly hp, T.ki_Poly, true, rfl, iteF ((vc rfl).at ⟨_, _, _, _, true, rfl, .ty "tuple", SqT.ty ht, kit_ty (by decide +kernel), true, rfl, iteF ?_⟩)⟩
    refine ⟨_, rfl, p, _, dx, _, _, rfl, hp, T.pc.cls, T.pc.na, rfl, t, rfl, ⟨_, ht⟩, for_tup (K := K) (a := t) (xs := iVs row) (fun i σ H' => ∃ v1, σ = [some (.ref p), v1] ∧ H' = H) ⟨none, rfl, rfl⟩ (fun i σ H' _ ⟨_, _, e⟩ => e ▸ ht) ?_ ?_⟩
    · rintro i y σ H' hi ⟨v1, rfl, rfl⟩
      obtain ⟨hl, rfl⟩ := iVs_at hi
      exact sW ⟨_, rfl, _, rfl, _, rfl, iteF ⟨_, rfl, rfl⟩⟩
    · rintro σ H' ⟨v1, rfl, rfl⟩
      have hlast := trim_last row
      rw [hrow] at hlast
      dsimp only
      refine q_when (b := false) (fun Q q => ?_) (fun z => nomatch z) (fun _ => ?_)
      · refine ⟨_, rfl, p, _, dx, _, _, rfl, hp, T.pc.cls, T.pc.na, rfl, t, _, rfl, .inr ht, _, _, rfl, rfl, _, rfl, ite2 (fun z => ?_) (fun z => q)⟩
        rw [iVs_len] at z
        have hpos : 0 < row.length := by
          have := of_decide_eq_true z
          omega
        refine ⟨_, rfl, p, _, dx, _, _, rfl, hp, T.pc.cls, T.pc.na, rfl, _, rfl, t, _, _, _, rfl, rfl, ht, atI_last hpos, rfl, _, rfl, ?_⟩
        rw [decide_eq_false (fun e => (hlast.resolve_left (by omega)) (V.int.inj e))]
        exact q
      · exact sR ⟨_, rfl, p, _, dx, _, _, rfl, hp, T.pc.cls, T.pc.na, rfl, t, _, rfl, .inr ht, k⟩
theorem sc__law_trim : FnScope N__law_trim ["_law_row_here"] (defScope s__law_trim) := ⟨rfl, rfl, rfl, by decide +kernel, rfl, by decide +kernel, by decide +kernel⟩
theorem ok__law_trim (T : Txt K mg A) : FnOk P w K mg base CX0 1 A.f__law_trim A.d__law_trim ["_law_row_here"] (spTrim K) := by
  refine T.F__law_trim.ok sc__law_trim (fun vs H Q E h => ?_) (fun cdv Ar outer s H vs Q E hr h => ?_)
  · obtain ⟨a, row, rfl, _⟩ := h
    rfl
  · obtain ⟨a, row, rfl, hS, hl, k⟩ := h
    refine ⟨_, (pss_cons (ps_set (i := 1) sc__law_trim.nd rfl (Or.inl rfl) (pe_callB call_len_seq (by rfl) T.z_len (by decide +kernel) (pa_cons (pv 0) pa_nil)))
      (pss_cons (ps_while PassesOwn.never (PW.pt (pw_and (pt_cmpR op_gt (pv 1) pe_int (nomark _)) (pw_and1 (pt_cmpR op_eq (pe_ix ix_list (pv 0) (pe_op op_sub (pv 1) pe_int) (fun _ _ => rfl)) pe_int (nomark _))))) (pss_one (ps_set (i := 1) sc__law_trim.nd rfl (Or.inl rfl) (pe_op op_sub (pv 1) pe_int))))
      (pss_one (ps_ret (pe_lc (own := [("_law_k", 2)]) (g := gName 2) (tt := tYes) rfl sc__law_trim.nd (pi_range1 (by rfl) T.z_range (pa_cons (pv 1) pa_nil)) (blkOk_by (own := [("_law_k", 2)]) (N := N__law_trim) (sc := defScope s__law_trim) (by decide +kernel)) (fun _ _ _ _ _ => (pg_name (i := 2) sc__law_trim.nd rfl (Or.inl rfl))) (fun _ _ _ _ _ => pts_nil) (fun _ _ _ _ _ => (pe_ix (show IxR _ (rIxL K) from ix_list) (pv 0) (pv 2) (fun _ _ => rfl)))))))), ?_⟩
    refine qS ⟨_, rfl, a, iVs row, rfl, .inl hS, ?_⟩
    refine q_whileA (fun m σ' H' => σ' = [some (.ref a), some (.int (m : Int)), none] ∧ H' = H ∧ m ≤ row.length ∧ ∀ j, m ≤ j → co row j = 0) row.length ⟨by rw [iVs_len]; rfl, rfl, Nat.le_refl _, fun j hj => co_ge hj⟩ ?_
    rintro m σ' H' ⟨rfl, rfl, hm, hz⟩
    refine ⟨decide ((0 : Int) < (m : Int)) && decide (V.int (co row ((m : Int) - 1).toNat) = V.int 0), ?_, fun hb N hN => ?_, fun hb => ?_⟩
    · refine ans_and' (ans_of ?_) fun z => ans_of (val_eq (val_ixLi ?_ ?_ hS (xs := row) ?_ ?_) val_c rfl)
      · (repeat' (first | exact val_var rfl | exact val_c | exact va_nil | with_reducible apply va_cons | with_reducible apply val_op0 | with_reducible apply val_un | with_reducible apply val_abs | with_reducible apply val_int| with_reducible apply val_gcd | with_reducible apply val_gcdc | with_reducible apply val_isB | with_reducible apply val_notB | with_reducible apply val_chain | with_reducible apply val_eq | with_reducible apply val_ne | with_reducible apply val_andV | with_reducible apply val_orV | with_reducible apply val_notV | with_reducible apply val_opC | with_reducible apply ans_of | with_reducible apply ans_B | with_reducible apply ans_not | with_reducible apply ans_and' | with_reducible apply ans_or' | with_reducible intro _ | (show scal _ _ = true; rfl) | exact wide_mul (by assumption) (by assumption) (by decide) (by decide) (by decide)))
      · (repeat' (first | exact val_var rfl | exact val_c | exact va_nil | with_reducible apply va_cons | with_reducible apply val_op0 | with_reducible apply val_un | with_reducible apply val_abs | with_reducible apply val_int| with_reducible apply val_gcd | with_reducible apply val_gcdc | with_reducible apply val_isB | with_reducible apply val_notB | with_reducible apply val_chain | with_reducible apply val_eq | with_reducible apply val_ne | with_reducible apply val_andV | with_reducible apply val_orV | with_reducible apply val_notV | with_reducible apply val_opC | with_reducible apply ans_of | with_reducible apply ans_B | with_reducible apply ans_not | with_reducible apply ans_and' | with_reducible apply ans_or' | with_reducible intro _ | (show scal _ _ = true; rfl) | exact wide_mul (by assumption) (by assumption) (by decide) (by decide) (by decide)))
      · (repeat' (first | exact val_var rfl | exact val_c | exact va_nil | with_reducible apply va_cons | with_reducible apply val_op0 | with_reducible apply val_un | with_reducible apply val_abs | with_reducible apply val_int| with_reducible apply val_gcd | with_reducible apply val_gcdc | with_reducible apply val_isB | with_reducible apply val_notB | with_reducible apply val_chain | with_reducible apply val_eq | with_reducible apply val_ne | with_reducible apply val_andV | with_reducible apply val_orV | with_reducible apply val_notV | with_reducible apply val_opC | with_reducible apply ans_of | with_reducible apply ans_B | with_reducible apply ans_not | with_reducible apply ans_and' | with_reducible apply ans_or' | with_reducible intro _ | (show scal _ _ = true; rfl) | exact wide_mul (by assumption) (by assumption) (by decide) (by decide) (by decide)))
      · have := of_decide_eq_true z
        omega
      · omega
    · obtain ⟨h1, h2⟩ := Bool.and_eq_true_iff.mp hb
      have h1' := of_decide_eq_true h1
      have h2' := V.int.inj (of_decide_eq_true h2)
      refine s_set (v := .int ((m - 1 : Nat) : Int)) (val_to (v := .int ((m - 1 : Nat) : Int)) (w := .int ((m : Int) - 1)) ?_ (by rw [show ((m : Int) - 1) = ((m - 1 : Nat) : Int) by omega])) (hN _ _ (m - 1) (by omega) ⟨rfl, rfl, by omega, fun j hj => ?_⟩)
      · (repeat' (first | exact val_var rfl | exact val_c | exact va_nil | with_reducible apply va_cons | with_reducible apply val_op0 | with_reducible apply val_un | with_reducible apply val_abs | with_reducible apply val_int| with_reducible apply val_gcd | with_reducible apply val_gcdc | with_reducible apply val_isB | with_reducible apply val_notB | with_reducible apply val_chain | with_reducible apply val_eq | with_reducible apply val_ne | with_reducible apply val_andV | with_reducible apply val_orV | with_reducible apply val_notV | with_reducible apply val_opC | with_reducible apply ans_of | with_reducible apply ans_B | with_reducible apply ans_not | with_reducible apply ans_and' | with_reducible apply ans_or' | with_reducible intro _ | (show scal _ _ = true; rfl) | exact wide_mul (by assumption) (by assumption) (by decide) (by decide) (by decide)))
      · by_cases e : j = m - 1
        · rw [e, ← h2']
          congr 1
          omega
        · exact hz j (by omega)
    · have e1 : row.take m = trimI row := by
        refine trimI_of hm (fun j h1 _ => hz j h1) ?_
        rcases Nat.eq_zero_or_pos m with h0 | h0
        · exact .inl h0
        · refine .inr fun e => ?_
          rw [show ((m : Int) - 1).toNat = m - 1 by omega, e, decide_eq_true (by omega : (0 : Int) < (m : Int)), decide_eq_true rfl] at hb
          cases hb
      refine sR ⟨_, rfl, _, rfl, by omega, by omega, fun D hD => ?_⟩
      refine lcI (fun j => co row j) hD (by show (m : Int).toNat ≤ 2 ^ 24; omega) (fun j H2 hj s2 => ?_) (fun H2 s2 h2 => k D H2 s2 hD ?_)
      · have e0 := val_ixLi (K := K) (H := H2) (σ := [some (.ref a), some (.int (m : Int)), some (.int (0 + (j : Int)))]) (val_var (i := 0) rfl) (val_var (i := 2) rfl) (s2.seq hS) (by omega) (by omega)
        rw [show (0 + (j : Int)).toNat = j by omega] at e0
        exact e0
      · rw [h2, ← e1]
        congr 3
        refine ext_co ?_ fun q => ?_
        · rw [List.length_map, List.length_range, List.length_take]
          omega
        · rw [co_take]
          by_cases hq : q < m
          · rw [if_pos hq, co_lt (by rw [List.length_map, List.length_range]; omega), List.getElem_map, List.getElem_range]
          · rw [if_neg hq, co_ge (by rw [List.length_map, List.length_range]; omega)]
theorem sc__law_times : FnScope N__law_times ["_law_a", "_law_b"] (defScope s__law_times) := ⟨rfl, rfl, rfl, by decide +kernel, rfl, by decide +kernel, by decide +kernel⟩
theorem ok__law_times (T : Txt K mg A) : FnOk P w K mg base CX0 2 A.f__law_times A.d__law_times ["_law_a", "_law_b"] (spLawTimes K) := by
  have G_law_trim := ok__law_trim (P := P) (w := w) (base := base) T
  refine T.F__law_times.ok sc__law_times (fun vs H Q E h => ?_) (fun cdv Ar outer s H vs Q E hr h => ?_)
  · obtain ⟨a, b, xs, ys, rfl, _⟩ := h
    rfl
  · obtain ⟨a, b, xs, ys, rfl, hA, hB, lx, ly, bx, by_, k⟩ := h
    refine ⟨_, (pss_cons (ps_setLc (i := 2) (own := [("_law_k", 5)]) (g := gName 5) (tt := tYes) rfl sc__law_times.nd rfl rfl (sw_true rfl rfl rfl (by decide +kernel)) (pi_range1 (by rfl) T.z_range (pa_cons (pe_op op_add (pe_callB call_len_seq (by rfl) T.z_len (by decide +kernel) (pa_cons (pv 0) pa_nil)) (pe_callB call_len_seq (by rfl) T.z_len (by decide +kernel) (pa_cons (pv 1) pa_nil))) pa_nil)) (blkOk_by (own := [("_law_k", 5)]) (N := N__law_times) (sc := defScope s__law_times) (by decide +kernel)) (fun _ _ _ _ _ => (pg_name (i := 5) sc__law_times.nd rfl (Or.inl rfl))) (fun _ _ _ _ _ => pts_nil) (fun _ _ _ _ _ => pe_int))
      (pss_cons (ps_for PassesOwn.never rfl (pi_range1 (by rfl) T.z_range (pa_cons (pe_callB call_len_seq (by rfl) T.z_len (by decide +kernel) (pa_cons (pv 0) pa_nil)) pa_nil)) (pg_name (i := 3) sc__law_times.nd rfl (Or.inl rfl)) (pss_one (ps_for PassesOwn.never rfl (pi_range1 (by rfl) T.z_range (pa_cons (pe_callB call_len_seq (by rfl) T.z_len (by decide +kernel) (pa_cons (pv 1) pa_nil)) pa_nil)) (pg_name (i := 4) sc__law_times.nd rfl (Or.inl rfl)) (pss_one (ps_asg (pe_op op_add (pe_ix ix_list (pv 2) (pe_op op_add (pv 3) (pv 4)) (fun _ _ => rfl)) (pe_op op_mulW (pe_ix ix_list (pv 0) (pv 3) (fun _ _ => rfl)) (pe_ix ix_list (pv 1) (pv 4) (fun _ _ => rfl)))) (pg_sub (pv 2) (pe_op op_add (pv 3) (pv 4)) set_list))))))
      (pss_one (ps_ret (pe_call G_law_trim (hr.mono (by decide)) rfl T.g__law_trim T.k__law_trim T.b__law_trim .nil pass0 (pa_cons (pv 2) pa_nil)))))), ?_⟩
    refine qS ⟨_, rfl, a, _, rfl, .inl hA, _, rfl, b, _, rfl, .inl hB, _, _, rfl, rfl, _, rfl, ?_⟩
    rw [iVs_len, iVs_len]
    refine ⟨by omega, by omega, fun D hD => ?_⟩
    rw [show ((xs.length : Int) + (ys.length : Int)).toNat = xs.length + ys.length by omega]
    refine lcI (fun _ => 0) hD (by show _ ≤ 2 ^ 24; omega) (fun j H2 hj s2 => val_c) (fun H2 s2 h2 => ?_)
    have upA : ∀ H', Same H H' → SqL K H' a (iVs xs) := fun H' s => s.seq hA
    have upB : ∀ H', Same H H' → SqL K H' b (iVs ys) := fun H' s => s.seq hB
    have keep : ∀ H' u, Same H H' → Same H (upd H' D u) := fun H' u s x o e => by rw [upd_ne (ne_of_none e hD)]; exact s x o e
    refine Evl.q_forR1 (n := (xs.length : Int)) (Evl.ea_cons (er_ev (er_lenL (xs := xs) (er_var rfl ⟨a, rfl, upA _ s2⟩))) Evl.ea_nil) (by omega)
      (fun i σ' H' => (∃ v w x, σ' = [some (.ref a), some (.ref b), some (.ref D), v, w, x]) ∧ Same H H' ∧ ∃ cur : List Int, H' D = some (.lst (iVs cur)) ∧ cur.length = xs.length + ys.length ∧ ∀ q, co cur q = S (fun i' => if i' ≤ q then co xs i' * co ys (q - i') else 0) i) ?_ ?_ ?_
    · refine fun H3 e3 => ⟨⟨_, _, _, rfl⟩, s2.trans e3, _, e3 _ _ h2, by rw [List.length_map, List.length_range], fun q => ?_⟩
      rw [co_range]
      split <;> rfl
    · rintro i σ' H' hi ⟨⟨v, w, x, rfl⟩, s3, cur, h3, hl, hc⟩
      refine Evl.s_forR1 (n := (ys.length : Int)) (Evl.ea_cons (er_ev (er_lenL (xs := ys) (er_var rfl ⟨b, rfl, upB _ s3⟩))) Evl.ea_nil) (by omega)
        (fun j σ' H' => (∃ w x, σ' = [some (.ref a), some (.ref b), some (.ref D), some (.int (i : Int)), w, x]) ∧ Same H H' ∧ ∃ cur : List Int, H' D = some (.lst (iVs cur)) ∧ cur.length = xs.length + ys.length ∧ ∀ q, co cur q = S (fun i' => if i' ≤ q then co xs i' * co ys (q - i') else 0) i + if i ≤ q ∧ q < i + j then co xs i * co ys (q - i) else 0) ?_ ?_ ?_
      · refine fun H4 e4 => ⟨⟨_, _, rfl⟩, s3.trans e4, cur, e4 _ _ h3, hl, fun q => ?_⟩
        rw [hc q, if_neg (by omega), Int.add_zero]
      · rintro j σ' H4 hj ⟨⟨w, x, rfl⟩, s4, cur2, h4, hl2, hc2⟩
        refine sB ((val_op0 (g := fun i j => V.int (i + j)) (val_ixLi (xs := cur2) (k := (i : Int) + (j : Int)) (val_var rfl) (val_op0 (g := fun i j => V.int (i + j)) (val_var rfl) (val_var rfl)) (SqL.of h4) (by omega) (by omega)) (val_opC (C := CMulW) (g := fun i j => V.int (i * j)) (val_ixLi (xs := xs) (val_var rfl) (val_var rfl) (upA _ s4) (by omega) (by omega)) (val_ixLi (xs := ys) (val_var rfl) (val_var rfl) (upB _ s4) (by omega) (by omega)) (wide_mul (bx _) (by_ _) (by decide) (by decide) (by decide)))).at
          ⟨_, rfl, _, rfl, _, rfl, _, _, rfl, rfl, setL_I (k := (i : Int) + (j : Int)) h4 (by omega) (by omega) ⟨⟨_, _, rfl⟩, keep _ _ s4, _, upd_same, by rw [List.length_set]; exact hl2, fun q => ?_⟩⟩)
        rw [co_set (by omega), show ((i : Int) + (j : Int)).toNat = i + j by omega, show (i : Int).toNat = i by omega, show (j : Int).toNat = j by omega]
        by_cases e : q = i + j
        · subst e
          rw [if_pos rfl, if_pos ⟨by omega, by omega⟩, hc2 (i + j), if_neg (by omega), Int.add_zero, show i + j - i = j by omega]
        · rw [if_neg e, hc2 q]
          congr 1
          by_cases e2 : i ≤ q ∧ q < i + j
          · rw [if_pos e2, if_pos ⟨e2.1, by omega⟩]
          · rw [if_neg e2, if_neg (by omega)]
      · rintro σ' H4 ⟨⟨w, x, rfl⟩, s4, cur2, h4, hl2, hc2⟩
        refine ⟨⟨_, _, _, rfl⟩, s4, cur2, h4, hl2, fun q => ?_⟩
        rw [hc2 q]
        show _ = _ + (if i ≤ q then co xs i * co ys (q - i) else 0)
        congr 1
        by_cases e : i ≤ q
        · rw [if_pos e]
          split
          · rfl
          · rw [co_ge (xs := ys) (by omega), Int.mul_zero]
        · rw [if_neg e, if_neg (by omega)]
    rintro σ' H3 ⟨⟨v, w, x, rfl⟩, s3, cur, h3, hl, hc⟩
    refine sR ⟨_, rfl, D, cur, rfl, SqL.of h3, by omega, fun l H4 s4 hl4 h4 => k l H4 (s3.trans s4) (s3.free hl4) ?_⟩
    rw [h4]
    congr 3
    refine trim_ext fun q => ?_
    rw [hc, co_mul]
    unfold cv
    have e0 : S (fun i' => if i' ≤ q then co xs i' * co ys (q - i') else 0) (q + 1) = S (fun i => co xs i * co ys (q - i)) (q + 1) := S_congr fun i hi => if_pos (by omega)
    rw [← e0]
    have lx' : ((xs.length : Int)).toNat = xs.length := by omega
    rw [lx']
    rcases Nat.le_total xs.length (q + 1) with h | h
    · exact (S_more h fun i h1 h2 => by rw [co_ge h1, Int.zero_mul]; split <;> rfl).symm
    · exact S_more h fun i h1 h2 => if_neg (by omega)
theorem sc__law_path : FnScope N__law_path ["_law_wins", "_law_losses"] (defScope s__law_path) := ⟨rfl, rfl, rfl, by decide +kernel, rfl, by decide +kernel, by decide +kernel⟩
theorem ok__law_path (T : Txt K mg A) : FnOk P w K mg base CX0 3 A.f__law_path A.d__law_path ["_law_wins", "_law_losses"] (spLawPath K) := by
  have G_law_times := ok__law_times (P := P) (w := w) (base := base) T
  refine T.F__law_path.ok sc__law_path (fun vs H Q E h => ?_) (fun cdv Ar outer s H vs Q E hr h => ?_)
  · obtain ⟨w, l, rfl, _⟩ := h
    rfl
  · obtain ⟨w, l, rfl, w0, w1, l0, l1, k⟩ := h
    refine ⟨_, (pss_cons (ps_set (i := 2) sc__law_path.nd rfl (Or.inl rfl) (pe_lst (pa_cons pe_int pa_nil)))
      (pss_cons (ps_for PassesOwn.never rfl (pi_range1 (by rfl) T.z_range (pa_cons (pv 0) pa_nil)) (pg_name (i := 3) sc__law_path.nd rfl (Or.inl rfl)) (pss_one (ps_set (i := 2) sc__law_path.nd rfl (Or.inl rfl) (pe_call G_law_times (hr.mono (by decide)) rfl T.g__law_times T.k__law_times T.b__law_times .nil pass0 (pa_cons (pv 2) (pa_cons (pe_lst (pa_cons pe_int (pa_cons pe_int pa_nil))) pa_nil))))))
      (pss_cons (ps_for PassesOwn.never rfl (pi_range1 (by rfl) T.z_range (pa_cons (pv 1) pa_nil)) (pg_name (i := 3) sc__law_path.nd rfl (Or.inl rfl)) (pss_one (ps_set (i := 2) sc__law_path.nd rfl (Or.inl rfl) (pe_call G_law_times (hr.mono (by decide)) rfl T.g__law_times T.k__law_times T.b__law_times .nil pass0 (pa_cons (pv 2) (pa_cons (pe_lst (pa_cons pe_int (pa_cons (pe_un un_neg pe_int) pa_nil))) pa_nil))))))
      (pss_one (ps_ret (pv 2)))))), ?_⟩
    refine q_asgR (er_lst (K := K) (xs := [1]) (fun _ _ => va_cons val_c va_nil) (by show 1 ≤ 2 ^ 24; decide)) (fun v0 H1 s1 hv0 => ?_)
    obtain ⟨p0, rfl, hp0⟩ := hv0
    refine Evl.q_forR1 (n := w) (Evl.ea_cons (er_ev (er_var rfl rfl)) Evl.ea_nil) (by omega) (fun i σ' H' => (∃ p v3 row, σ' = [some (.int w), some (.int l), some (.ref p), v3] ∧ SqL K H' p (iVs row) ∧ IsPath i 0 row) ∧ Same H H') ?_ ?_ ?_
    · exact fun H2 e2 => ⟨⟨p0, none, [1], rfl, Same.seq e2 hp0, IsPath.one⟩, s1.trans e2⟩

    · rintro i σ' H' hi ⟨⟨p, v3, row, rfl, hr, hp⟩, s'⟩
      have ll := hp.le
      refine s_asgR (er_ltimes (K := K) (er_var rfl ⟨p, rfl, hr⟩) (er_lst (xs := [0, 1]) (fun _ _ => va_cons val_c (va_cons val_c va_nil)) (by show 2 ≤ 2 ^ 24; decide)) (by omega) (by decide) (hp.sm (by omega)) (sm_of (m := 1) (b := 2) (bd_of (by decide)) (by decide) (by decide))) (fun v H2 s2 hv => ?_)
      obtain ⟨q, rfl, hq⟩ := hv
      exact ⟨⟨q, _, _, rfl, hq, hp.x⟩, s'.trans s2⟩

    rintro σ' H2 ⟨⟨p, v3, row, rfl, hr, hp⟩, s2⟩
    refine Evl.q_forR1 (n := l) (Evl.ea_cons (er_ev (er_var rfl rfl)) Evl.ea_nil) (by omega) (fun i σ' H' => (∃ p v3 row, σ' = [some (.int w), some (.int l), some (.ref p), v3] ∧ SqL K H' p (iVs row) ∧ IsPath w.toNat i row) ∧ Same H H') ?_ ?_ ?_
    · exact fun H3 e3 => ⟨⟨p, v3, row, rfl, Same.seq e3 hr, hp⟩, s2.trans e3⟩

    · rintro i σ' H' hi ⟨⟨p, v3, row, rfl, hr, hp⟩, s'⟩
      have ll := hp.le
      refine s_asgR (er_ltimes (K := K) (er_var rfl ⟨p, rfl, hr⟩) (er_lst (xs := [1, -1]) (fun _ _ => va_cons val_c (va_cons (val_un (g := fun i => V.int (-i)) val_c) va_nil)) (by show 2 ≤ 2 ^ 24; decide)) (by omega) (by decide) (hp.sm (by omega)) (sm_of (m := 1) (b := 2) (bd_of (by decide)) (by decide) (by decide))) (fun v H2 s2 hv => ?_)
      obtain ⟨q, rfl, hq⟩ := hv
      exact ⟨⟨q, _, _, rfl, hq, hp.y⟩, s'.trans s2⟩

    rintro σ' H3 ⟨⟨p, v3, row, rfl, hr, hp⟩, s3⟩
    exact sR ⟨_, rfl, k p row H3 s3 hp hr⟩
theorem sc__law_orders : FnScope N__law_orders ["_law_tries"] (defScope s__law_orders) := ⟨rfl, rfl, rfl, by decide +kernel, rfl, by decide +kernel, by decide +kernel⟩

def bnR (t : Nat) : List Int := (List.range (t + 1)).map (bn t)
def spOrders (K : PySem.W.Frag) : Sp := fun vs H Q _ => ∃ t : Int, vs = [.int t] ∧ 0 ≤ t ∧ t ≤ 1000 ∧ ∀ p H', Same H H' → SqL K H' p (iVs (bnR t.toNat)) → Q (.ref p) H'
theorem bnR_len (t : Nat) : (bnR t).length = t + 1 := by
  unfold bnR
  rw [List.length_map, List.length_range]
theorem bnR_at {t k : Nat} (h : k ≤ t) : co (bnR t) k = bn t k := by
  unfold bnR
  rw [co_range, if_pos (by omega)]
theorem bnR_step (t : Nat) : [1] ++ (List.range t).map (fun j => co (bnR t) j + co (bnR t) (j + 1)) ++ [1] = bnR (t + 1) := by
  refine ext_co ?_ fun k => ?_
  · rw [bnR_len, List.length_append, List.length_append, List.length_map, List.length_range]
    show 1 + t + 1 = _
    omega
  · rw [co_app, List.length_append, List.length_map, List.length_range]
    show (if k < 1 + t then _ else _) = _
    by_cases h : k < 1 + t
    · rw [if_pos h, co_app, bnR_at (by omega)]
      cases k with
      | zero => rfl
      | succ k =>
        show (if k + 1 < 1 then _ else co _ (k + 1 - 1)) = _
        rw [if_neg (by omega), show k + 1 - 1 = k from rfl, co_range, if_pos (by omega), bnR_at (by omega), bnR_at (by omega)]
        rfl
    · rw [if_neg h]
      by_cases h2 : k = t + 1
      · subst h2
        rw [bnR_at (Nat.le_refl _), bn_end]
        show co [1] (t + 1 - (1 + t)) = 1
        rw [show t + 1 - (1 + t) = 0 by omega]
        rfl
      · rw [co_ge (by show 1 ≤ k - (1 + t); omega), co_ge (by rw [bnR_len]; omega)]
theorem ok__law_orders (T : Txt K mg A) : FnOk P w K mg base CX0 1 A.f__law_orders A.d__law_orders ["_law_tries"] (spOrders K) := by
  refine T.F__law_orders.ok sc__law_orders (fun vs H Q E h => ?_) (fun cdv Ar outer s H vs Q E hr h => ?_)
  · obtain ⟨t, rfl, _⟩ := h
    rfl
  · obtain ⟨t, rfl, t0, t1, k⟩ := h
    refine ⟨_, (pss_cons (ps_set (i := 1) sc__law_orders.nd rfl (Or.inr rfl) (pe_lst (pa_cons pe_int pa_nil)))
      (pss_cons (ps_for PassesOwn.never rfl (pi_range1 (by rfl) T.z_range (pa_cons (pv 0) pa_nil)) (pg_name (i := 2) sc__law_orders.nd rfl (Or.inl rfl)) (pss_one (ps_set (i := 1) sc__law_orders.nd rfl (Or.inr rfl) (pe_op op_cat (pe_op op_cat (pe_lst (pa_cons pe_int pa_nil)) (pe_lc (own := [("_law_j", 3)]) (g := gName 3) (tt := tYes) rfl sc__law_orders.nd (pi_range1 (by rfl) T.z_range (pa_cons (pe_op op_sub (pe_callB call_len_seq (by rfl) T.z_len (by decide +kernel) (pa_cons (pv 1) pa_nil)) pe_int) pa_nil)) (blkOk_by (own := [("_law_j", 3)]) (N := N__law_orders) (sc := defScope s__law_orders) (by decide +kernel)) (fun _ _ _ _ _ => (pg_name (i := 3) sc__law_orders.nd rfl (Or.inl rfl))) (fun _ _ _ _ _ => pts_nil) (fun _ _ _ _ _ => (pe_op op_add (pe_ix (show IxR _ (rIxL K) from ix_list) (pv 1) (pv 3) (fun _ _ => rfl)) (pe_ix (show IxR _ (rIxL K) from ix_list) (pv 1) (pe_op op_add (pv 3) pe_int) (fun _ _ => rfl)))))) (pe_lst (pa_cons pe_int pa_nil))))))
      (pss_one (ps_ret (pv 1))))), ?_⟩
    refine q_asgR (er_nl (xs := [1]) (fun _ _ => va_cons val_c va_nil) (by show 1 ≤ 2 ^ 24; decide)) (fun v0 H1 s1 hv0 => ?_)
    obtain ⟨p0, rfl, hp0⟩ := hv0
    refine Evl.q_forR1 (n := t) (Evl.ea_cons (er_ev (er_var rfl rfl)) Evl.ea_nil) (by omega) (fun i σ' H' => (∃ p v2, σ' = [some (.int t), some (.ref p), v2, none] ∧ H' p = some (.lst (iVs (bnR i)))) ∧ Same H H') ?_ ?_ ?_
    · exact fun H2 e2 => ⟨⟨p0, none, rfl, e2 _ _ hp0⟩, s1.trans e2⟩
    · rintro i σ' H' hi ⟨⟨p, v2, rfl, hp⟩, s'⟩
      have hL := bnR_len i
      refine s_asgR (er_catN (er_catN (er_nl (xs := [1]) (fun _ _ => va_cons val_c va_nil) (by show 1 ≤ 2 ^ 24; decide)) (er_lcR (n := (i : Int)) (f := fun j => co (bnR i) j + co (bnR i) (j + 1)) ?_ (by omega) (by omega) ?_) ?_) (er_nl (xs := [1]) (fun _ _ => va_cons val_c va_nil) (by show 1 ≤ 2 ^ 24; decide)) ?_) (fun v H2 s2 hv => ?_)
      · have e := er_int (f := fun i j => i - j) (er_lenL (K := K) (xs := bnR i) (er_var (i := 1) (σ := [some (.int t), some (.ref p), some (.int (i : Int)), none]) rfl ⟨p, rfl, SqL.of hp⟩)) (er_c (v := .int 1))
        rw [hL, show (((i + 1 : Nat) : Int) - 1) = (i : Int) by omega] at e
        exact e
      · intro j H3 hj s3
        have hj2 : j < i := by omega
        have hp3 : SqL K H3 p (iVs (bnR i)) := SqL.of (s3 _ _ hp)
        have e1 := val_ixLi (K := K) (H := H3) (σ := [some (.int t), some (.ref p), some (.int (i : Int)), some (.int (0 + (j : Int)))]) (val_var (i := 1) rfl) (val_var (i := 3) rfl) hp3 (by omega) (by omega)
        have e2 := val_ixLi (K := K) (H := H3) (σ := [some (.int t), some (.ref p), some (.int (i : Int)), some (.int (0 + (j : Int)))]) (val_var (i := 1) rfl) (val_op0 (g := fun i j => V.int (i + j)) (val_var (i := 3) rfl) (val_c (v := .int 1))) hp3 (by omega) (by omega)
        have e3 := val_op0 (g := fun i j => V.int (i + j)) e1 e2
        rw [show (0 + (j : Int)).toNat = j by omega, show (0 + (j : Int) + 1).toNat = j + 1 by omega] at e3
        exact e3
      · rw [List.length_map, List.length_range]
        show 1 + _ ≤ 2 ^ 24
        omega
      · rw [List.length_append, List.length_map, List.length_range]
        show 1 + _ + 1 ≤ 2 ^ 24
        omega
      · obtain ⟨q, rfl, hq⟩ := hv
        refine ⟨⟨q, _, rfl, ?_⟩, s'.trans s2⟩
        rw [hq, show ((i : Int)).toNat = i by omega, bnR_step]
    rintro σ' H2 ⟨⟨p, v2, rfl, hp⟩, s2⟩
    exact sR ⟨_, rfl, k p H2 s2 (SqL.of hp)⟩
theorem sc_law : FnScope N_law ["_law_script"] (defScope s_law) := ⟨rfl, rfl, rfl, by decide +kernel, rfl, by decide +kernel, by decide +kernel⟩

def spLaw (K : PySem.W.Frag) : Sp := fun vs H Q _ => ∃ (a : Addr) (ns : List Int), vs = [.ref a] ∧ SqL K H a (ns.map V.int) ∧ ns.length ≤ 63 ∧ ∀ H', Q (.bl true) H'
theorem Txt.opr_mul (T : Txt K mg A) : OpOkR K A.C_Poly A.f_Poly___mul__ A.f_Poly___rmul__ "mul" := ⟨T.sf_Poly, by rw [dun_mul]; exact T.m_Poly___mul__, by rw [dunr_mul]; exact T.m_Poly___rmul__, T.i_Poly___rmul__, T.ri_Poly⟩
theorem Txt.op_pow (T : Txt K mg A) : OpOk K A.C_Poly A.f_Poly___pow__ "pow" := ⟨T.sf_Poly, by rw [dun_pow]; exact T.m_Poly___pow__, T.i_Poly___pow__⟩
theorem Txt.opi_pow (T : Txt K mg A) : OpOkI K A.C_Poly "pow" := ⟨⟨none, by rw [dunr_pow]; exact T.rpow_Poly, .inl rfl⟩, ⟨_, by rw [dun_pow]; exact T.i1pow_Poly⟩, ⟨_, by rw [dunr_pow]; exact T.i2pow_Poly⟩, T.si_Poly⟩
section
variable {C : Addr} {σ : L2.St} {H : Hp} {ta tb : TE} {E : XK} {w l : Nat} {n : Int} {xs : List Int}
theorem er_rowPt (ha : EvR ta σ H (isPt K C w l)) : EvR (tCall (spRow K C) [] E (tCons ta tNil)) σ H (isPtL K w l) :=
  er_call1 ha fun H1 _ ⟨row, hp, p, ex, hx⟩ Q k => ⟨p, row, by rw [ex], hx, hp.1, fun q hq => k _ _ (same_upd hq) ⟨row, hp, q, rfl, SqL.of upd_same⟩⟩
theorem er_nePt (ha : EvR ta σ H (isPtL K w l)) (hb : EvR tb σ H (isPtL K w l)) : EvR (tOp (rNeD K) ta tb) σ H (isV (.bl false)) :=
  er_op ha hb fun H1 _ _ _ ⟨r1, h1, p, ex, hx⟩ ⟨r2, h2, q, ey, hy⟩ Q k => by
    subst ex; subst ey
    cases h1.uniq h2
    exact rNeL hx hy (by rw [decide_eq_true rfl]; exact k _ H1 (Same.refl _) rfl)
theorem pw_pt (h : EvR ta σ H (isPw K C (co [1, -1]) l)) : EvR ta σ H (isPt K C 0 l) := h.imp fun _ _ ⟨r, h1, h2⟩ => ⟨r, ⟨h1.1, fun k => by rw [h1.2, Pc_at, if_neg (by omega)]; rfl⟩, h2⟩
theorem px_pt (h : EvR ta σ H (isPw K C (co [0, 1]) w)) : EvR ta σ H (isPt K C w 0) := h.imp fun _ _ ⟨r, h1, h2⟩ => ⟨r, ⟨h1.1, fun k => by rw [h1.2]; exact ((cv_comm _ _ _).trans (one_cv _ _)).symm⟩, h2⟩
/-- a number of orders times a path, and that added -/
def isMP (K : PySem.W.Frag) (C : Addr) (n : Int) (w l : Nat) : Hp → V → Prop := fun H v => ∃ row, IsPath w l row ∧ isP K C (trimI (mulI row (trimI [n]))) H v
instance : Up (isMP K C n w l) := ⟨fun e ⟨r, h1, h2⟩ => ⟨r, h1, Up.up e h2⟩⟩
theorem er_rmulPt (ha : EvR ta σ H (isV (.int n))) (hb : EvR tb σ H (isPt K C w l)) (hw : w ≤ 1000) (hl : l ≤ 1000) (hn : Sm [n]) : EvR (tOp (rBinR C (spRmul K C) E) ta tb) σ H (isMP K C n w l) :=
  er_op ha hb fun _ _ _ _ hx ⟨row, hp, hy⟩ _ k => rmul_R hx hy (by have := hp.le; omega) (hp.sm hl) hn fun v H2 s2 hv => k v H2 s2 ⟨row, hp, hv⟩
theorem er_addMP (ha : EvR ta σ H (isP K C xs)) (hb : EvR tb σ H (isMP K C n w l)) (lx : xs.length ≤ 2 ^ 19) (hw : w ≤ 1000) (hl : l ≤ 1000) : EvR (tOp (rBin C (spBin addI K C) E) ta tb) σ H (fun H v => ∃ ys, (∀ j, co ys j = co xs j + n * Pc w l j) ∧ trimI ys = ys ∧ isP K C ys H v) :=
  er_op ha hb fun _ _ _ _ hx ⟨row, hp, hy⟩ _ k => bin_P hx hy lx (by
    have h1 := hp.le
    have h2 := trim_len (mulI row (trimI [n]))
    rw [mul_len] at h2
    have h3 : (trimI [n]).length ≤ 1 := trim_len [n]
    omega) fun v H2 s2 hv => k v H2 s2 ⟨_, fun j => by rw [co_trim, co_add, mul_one, co_trim, co_scale, hp.2], trim_trim _, hv⟩
end
theorem cross_path {w l : Nat} {row : List Int} {a d : Int} (h : IsPath w l row) (hd : 0 < d) : vDen row a d * a ^ w * (d - a) ^ l = vNum row a d * d ^ w * d ^ l := by
  have hp : d ^ row.length ≠ 0 := Int.pow_ne_zero (by omega)
  have e := rat_cross (n := VS (co row) a d row.length * d) hp
  have ev : VS (co row) a d row.length = a ^ w * (d - a) ^ l := by
    rw [h.len, ← VS_Pc]
    exact VS_congr fun i _ => h.2 i
  unfold vDen vNum
  rw [ev] at e ⊢
  rw [h.len] at e ⊢
  rw [Int.pow_succ, Int.pow_add] at e ⊢
  generalize ratD (a ^ w * (d - a) ^ l * d) (d ^ w * d ^ l * d) = D at e ⊢
  generalize ratN (a ^ w * (d - a) ^ l * d) (d ^ w * d ^ l * d) = N at e ⊢
  refine Int.eq_of_mul_eq_mul_right (show d ≠ 0 by omega) ?_
  generalize a ^ w = x at *
  generalize (d - a) ^ l = y at *
  generalize d ^ w = z at *
  generalize d ^ l = u at *
  grind
theorem six (x : Int) (h0 : 0 ≤ x) (h1 : x ≤ 40) : x.natAbs < 2 ^ 6 := by omega
theorem ok_law (T : Txt K mg A) : FnOk P w K mg base CX0 11 A.f_law A.d_law ["_law_script"] (spLaw K) := by
  have G_law_box := ok__law_box (P := P) (w := w) (base := base) T
  have G_law_take := ok__law_take (P := P) (w := w) (base := base) T
  have G_law_share := ok__law_share (P := P) (w := w) (base := base) T
  have G_law_row := ok__law_row (P := P) (w := w) (base := base) T
  have G_law_path := ok__law_path (P := P) (w := w) (base := base) T
  have G_law_orders := ok__law_orders (P := P) (w := w) (base := base) T
  have GPoly___init__ := ok_Poly___init__ (P := P) (w := w) (base := base) T
  have GPoly_path := ok_Poly_path (P := P) (w := w) (base := base) T
  have GPoly_degree := ok_Poly_degree (P := P) (w := w) (base := base) T
  have GPoly___call__ := ok_Poly___call__ (P := P) (w := w) (base := base) T
  have GPoly___add__ := ok_Poly___add__ (P := P) (w := w) (base := base) T
  have GPoly___radd__ := ok_Poly___radd__ (P := P) (w := w) (base := base) T
  have GPoly___mul__ := ok_Poly___mul__ (P := P) (w := w) (base := base) T
  have GPoly___rmul__ := ok_Poly___rmul__ (P := P) (w := w) (base := base) T
  have GPoly___pow__ := ok_Poly___pow__ (P := P) (w := w) (base := base) T
  refine T.F_law.ok sc_law (fun vs H Q E h => ?_) (fun cdv Ar outer s H vs Q E hr h => ?_)
  · obtain ⟨a, ns, rfl, _⟩ := h
    rfl
  · obtain ⟨a, ns, rfl, hS, hlen, k⟩ := h
    refine ⟨_, (pss_cons (ps_set (i := 1) sc_law.nd rfl (Or.inl rfl) (pe_call G_law_box (hr.mono (by decide)) rfl T.g__law_box T.k__law_box T.b__law_box .nil pass0 (pa_cons (pv 0) pa_nil)))
      (pss_cons (ps_set (i := 2) sc_law.nd rfl (Or.inl rfl) (pe_call G_law_take (hr.mono (by decide)) rfl T.g__law_take T.k__law_take T.b__law_take .nil pass0 (pa_cons (pv 1) (pa_cons pe_int pa_nil))))
      (pss_cons (ps_set (i := 3) sc_law.nd rfl (Or.inl rfl) (pe_call G_law_take (hr.mono (by decide)) rfl T.g__law_take T.k__law_take T.b__law_take .nil pass0 (pa_cons (pv 1) (pa_cons pe_int pa_nil))))
      (pss_cons (ps_set (i := 4) sc_law.nd rfl (Or.inl rfl) (pe_call G_law_take (hr.mono (by decide)) rfl T.g__law_take T.k__law_take T.b__law_take .nil pass0 (pa_cons (pv 1) (pa_cons pe_int pa_nil))))
      (pss_cons (ps_set (i := 5) sc_law.nd rfl (Or.inl rfl) (pe_call G_law_share (hr.mono (by decide)) rfl T.g__law_share T.k__law_share T.b__law_share .nil pass0 (pa_cons (pv 1) (pa_cons pe_int pa_nil))))
      (pss_cons (ps_set (i := 6) sc_law.nd rfl (Or.inl rfl) (ClX.pe_cmeth (pe_glob (v := .ref A.C_Poly) rfl T.g_Poly rfl) T.crd_Poly ⟨T.m_Poly_path, T.r_Poly_path, T.n_Poly_path⟩ (fnr0 GPoly_path T.b_Poly_path) (hr.mono (by decide)) pass0 (pa_cons (pv 2) (pa_cons (pv 3) pa_nil))))
      (pss_cons (ps_if (PW.pt (pw_or (pt_cmpR (op_neD hr.units) (pe_call G_law_row (hr.mono (by decide)) rfl T.g__law_row T.k__law_row T.b__law_row .nil pass0 (pa_cons (pv 6) pa_nil)) (pe_call G_law_path (hr.mono (by decide)) rfl T.g__law_path T.k__law_path T.b__law_path .nil pass0 (pa_cons (pv 2) (pa_cons (pv 3) pa_nil))) (nomark _)) (pw_or1 (pt_cmpR op_ne (pe_prop (pv 6) T.pc.cls ⟨T.m_Poly_degree, T.s_Poly_degree, T.u_Poly_degree, T.r_Poly_degree⟩ GPoly_degree (hr.mono (by decide)) T.b_Poly_degree .nil pass0 rfl) (pe_op op_add (pv 2) (pv 3)) (nomark _))))) (pss_one (ps_ret pe_bl)) pss_nil)
      (pss_cons (ps_set (i := 7) sc_law.nd rfl (Or.inl rfl) (StX.pe_callO (pv 6) T.co_Poly (fnr0 GPoly___call__ T.b_Poly___call__) (hr.mono (by decide)) pass0 (pa_cons (pv 5) pa_nil)))
      (pss_cons (ps_set (i := 8) sc_law.nd rfl (Or.inl rfl) (pe_ix ix_tup (pv 7) pe_int (fun _ _ => rfl)))
      (pss_cons (ps_set (i := 9) sc_law.nd rfl (Or.inl rfl) (pe_ix ix_tup (pv 7) pe_int (fun _ _ => rfl)))
      (pss_cons (ps_for PassesOwn.never rfl (pi_range1 (by rfl) T.z_range (pa_cons (pv 2) pa_nil)) (pg_name (i := 10) sc_law.nd rfl (Or.inl rfl)) (pss_cons (ps_set (i := 8) sc_law.nd rfl (Or.inl rfl) (pe_op op_mulW (pv 8) (pe_ix ix_tup (pv 5) pe_int (fun _ _ => rfl))))
      (pss_one (ps_set (i := 9) sc_law.nd rfl (Or.inl rfl) (pe_op op_mulW (pv 9) (pe_ix ix_tup (pv 5) pe_int (fun _ _ => rfl)))))))
      (pss_cons (ps_for PassesOwn.never rfl (pi_range1 (by rfl) T.z_range (pa_cons (pv 3) pa_nil)) (pg_name (i := 10) sc_law.nd rfl (Or.inl rfl)) (pss_cons (ps_set (i := 8) sc_law.nd rfl (Or.inl rfl) (pe_op op_mulW (pv 8) (pe_op op_sub (pe_ix ix_tup (pv 5) pe_int (fun _ _ => rfl)) (pe_ix ix_tup (pv 5) pe_int (fun _ _ => rfl)))))
      (pss_one (ps_set (i := 9) sc_law.nd rfl (Or.inl rfl) (pe_op op_mulW (pv 9) (pe_ix ix_tup (pv 5) pe_int (fun _ _ => rfl)))))))
      (pss_cons (ps_if (pt_cmpR op_ne (pv 8) (pv 9) (nomark _)) (pss_one (ps_ret pe_bl)) pss_nil)
      (pss_cons (ps_if (pt_cmpR (op_neD hr.units) (pe_call G_law_row (hr.mono (by decide)) rfl T.g__law_row T.k__law_row T.b__law_row .nil pass0 (pa_cons (ClX.pe_cmeth (pe_glob (v := .ref A.C_Poly) rfl T.g_Poly rfl) T.crd_Poly ⟨T.m_Poly_path, T.r_Poly_path, T.n_Poly_path⟩ (fnr0 GPoly_path T.b_Poly_path) (hr.mono (by decide)) pass0 (pa_cons (pe_op op_add (pv 2) pe_int) (pa_cons (pv 3) pa_nil))) pa_nil)) (pe_call G_law_path (hr.mono (by decide)) rfl T.g__law_path T.k__law_path T.b__law_path .nil pass0 (pa_cons (pe_op op_add (pv 2) pe_int) (pa_cons (pv 3) pa_nil))) (nomark _)) (pss_one (ps_ret pe_bl)) pss_nil)
      (pss_cons (ps_if (pt_cmpR (op_neD hr.units) (pe_call G_law_row (hr.mono (by decide)) rfl T.g__law_row T.k__law_row T.b__law_row .nil pass0 (pa_cons (ClX.pe_cmeth (pe_glob (v := .ref A.C_Poly) rfl T.g_Poly rfl) T.crd_Poly ⟨T.m_Poly_path, T.r_Poly_path, T.n_Poly_path⟩ (fnr0 GPoly_path T.b_Poly_path) (hr.mono (by decide)) pass0 (pa_cons (pv 2) (pa_cons (pe_op op_add (pv 3) pe_int) pa_nil))) pa_nil)) (pe_call G_law_path (hr.mono (by decide)) rfl T.g__law_path T.k__law_path T.b__law_path .nil pass0 (pa_cons (pv 2) (pa_cons (pe_op op_add (pv 3) pe_int) pa_nil))) (nomark _)) (pss_one (ps_ret pe_bl)) pss_nil)
      (pss_cons (ps_if (PW.pt (pw_or (pt_cmpR (op_neD hr.units) (pe_call G_law_row (hr.mono (by decide)) rfl T.g__law_row T.k__law_row T.b__law_row .nil pass0 (pa_cons (pe_op (op_binI T.op_pow T.opi_pow (fnr0 GPoly___pow__ T.b_Poly___pow__) (hr.mono (by decide)) pass0) (StX.pe_makeR T.mk_Poly GPoly___init__ (hr.mono (by decide)) rfl T.g_Poly pass0 (pa_cons pe_int (pa_cons (pe_un un_neg pe_int) pa_nil))) pe_int) pa_nil)) (pe_call G_law_path (hr.mono (by decide)) rfl T.g__law_path T.k__law_path T.b__law_path .nil pass0 (pa_cons pe_int (pa_cons pe_int pa_nil))) (nomark _)) (pw_or1 (pt_cmpR (op_neD hr.units) (pe_call G_law_row (hr.mono (by decide)) rfl T.g__law_row T.k__law_row T.b__law_row .nil pass0 (pa_cons (pe_op (op_binI T.op_pow T.opi_pow (fnr0 GPoly___pow__ T.b_Poly___pow__) (hr.mono (by decide)) pass0) (StX.pe_makeR T.mk_Poly GPoly___init__ (hr.mono (by decide)) rfl T.g_Poly pass0 (pa_cons pe_int (pa_cons pe_int pa_nil))) pe_int) pa_nil)) (pe_call G_law_path (hr.mono (by decide)) rfl T.g__law_path T.k__law_path T.b__law_path .nil pass0 (pa_cons pe_int (pa_cons pe_int pa_nil))) (nomark _))))) (pss_one (ps_ret pe_bl)) pss_nil)
      (pss_cons (ps_set (i := 11) sc_law.nd rfl (Or.inl rfl) (pe_call G_law_orders (hr.mono (by decide)) rfl T.g__law_orders T.k__law_orders T.b__law_orders .nil pass0 (pa_cons (pv 4) pa_nil)))
      (pss_cons (ps_set (i := 12) sc_law.nd rfl (Or.inl rfl) (pe_makeR0 T.mk_Poly GPoly___init__ (hr.mono (by decide)) rfl T.g_Poly pass0))
      (pss_cons (ps_for PassesOwn.never rfl (pi_range1 (by rfl) T.z_range (pa_cons (pe_op op_add (pv 4) pe_int) pa_nil)) (pg_name (i := 10) sc_law.nd rfl (Or.inl rfl)) (pss_one (ps_set (i := 12) sc_law.nd rfl (Or.inl rfl) (pe_op (op_bin T.op_add (fnr0 GPoly___add__ T.b_Poly___add__) (hr.mono (by decide)) pass0) (pv 12) (pe_op (op_mulR T.opr_mul (fnr0 GPoly___rmul__ T.b_Poly___rmul__) (hr.mono (by decide)) pass0) (pe_ix ix_list (pv 11) (pv 10) (fun _ _ => rfl)) (ClX.pe_cmeth (pe_glob (v := .ref A.C_Poly) rfl T.g_Poly rfl) T.crd_Poly ⟨T.m_Poly_path, T.r_Poly_path, T.n_Poly_path⟩ (fnr0 GPoly_path T.b_Poly_path) (hr.mono (by decide)) pass0 (pa_cons (pv 10) (pa_cons (pe_op op_sub (pv 4) (pv 10)) pa_nil))))))))
      (pss_one (ps_ret (pe_cmpR (op_eqD hr.units) (pe_call G_law_row (hr.mono (by decide)) rfl T.g__law_row T.k__law_row T.b__law_row .nil pass0 (pa_cons (pv 12) pa_nil)) (pe_lst (pa_cons pe_int pa_nil)) (nomark _))))))))))))))))))))))), ?_⟩
    refine qS ⟨_, rfl, a, ns, rfl, hS, hlen, fun b c H1 s1 hb hc B1 => ?_⟩
    refine qS ⟨_, rfl, b, c, _, rfl, B1, by decide, by decide, fun w0 H2 wa wb B2 e2 => ?_⟩
    refine qS ⟨_, rfl, b, c, _, rfl, B2, by decide, by decide, fun l0 H3 la lb B3 e3 => ?_⟩
    refine qS ⟨_, rfl, b, c, _, rfl, B3, by decide, by decide, fun t0 H4 ta tb B4 e4 => ?_⟩
    obtain ⟨w, rfl⟩ : ∃ w : Nat, w0 = (w : Int) := ⟨w0.toNat, by omega⟩
    obtain ⟨l, rfl⟩ : ∃ l : Nat, l0 = (l : Int) := ⟨l0.toNat, by omega⟩
    obtain ⟨t, rfl⟩ : ∃ t : Nat, t0 = (t : Int) := ⟨t0.toNat, by omega⟩
    have iw : ((w : Int)).toNat = w := by omega
    have il : ((l : Int)).toNat = l := by omega
    have it : ((t : Int)).toNat = t := by omega
    refine qS ⟨_, rfl, b, c, _, rfl, B4, by decide, by decide, fun q n d H5 hlow n0 n1 d1 hq0 B5 e5 hq => ?_⟩
    have hd : 0 < d := hlow.1
    have qT : ∀ {H'}, Same H5 H' → SqT K H' q [.int n, .int d] := fun e => SqT.of (e _ _ hq)
    have ep := er_path (K := K) (C := A.C_Poly) (E := E0) (σ := [some (.ref a), some (.ref b), some (.int (w : Int)), some (.int (l : Int)), some (.int (t : Int)), some (.ref q), none, none, none, none, none, none, none]) (H := H5) (er_var (i := 2) rfl rfl) (er_var (i := 3) rfl rfl) (by omega) (by omega) (by omega) (by omega)
    rw [iw, il] at ep
    refine q_asgR ep (fun v H6 s6 hv => ?_)
    obtain ⟨row, hrow, p, rfl, hp⟩ := hv
    have hlen2 := hrow.len
    have pT : isPt K A.C_Poly w l H6 (.ref p) := ⟨row, hrow, p, rfl, hp⟩
    have lp : ∀ {σ : L2.St} {H : Hp}, σ[2]? = some (some (.int (w : Int))) → σ[3]? = some (some (.int (l : Int))) → EvR (tCall (spLawPath K) [] E0 (tCons (tVar 2) (tCons (tVar 3) tNil))) σ H (isPtL K w l) := fun {σ H} z1 z2 => by
      have := er_lpath (K := K) (E := E0) (H := H) (er_var (σ := σ) (i := 2) z1 rfl) (er_var (i := 3) z2 rfl) (by omega) (by omega) (by omega) (by omega)
      rw [iw, il] at this
      exact this
    refine Evl.q_when (b := false) (Evl.et_or (t_no (er_nePt (er_rowPt (er_var rfl pT)) (lp rfl rfl)) rfl) fun _ => t_no (er_ne (er_degree (er_var rfl ⟨p, rfl, hp⟩)) (er_int (f := fun i j => i + j) (er_var rfl rfl) (er_var rfl rfl)) rfl) (by rw [hlen2, show (((w + l + 1 : Nat) : Int) - 1) = (w : Int) + (l : Int) by omega]; simp)) (fun z => nomatch z) (fun _ H7 e7 => ?_)
    have hp7 := hp.same e7
    obtain ⟨dx, tt, hp7a, hp7b⟩ := id hp7
    have q7 := qT (s6.trans e7)
    have hcb : ∀ k, (co row k).natAbs < 2 ^ 13 := fun k => by
      have h1 := hrow.bd k
      have h2 : 2 ^ l ≤ 2 ^ 12 := Nat.pow_le_pow_right (by decide) (by omega)
      omega
    have n6 := six n n0 (by omega)
    have d6 := six d (by omega) (by omega)
    refine qS ⟨_, rfl, p, rfl, _, rfl, .inr ⟨dx, _, hp7a⟩, p, q, row, n, d, 13, 6, rfl, hp7, q7, hd, ⟨hcb, n6, d6, by decide, by decide, by decide, by omega⟩, fun r H8 s8 hr0 hr => ?_⟩
    have bV := VS_bd (f := co row) (a := n) (d := d) (c := 13) (m := 6) hcb n6 d6 row.length
    have hpn : d ^ row.length ≠ 0 := Int.pow_ne_zero (by omega)
    have bN : (vNum row n d).natAbs < 2 ^ 200 := by
      have h1 := ratN_le (n := VS (co row) n d row.length * d) hpn
      have h2 := wide_lt bV d6
      have h3 : 2 ^ (13 + (6 + 1) * row.length + 6) ≤ 2 ^ 200 := Nat.pow_le_pow_right (by decide) (by omega)
      exact Nat.lt_of_le_of_lt h1 (Nat.lt_of_lt_of_le h2 h3)
    have bD : (vDen row n d).natAbs < 2 ^ 200 := by
      have h1 := ratD_le (n := VS (co row) n d row.length * d) hpn
      have h2 := pow_lt' d6 row.length
      have h3 : 2 ^ (6 * row.length + 1) ≤ 2 ^ 200 := Nat.pow_le_pow_right (by decide) (by omega)
      exact Nat.lt_of_le_of_lt h1 (Nat.lt_of_lt_of_le h2 h3)
    have hcross := cross_path (a := n) hrow hd
    generalize vNum row n d = N at hr bN hcross
    generalize vDen row n d = D at hr bD hcross
    have rT : SqT K H8 r [.int N, .int D] := SqT.of hr
    refine q_set (val_ixT (val_var rfl) val_c rT rfl) ?_
    refine q_set (val_ixT (val_var rfl) val_c rT rfl) ?_
    have q8 := s8.tup q7
    have big : ∀ {x y : Int} {i : Nat}, x.natAbs < 2 ^ 200 → y.natAbs < 2 ^ 6 → i ≤ 12 → (x * y ^ i).natAbs < 2 ^ 300 := fun {x y i} hx hy hi => by
      have h1 := wide_lt hx (pow_lt' hy i)
      exact Nat.lt_of_lt_of_le h1 (Nat.pow_le_pow_right (by decide) (by omega))
    have dn6 : (d - n).natAbs < 2 ^ 6 := six _ (by omega) (by omega)
    refine Evl.q_forR1 (n := (w : Int)) (Evl.ea_cons (er_ev (er_var rfl rfl)) Evl.ea_nil) (by omega) (fun i σ' H' => (∃ v10, σ' = [some (.ref a), some (.ref b), some (.int (w : Int)), some (.int (l : Int)), some (.int (t : Int)), some (.ref q), some (.ref p), some (.ref r), some (.int (D * n ^ i)), some (.int (N * d ^ i)), v10, none, none]) ∧ Same H8 H') ?_ ?_ ?_
    · exact fun H9 e9 => ⟨⟨none, by rw [Int.pow_zero, Int.pow_zero, Int.mul_one, Int.mul_one]; rfl⟩, e9⟩
    · rintro i σ' H' hi ⟨⟨v10, rfl⟩, e9⟩
      have q9 := e9.tup q8
      refine q_set (v := .int (D * n ^ i * n)) (val_opC (C := CMulW) (g := fun i j => V.int (i * j)) (val_var rfl) (val_ixT (val_var rfl) val_c q9 rfl) (wide_mul (big bD n6 (by omega)) n6 (by decide) (by decide) (by decide))) ?_
      refine s_set (v := .int (N * d ^ i * d)) (val_opC (C := CMulW) (g := fun i j => V.int (i * j)) (val_var rfl) (val_ixT (val_var rfl) val_c q9 rfl) (wide_mul (big bN d6 (by omega)) d6 (by decide) (by decide) (by decide))) ?_
      exact ⟨⟨_, by rw [Int.pow_succ, Int.pow_succ, ← Int.mul_assoc, ← Int.mul_assoc]; rfl⟩, e9⟩
    rintro σ' H9 ⟨⟨v10, rfl⟩, e9⟩
    rw [iw]
    have big2 : ∀ {x y : Int} {i : Nat}, x.natAbs < 2 ^ 300 → y.natAbs < 2 ^ 6 → i ≤ 12 → (x * y ^ i).natAbs < 2 ^ 400 := fun {x y i} hx hy hi => by
      have h1 := wide_lt hx (pow_lt' hy i)
      exact Nat.lt_of_lt_of_le h1 (Nat.pow_le_pow_right (by decide) (by omega))
    refine Evl.q_forR1 (n := (l : Int)) (Evl.ea_cons (er_ev (er_var rfl rfl)) Evl.ea_nil) (by omega) (fun i σ' H' => (∃ v10, σ' = [some (.ref a), some (.ref b), some (.int (w : Int)), some (.int (l : Int)), some (.int (t : Int)), some (.ref q), some (.ref p), some (.ref r), some (.int (D * n ^ w * (d - n) ^ i)), some (.int (N * d ^ w * d ^ i)), v10, none, none]) ∧ Same H8 H') ?_ ?_ ?_
    · exact fun H10 e10 => ⟨⟨v10, by rw [Int.pow_zero, Int.pow_zero, Int.mul_one, Int.mul_one]⟩, e9.trans e10⟩
    · rintro i σ' H' hi ⟨⟨v10, rfl⟩, e10⟩
      have q10 := e10.tup q8
      refine q_set (v := .int (D * n ^ w * (d - n) ^ i * (d - n))) (val_opC (C := CMulW) (g := fun i j => V.int (i * j)) (val_var rfl) (val_op0 (g := fun i j => V.int (i - j)) (val_ixT (val_var rfl) val_c q10 rfl) (val_ixT (val_var rfl) val_c q10 rfl)) (wide_mul (big2 (big bD n6 (by omega)) dn6 (by omega)) dn6 (by decide) (by decide) (by decide))) ?_
      refine s_set (v := .int (N * d ^ w * d ^ i * d)) (val_opC (C := CMulW) (g := fun i j => V.int (i * j)) (val_var rfl) (val_ixT (val_var rfl) val_c q10 rfl) (wide_mul (big2 (big bN d6 (by omega)) d6 (by omega)) d6 (by decide) (by decide) (by decide))) ?_
      exact ⟨⟨_, by rw [Int.pow_succ (d - n), Int.pow_succ d, ← Int.mul_assoc, ← Int.mul_assoc]; rfl⟩, e10⟩
    rintro σ' H10 ⟨⟨v10, rfl⟩, e10⟩
    rw [il]
    refine Evl.q_when (b := false) (t_no (er_ne (er_var rfl rfl) (er_var rfl rfl) rfl) (by rw [hcross]; simp)) (fun z => nomatch z) (fun _ H11 e11 => ?_)
    have i14 : ∀ {σ : L2.St} {H : Hp} {i z : Nat}, σ[i]? = some (some (.int (z : Int))) → EvR (tOp (rI0 fun i j => .int (i + j)) (tVar i) (tC (.int 14))) σ H (isV (.int ((z + 14 : Nat) : Int))) := fun {σ H i z} z1 => by
      have e := er_int (H := H) (f := fun i j => i + j) (er_var z1 rfl) (er_c (v := .int 14))
      rw [show ((z + 14 : Nat) : Int) = (z : Int) + 14 by omega]
      exact e
    have P1 : ∀ {σ : L2.St} {H : Hp} {tx ty : TE} {x y : Nat}, EvR tx σ H (isV (.int (x : Int))) → EvR ty σ H (isV (.int (y : Int))) → x ≤ 1000 → y ≤ 1000 → EvR (tOp (rNeD K) (tCall (spRow K A.C_Poly) [] E0 (tCons (ClX.tCMeth A.C_Poly (spPathP K A.C_Poly) E0 (tC (.ref A.C_Poly)) (tCons tx (tCons ty tNil))) tNil)) (tCall (spLawPath K) [] E0 (tCons tx (tCons ty tNil)))) σ H (isV (.bl false)) := fun {σ H tx ty x y} hx hy x1 y1 => er_nePt (er_rowPt (er_path hx hy (by omega) (by omega) (by omega) (by omega))) (er_lpath hx hy (by omega) (by omega) (by omega) (by omega))
    refine Evl.q_when (b := false) (t_no (P1 (x := w + 14) (y := l) (i14 rfl) (er_var rfl rfl) (by omega) (by omega)) rfl) (fun z => nomatch z) (fun _ H12 e12 => ?_)
    refine Evl.q_when (b := false) (t_no (P1 (x := w) (y := l + 14) (er_var rfl rfl) (i14 rfl) (by omega) (by omega)) rfl) (fun z => nomatch z) (fun _ H13 e13 => ?_)
    have mk2 : ∀ {σ : L2.St} {H : Hp} {ta : TA} {x y : Int}, (∀ H1, Same H H1 → ValA ta σ H1 (iVs [x, y])) → trimI [x, y] = [x, y] → EvR (StX.tMakeR A.C_Poly (starSp 1 (spInit K A.C_Poly)) E0 ta) σ H (isP K A.C_Poly [x, y]) := fun h e => by
      have := er_makeR (K := K) (C := A.C_Poly) (E := E0) h (by show 2 ≤ 2 ^ 24; decide)
      rw [e] at this
      exact this
    refine Evl.q_when (b := false) (Evl.et_or (t_no (er_nePt (er_rowPt (pw_pt (l := 20) (er_pow (m := 2) (n := 20) (mk2 (x := 1) (y := -1) (fun _ _ => va_cons val_c (va_cons (val_un (g := fun i => V.int (-i)) val_c) va_nil)) (by decide)) er_c (by decide) (by decide) (by decide) (by decide) (by decide) nbY (by decide)))) (er_lpath (n := 0) (m := 20) er_c er_c (by decide) (by decide) (by decide) (by decide))) rfl) fun _ => t_no (er_nePt (er_rowPt (px_pt (w := 40) (er_pow (m := 1) (n := 40) (mk2 (x := 0) (y := 1) (fun _ _ => va_cons val_c (va_cons val_c va_nil)) (by decide)) er_c (by decide) (by decide) (by decide) (by decide) (by decide) nbX (by decide)))) (er_lpath (n := 40) (m := 0) er_c er_c (by decide) (by decide) (by decide) (by decide))) rfl) (fun z => nomatch z) (fun _ H14 e14 => ?_)
    refine qS ⟨_, rfl, (t : Int), rfl, by omega, by omega, fun g H15 s15 hg => ?_⟩
    rw [it] at hg
    refine q_asgR (R := isP K A.C_Poly []) (er_makeR (row := []) (fun _ _ => va_nil) (by decide)) (fun v H16 s16 hv => ?_)
    obtain ⟨p0, rfl, hp0⟩ := hv
    refine Evl.q_forR1 (n := (t : Int) + 1) (Evl.ea_cons (er_ev (er_int (f := fun i j => i + j) (er_var rfl rfl) er_c)) Evl.ea_nil) (by omega) (fun i σ' H' => (∃ v10 pt TT, σ' = [some (.ref a), some (.ref b), some (.int (w : Int)), some (.int (l : Int)), some (.int (t : Int)), some (.ref q), some (.ref p), some (.ref r), some (.int (D * n ^ w * (d - n) ^ l)), some (.int (N * d ^ w * d ^ l)), v10, some (.ref g), some (.ref pt)] ∧ PolyAt K A.C_Poly H' pt TT ∧ trimI TT = TT ∧ ∀ j, co TT j = S (fun k => bn t k * Pc k (t - k) j) i) ∧ Same H16 H') ?_ ?_ ?_
    · exact fun H17 e17 => ⟨⟨v10, p0, [], rfl, hp0.same e17, rfl, fun j => rfl⟩, e17⟩
    · rintro i σ' H' hi ⟨⟨v10, pt, TT, rfl, hT, tT, cT⟩, e17⟩
      have it2 : i ≤ t := by omega
      have gi : SqL K H' g (iVs (bnR t)) := Same.seq (s16.trans e17) hg
      have lT : TT.length ≤ t + 1 := len_le tT fun k hk => by rw [cT]; exact S_zero fun x hx => by rw [Pc_far (by omega), Int.mul_zero]
      have ix := er_ixL (K := K) (H := H') (σ := [some (.ref a), some (.ref b), some (.int (w : Int)), some (.int (l : Int)), some (.int (t : Int)), some (.ref q), some (.ref p), some (.ref r), some (.int (D * n ^ w * (d - n) ^ l)), some (.int (N * d ^ w * d ^ l)), some (.int (i : Int)), some (.ref g), some (.ref pt)]) (er_var (i := 11) rfl ⟨g, rfl, gi⟩) (er_var (i := 10) (v := .int (i : Int)) rfl rfl) (by omega) (by rw [bnR_len]; omega)
      rw [show ((i : Int)).toNat = i by omega, bnR_at it2] at ix
      have ep := er_path (K := K) (C := A.C_Poly) (E := E0) (H := H') (σ := [some (.ref a), some (.ref b), some (.int (w : Int)), some (.int (l : Int)), some (.int (t : Int)), some (.ref q), some (.ref p), some (.ref r), some (.int (D * n ^ w * (d - n) ^ l)), some (.int (N * d ^ w * d ^ l)), some (.int (i : Int)), some (.ref g), some (.ref pt)]) (er_var (i := 10) (v := .int (i : Int)) rfl rfl) (er_int (f := fun i j => i - j) (er_var (i := 4) (v := .int (t : Int)) rfl rfl) (er_var (i := 10) (v := .int (i : Int)) rfl rfl)) (by omega) (by omega) (by omega) (by omega)
      rw [show ((i : Int)).toNat = i by omega, show ((t : Int) - (i : Int)).toNat = t - i by omega] at ep
      have bb := bn_bd t i
      have b12 : (2 : Int) ^ t ≤ 2 ^ 12 := by
        have h : (2 : Nat) ^ t ≤ 2 ^ 12 := Nat.pow_le_pow_right (by decide) (by omega)
        exact_mod_cast h
      have sb : Sm [bn t i] := sm_of (m := 4096) (b := 13) (bd_of fun z hz => by rw [List.mem_singleton.mp hz]; omega) (by decide) (by decide)
      refine s_asgR (er_addMP (er_var rfl ⟨pt, rfl, hT⟩) (er_rmulPt ix ep (by omega) (by omega) sb) (by omega) (by omega) (by omega)) (fun v H2 s2 ⟨ys, hy, ty, hv⟩ => ?_)
      obtain ⟨p2, rfl, hp2⟩ := hv
      exact ⟨⟨_, p2, ys, rfl, hp2, ty, fun j => by rw [hy, cT]; rfl⟩, e17.trans s2⟩
    rintro σ' H17 ⟨⟨v10, pt, TT, rfl, hT, tT, cT⟩, e17⟩
    have e1 : TT = [1] := by
      rw [← tT, show [1] = trimI [1] from rfl]
      exact trim_ext fun j => by rw [cT, show ((t : Int) + 1).toNat = t + 1 by omega, binom, co_one]
    exact Evl.s_ret (Evl.ev_is (er_ev (er_eqL (er_row (er_var rfl ⟨pt, rfl, hT⟩) tT) (er_lst (xs := [1]) (fun _ _ => va_cons val_c va_nil) (by show 1 ≤ 2 ^ 24; decide)))) (by rw [e1]; simp)) fun _ _ => k _
end
theorem all_mk {l : PySem.W.OpenLaw} {w : World} {K : PySem.W.Frag} {h : Heap} {mg : Str → Option Value} {fa : Addr} (X : K.In h) (G : h.Ns mainGlobals mg) (hfa : mg "law" = some (.ref fa))
    {C_StopError : Addr} (aC_StopError : PySem.W.nsIn K mainGlobals "StopError" = some (some (.ref C_StopError)))
    {C_InvalidRatio : Addr} (aC_InvalidRatio : PySem.W.nsIn K mainGlobals "InvalidRatio" = some (some (.ref C_InvalidRatio)))
    {C_NotExact : Addr} (aC_NotExact : PySem.W.nsIn K mainGlobals "NotExact" = some (some (.ref C_NotExact)))
    {C_Poly : Addr} (aC_Poly : PySem.W.nsIn K mainGlobals "Poly" = some (some (.ref C_Poly)))
    {f0 : Addr} {od0 an0 : Option Addr} {sl0 : Array (Option Value)} {oc0 kV0 dc0 pm0 cd0 ct0 : Value}
    (a0 : PySem.W.nsIn K mainGlobals "is_integer" = some (some (.ref f0)))
    (l0 : K.lookup f0 = some ⟨oc0, od0, .func (PySem.W.fnOf "is_integer" "is_integer" (defArgs s_is_integer) (defBody s_is_integer) (defScope s_is_integer) .none kV0 dc0 pm0 an0 cd0 ct0), sl0⟩) (c0 : PySem.W.codeIn K cd0 "is_integer" = true) (k0 : PySem.W.keepIn K (.ref f0) = true)
    {f1 : Addr} {od1 an1 : Option Addr} {sl1 : Array (Option Value)} {oc1 kV1 dc1 pm1 cd1 ct1 : Value}
    (a1 : PySem.W.nsIn K mainGlobals "trimmed" = some (some (.ref f1)))
    (l1 : K.lookup f1 = some ⟨oc1, od1, .func (PySem.W.fnOf "trimmed" "trimmed" (defArgs s_trimmed) (defBody s_trimmed) (defScope s_trimmed) .none kV1 dc1 pm1 an1 cd1 ct1), sl1⟩) (c1 : PySem.W.codeIn K cd1 "trimmed" = true) (k1 : PySem.W.keepIn K (.ref f1) = true)
    {f2 : Addr} {od2 an2 : Option Addr} {sl2 : Array (Option Value)} {oc2 kV2 dc2 pm2 cd2 ct2 : Value}
    (a2 : PySem.W.nsIn K mainGlobals "plus" = some (some (.ref f2)))
    (l2 : K.lookup f2 = some ⟨oc2, od2, .func (PySem.W.fnOf "plus" "plus" (defArgs s_plus) (defBody s_plus) (defScope s_plus) .none kV2 dc2 pm2 an2 cd2 ct2), sl2⟩) (c2 : PySem.W.codeIn K cd2 "plus" = true) (k2 : PySem.W.keepIn K (.ref f2) = true)
    {f3 : Addr} {od3 an3 : Option Addr} {sl3 : Array (Option Value)} {oc3 kV3 dc3 pm3 cd3 ct3 : Value}
    (a3 : PySem.W.nsIn K mainGlobals "negated" = some (some (.ref f3)))
    (l3 : K.lookup f3 = some ⟨oc3, od3, .func (PySem.W.fnOf "negated" "negated" (defArgs s_negated) (defBody s_negated) (defScope s_negated) .none kV3 dc3 pm3 an3 cd3 ct3), sl3⟩) (c3 : PySem.W.codeIn K cd3 "negated" = true) (k3 : PySem.W.keepIn K (.ref f3) = true)
    {f4 : Addr} {od4 an4 : Option Addr} {sl4 : Array (Option Value)} {oc4 kV4 dc4 pm4 cd4 ct4 : Value}
    (a4 : PySem.W.nsIn K mainGlobals "times" = some (some (.ref f4)))
    (l4 : K.lookup f4 = some ⟨oc4, od4, .func (PySem.W.fnOf "times" "times" (defArgs s_times) (defBody s_times) (defScope s_times) .none kV4 dc4 pm4 an4 cd4 ct4), sl4⟩) (c4 : PySem.W.codeIn K cd4 "times" = true) (k4 : PySem.W.keepIn K (.ref f4) = true)
    {f5 : Addr} {od5 an5 : Option Addr} {sl5 : Array (Option Value)} {oc5 kV5 dc5 pm5 cd5 ct5 : Value}
    (a5 : PySem.W.nsIn K mainGlobals "power" = some (some (.ref f5)))
    (l5 : K.lookup f5 = some ⟨oc5, od5, .func (PySem.W.fnOf "power" "power" (defArgs s_power) (defBody s_power) (defScope s_power) .none kV5 dc5 pm5 an5 cd5 ct5), sl5⟩) (c5 : PySem.W.codeIn K cd5 "power" = true) (k5 : PySem.W.keepIn K (.ref f5) = true)
    {f6 : Addr} {od6 an6 : Option Addr} {sl6 : Array (Option Value)} {oc6 kV6 dc6 pm6 cd6 ct6 : Value}
    (a6 : PySem.W.nsIn K mainGlobals "path_row" = some (some (.ref f6)))
    (l6 : K.lookup f6 = some ⟨oc6, od6, .func (PySem.W.fnOf "path_row" "path_row" (defArgs s_path_row) (defBody s_path_row) (defScope s_path_row) .none kV6 dc6 pm6 an6 cd6 ct6), sl6⟩) (c6 : PySem.W.codeIn K cd6 "path_row" = true) (k6 : PySem.W.keepIn K (.ref f6) = true)
    {f7 : Addr} {od7 an7 : Option Addr} {sl7 : Array (Option Value)} {oc7 kV7 dc7 pm7 cd7 ct7 : Value}
    (a7 : PySem.W.nsIn K mainGlobals "value_at" = some (some (.ref f7)))
    (l7 : K.lookup f7 = some ⟨oc7, od7, .func (PySem.W.fnOf "value_at" "value_at" (defArgs s_value_at) (defBody s_value_at) (defScope s_value_at) .none kV7 dc7 pm7 an7 cd7 ct7), sl7⟩) (c7 : PySem.W.codeIn K cd7 "value_at" = true) (k7 : PySem.W.keepIn K (.ref f7) = true)
    {f8 : Addr} {od8 an8 : Option Addr} {sl8 : Array (Option Value)} {oc8 kV8 dc8 pm8 cd8 ct8 : Value}
    (a8 : PySem.W.nsIn K mainGlobals "value_ratio" = some (some (.ref f8)))
    (l8 : K.lookup f8 = some ⟨oc8, od8, .func (PySem.W.fnOf "value_ratio" "value_ratio" (defArgs s_value_ratio) (defBody s_value_ratio) (defScope s_value_ratio) .none kV8 dc8 pm8 an8 cd8 ct8), sl8⟩) (c8 : PySem.W.codeIn K cd8 "value_ratio" = true) (k8 : PySem.W.keepIn K (.ref f8) = true)
    {f9 : Addr} {od9 an9 : Option Addr} {sl9 : Array (Option Value)} {oc9 kV9 dc9 pm9 cd9 ct9 : Value}
    (a9 : PySem.W.nsIn K mainGlobals "lowest_terms" = some (some (.ref f9)))
    (l9 : K.lookup f9 = some ⟨oc9, od9, .func (PySem.W.fnOf "lowest_terms" "lowest_terms" (defArgs s_lowest_terms) (defBody s_lowest_terms) (defScope s_lowest_terms) .none kV9 dc9 pm9 an9 cd9 ct9), sl9⟩) (c9 : PySem.W.codeIn K cd9 "lowest_terms" = true) (k9 : PySem.W.keepIn K (.ref f9) = true)
    {f10 : Addr} {od10 an10 : Option Addr} {sl10 : Array (Option Value)} {oc10 kV10 dc10 pm10 cd10 ct10 : Value}
    (a10 : PySem.W.nsIn K mainGlobals "raised" = some (some (.ref f10)))
    (l10 : K.lookup f10 = some ⟨oc10, od10, .func (PySem.W.fnOf "raised" "raised" (defArgs s_raised) (defBody s_raised) (defScope s_raised) .none kV10 dc10 pm10 an10 cd10 ct10), sl10⟩) (c10 : PySem.W.codeIn K cd10 "raised" = true) (k10 : PySem.W.keepIn K (.ref f10) = true)
    {f11 : Addr} {od11 an11 : Option Addr} {sl11 : Array (Option Value)} {oc11 kV11 dc11 pm11 cd11 ct11 : Value}
    (a11 : PySem.W.nsIn K mainGlobals "_coef" = some (some (.ref f11)))
    (l11 : K.lookup f11 = some ⟨oc11, od11, .func (PySem.W.fnOf "_coef" "_coef" (defArgs s__coef) (defBody s__coef) (defScope s__coef) .none kV11 dc11 pm11 an11 cd11 ct11), sl11⟩) (c11 : PySem.W.codeIn K cd11 "_coef" = true) (k11 : PySem.W.keepIn K (.ref f11) = true)
    {f12 : Addr} {od12 an12 : Option Addr} {sl12 : Array (Option Value)} {oc12 kV12 dc12 pm12 cd12 ct12 : Value}
    (a12 : PySem.W.nsIn K mainGlobals "_cross_sum" = some (some (.ref f12)))
    (l12 : K.lookup f12 = some ⟨oc12, od12, .func (PySem.W.fnOf "_cross_sum" "_cross_sum" (defArgs s__cross_sum) (defBody s__cross_sum) (defScope s__cross_sum) .none kV12 dc12 pm12 an12 cd12 ct12), sl12⟩) (c12 : PySem.W.codeIn K cd12 "_cross_sum" = true) (k12 : PySem.W.keepIn K (.ref f12) = true)
    {f13 : Addr} {od13 an13 : Option Addr} {sl13 : Array (Option Value)} {oc13 kV13 dc13 pm13 cd13 ct13 : Value}
    (a13 : PySem.W.findIn K (.ref C_Poly) "__init__" = some (some (.ref f13))) (i13 : PySem.W.isFn K (.ref f13) = true) (t13 : PySem.W.typeIn K (.ref f13) = some (.type "function"))
    (l13 : K.lookup f13 = some ⟨oc13, od13, .func (PySem.W.fnOf "__init__" "Poly.__init__" (defArgs s_Poly___init__) (defBody s_Poly___init__) (defScope s_Poly___init__) .none kV13 dc13 pm13 an13 cd13 ct13), sl13⟩) (c13 : PySem.W.codeIn K cd13 "Poly.__init__" = true) (k13 : PySem.W.keepIn K (.ref f13) = true)
    {f14 : Addr} {od14 an14 : Option Addr} {sl14 : Array (Option Value)} {oc14 kV14 dc14 pm14 cd14 ct14 : Value}
    {p14 : Addr} {w14 : List Value} (m_14 : PySem.W.findCls K (.ref C_Poly) (.type "type") "of" = some (.get (.builtin "classmethod.__get__") (.ref p14) .none (.ref C_Poly))) (r_14 : PySem.W.recIn K p14 "classmethod" = some (.ref f14 :: w14)) (n_14 : PySem.W.fnIn K f14 = true)
    (l14 : K.lookup f14 = some ⟨oc14, od14, .func (PySem.W.fnOf "of" "Poly.of" (defArgs s_Poly_of) (defBody s_Poly_of) (defScope s_Poly_of) .none kV14 dc14 pm14 an14 cd14 ct14), sl14⟩) (c14 : PySem.W.codeIn K cd14 "Poly.of" = true) (k14 : PySem.W.keepIn K (.ref f14) = true)
    {f15 : Addr} {od15 an15 : Option Addr} {sl15 : Array (Option Value)} {oc15 kV15 dc15 pm15 cd15 ct15 : Value}
    {p15 : Addr} {w15 : List Value} (m_15 : PySem.W.findCls K (.ref C_Poly) (.type "type") "path" = some (.get (.builtin "classmethod.__get__") (.ref p15) .none (.ref C_Poly))) (r_15 : PySem.W.recIn K p15 "classmethod" = some (.ref f15 :: w15)) (n_15 : PySem.W.fnIn K f15 = true)
    (l15 : K.lookup f15 = some ⟨oc15, od15, .func (PySem.W.fnOf "path" "Poly.path" (defArgs s_Poly_path) (defBody s_Poly_path) (defScope s_Poly_path) .none kV15 dc15 pm15 an15 cd15 ct15), sl15⟩) (c15 : PySem.W.codeIn K cd15 "Poly.path" = true) (k15 : PySem.W.keepIn K (.ref f15) = true)
    {f16 : Addr} {od16 an16 : Option Addr} {sl16 : Array (Option Value)} {oc16 kV16 dc16 pm16 cd16 ct16 : Value}
    {p16 : Addr} {w16 : List Value} (m_16 : PySem.W.findIn K (.ref C_Poly) "degree" = some (some (.ref p16))) (s_16 : PySem.W.specialIn K (.ref p16) "__get__" = some (some (.builtin "property.__get__"))) (u_16 : PySem.W.takesIn K (.ref p16) = some true) (r_16 : PySem.W.recIn K p16 "property" = some (.ref f16 :: w16))
    (l16 : K.lookup f16 = some ⟨oc16, od16, .func (PySem.W.fnOf "degree" "Poly.degree" (defArgs s_Poly_degree) (defBody s_Poly_degree) (defScope s_Poly_degree) .none kV16 dc16 pm16 an16 cd16 ct16), sl16⟩) (c16 : PySem.W.codeIn K cd16 "Poly.degree" = true) (k16 : PySem.W.keepIn K (.ref f16) = true)
    {f17 : Addr} {od17 an17 : Option Addr} {sl17 : Array (Option Value)} {oc17 kV17 dc17 pm17 cd17 ct17 : Value}
    (a17 : PySem.W.findIn K (.ref C_Poly) "__call__" = some (some (.ref f17))) (i17 : PySem.W.isFn K (.ref f17) = true) (t17 : PySem.W.typeIn K (.ref f17) = some (.type "function"))
    (l17 : K.lookup f17 = some ⟨oc17, od17, .func (PySem.W.fnOf "__call__" "Poly.__call__" (defArgs s_Poly___call__) (defBody s_Poly___call__) (defScope s_Poly___call__) .none kV17 dc17 pm17 an17 cd17 ct17), sl17⟩) (c17 : PySem.W.codeIn K cd17 "Poly.__call__" = true) (k17 : PySem.W.keepIn K (.ref f17) = true)
    {f18 : Addr} {od18 an18 : Option Addr} {sl18 : Array (Option Value)} {oc18 kV18 dc18 pm18 cd18 ct18 : Value}
    (a18 : PySem.W.findIn K (.ref C_Poly) "__len__" = some (some (.ref f18))) (i18 : PySem.W.isFn K (.ref f18) = true) (t18 : PySem.W.typeIn K (.ref f18) = some (.type "function"))
    (l18 : K.lookup f18 = some ⟨oc18, od18, .func (PySem.W.fnOf "__len__" "Poly.__len__" (defArgs s_Poly___len__) (defBody s_Poly___len__) (defScope s_Poly___len__) .none kV18 dc18 pm18 an18 cd18 ct18), sl18⟩) (c18 : PySem.W.codeIn K cd18 "Poly.__len__" = true) (k18 : PySem.W.keepIn K (.ref f18) = true)
    {f19 : Addr} {od19 an19 : Option Addr} {sl19 : Array (Option Value)} {oc19 kV19 dc19 pm19 cd19 ct19 : Value}
    (a19 : PySem.W.findIn K (.ref C_Poly) "__repr__" = some (some (.ref f19))) (i19 : PySem.W.isFn K (.ref f19) = true) (t19 : PySem.W.typeIn K (.ref f19) = some (.type "function"))
    (l19 : K.lookup f19 = some ⟨oc19, od19, .func (PySem.W.fnOf "__repr__" "Poly.__repr__" (defArgs s_Poly___repr__) (defBody s_Poly___repr__) (defScope s_Poly___repr__) .none kV19 dc19 pm19 an19 cd19 ct19), sl19⟩) (c19 : PySem.W.codeIn K cd19 "Poly.__repr__" = true) (k19 : PySem.W.keepIn K (.ref f19) = true)
    {f20 : Addr} {od20 an20 : Option Addr} {sl20 : Array (Option Value)} {oc20 kV20 dc20 pm20 cd20 ct20 : Value}
    (a20 : PySem.W.findIn K (.ref C_Poly) "__getitem__" = some (some (.ref f20))) (i20 : PySem.W.isFn K (.ref f20) = true) (t20 : PySem.W.typeIn K (.ref f20) = some (.type "function"))
    (l20 : K.lookup f20 = some ⟨oc20, od20, .func (PySem.W.fnOf "__getitem__" "Poly.__getitem__" (defArgs s_Poly___getitem__) (defBody s_Poly___getitem__) (defScope s_Poly___getitem__) .none kV20 dc20 pm20 an20 cd20 ct20), sl20⟩) (c20 : PySem.W.codeIn K cd20 "Poly.__getitem__" = true) (k20 : PySem.W.keepIn K (.ref f20) = true)
    {f21 : Addr} {od21 an21 : Option Addr} {sl21 : Array (Option Value)} {oc21 kV21 dc21 pm21 cd21 ct21 : Value}
    (a21 : PySem.W.findIn K (.ref C_Poly) "__add__" = some (some (.ref f21))) (i21 : PySem.W.isFn K (.ref f21) = true) (t21 : PySem.W.typeIn K (.ref f21) = some (.type "function"))
    (l21 : K.lookup f21 = some ⟨oc21, od21, .func (PySem.W.fnOf "__add__" "Poly.__add__" (defArgs s_Poly___add__) (defBody s_Poly___add__) (defScope s_Poly___add__) .none kV21 dc21 pm21 an21 cd21 ct21), sl21⟩) (c21 : PySem.W.codeIn K cd21 "Poly.__add__" = true) (k21 : PySem.W.keepIn K (.ref f21) = true)
    {f22 : Addr} {od22 an22 : Option Addr} {sl22 : Array (Option Value)} {oc22 kV22 dc22 pm22 cd22 ct22 : Value}
    (a22 : PySem.W.findIn K (.ref C_Poly) "__radd__" = some (some (.ref f22))) (i22 : PySem.W.isFn K (.ref f22) = true) (t22 : PySem.W.typeIn K (.ref f22) = some (.type "function"))
    (l22 : K.lookup f22 = some ⟨oc22, od22, .func (PySem.W.fnOf "__radd__" "Poly.__radd__" (defArgs s_Poly___radd__) (defBody s_Poly___radd__) (defScope s_Poly___radd__) .none kV22 dc22 pm22 an22 cd22 ct22), sl22⟩) (c22 : PySem.W.codeIn K cd22 "Poly.__radd__" = true) (k22 : PySem.W.keepIn K (.ref f22) = true)
    {f23 : Addr} {od23 an23 : Option Addr} {sl23 : Array (Option Value)} {oc23 kV23 dc23 pm23 cd23 ct23 : Value}
    (a23 : PySem.W.findIn K (.ref C_Poly) "__neg__" = some (some (.ref f23))) (i23 : PySem.W.isFn K (.ref f23) = true) (t23 : PySem.W.typeIn K (.ref f23) = some (.type "function"))
    (l23 : K.lookup f23 = some ⟨oc23, od23, .func (PySem.W.fnOf "__neg__" "Poly.__neg__" (defArgs s_Poly___neg__) (defBody s_Poly___neg__) (defScope s_Poly___neg__) .none kV23 dc23 pm23 an23 cd23 ct23), sl23⟩) (c23 : PySem.W.codeIn K cd23 "Poly.__neg__" = true) (k23 : PySem.W.keepIn K (.ref f23) = true)
    {f24 : Addr} {od24 an24 : Option Addr} {sl24 : Array (Option Value)} {oc24 kV24 dc24 pm24 cd24 ct24 : Value}
    (a24 : PySem.W.findIn K (.ref C_Poly) "__sub__" = some (some (.ref f24))) (i24 : PySem.W.isFn K (.ref f24) = true) (t24 : PySem.W.typeIn K (.ref f24) = some (.type "function"))
    (l24 : K.lookup f24 = some ⟨oc24, od24, .func (PySem.W.fnOf "__sub__" "Poly.__sub__" (defArgs s_Poly___sub__) (defBody s_Poly___sub__) (defScope s_Poly___sub__) .none kV24 dc24 pm24 an24 cd24 ct24), sl24⟩) (c24 : PySem.W.codeIn K cd24 "Poly.__sub__" = true) (k24 : PySem.W.keepIn K (.ref f24) = true)
    {f25 : Addr} {od25 an25 : Option Addr} {sl25 : Array (Option Value)} {oc25 kV25 dc25 pm25 cd25 ct25 : Value}
    (a25 : PySem.W.findIn K (.ref C_Poly) "__rsub__" = some (some (.ref f25))) (i25 : PySem.W.isFn K (.ref f25) = true) (t25 : PySem.W.typeIn K (.ref f25) = some (.type "function"))
    (l25 : K.lookup f25 = some ⟨oc25, od25, .func (PySem.W.fnOf "__rsub__" "Poly.__rsub__" (defArgs s_Poly___rsub__) (defBody s_Poly___rsub__) (defScope s_Poly___rsub__) .none kV25 dc25 pm25 an25 cd25 ct25), sl25⟩) (c25 : PySem.W.codeIn K cd25 "Poly.__rsub__" = true) (k25 : PySem.W.keepIn K (.ref f25) = true)
    {f26 : Addr} {od26 an26 : Option Addr} {sl26 : Array (Option Value)} {oc26 kV26 dc26 pm26 cd26 ct26 : Value}
    (a26 : PySem.W.findIn K (.ref C_Poly) "__mul__" = some (some (.ref f26))) (i26 : PySem.W.isFn K (.ref f26) = true) (t26 : PySem.W.typeIn K (.ref f26) = some (.type "function"))
    (l26 : K.lookup f26 = some ⟨oc26, od26, .func (PySem.W.fnOf "__mul__" "Poly.__mul__" (defArgs s_Poly___mul__) (defBody s_Poly___mul__) (defScope s_Poly___mul__) .none kV26 dc26 pm26 an26 cd26 ct26), sl26⟩) (c26 : PySem.W.codeIn K cd26 "Poly.__mul__" = true) (k26 : PySem.W.keepIn K (.ref f26) = true)
    {f27 : Addr} {od27 an27 : Option Addr} {sl27 : Array (Option Value)} {oc27 kV27 dc27 pm27 cd27 ct27 : Value}
    (a27 : PySem.W.findIn K (.ref C_Poly) "__rmul__" = some (some (.ref f27))) (i27 : PySem.W.isFn K (.ref f27) = true) (t27 : PySem.W.typeIn K (.ref f27) = some (.type "function"))
    (l27 : K.lookup f27 = some ⟨oc27, od27, .func (PySem.W.fnOf "__rmul__" "Poly.__rmul__" (defArgs s_Poly___rmul__) (defBody s_Poly___rmul__) (defScope s_Poly___rmul__) .none kV27 dc27 pm27 an27 cd27 ct27), sl27⟩) (c27 : PySem.W.codeIn K cd27 "Poly.__rmul__" = true) (k27 : PySem.W.keepIn K (.ref f27) = true)
    {f28 : Addr} {od28 an28 : Option Addr} {sl28 : Array (Option Value)} {oc28 kV28 dc28 pm28 cd28 ct28 : Value}
    (a28 : PySem.W.findIn K (.ref C_Poly) "__pow__" = some (some (.ref f28))) (i28 : PySem.W.isFn K (.ref f28) = true) (t28 : PySem.W.typeIn K (.ref f28) = some (.type "function"))
    (l28 : K.lookup f28 = some ⟨oc28, od28, .func (PySem.W.fnOf "__pow__" "Poly.__pow__" (defArgs s_Poly___pow__) (defBody s_Poly___pow__) (defScope s_Poly___pow__) .none kV28 dc28 pm28 an28 cd28 ct28), sl28⟩) (c28 : PySem.W.codeIn K cd28 "Poly.__pow__" = true) (k28 : PySem.W.keepIn K (.ref f28) = true)
    {f29 : Addr} {od29 an29 : Option Addr} {sl29 : Array (Option Value)} {oc29 kV29 dc29 pm29 cd29 ct29 : Value}
    (a29 : PySem.W.findIn K (.ref C_Poly) "__eq__" = some (some (.ref f29))) (i29 : PySem.W.isFn K (.ref f29) = true) (t29 : PySem.W.typeIn K (.ref f29) = some (.type "function"))
    (l29 : K.lookup f29 = some ⟨oc29, od29, .func (PySem.W.fnOf "__eq__" "Poly.__eq__" (defArgs s_Poly___eq__) (defBody s_Poly___eq__) (defScope s_Poly___eq__) .none kV29 dc29 pm29 an29 cd29 ct29), sl29⟩) (c29 : PySem.W.codeIn K cd29 "Poly.__eq__" = true) (k29 : PySem.W.keepIn K (.ref f29) = true)
    {f30 : Addr} {od30 an30 : Option Addr} {sl30 : Array (Option Value)} {oc30 kV30 dc30 pm30 cd30 ct30 : Value}
    (a30 : PySem.W.nsIn K mainGlobals "_row_of" = some (some (.ref f30)))
    (l30 : K.lookup f30 = some ⟨oc30, od30, .func (PySem.W.fnOf "_row_of" "_row_of" (defArgs s__row_of) (defBody s__row_of) (defScope s__row_of) .none kV30 dc30 pm30 an30 cd30 ct30), sl30⟩) (c30 : PySem.W.codeIn K cd30 "_row_of" = true) (k30 : PySem.W.keepIn K (.ref f30) = true)
    {f31 : Addr} {od31 an31 : Option Addr} {sl31 : Array (Option Value)} {oc31 kV31 dc31 pm31 cd31 ct31 : Value}
    (a31 : PySem.W.nsIn K mainGlobals "_law_box" = some (some (.ref f31)))
    (l31 : K.lookup f31 = some ⟨oc31, od31, .func (PySem.W.fnOf "_law_box" "_law_box" (defArgs s__law_box) (defBody s__law_box) (defScope s__law_box) .none kV31 dc31 pm31 an31 cd31 ct31), sl31⟩) (c31 : PySem.W.codeIn K cd31 "_law_box" = true) (k31 : PySem.W.keepIn K (.ref f31) = true)
    {f32 : Addr} {od32 an32 : Option Addr} {sl32 : Array (Option Value)} {oc32 kV32 dc32 pm32 cd32 ct32 : Value}
    (a32 : PySem.W.nsIn K mainGlobals "_law_take" = some (some (.ref f32)))
    (l32 : K.lookup f32 = some ⟨oc32, od32, .func (PySem.W.fnOf "_law_take" "_law_take" (defArgs s__law_take) (defBody s__law_take) (defScope s__law_take) .none kV32 dc32 pm32 an32 cd32 ct32), sl32⟩) (c32 : PySem.W.codeIn K cd32 "_law_take" = true) (k32 : PySem.W.keepIn K (.ref f32) = true)
    {f33 : Addr} {od33 an33 : Option Addr} {sl33 : Array (Option Value)} {oc33 kV33 dc33 pm33 cd33 ct33 : Value}
    (a33 : PySem.W.nsIn K mainGlobals "_law_gcd" = some (some (.ref f33)))
    (l33 : K.lookup f33 = some ⟨oc33, od33, .func (PySem.W.fnOf "_law_gcd" "_law_gcd" (defArgs s__law_gcd) (defBody s__law_gcd) (defScope s__law_gcd) .none kV33 dc33 pm33 an33 cd33 ct33), sl33⟩) (c33 : PySem.W.codeIn K cd33 "_law_gcd" = true) (k33 : PySem.W.keepIn K (.ref f33) = true)
    {f34 : Addr} {od34 an34 : Option Addr} {sl34 : Array (Option Value)} {oc34 kV34 dc34 pm34 cd34 ct34 : Value}
    (a34 : PySem.W.nsIn K mainGlobals "_law_ratio" = some (some (.ref f34)))
    (l34 : K.lookup f34 = some ⟨oc34, od34, .func (PySem.W.fnOf "_law_ratio" "_law_ratio" (defArgs s__law_ratio) (defBody s__law_ratio) (defScope s__law_ratio) .none kV34 dc34 pm34 an34 cd34 ct34), sl34⟩) (c34 : PySem.W.codeIn K cd34 "_law_ratio" = true) (k34 : PySem.W.keepIn K (.ref f34) = true)
    {f35 : Addr} {od35 an35 : Option Addr} {sl35 : Array (Option Value)} {oc35 kV35 dc35 pm35 cd35 ct35 : Value}
    (a35 : PySem.W.nsIn K mainGlobals "_law_share" = some (some (.ref f35)))
    (l35 : K.lookup f35 = some ⟨oc35, od35, .func (PySem.W.fnOf "_law_share" "_law_share" (defArgs s__law_share) (defBody s__law_share) (defScope s__law_share) .none kV35 dc35 pm35 an35 cd35 ct35), sl35⟩) (c35 : PySem.W.codeIn K cd35 "_law_share" = true) (k35 : PySem.W.keepIn K (.ref f35) = true)
    {f36 : Addr} {od36 an36 : Option Addr} {sl36 : Array (Option Value)} {oc36 kV36 dc36 pm36 cd36 ct36 : Value}
    (a36 : PySem.W.nsIn K mainGlobals "_law_is_integer" = some (some (.ref f36)))
    (l36 : K.lookup f36 = some ⟨oc36, od36, .func (PySem.W.fnOf "_law_is_integer" "_law_is_integer" (defArgs s__law_is_integer) (defBody s__law_is_integer) (defScope s__law_is_integer) .none kV36 dc36 pm36 an36 cd36 ct36), sl36⟩) (c36 : PySem.W.codeIn K cd36 "_law_is_integer" = true) (k36 : PySem.W.keepIn K (.ref f36) = true)
    {f37 : Addr} {od37 an37 : Option Addr} {sl37 : Array (Option Value)} {oc37 kV37 dc37 pm37 cd37 ct37 : Value}
    (a37 : PySem.W.nsIn K mainGlobals "_law_row" = some (some (.ref f37)))
    (l37 : K.lookup f37 = some ⟨oc37, od37, .func (PySem.W.fnOf "_law_row" "_law_row" (defArgs s__law_row) (defBody s__law_row) (defScope s__law_row) .none kV37 dc37 pm37 an37 cd37 ct37), sl37⟩) (c37 : PySem.W.codeIn K cd37 "_law_row" = true) (k37 : PySem.W.keepIn K (.ref f37) = true)
    {f38 : Addr} {od38 an38 : Option Addr} {sl38 : Array (Option Value)} {oc38 kV38 dc38 pm38 cd38 ct38 : Value}
    (a38 : PySem.W.nsIn K mainGlobals "_law_trim" = some (some (.ref f38)))
    (l38 : K.lookup f38 = some ⟨oc38, od38, .func (PySem.W.fnOf "_law_trim" "_law_trim" (defArgs s__law_trim) (defBody s__law_trim) (defScope s__law_trim) .none kV38 dc38 pm38 an38 cd38 ct38), sl38⟩) (c38 : PySem.W.codeIn K cd38 "_law_trim" = true) (k38 : PySem.W.keepIn K (.ref f38) = true)
    {f39 : Addr} {od39 an39 : Option Addr} {sl39 : Array (Option Value)} {oc39 kV39 dc39 pm39 cd39 ct39 : Value}
    (a39 : PySem.W.nsIn K mainGlobals "_law_times" = some (some (.ref f39)))
    (l39 : K.lookup f39 = some ⟨oc39, od39, .func (PySem.W.fnOf "_law_times" "_law_times" (defArgs s__law_times) (defBody s__law_times) (defScope s__law_times) .none kV39 dc39 pm39 an39 cd39 ct39), sl39⟩) (c39 : PySem.W.codeIn K cd39 "_law_times" = true) (k39 : PySem.W.keepIn K (.ref f39) = true)
    {f40 : Addr} {od40 an40 : Option Addr} {sl40 : Array (Option Value)} {oc40 kV40 dc40 pm40 cd40 ct40 : Value}
    (a40 : PySem.W.nsIn K mainGlobals "_law_path" = some (some (.ref f40)))
    (l40 : K.lookup f40 = some ⟨oc40, od40, .func (PySem.W.fnOf "_law_path" "_law_path" (defArgs s__law_path) (defBody s__law_path) (defScope s__law_path) .none kV40 dc40 pm40 an40 cd40 ct40), sl40⟩) (c40 : PySem.W.codeIn K cd40 "_law_path" = true) (k40 : PySem.W.keepIn K (.ref f40) = true)
    {f41 : Addr} {od41 an41 : Option Addr} {sl41 : Array (Option Value)} {oc41 kV41 dc41 pm41 cd41 ct41 : Value}
    (a41 : PySem.W.nsIn K mainGlobals "_law_orders" = some (some (.ref f41)))
    (l41 : K.lookup f41 = some ⟨oc41, od41, .func (PySem.W.fnOf "_law_orders" "_law_orders" (defArgs s__law_orders) (defBody s__law_orders) (defScope s__law_orders) .none kV41 dc41 pm41 an41 cd41 ct41), sl41⟩) (c41 : PySem.W.codeIn K cd41 "_law_orders" = true) (k41 : PySem.W.keepIn K (.ref f41) = true)
    {f42 : Addr} {od42 an42 : Option Addr} {sl42 : Array (Option Value)} {oc42 kV42 dc42 pm42 cd42 ct42 : Value}
    (a42 : PySem.W.nsIn K mainGlobals "law" = some (some (.ref f42)))
    (l42 : K.lookup f42 = some ⟨oc42, od42, .func (PySem.W.fnOf "law" "law" (defArgs s_law) (defBody s_law) (defScope s_law) .none kV42 dc42 pm42 an42 cd42 ct42), sl42⟩) (c42 : PySem.W.codeIn K cd42 "law" = true) (k42 : PySem.W.keepIn K (.ref f42) = true)
    (z_abs : PySem.W.nsIn K mainGlobals "abs" = some none)
    (z_bool : PySem.W.nsIn K mainGlobals "bool" = some none)
    (z_gcd : PySem.W.nsIn K mainGlobals "gcd" = some (some (.builtin "math.gcd")))
    (z_int : PySem.W.nsIn K mainGlobals "int" = some none)
    (z_isinstance : PySem.W.nsIn K mainGlobals "isinstance" = some none)
    (z_len : PySem.W.nsIn K mainGlobals "len" = some none)
    (z_list : PySem.W.nsIn K mainGlobals "list" = some none)
    (z_max : PySem.W.nsIn K mainGlobals "max" = some none)
    (z_min : PySem.W.nsIn K mainGlobals "min" = some none)
    (z_range : PySem.W.nsIn K mainGlobals "range" = some none)
    (z_str : PySem.W.nsIn K mainGlobals "str" = some none)
    (z_sum : PySem.W.nsIn K mainGlobals "sum" = some none)
    (z_tuple : PySem.W.nsIn K mainGlobals "tuple" = some none)
    (x_mk0_Poly : PySem.W.makesIn K C_Poly = true)
    (x_kp_Poly : PySem.W.keepIn K (.ref C_Poly) = true)
    (x_pg_Poly : PySem.W.plainGet K C_Poly Str.empty = true)
    (x_hd_Poly : PySem.W.hasDictIn K C_Poly = true)
    (x_po_Poly : PySem.W.plainOver K C_Poly = true)
    (x_sa_Poly : PySem.W.findIn K (.ref C_Poly) "__setattr__" = some (some (.builtin "object.__setattr__")))
    (x_nc_Poly : PySem.W.findIn K (.ref C_Poly) "coefs" = some none)
    (x_rd_Poly : PySem.W.readsIn K C_Poly (.type "type") = true)
    (x_cg_Poly : PySem.W.specialIn K (.ref C_Poly) "__getattribute__" = some (some (.builtin "type.__getattribute__")))
    (x_ha_Poly : PySem.W.findIn K (.ref C_Poly) "__class__" = some (some (.builtin "object.__class__")))
    (x_hn_Poly : PySem.W.specialIn K (.builtin "object.__class__") "__get__" = some (some (.builtin "getset_descriptor.__get__")))
    (x_ht_Poly : PySem.W.takesIn K (.builtin "object.__class__") = some true)
    (x_hm_Poly : PySem.W.mroIn K C_Poly (.type "object") = some true)
    (x_ki_Poly : PySem.W.kitOne K (.ref C_Poly) (.ref C_Poly) = some true)
    (x_n_Poly : PySem.W.fnIn K f20 = true)
    (x_k_int_Poly : PySem.W.kitOne K (.type "int") (.ref C_Poly) = some false)
    (x_k_tuple_Poly : PySem.W.kitOne K (.type "tuple") (.ref C_Poly) = some false)
    (x_k_list_Poly : PySem.W.kitOne K (.type "list") (.ref C_Poly) = some false)
    (x_k_str_Poly : PySem.W.kitOne K (.type "str") (.ref C_Poly) = some false)
    (x_q_int_Poly : PySem.W.notFirst K C_Poly (.type "int") = true)
    (x_q_tuple_Poly : PySem.W.notFirst K C_Poly (.type "tuple") = true)
    (x_q_list_Poly : PySem.W.notFirst K C_Poly (.type "list") = true)
    (x_q_str_Poly : PySem.W.notFirst K C_Poly (.type "str") = true)
    (x_q_own_Poly : PySem.W.notFirst K C_Poly (.ref C_Poly) = true)
    (x_ne_Poly : PySem.W.findIn K (.ref C_Poly) "__ne__" = some (some (.builtin "object.__ne__")))
    (x_ob_Poly : PySem.W.subIn K (.ref C_Poly) (.type "object") = some true)
    (x_sf_Poly : PySem.W.selfFirst K C_Poly = true)
    (x_si_Poly : PySem.W.subIn K (.type "int") (.ref C_Poly) = some false)
    (x_ri_Poly : PySem.W.subIn K (.ref C_Poly) (.type "int") = some false)
    (x_i1add_Poly : PySem.W.findIn K (.type "int") "__add__" = some (some (.builtin "int.__add__")))
    (x_i2add_Poly : PySem.W.findIn K (.type "int") "__radd__" = some (some (.builtin "int.__radd__")))
    (x_iiadd_Poly : PySem.W.findIn K (.ref C_Poly) "__iadd__" = some none)
    (x_ioadd_Poly : PySem.W.findIn K (.type "object") "__iadd__" = some none)
    (x_i1sub_Poly : PySem.W.findIn K (.type "int") "__sub__" = some (some (.builtin "int.__sub__")))
    (x_i2sub_Poly : PySem.W.findIn K (.type "int") "__rsub__" = some (some (.builtin "int.__rsub__")))
    (x_iisub_Poly : PySem.W.findIn K (.ref C_Poly) "__isub__" = some none)
    (x_iosub_Poly : PySem.W.findIn K (.type "object") "__isub__" = some none)
    (x_mro_Poly : (PySem.W.clsIn K C_Poly).map (·.mro) = some [.ref C_Poly, .type "object"])
    (x_i1mul_Poly : PySem.W.findIn K (.type "int") "__mul__" = some (some (.builtin "int.__mul__")))
    (x_i2mul_Poly : PySem.W.findIn K (.type "int") "__rmul__" = some (some (.builtin "int.__rmul__")))
    (x_iimul_Poly : PySem.W.findIn K (.ref C_Poly) "__imul__" = some none)
    (x_iomul_Poly : PySem.W.findIn K (.type "object") "__imul__" = some none)
    (x_i1pow_Poly : PySem.W.findIn K (.type "int") "__pow__" = some (some (.builtin "int.__pow__")))
    (x_i2pow_Poly : PySem.W.findIn K (.type "int") "__rpow__" = some (some (.builtin "int.__rpow__")))
    (x_rpow_Poly : PySem.W.findIn K (.ref C_Poly) "__rpow__" = some none)
    (x_fi_Poly_call : PySem.W.fnIn K f17 = true)
    : ∃ fd : FuncData, (∀ (s : Shared) (v : Value), BindsTo s fd ⟨[v], []⟩ [("_law_script", v)]) ∧ ∀ base : Heap, K.In base → base.Ns mainGlobals mg → FnOk l.prog w K mg base CX0 11 fa fd ["_law_script"] (spLaw K) := by
  have e := hfa.symm.trans (PySem.W.mg_of X G a42)
  cases e
  have F0 := fun_mk (st := s_is_integer) l0 c0 k0
  have F1 := fun_mk (st := s_trimmed) l1 c1 k1
  have F2 := fun_mk (st := s_plus) l2 c2 k2
  have F3 := fun_mk (st := s_negated) l3 c3 k3
  have F4 := fun_mk (st := s_times) l4 c4 k4
  have F5 := fun_mk (st := s_power) l5 c5 k5
  have F6 := fun_mk (st := s_path_row) l6 c6 k6
  have F7 := fun_mk (st := s_value_at) l7 c7 k7
  have F8 := fun_mk (st := s_value_ratio) l8 c8 k8
  have F9 := fun_mk (st := s_lowest_terms) l9 c9 k9
  have F10 := fun_mk (st := s_raised) l10 c10 k10
  have F11 := fun_mk (st := s__coef) l11 c11 k11
  have F12 := fun_mk (st := s__cross_sum) l12 c12 k12
  have F13 := fun_mk (st := s_Poly___init__) l13 c13 k13
  have F14 := fun_mk (st := s_Poly_of) l14 c14 k14
  have F15 := fun_mk (st := s_Poly_path) l15 c15 k15
  have F16 := fun_mk (st := s_Poly_degree) l16 c16 k16
  have F17 := fun_mk (st := s_Poly___call__) l17 c17 k17
  have F18 := fun_mk (st := s_Poly___len__) l18 c18 k18
  have F19 := fun_mk (st := s_Poly___repr__) l19 c19 k19
  have F20 := fun_mk (st := s_Poly___getitem__) l20 c20 k20
  have F21 := fun_mk (st := s_Poly___add__) l21 c21 k21
  have F22 := fun_mk (st := s_Poly___radd__) l22 c22 k22
  have F23 := fun_mk (st := s_Poly___neg__) l23 c23 k23
  have F24 := fun_mk (st := s_Poly___sub__) l24 c24 k24
  have F25 := fun_mk (st := s_Poly___rsub__) l25 c25 k25
  have F26 := fun_mk (st := s_Poly___mul__) l26 c26 k26
  have F27 := fun_mk (st := s_Poly___rmul__) l27 c27 k27
  have F28 := fun_mk (st := s_Poly___pow__) l28 c28 k28
  have F29 := fun_mk (st := s_Poly___eq__) l29 c29 k29
  have F30 := fun_mk (st := s__row_of) l30 c30 k30
  have F31 := fun_mk (st := s__law_box) l31 c31 k31
  have F32 := fun_mk (st := s__law_take) l32 c32 k32
  have F33 := fun_mk (st := s__law_gcd) l33 c33 k33
  have F34 := fun_mk (st := s__law_ratio) l34 c34 k34
  have F35 := fun_mk (st := s__law_share) l35 c35 k35
  have F36 := fun_mk (st := s__law_is_integer) l36 c36 k36
  have F37 := fun_mk (st := s__law_row) l37 c37 k37
  have F38 := fun_mk (st := s__law_trim) l38 c38 k38
  have F39 := fun_mk (st := s__law_times) l39 c39 k39
  have F40 := fun_mk (st := s__law_path) l40 c40 k40
  have F41 := fun_mk (st := s__law_orders) l41 c41 k41
  have F42 := fun_mk (st := s_law) l42 c42 k42
  have T : Txt K mg ⟨f0, PySem.W.fnOf "is_integer" "is_integer" (defArgs s_is_integer) (defBody s_is_integer) (defScope s_is_integer) .none kV0 dc0 pm0 an0 cd0 ct0, f1, PySem.W.fnOf "trimmed" "trimmed" (defArgs s_trimmed) (defBody s_trimmed) (defScope s_trimmed) .none kV1 dc1 pm1 an1 cd1 ct1, f2, PySem.W.fnOf "plus" "plus" (defArgs s_plus) (defBody s_plus) (defScope s_plus) .none kV2 dc2 pm2 an2 cd2 ct2, f3, PySem.W.fnOf "negated" "negated" (defArgs s_negated) (defBody s_negated) (defScope s_negated) .none kV3 dc3 pm3 an3 cd3 ct3, f4, PySem.W.fnOf "times" "times" (defArgs s_times) (defBody s_times) (defScope s_times) .none kV4 dc4 pm4 an4 cd4 ct4, f5, PySem.W.fnOf "power" "power" (defArgs s_power) (defBody s_power) (defScope s_power) .none kV5 dc5 pm5 an5 cd5 ct5, f6, PySem.W.fnOf "path_row" "path_row" (defArgs s_path_row) (defBody s_path_row) (defScope s_path_row) .none kV6 dc6 pm6 an6 cd6 ct6, f7, PySem.W.fnOf "value_at" "value_at" (defArgs s_value_at) (defBody s_value_at) (defScope s_value_at) .none kV7 dc7 pm7 an7 cd7 ct7, f8, PySem.W.fnOf "value_ratio" "value_ratio" (defArgs s_value_ratio) (defBody s_value_ratio) (defScope s_value_ratio) .none kV8 dc8 pm8 an8 cd8 ct8, f9, PySem.W.fnOf "lowest_terms" "lowest_terms" (defArgs s_lowest_terms) (defBody s_lowest_terms) (defScope s_lowest_terms) .none kV9 dc9 pm9 an9 cd9 ct9, f10, PySem.W.fnOf "raised" "raised" (defArgs s_raised) (defBody s_raised) (defScope s_raised) .none kV10 dc10 pm10 an10 cd10 ct10, f11, PySem.W.fnOf "_coef" "_coef" (defArgs s__coef) (defBody s__coef) (defScope s__coef) .none kV11 dc11 pm11 an11 cd11 ct11, f12, PySem.W.fnOf "_cross_sum" "_cross_sum" (defArgs s__cross_sum) (defBody s__cross_sum) (defScope s__cross_sum) .none kV12 dc12 pm12 an12 cd12 ct12, f13, PySem.W.fnOf "__init__" "Poly.__init__" (defArgs s_Poly___init__) (defBody s_Poly___init__) (defScope s_Poly___init__) .none kV13 dc13 pm13 an13 cd13 ct13, f14, PySem.W.fnOf "of" "Poly.of" (defArgs s_Poly_of) (defBody s_Poly_of) (defScope s_Poly_of) .none kV14 dc14 pm14 an14 cd14 ct14, f15, PySem.W.fnOf "path" "Poly.path" (defArgs s_Poly_path) (defBody s_Poly_path) (defScope s_Poly_path) .none kV15 dc15 pm15 an15 cd15 ct15, f16, PySem.W.fnOf "degree" "Poly.degree" (defArgs s_Poly_degree) (defBody s_Poly_degree) (defScope s_Poly_degree) .none kV16 dc16 pm16 an16 cd16 ct16, f17, PySem.W.fnOf "__call__" "Poly.__call__" (defArgs s_Poly___call__) (defBody s_Poly___call__) (defScope s_Poly___call__) .none kV17 dc17 pm17 an17 cd17 ct17, f18, PySem.W.fnOf "__len__" "Poly.__len__" (defArgs s_Poly___len__) (defBody s_Poly___len__) (defScope s_Poly___len__) .none kV18 dc18 pm18 an18 cd18 ct18, f19, PySem.W.fnOf "__repr__" "Poly.__repr__" (defArgs s_Poly___repr__) (defBody s_Poly___repr__) (defScope s_Poly___repr__) .none kV19 dc19 pm19 an19 cd19 ct19, f20, PySem.W.fnOf "__getitem__" "Poly.__getitem__" (defArgs s_Poly___getitem__) (defBody s_Poly___getitem__) (defScope s_Poly___getitem__) .none kV20 dc20 pm20 an20 cd20 ct20, f21, PySem.W.fnOf "__add__" "Poly.__add__" (defArgs s_Poly___add__) (defBody s_Poly___add__) (defScope s_Poly___add__) .none kV21 dc21 pm21 an21 cd21 ct21, f22, PySem.W.fnOf "__radd__" "Poly.__radd__" (defArgs s_Poly___radd__) (defBody s_Poly___radd__) (defScope s_Poly___radd__) .none kV22 dc22 pm22 an22 cd22 ct22, f23, PySem.W.fnOf "__neg__" "Poly.__neg__" (defArgs s_Poly___neg__) (defBody s_Poly___neg__) (defScope s_Poly___neg__) .none kV23 dc23 pm23 an23 cd23 ct23, f24, PySem.W.fnOf "__sub__" "Poly.__sub__" (defArgs s_Poly___sub__) (defBody s_Poly___sub__) (defScope s_Poly___sub__) .none kV24 dc24 pm24 an24 cd24 ct24, f25, PySem.W.fnOf "__rsub__" "Poly.__rsub__" (defArgs s_Poly___rsub__) (defBody s_Poly___rsub__) (defScope s_Poly___rsub__) .none kV25 dc25 pm25 an25 cd25 ct25, f26, PySem.W.fnOf "__mul__" "Poly.__mul__" (defArgs s_Poly___mul__) (defBody s_Poly___mul__) (defScope s_Poly___mul__) .none kV26 dc26 pm26 an26 cd26 ct26, f27, PySem.W.fnOf "__rmul__" "Poly.__rmul__" (defArgs s_Poly___rmul__) (defBody s_Poly___rmul__) (defScope s_Poly___rmul__) .none kV27 dc27 pm27 an27 cd27 ct27, f28, PySem.W.fnOf "__pow__" "Poly.__pow__" (defArgs s_Poly___pow__) (defBody s_Poly___pow__) (defScope s_Poly___pow__) .none kV28 dc28 pm28 an28 cd28 ct28, f29, PySem.W.fnOf "__eq__" "Poly.__eq__" (defArgs s_Poly___eq__) (defBody s_Poly___eq__) (defScope s_Poly___eq__) .none kV29 dc29 pm29 an29 cd29 ct29, f30, PySem.W.fnOf "_row_of" "_row_of" (defArgs s__row_of) (defBody s__row_of) (defScope s__row_of) .none kV30 dc30 pm30 an30 cd30 ct30, f31, PySem.W.fnOf "_law_box" "_law_box" (defArgs s__law_box) (defBody s__law_box) (defScope s__law_box) .none kV31 dc31 pm31 an31 cd31 ct31, f32, PySem.W.fnOf "_law_take" "_law_take" (defArgs s__law_take) (defBody s__law_take) (defScope s__law_take) .none kV32 dc32 pm32 an32 cd32 ct32, f33, PySem.W.fnOf "_law_gcd" "_law_gcd" (defArgs s__law_gcd) (defBody s__law_gcd) (defScope s__law_gcd) .none kV33 dc33 pm33 an33 cd33 ct33, f34, PySem.W.fnOf "_law_ratio" "_law_ratio" (defArgs s__law_ratio) (defBody s__law_ratio) (defScope s__law_ratio) .none kV34 dc34 pm34 an34 cd34 ct34, f35, PySem.W.fnOf "_law_share" "_law_share" (defArgs s__law_share) (defBody s__law_share) (defScope s__law_share) .none kV35 dc35 pm35 an35 cd35 ct35, f36, PySem.W.fnOf "_law_is_integer" "_law_is_integer" (defArgs s__law_is_integer) (defBody s__law_is_integer) (defScope s__law_is_integer) .none kV36 dc36 pm36 an36 cd36 ct36, f37, PySem.W.fnOf "_law_row" "_law_row" (defArgs s__law_row) (defBody s__law_row) (defScope s__law_row) .none kV37 dc37 pm37 an37 cd37 ct37, f38, PySem.W.fnOf "_law_trim" "_law_trim" (defArgs s__law_trim) (defBody s__law_trim) (defScope s__law_trim) .none kV38 dc38 pm38 an38 cd38 ct38, f39, PySem.W.fnOf "_law_times" "_law_times" (defArgs s__law_times) (defBody s__law_times) (defScope s__law_times) .none kV39 dc39 pm39 an39 cd39 ct39, f40, PySem.W.fnOf "_law_path" "_law_path" (defArgs s__law_path) (defBody s__law_path) (defScope s__law_path) .none kV40 dc40 pm40 an40 cd40 ct40, f41, PySem.W.fnOf "_law_orders" "_law_orders" (defArgs s__law_orders) (defBody s__law_orders) (defScope s__law_orders) .none kV41 dc41 pm41 an41 cd41 ct41, fa, PySem.W.fnOf "law" "law" (defArgs s_law) (defBody s_law) (defScope s_law) .none kV42 dc42 pm42 an42 cd42 ct42, p14, p15, p16, C_StopError, C_InvalidRatio, C_NotExact, C_Poly⟩ := {
    F_is_integer := F0
    k_is_integer := k0
    b_is_integer := F0.binds (ps := ["value"]) (fun _ _ _ _ _ _ us hl => (match us, hl with | [_], _ => rfl))
    g_is_integer := PySem.W.mg_of X G a0
    F_trimmed := F1
    k_trimmed := k1
    b_trimmed := F1.binds (ps := ["coefs"]) (fun _ _ _ _ _ _ us hl => (match us, hl with | [_], _ => rfl))
    g_trimmed := PySem.W.mg_of X G a1
    F_plus := F2
    k_plus := k2
    b_plus := F2.binds (ps := ["first", "second"]) (fun _ _ _ _ _ _ us hl => (match us, hl with | [_, _], _ => rfl))
    g_plus := PySem.W.mg_of X G a2
    F_negated := F3
    k_negated := k3
    b_negated := F3.binds (ps := ["row"]) (fun _ _ _ _ _ _ us hl => (match us, hl with | [_], _ => rfl))
    g_negated := PySem.W.mg_of X G a3
    F_times := F4
    k_times := k4
    b_times := F4.binds (ps := ["first", "second"]) (fun _ _ _ _ _ _ us hl => (match us, hl with | [_, _], _ => rfl))
    g_times := PySem.W.mg_of X G a4
    F_power := F5
    k_power := k5
    b_power := F5.binds (ps := ["row", "exponent"]) (fun _ _ _ _ _ _ us hl => (match us, hl with | [_, _], _ => rfl))
    g_power := PySem.W.mg_of X G a5
    F_path_row := F6
    k_path_row := k6
    b_path_row := F6.binds (ps := ["wins", "losses"]) (fun _ _ _ _ _ _ us hl => (match us, hl with | [_, _], _ => rfl))
    g_path_row := PySem.W.mg_of X G a6
    F_value_at := F7
    k_value_at := k7
    b_value_at := F7.binds (ps := ["row", "num", "den"]) (fun _ _ _ _ _ _ us hl => (match us, hl with | [_, _, _], _ => rfl))
    g_value_at := PySem.W.mg_of X G a7
    F_value_ratio := F8
    k_value_ratio := k8
    b_value_ratio := F8.binds (ps := ["row", "num", "den"]) (fun _ _ _ _ _ _ us hl => (match us, hl with | [_, _, _], _ => rfl))
    g_value_ratio := PySem.W.mg_of X G a8
    F_lowest_terms := F9
    k_lowest_terms := k9
    b_lowest_terms := F9.binds (ps := ["top", "den", "exponent"]) (fun _ _ _ _ _ _ us hl => (match us, hl with | [_, _, _], _ => rfl))
    g_lowest_terms := PySem.W.mg_of X G a9
    F_raised := F10
    k_raised := k10
    b_raised := F10.binds (ps := ["number", "exponent"]) (fun _ _ _ _ _ _ us hl => (match us, hl with | [_, _], _ => rfl))
    g_raised := PySem.W.mg_of X G a10
    F__coef := F11
    k__coef := k11
    b__coef := F11.binds (ps := ["row", "place"]) (fun _ _ _ _ _ _ us hl => (match us, hl with | [_, _], _ => rfl))
    g__coef := PySem.W.mg_of X G a11
    F__cross_sum := F12
    k__cross_sum := k12
    b__cross_sum := F12.binds (ps := ["first", "second", "place"]) (fun _ _ _ _ _ _ us hl => (match us, hl with | [_, _, _], _ => rfl))
    g__cross_sum := PySem.W.mg_of X G a12
    F_Poly___init__ := F13
    k_Poly___init__ := k13
    m_Poly___init__ := a13
    i_Poly___init__ := i13
    t_Poly___init__ := t13
    F_Poly_of := F14
    k_Poly_of := k14
    b_Poly_of := F14.binds (ps := ["cls", "coefs"]) (fun _ _ _ _ _ _ us hl => (match us, hl with | [_, _], _ => rfl))
    m_Poly_of := m_14
    r_Poly_of := ⟨_, r_14⟩
    n_Poly_of := n_14
    F_Poly_path := F15
    k_Poly_path := k15
    b_Poly_path := F15.binds (ps := ["cls", "wins", "losses"]) (fun _ _ _ _ _ _ us hl => (match us, hl with | [_, _, _], _ => rfl))
    m_Poly_path := m_15
    r_Poly_path := ⟨_, r_15⟩
    n_Poly_path := n_15
    F_Poly_degree := F16
    k_Poly_degree := k16
    b_Poly_degree := F16.binds (ps := ["self"]) (fun _ _ _ _ _ _ us hl => (match us, hl with | [_], _ => rfl))
    m_Poly_degree := m_16
    s_Poly_degree := s_16
    u_Poly_degree := u_16
    r_Poly_degree := ⟨_, r_16⟩
    F_Poly___call__ := F17
    k_Poly___call__ := k17
    b_Poly___call__ := F17.binds (ps := ["self", "at"]) (fun _ _ _ _ _ _ us hl => (match us, hl with | [_, _], _ => rfl))
    m_Poly___call__ := a17
    i_Poly___call__ := i17
    t_Poly___call__ := t17
    F_Poly___len__ := F18
    k_Poly___len__ := k18
    b_Poly___len__ := F18.binds (ps := ["self"]) (fun _ _ _ _ _ _ us hl => (match us, hl with | [_], _ => rfl))
    m_Poly___len__ := a18
    i_Poly___len__ := i18
    t_Poly___len__ := t18
    F_Poly___repr__ := F19
    k_Poly___repr__ := k19
    b_Poly___repr__ := F19.binds (ps := ["self"]) (fun _ _ _ _ _ _ us hl => (match us, hl with | [_], _ => rfl))
    m_Poly___repr__ := a19
    i_Poly___repr__ := i19
    t_Poly___repr__ := t19
    F_Poly___getitem__ := F20
    k_Poly___getitem__ := k20
    b_Poly___getitem__ := F20.binds (ps := ["self", "at"]) (fun _ _ _ _ _ _ us hl => (match us, hl with | [_, _], _ => rfl))
    m_Poly___getitem__ := a20
    i_Poly___getitem__ := i20
    t_Poly___getitem__ := t20
    F_Poly___add__ := F21
    k_Poly___add__ := k21
    b_Poly___add__ := F21.binds (ps := ["self", "other"]) (fun _ _ _ _ _ _ us hl => (match us, hl with | [_, _], _ => rfl))
    m_Poly___add__ := a21
    i_Poly___add__ := i21
    t_Poly___add__ := t21
    F_Poly___radd__ := F22
    k_Poly___radd__ := k22
    b_Poly___radd__ := F22.binds (ps := ["self", "other"]) (fun _ _ _ _ _ _ us hl => (match us, hl with | [_, _], _ => rfl))
    m_Poly___radd__ := a22
    i_Poly___radd__ := i22
    t_Poly___radd__ := t22
    F_Poly___neg__ := F23
    k_Poly___neg__ := k23
    b_Poly___neg__ := F23.binds (ps := ["self"]) (fun _ _ _ _ _ _ us hl => (match us, hl with | [_], _ => rfl))
    m_Poly___neg__ := a23
    i_Poly___neg__ := i23
    t_Poly___neg__ := t23
    F_Poly___sub__ := F24
    k_Poly___sub__ := k24
    b_Poly___sub__ := F24.binds (ps := ["self", "other"]) (fun _ _ _ _ _ _ us hl => (match us, hl with | [_, _], _ => rfl))
    m_Poly___sub__ := a24
    i_Poly___sub__ := i24
    t_Poly___sub__ := t24
    F_Poly___rsub__ := F25
    k_Poly___rsub__ := k25
    b_Poly___rsub__ := F25.binds (ps := ["self", "other"]) (fun _ _ _ _ _ _ us hl => (match us, hl with | [_, _], _ => rfl))
    m_Poly___rsub__ := a25
    i_Poly___rsub__ := i25
    t_Poly___rsub__ := t25
    F_Poly___mul__ := F26
    k_Poly___mul__ := k26
    b_Poly___mul__ := F26.binds (ps := ["self", "other"]) (fun _ _ _ _ _ _ us hl => (match us, hl with | [_, _], _ => rfl))
    m_Poly___mul__ := a26
    i_Poly___mul__ := i26
    t_Poly___mul__ := t26
    F_Poly___rmul__ := F27
    k_Poly___rmul__ := k27
    b_Poly___rmul__ := F27.binds (ps := ["self", "other"]) (fun _ _ _ _ _ _ us hl => (match us, hl with | [_, _], _ => rfl))
    m_Poly___rmul__ := a27
    i_Poly___rmul__ := i27
    t_Poly___rmul__ := t27
    F_Poly___pow__ := F28
    k_Poly___pow__ := k28
    b_Poly___pow__ := F28.binds (ps := ["self", "other"]) (fun _ _ _ _ _ _ us hl => (match us, hl with | [_, _], _ => rfl))
    m_Poly___pow__ := a28
    i_Poly___pow__ := i28
    t_Poly___pow__ := t28
    F_Poly___eq__ := F29
    k_Poly___eq__ := k29
    b_Poly___eq__ := F29.binds (ps := ["self", "other"]) (fun _ _ _ _ _ _ us hl => (match us, hl with | [_, _], _ => rfl))
    m_Poly___eq__ := a29
    i_Poly___eq__ := i29
    t_Poly___eq__ := t29
    F__row_of := F30
    k__row_of := k30
    b__row_of := F30.binds (ps := ["value"]) (fun _ _ _ _ _ _ us hl => (match us, hl with | [_], _ => rfl))
    g__row_of := PySem.W.mg_of X G a30
    F__law_box := F31
    k__law_box := k31
    b__law_box := F31.binds (ps := ["_law_script"]) (fun _ _ _ _ _ _ us hl => (match us, hl with | [_], _ => rfl))
    g__law_box := PySem.W.mg_of X G a31
    F__law_take := F32
    k__law_take := k32
    b__law_take := F32.binds (ps := ["_law_box_here", "_law_size"]) (fun _ _ _ _ _ _ us hl => (match us, hl with | [_, _], _ => rfl))
    g__law_take := PySem.W.mg_of X G a32
    F__law_gcd := F33
    k__law_gcd := k33
    b__law_gcd := F33.binds (ps := ["_law_a", "_law_b"]) (fun _ _ _ _ _ _ us hl => (match us, hl with | [_, _], _ => rfl))
    g__law_gcd := PySem.W.mg_of X G a33
    F__law_ratio := F34
    k__law_ratio := k34
    b__law_ratio := F34.binds (ps := ["_law_num", "_law_den"]) (fun _ _ _ _ _ _ us hl => (match us, hl with | [_, _], _ => rfl))
    g__law_ratio := PySem.W.mg_of X G a34
    F__law_share := F35
    k__law_share := k35
    b__law_share := F35.binds (ps := ["_law_box_here", "_law_most"]) (fun _ _ _ _ _ _ us hl => (match us, hl with | [_, _], _ => rfl))
    g__law_share := PySem.W.mg_of X G a35
    F__law_is_integer := F36
    k__law_is_integer := k36
    b__law_is_integer := F36.binds (ps := ["_law_value"]) (fun _ _ _ _ _ _ us hl => (match us, hl with | [_], _ => rfl))
    g__law_is_integer := PySem.W.mg_of X G a36
    F__law_row := F37
    k__law_row := k37
    b__law_row := F37.binds (ps := ["_law_poly"]) (fun _ _ _ _ _ _ us hl => (match us, hl with | [_], _ => rfl))
    g__law_row := PySem.W.mg_of X G a37
    F__law_trim := F38
    k__law_trim := k38
    b__law_trim := F38.binds (ps := ["_law_row_here"]) (fun _ _ _ _ _ _ us hl => (match us, hl with | [_], _ => rfl))
    g__law_trim := PySem.W.mg_of X G a38
    F__law_times := F39
    k__law_times := k39
    b__law_times := F39.binds (ps := ["_law_a", "_law_b"]) (fun _ _ _ _ _ _ us hl => (match us, hl with | [_, _], _ => rfl))
    g__law_times := PySem.W.mg_of X G a39
    F__law_path := F40
    k__law_path := k40
    b__law_path := F40.binds (ps := ["_law_wins", "_law_losses"]) (fun _ _ _ _ _ _ us hl => (match us, hl with | [_, _], _ => rfl))
    g__law_path := PySem.W.mg_of X G a40
    F__law_orders := F41
    k__law_orders := k41
    b__law_orders := F41.binds (ps := ["_law_tries"]) (fun _ _ _ _ _ _ us hl => (match us, hl with | [_], _ => rfl))
    g__law_orders := PySem.W.mg_of X G a41
    F_law := F42
    k_law := k42
    b_law := F42.binds (ps := ["_law_script"]) (fun _ _ _ _ _ _ us hl => (match us, hl with | [_], _ => rfl))
    g_law := PySem.W.mg_of X G a42
    z_abs := PySem.W.mg_none_of X G z_abs
    z_bool := PySem.W.mg_none_of X G z_bool
    g_gcd := PySem.W.mg_of X G z_gcd
    z_int := PySem.W.mg_none_of X G z_int
    z_isinstance := PySem.W.mg_none_of X G z_isinstance
    z_len := PySem.W.mg_none_of X G z_len
    z_list := PySem.W.mg_none_of X G z_list
    z_max := PySem.W.mg_none_of X G z_max
    z_min := PySem.W.mg_none_of X G z_min
    z_range := PySem.W.mg_none_of X G z_range
    z_str := PySem.W.mg_none_of X G z_str
    z_sum := PySem.W.mg_none_of X G z_sum
    z_tuple := PySem.W.mg_none_of X G z_tuple
    g_StopError := PySem.W.mg_of X G aC_StopError
    g_InvalidRatio := PySem.W.mg_of X G aC_InvalidRatio
    g_NotExact := PySem.W.mg_of X G aC_NotExact
    g_Poly := PySem.W.mg_of X G aC_Poly
    mk0_Poly := x_mk0_Poly
    kp_Poly := x_kp_Poly
    pg_Poly := x_pg_Poly
    hd_Poly := x_hd_Poly
    po_Poly := x_po_Poly
    sa_Poly := x_sa_Poly
    nc_Poly := x_nc_Poly
    rd_Poly := x_rd_Poly
    cg_Poly := x_cg_Poly
    ha_Poly := x_ha_Poly
    hn_Poly := x_hn_Poly
    ht_Poly := x_ht_Poly
    hm_Poly := x_hm_Poly
    ki_Poly := x_ki_Poly
    n_Poly := x_n_Poly
    k_int_Poly := x_k_int_Poly
    k_tuple_Poly := x_k_tuple_Poly
    k_list_Poly := x_k_list_Poly
    k_str_Poly := x_k_str_Poly
    q_int_Poly := x_q_int_Poly
    q_tuple_Poly := x_q_tuple_Poly
    q_list_Poly := x_q_list_Poly
    q_str_Poly := x_q_str_Poly
    q_own_Poly := x_q_own_Poly
    ne_Poly := x_ne_Poly
    ob_Poly := x_ob_Poly
    sf_Poly := x_sf_Poly
    si_Poly := x_si_Poly
    ri_Poly := x_ri_Poly
    i1add_Poly := x_i1add_Poly
    i2add_Poly := x_i2add_Poly
    iiadd_Poly := x_iiadd_Poly
    ioadd_Poly := x_ioadd_Poly
    i1sub_Poly := x_i1sub_Poly
    i2sub_Poly := x_i2sub_Poly
    iisub_Poly := x_iisub_Poly
    iosub_Poly := x_iosub_Poly
    mro_Poly := x_mro_Poly
    i1mul_Poly := x_i1mul_Poly
    i2mul_Poly := x_i2mul_Poly
    iimul_Poly := x_iimul_Poly
    iomul_Poly := x_iomul_Poly
    i1pow_Poly := x_i1pow_Poly
    i2pow_Poly := x_i2pow_Poly
    rpow_Poly := x_rpow_Poly
    fi_Poly_call := x_fi_Poly_call }
  exact ⟨_, fun s v => .of_eq rfl, fun base _ _ => ok_law T⟩
theorem walk {l : PySem.W.OpenLaw} {q : Program} {loose : List Str} {XP : (Str → Option Value) → Heap → Prop} {YP : World → Heap → Prop} {d : DefRec} {K : Params → PySem.W.Frag} (hn : l.most = some 63) (hdf : d.params.defaults = [])
    (hY : ∀ (w : World) (h : Heap), YP w h → (K w.params).In h)
    (F : ∀ (w : World) (mg : Str → Option Value) (fa : Addr) (h : Heap), (K w.params).In h → h.Ns mainGlobals mg → mg d.name = some (.ref fa) →
      ∃ fd : FuncData, (∀ (s : Shared) (u : Value), BindsTo s fd ⟨[u], []⟩ [("_law_script", u)]) ∧ ∀ base : Heap, (K w.params).In base → base.Ns mainGlobals mg → FnOk l.prog w (K w.params) mg base CX0 11 fa fd ["_law_script"] (spLaw (K w.params))) :
    PySem.W.WalkO q loose XP YP l.row.toRowW d [] (fun f vs => PySem.call f vs) :=
  L2.walk_of (n := 63) (k := 11) (x := "_law_script") (CX := fun _ => CX0) (sp := fun w => spLaw (K w.params)) hn (by decide) hdf ⟨rfl, by decide, by decide⟩ hY F (fun _ _ a ns hl _ hS => ⟨a, ns, rfl, hS, hl, fun _ => rfl⟩) fun _ _ _ _ _ z => z
end Pf

open PySem PySem.W PyProof.Rows in
set_option maxRecDepth 100000 in
set_option maxHeartbeats 0 in
theorem PySem.Challenge.cw_lookstop_k10_paths_holds : PySem.Challenge.rw_lookstop_k10_paths.Holds := by
  w_on; o_law; k_head; (case hw => w_witness2)
  k_fill
  refine Pf.walk (l := PySem.Challenge.rw_lookstop_k10_paths) rfl rfl (fun w h Y => PySem.W.kIn_of Y) ?F
  case F =>
    intro w mg fa h KX G hmg
    refine' Pf.all_mk KX G hmg (aC_StopError := ?aC_StopError) (aC_InvalidRatio := ?aC_InvalidRatio) (aC_NotExact := ?aC_NotExact) (aC_Poly := ?aC_Poly) (a0 := ?a0) (l0 := ?l0) (c0 := ?c0) (k0 := ?k0) (a1 := ?a1) (l1 := ?l1) (c1 := ?c1) (k1 := ?k1) (a2 := ?a2) (l2 := ?l2) (c2 := ?c2) (k2 := ?k2) (a3 := ?a3) (l3 := ?l3) (c3 := ?c3) (k3 := ?k3) (a4 := ?a4) (l4 := ?l4) (c4 := ?c4) (k4 := ?k4) (a5 := ?a5) (l5 := ?l5) (c5 := ?c5) (k5 := ?k5) (a6 := ?a6) (l6 := ?l6) (c6 := ?c6) (k6 := ?k6) (a7 := ?a7) (l7 := ?l7) (c7 := ?c7) (k7 := ?k7) (a8 := ?a8) (l8 := ?l8) (c8 := ?c8) (k8 := ?k8) (a9 := ?a9) (l9 := ?l9) (c9 := ?c9) (k9 := ?k9) (a10 := ?a10) (l10 := ?l10) (c10 := ?c10) (k10 := ?k10) (a11 := ?a11) (l11 := ?l11) (c11 := ?c11) (k11 := ?k11) (a12 := ?a12) (l12 := ?l12) (c12 := ?c12) (k12 := ?k12) (a13 := ?a13) (i13 := ?i13) (t13 := ?t13) (l13 := ?l13) (c13 := ?c13) (k13 := ?k13) (m_14 := ?m_14) (r_14 := ?r_14) (n_14 := ?n_14) (l14 := ?l14) (c14 := ?c14) (k14 := ?k14) (m_15 := ?m_15) (r_15 := ?r_15) (n_15 := ?n_15) (l15 := ?l15) (c15 := ?c15) (k15 := ?k15) (m_16 := ?m_16) (s_16 := ?s_16) (u_16 := ?u_16) (r_16 := ?r_16) (l16 := ?l16) (c16 := ?c16) (k16 := ?k16) (a17 := ?a17) (i17 := ?i17) (t17 := ?t17) (l17 := ?l17) (c17 := ?c17) (k17 := ?k17) (a18 := ?a18) (i18 := ?i18) (t18 := ?t18) (l18 := ?l18) (c18 := ?c18) (k18 := ?k18) (a19 := ?a19) (i19 := ?i19) (t19 := ?t19) (l19 := ?l19) (c19 := ?c19) (k19 := ?k19) (a20 := ?a20) (i20 := ?i20) (t20 := ?t20) (l20 := ?l20) (c20 := ?c20) (k20 := ?k20) (a21 := ?a21) (i21 := ?i21) (t21 := ?t21) (l21 := ?l21) (c21 := ?c21) (k21 := ?k21) (a22 := ?a22) (i22 := ?i22) (t22 := ?t22) (l22 := ?l22) (c22 := ?c22) (k22 := ?k22) (a23 := ?a23) (i23 := ?i23) (t23 := ?t23) (l23 := ?l23) (c23 := ?c23) (k23 := ?k23) (a24 := ?a24) (i24 := ?i24) (t24 := ?t24) (l24 := ?l24) (c24 := ?c24) (k24 := ?k24) (a25 := ?a25) (i25 := ?i25) (t25 := ?t25) (l25 := ?l25) (c25 := ?c25) (k25 := ?k25) (a26 := ?a26) (i26 := ?i26) (t26 := ?t26) (l26 := ?l26) (c26 := ?c26) (k26 := ?k26) (a27 := ?a27) (i27 := ?i27) (t27 := ?t27) (l27 := ?l27) (c27 := ?c27) (k27 := ?k27) (a28 := ?a28) (i28 := ?i28) (t28 := ?t28) (l28 := ?l28) (c28 := ?c28) (k28 := ?k28) (a29 := ?a29) (i29 := ?i29) (t29 := ?t29) (l29 := ?l29) (c29 := ?c29) (k29 := ?k29) (a30 := ?a30) (l30 := ?l30) (c30 := ?c30) (k30 := ?k30) (a31 := ?a31) (l31 := ?l31) (c31 := ?c31) (k31 := ?k31) (a32 := ?a32) (l32 := ?l32) (c32 := ?c32) (k32 := ?k32) (a33 := ?a33) (l33 := ?l33) (c33 := ?c33) (k33 := ?k33) (a34 := ?a34) (l34 := ?l34) (c34 := ?c34) (k34 := ?k34) (a35 := ?a35) (l35 := ?l35) (c35 := ?c35) (k35 := ?k35) (a36 := ?a36) (l36 := ?l36) (c36 := ?c36) (k36 := ?k36) (a37 := ?a37) (l37 := ?l37) (c37 := ?c37) (k37 := ?k37) (a38 := ?a38) (l38 := ?l38) (c38 := ?c38) (k38 := ?k38) (a39 := ?a39) (l39 := ?l39) (c39 := ?c39) (k39 := ?k39) (a40 := ?a40) (l40 := ?l40) (c40 := ?c40) (k40 := ?k40) (a41 := ?a41) (l41 := ?l41) (c41 := ?c41) (k41 := ?k41) (a42 := ?a42) (l42 := ?l42) (c42 := ?c42) (k42 := ?k42) (z_abs := ?z_abs) (z_bool := ?z_bool) (z_gcd := ?z_gcd) (z_int := ?z_int) (z_isinstance := ?z_isinstance) (z_len := ?z_len) (z_list := ?z_list) (z_max := ?z_max) (z_min := ?z_min) (z_range := ?z_range) (z_str := ?z_str) (z_sum := ?z_sum) (z_tuple := ?z_tuple) (x_mk0_Poly := ?x_mk0_Poly) (x_kp_Poly := ?x_kp_Poly) (x_pg_Poly := ?x_pg_Poly) (x_hd_Poly := ?x_hd_Poly) (x_po_Poly := ?x_po_Poly) (x_sa_Poly := ?x_sa_Poly) (x_nc_Poly := ?x_nc_Poly) (x_rd_Poly := ?x_rd_Poly) (x_cg_Poly := ?x_cg_Poly) (x_ha_Poly := ?x_ha_Poly) (x_hn_Poly := ?x_hn_Poly) (x_ht_Poly := ?x_ht_Poly) (x_hm_Poly := ?x_hm_Poly) (x_ki_Poly := ?x_ki_Poly) (x_n_Poly := ?x_n_Poly) (x_k_int_Poly := ?x_k_int_Poly) (x_k_tuple_Poly := ?x_k_tuple_Poly) (x_k_list_Poly := ?x_k_list_Poly) (x_k_str_Poly := ?x_k_str_Poly) (x_q_int_Poly := ?x_q_int_Poly) (x_q_tuple_Poly := ?x_q_tuple_Poly) (x_q_list_Poly := ?x_q_list_Poly) (x_q_str_Poly := ?x_q_str_Poly) (x_q_own_Poly := ?x_q_own_Poly) (x_ne_Poly := ?x_ne_Poly) (x_ob_Poly := ?x_ob_Poly) (x_sf_Poly := ?x_sf_Poly) (x_si_Poly := ?x_si_Poly) (x_ri_Poly := ?x_ri_Poly) (x_i1add_Poly := ?x_i1add_Poly) (x_i2add_Poly := ?x_i2add_Poly) (x_iiadd_Poly := ?x_iiadd_Poly) (x_ioadd_Poly := ?x_ioadd_Poly) (x_i1sub_Poly := ?x_i1sub_Poly) (x_i2sub_Poly := ?x_i2sub_Poly) (x_iisub_Poly := ?x_iisub_Poly) (x_iosub_Poly := ?x_iosub_Poly) (x_mro_Poly := ?x_mro_Poly) (x_i1mul_Poly := ?x_i1mul_Poly) (x_i2mul_Poly := ?x_i2mul_Poly) (x_iimul_Poly := ?x_iimul_Poly) (x_iomul_Poly := ?x_iomul_Poly) (x_i1pow_Poly := ?x_i1pow_Poly) (x_i2pow_Poly := ?x_i2pow_Poly) (x_rpow_Poly := ?x_rpow_Poly) (x_fi_Poly_call := ?x_fi_Poly_call)
    (case aC_StopError => k_is)
    (case aC_InvalidRatio => k_is)
    (case aC_NotExact => k_is)
    (case aC_Poly => k_is)
    (case a0 => k_is)
    (case l0 => k_is)
    (case c0 => k_is)
    (case k0 => k_is)
    (case a1 => k_is)
    (case l1 => k_is)
    (case c1 => k_is)
    (case k1 => k_is)
    (case a2 => k_is)
    (case l2 => k_is)
    (case c2 => k_is)
    (case k2 => k_is)
    (case a3 => k_is)
    (case l3 => k_is)
    (case c3 => k_is)
    (case k3 => k_is)
    (case a4 => k_is)
    (case l4 => k_is)
    (case c4 => k_is)
    (case k4 => k_is)
    (case a5 => k_is)
    (case l5 => k_is)
    (case c5 => k_is)
    (case k5 => k_is)
    (case a6 => k_is)
    (case l6 => k_is)
    (case c6 => k_is)
    (case k6 => k_is)
    (case a7 => k_is)
    (case l7 => k_is)
    (case c7 => k_is)
    (case k7 => k_is)
    (case a8 => k_is)
    (case l8 => k_is)
    (case c8 => k_is)
    (case k8 => k_is)
    (case a9 => k_is)
    (case l9 => k_is)
    (case c9 => k_is)
    (case k9 => k_is)
    (case a10 => k_is)
    (case l10 => k_is)
    (case c10 => k_is)
    (case k10 => k_is)
    (case a11 => k_is)
    (case l11 => k_is)
    (case c11 => k_is)
    (case k11 => k_is)
    (case a12 => k_is)
    (case l12 => k_is)
    (case c12 => k_is)
    (case k12 => k_is)
    (case a13 => k_is)
    (case i13 => k_is)
    (case t13 => k_is)
    (case l13 => k_is)
    (case c13 => k_is)
    (case k13 => k_is)
    (case m_14 => k_is)
    (case r_14 => k_is)
    (case n_14 => k_is)
    (case l14 => k_is)
    (case c14 => k_is)
    (case k14 => k_is)
    (case m_15 => k_is)
    (case r_15 => k_is)
    (case n_15 => k_is)
    (case l15 => k_is)
    (case c15 => k_is)
    (case k15 => k_is)
    (case m_16 => k_is)
    (case s_16 => k_is)
    (case u_16 => k_is)
    (case r_16 => k_is)
    (case l16 => k_is)
    (case c16 => k_is)
    (case k16 => k_is)
    (case a17 => k_is)
    (case i17 => k_is)
    (case t17 => k_is)
    (case l17 => k_is)
    (case c17 => k_is)
    (case k17 => k_is)
    (case a18 => k_is)
    (case i18 => k_is)
    (case t18 => k_is)
    (case l18 => k_is)
    (case c18 => k_is)
    (case k18 => k_is)
    (case a19 => k_is)
    (case i19 => k_is)
    (case t19 => k_is)
    (case l19 => k_is)
    (case c19 => k_is)
    (case k19 => k_is)
    (case a20 => k_is)
    (case i20 => k_is)
    (case t20 => k_is)
    (case l20 => k_is)
    (case c20 => k_is)
    (case k20 => k_is)
    (case a21 => k_is)
    (case i21 => k_is)
    (case t21 => k_is)
    (case l21 => k_is)
    (case c21 => k_is)
    (case k21 => k_is)
    (case a22 => k_is)
    (case i22 => k_is)
    (case t22 => k_is)
    (case l22 => k_is)
    (case c22 => k_is)
    (case k22 => k_is)
    (case a23 => k_is)
    (case i23 => k_is)
    (case t23 => k_is)
    (case l23 => k_is)
    (case c23 => k_is)
    (case k23 => k_is)
    (case a24 => k_is)
    (case i24 => k_is)
    (case t24 => k_is)
    (case l24 => k_is)
    (case c24 => k_is)
    (case k24 => k_is)
    (case a25 => k_is)
    (case i25 => k_is)
    (case t25 => k_is)
    (case l25 => k_is)
    (case c25 => k_is)
    (case k25 => k_is)
    (case a26 => k_is)
    (case i26 => k_is)
    (case t26 => k_is)
    (case l26 => k_is)
    (case c26 => k_is)
    (case k26 => k_is)
    (case a27 => k_is)
    (case i27 => k_is)
    (case t27 => k_is)
    (case l27 => k_is)
    (case c27 => k_is)
    (case k27 => k_is)
    (case a28 => k_is)
    (case i28 => k_is)
    (case t28 => k_is)
    (case l28 => k_is)
    (case c28 => k_is)
    (case k28 => k_is)
    (case a29 => k_is)
    (case i29 => k_is)
    (case t29 => k_is)
    (case l29 => k_is)
    (case c29 => k_is)
    (case k29 => k_is)
    (case a30 => k_is)
    (case l30 => k_is)
    (case c30 => k_is)
    (case k30 => k_is)
    (case a31 => k_is)
    (case l31 => k_is)
    (case c31 => k_is)
    (case k31 => k_is)
    (case a32 => k_is)
    (case l32 => k_is)
    (case c32 => k_is)
    (case k32 => k_is)
    (case a33 => k_is)
    (case l33 => k_is)
    (case c33 => k_is)
    (case k33 => k_is)
    (case a34 => k_is)
    (case l34 => k_is)
    (case c34 => k_is)
    (case k34 => k_is)
    (case a35 => k_is)
    (case l35 => k_is)
    (case c35 => k_is)
    (case k35 => k_is)
    (case a36 => k_is)
    (case l36 => k_is)
    (case c36 => k_is)
    (case k36 => k_is)
    (case a37 => k_is)
    (case l37 => k_is)
    (case c37 => k_is)
    (case k37 => k_is)
    (case a38 => k_is)
    (case l38 => k_is)
    (case c38 => k_is)
    (case k38 => k_is)
    (case a39 => k_is)
    (case l39 => k_is)
    (case c39 => k_is)
    (case k39 => k_is)
    (case a40 => k_is)
    (case l40 => k_is)
    (case c40 => k_is)
    (case k40 => k_is)
    (case a41 => k_is)
    (case l41 => k_is)
    (case c41 => k_is)
    (case k41 => k_is)
    (case a42 => k_is)
    (case l42 => k_is)
    (case c42 => k_is)
    (case k42 => k_is)
    (case z_abs => k_is)
    (case z_bool => k_is)
    (case z_gcd => k_is)
    (case z_int => k_is)
    (case z_isinstance => k_is)
    (case z_len => k_is)
    (case z_list => k_is)
    (case z_max => k_is)
    (case z_min => k_is)
    (case z_range => k_is)
    (case z_str => k_is)
    (case z_sum => k_is)
    (case z_tuple => k_is)
    (case x_mk0_Poly => first | k_is | kit_is | rfl)
    (case x_kp_Poly => first | k_is | kit_is | rfl)
    (case x_pg_Poly => first | k_is | kit_is | rfl)
    (case x_hd_Poly => first | k_is | kit_is | rfl)
    (case x_po_Poly => first | k_is | kit_is | rfl)
    (case x_sa_Poly => first | k_is | kit_is | rfl)
    (case x_nc_Poly => first | k_is | kit_is | rfl)
    (case x_rd_Poly => first | k_is | kit_is | rfl)
    (case x_cg_Poly => first | k_is | kit_is | rfl)
    (case x_ha_Poly => first | k_is | kit_is | rfl)
    (case x_hn_Poly => first | k_is | kit_is | rfl)
    (case x_ht_Poly => first | k_is | kit_is | rfl)
    (case x_hm_Poly => first | k_is | kit_is | rfl)
    (case x_ki_Poly => first | k_is | kit_is | rfl)
    (case x_n_Poly => first | k_is | kit_is | rfl)
    (case x_k_int_Poly => first | k_is | kit_is | rfl)
    (case x_k_tuple_Poly => first | k_is | kit_is | rfl)
    (case x_k_list_Poly => first | k_is | kit_is | rfl)
    (case x_k_str_Poly => first | k_is | kit_is | rfl)
    (case x_q_int_Poly => first | k_is | kit_is | rfl)
    (case x_q_tuple_Poly => first | k_is | kit_is | rfl)
    (case x_q_list_Poly => first | k_is | kit_is | rfl)
    (case x_q_str_Poly => first | k_is | kit_is | rfl)
    (case x_q_own_Poly => first | k_is | kit_is | rfl)
    (case x_ne_Poly => first | k_is | kit_is | rfl)
    (case x_ob_Poly => first | k_is | kit_is | rfl)
    (case x_sf_Poly => first | k_is | kit_is | rfl)
    (case x_si_Poly => first | k_is | kit_is | rfl)
    (case x_ri_Poly => first | k_is | kit_is | rfl)
    (case x_i1add_Poly => first | k_is | kit_is | rfl)
    (case x_i2add_Poly => first | k_is | kit_is | rfl)
    (case x_iiadd_Poly => first | k_is | kit_is | rfl)
    (case x_ioadd_Poly => first | k_is | kit_is | rfl)
    (case x_i1sub_Poly => first | k_is | kit_is | rfl)
    (case x_i2sub_Poly => first | k_is | kit_is | rfl)
    (case x_iisub_Poly => first | k_is | kit_is | rfl)
    (case x_iosub_Poly => first | k_is | kit_is | rfl)
    (case x_mro_Poly => first | k_is | rfl | decide +kernel)
    (case x_i1mul_Poly => first | k_is | kit_is | rfl)
    (case x_i2mul_Poly => first | k_is | kit_is | rfl)
    (case x_iimul_Poly => first | k_is | kit_is | rfl)
    (case x_iomul_Poly => first | k_is | kit_is | rfl)
    (case x_i1pow_Poly => first | k_is | kit_is | rfl)
    (case x_i2pow_Poly => first | k_is | kit_is | rfl)
    (case x_rpow_Poly => first | k_is | kit_is | rfl)
    (case x_fi_Poly_call => first | k_is | kit_is | rfl)
