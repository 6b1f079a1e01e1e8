import PyProof.Rows.All
import Wide.All
import OpenK.AllK
import Wide.FinOn
import HandS.ForMost
import HandS.ForExc
import HandS.Steps
import HandS.Style
import HandS.Wide
import HandS.Gcd
import HandS.IsInst
import HandS.ExcInit
import HandS.Defaults
import HandS.Star
import HandS.Evl
import HandS.ExcField
import HandS.ExcIs
import HandS.ExcOwn
import HandS.RevRange
import KE.KExcIs
import HandS.Slots
import HandS.SlotsOwn
import HandS.Property
import HandS.ClsMeth
import KE.KOpsOwn
import PyProof.InstNe
import HandS.TupAny
import HandS.FStr
import HandS.Text
import HandS.Codes
import KE.BitLaws
import KE.GoesMore
import KE.KMathGC
import PySem.Challenge.RW_lookstop_k01_lowest_terms
set_option Elab.async false
set_option linter.all false
set_option maxRecDepth 100000
set_option maxHeartbeats 4000000
/-! Lk: short words for values (Val, Ans of HandS.Steps), own rules for great numbers, the laws' box of draws. -/
namespace Lk
open PySem L2
def ValA (ta : TA) (σ : L2.St) (H : Hp) (vs : List V) : Prop := ∀ Q : List V → Hp → Prop, Q vs H → ta σ H Q
def ifs (C : Prop) (D : Decidable C) : Bool := @decide C D
section
variable {σ : L2.St} {H : Hp} {i : Nat} {v x y z : V} {ta tb tc te tv : TE} {a b c : Bool} {K : PySem.W.Frag} {t u : TT} {k l m n : Int}
theorem val_op0 {g : Int → Int → V} (ha : Val ta σ H (.int k)) (hb : Val tb σ H (.int l)) : Val (tOp (rI0 g) ta tb) σ H (g k l) := fun Q q => ha _ (hb _ ⟨k, l, rfl, rfl, q⟩)
theorem val_opC {C : Int → Int → Prop} {g : Int → Int → V} (ha : Val ta σ H (.int k)) (hb : Val tb σ H (.int l)) (hc : C k l) : Val (tOp (rI C g) ta tb) σ H (g k l) := fun Q q => ha _ (hb _ ⟨k, l, rfl, rfl, hc, q⟩)
theorem val_un {g : Int → V} (ha : Val ta σ H (.int k)) : Val (tUn (rU g) ta) σ H (g k) := fun Q q => ha _ ⟨k, rfl, q⟩
theorem val_eq (ha : Val ta σ H x) (hb : Val tb σ H y) (hs : scal x y = true) : Val (tOp rEq ta tb) σ H (.bl (decide (x = y))) := fun Q q => ha _ (hb _ ⟨hs, q⟩)
theorem val_ne (ha : Val ta σ H x) (hb : Val tb σ H y) (hs : scal x y = true) : Val (tOp rNe ta tb) σ H (.bl (!decide (x = y))) := fun Q q => ha _ (hb _ ⟨hs, q⟩)
theorem val_isB (ha : Val ta σ H (.bl a)) (hb : Val tb σ H (.bl b)) : Val (tOp rIsB ta tb) σ H (.bl (decide (a = b))) := fun Q q => ha _ (hb _ ⟨a, b, rfl, rfl, q⟩)
theorem val_notB (ha : Val ta σ H (.bl a)) (hb : Val tb σ H (.bl b)) : Val (tOp rNotB ta tb) σ H (.bl (!decide (a = b))) := fun Q q => ha _ (hb _ ⟨a, b, rfl, rfl, q⟩)
theorem val_andV (ha : Val ta σ H (.bl a)) (hb : a = true → Val tb σ H (.bl b)) : Val (tAndV ta tb) σ H (.bl (a && b)) := fun Q q => ha _ ⟨a, rfl, by
  cases a with
  | true => exact hb rfl Q q
  | false => exact q⟩
theorem val_orV (ha : Val ta σ H (.bl a)) (hb : a = false → Val tb σ H (.bl b)) : Val (tOrV ta tb) σ H (.bl (a || b)) := fun Q q => ha _ ⟨a, rfl, by
  cases a with
  | true => exact q
  | false => exact hb rfl Q q⟩
theorem val_notV (ha : Val ta σ H (.bl a)) : Val (tNotV ta) σ H (.bl (!a)) := fun Q q => ha _ ⟨a, rfl, q⟩
theorem val_chain {p q : Int → Int → Bool} (ha : Val ta σ H (.int k)) (hb : Val tb σ H (.int l)) (hc : Val tc σ H (.int m)) : Val (tChain (rI0 fun i j => .bl (p i j)) (rI0 fun i j => .bl (q i j)) ta tb tc) σ H (.bl (p k l && q l m)) := fun Q h => ha _ (hb _ ⟨k, l, rfl, rfl, p k l, rfl, by
  cases hp : p k l with
  | true => exact hc _ ⟨l, m, rfl, rfl, by rw [hp] at h; exact h⟩
  | false => rw [hp] at h; exact h⟩)
theorem val_if (ht : Ans t σ H b) (h1 : b = true → Val ta σ H v) (h2 : b = false → Val tb σ H v) : Val (tIf t ta tb) σ H v := fun Q q => ht _ (by
  cases b with
  | true => exact h1 rfl Q q
  | false => exact h2 rfl Q q)
theorem va_nil : ValA tNil σ H [] := fun _ q => q
theorem va_cons {tr : TA} {vs : List V} (ha : Val ta σ H x) (hr : ValA tr σ H vs) : ValA (tCons ta tr) σ H (x :: vs) := fun _ q => ha _ (hr _ q)
theorem val_cb {r : List V → Hp → VK → Prop} {tr : TA} {vs : List V} (h : ValA tr σ H vs) (hr : ∀ Q : VK, Q z H → r vs H Q) : Val (tCB r tr) σ H z := fun Q q => h _ (hr Q q)
theorem val_call {sp : Sp} {dvs vs : List V} {E : XK} {tr : TA} (h : ValA tr σ H vs) (hr : ∀ Q : VK, Q z H → sp (vs ++ dvs) H Q E) : Val (tCall sp dvs E tr) σ H z := fun Q q => h _ (hr Q q)
theorem val_gcd (ha : Val ta σ H (.int k)) (hb : Val tb σ H (.int l)) : Val (tCB rGcd (tCons ta (tCons tb tNil))) σ H (.int ((Nat.gcd k.natAbs l.natAbs : Nat) : Int)) := fun Q q => ha _ (hb _ ⟨k, l, rfl, q⟩)
theorem iabs (k : Int) : (if k < 0 then -k else k) = ((k.natAbs : Nat) : Int) := by
  by_cases h : k < 0
  · rw [if_pos h]; omega
  · rw [if_neg h]; omega
theorem val_abs (ha : Val ta σ H (.int k)) : Val (tCB (fun xs H Q => ∃ i, xs = [V.int i] ∧ Q (V.int (if i < 0 then -i else i)) H) (tCons ta tNil)) σ H (.int ((k.natAbs : Nat) : Int)) := fun Q q => ha _ ⟨k, rfl, by rw [iabs]; exact q⟩
theorem val_int (ha : Val ta σ H (.int k)) : Val (tCB (fun xs H Q => (∃ i, xs = [V.int i] ∧ Q (V.int i) H) ∨ ∃ k, xs = [V.bl k] ∧ Q (V.int (if k then 1 else 0)) H) (tCons ta tNil)) σ H (.int k) := fun Q q => ha _ (.inl ⟨k, rfl, q⟩)
theorem val_ixL {p : Addr} {xs : List V} (ha : Val ta σ H (.ref p)) (hb : Val tb σ H (.int k)) (hs : SqL K H p xs) (hx : atI xs k = some v) : Val (tOp (rIxL K) ta tb) σ H v := fun Q q => ha _ (hb _ ⟨p, xs, k, v, rfl, rfl, hs, hx, q⟩)
theorem val_ixT {p : Addr} {xs : List V} (ha : Val ta σ H (.ref p)) (hb : Val tb σ H (.int k)) (hs : SqT K H p xs) (hx : atI xs k = some v) : Val (tOp (rIxT K) ta tb) σ H v := fun Q q => ha _ (hb _ ⟨p, xs, k, v, rfl, rfl, hs, hx, q⟩)
theorem val_to {w : V} (h : Val te σ H w) (e : w = v) : Val te σ H v := e ▸ h
theorem atI_nat {xs : List V} {j : Nat} (h : xs[j]? = some v) : atI xs (j : Int) = some v := by
  have hj : j < xs.length := (List.getElem?_eq_some_iff.mp h).1
  unfold atI ixN
  rw [if_pos (Int.natCast_nonneg j), if_pos (by omega)]
  exact h
theorem atI_of {xs : List V} (h0 : 0 ≤ k) (h : xs[k.toNat]? = some v) : atI xs k = some v := by
  have e : ((k.toNat : Nat) : Int) = k := Int.toNat_of_nonneg h0
  rw [← e]
  exact atI_nat h

theorem ans_of (ha : Val te σ H (.bl a)) : Ans (tTest te) σ H a := fun Q q => ha _ ⟨a, rfl, q⟩
theorem ans_B (ha : Val te σ H (.bl a)) : Ans (tB te) σ H a := fun Q q => ha _ ⟨a, rfl, q⟩
theorem ans_and' (ha : Ans t σ H a) (hb : a = true → Ans u σ H b) : Ans (tAnd t u) σ H (a && b) := fun Q q => ha _ (by
  cases a with
  | true => exact hb rfl Q q
  | false => exact q)
theorem ans_or' (ha : Ans t σ H a) (hb : a = false → Ans u σ H b) : Ans (tOr t u) σ H (a || b) := fun Q q => ha _ (by
  cases a with
  | true => exact q
  | false => exact hb rfl Q q)

variable {D : Ends} {t1 t2 t3 : TS}
theorem q_set (h : Val te σ H v) (q : t2 D (σ.set i (some v)) H) : tSeq (tAsg te (gName i)) t2 D σ H := h _ q
theorem s_set (h : Val te σ H v) (q : D.nx (σ.set i (some v)) H) : tAsg te (gName i) D σ H := h _ q
theorem s_ret (h : Val te σ H v) (q : D.rt v H) : tRet te D σ H := h _ q
theorem q_if (h : Ans t σ H b) (h1 : b = true → t1 { D with nx := t3 D } σ H) (h2 : b = false → t2 { D with nx := t3 D } σ H) : tSeq (tIfS t t1 t2) t3 D σ H := h _ (by
  cases b with
  | true => exact h1 rfl
  | false => exact h2 rfl)
theorem s_if (h : Ans t σ H b) (h1 : b = true → t1 D σ H) (h2 : b = false → t2 D σ H) : tIfS t t1 t2 D σ H := h _ (by
  cases b with
  | true => exact h1 rfl
  | false => exact h2 rfl)
/-- an if without else -/
theorem q_when (h : Ans t σ H b) (h1 : b = true → t1 { D with nx := t3 D } σ H) (h2 : b = false → t3 D σ H) : tSeq (tIfS t t1 tNext) t3 D σ H := q_if h h1 h2
theorem s_when (h : Ans t σ H b) (h1 : b = true → t1 D σ H) (h2 : b = false → D.nx σ H) : tIfS t t1 tNext D σ H := s_if h h1 h2
theorem q_whileA (W : Nat → L2.St → Hp → Prop) (m0 : Nat) (h0 : W m0 σ H)
    (hs : ∀ m σ' H', W m σ' H' → ∃ b, Ans t σ' H' b ∧ (b = true → ∀ N : L2.St → Hp → Prop, (∀ σ2 H2 m', m' < m → W m' σ2 H2 → N σ2 H2) → t1 { D with nx := N, ct := N, bk := t2 D } σ' H') ∧ (b = false → t2 D σ' H')) : tSeq (tWhile t t1) t2 D σ H :=
  ⟨W, ⟨m0, h0⟩, fun m σ' H' w => by
    obtain ⟨b, hb, h1, h2⟩ := hs m σ' H' w
    refine hb _ ?_
    cases b with
    | true => exact ⟨fun σ2 H2 => ∃ m', m' < m ∧ W m' σ2 H2, fun _ _ n => n, h1 rfl _ fun σ2 H2 m' l w' => ⟨m', l, w'⟩⟩
    | false => exact h2 rfl⟩
/-! the same by the reading itself -/
theorem qS {te : TE} (h : te σ H fun x H1 => t2 D (σ.set i (some x)) H1) : tSeq (tAsg te (gName i)) t2 D σ H := h
theorem sS {te : TE} (h : te σ H fun x H1 => D.nx (σ.set i (some x)) H1) : tAsg te (gName i) D σ H := h
theorem qB {te to ti : TE} {r : TSet} (h : te σ H fun x H1 => to σ H1 fun o H2 => ti σ H2 fun j H3 => r o j x H3 fun H4 => t2 D σ H4) : tSeq (tAsg te (gSub to ti r)) t2 D σ H := h
theorem sB {te to ti : TE} {r : TSet} (h : te σ H fun x H1 => to σ H1 fun o H2 => ti σ H2 fun j H3 => r o j x H3 fun H4 => D.nx σ H4) : tAsg te (gSub to ti r) D σ H := h
theorem qI (h : t σ H fun b H1 => if b = true then t1 { D with nx := t3 D } σ H1 else t2 { D with nx := t3 D } σ H1) : tSeq (tIfS t t1 t2) t3 D σ H := h
theorem sI (h : t σ H fun b H1 => if b = true then t1 D σ H1 else t2 D σ H1) : tIfS t t1 t2 D σ H := h
theorem qW (h : t σ H fun b H1 => if b = true then t1 { D with nx := t3 D } σ H1 else t3 D σ H1) : tSeq (tIfS t t1 tNext) t3 D σ H := h
theorem sW (h : t σ H fun b H1 => if b = true then t1 D σ H1 else D.nx σ H1) : tIfS t t1 tNext D σ H := h
theorem qD {te : TE} (h : te σ H fun _ H1 => t2 D σ H1) : tSeq (tDrop te) t2 D σ H := h
theorem sD {te : TE} (h : te σ H fun _ H1 => D.nx σ H1) : tDrop te D σ H := h
theorem sR {te : TE} (h : te σ H D.rt) : tRet te D σ H := h
theorem qU2 {te : TE} {i j : Nat} {p : Addr} {x y : V} (h : Val te σ H (.ref p)) (ht : SqT K H p [x, y]) (q : t2 D ((σ.set i (some x)).set j (some y)) H) : tSeq (tAsg te (gTup K 2 (gCons (gName i) (gCons (gName j) gNil)))) t2 D σ H :=
  h _ ⟨p, _, rfl, ht, rfl, x, [y], rfl, y, [], rfl, rfl, q⟩
theorem call_of {sp : Sp} {dvs vs : List V} {E : XK} {tr : TA} {Q : VK} (h : ValA tr σ H vs) (hr : sp (vs ++ dvs) H Q E) : tCall sp dvs E tr σ H Q := h _ hr
theorem q_call {sp : Sp} {dvs vs : List V} {E : XK} {tr : TA} (h : ValA tr σ H vs) (hr : sp (vs ++ dvs) H (fun x H1 => t2 D (σ.set i (some x)) H1) E) : tSeq (tAsg (tCall sp dvs E tr) (gName i)) t2 D σ H := h _ hr
theorem s_rcall {sp : Sp} {dvs vs : List V} {E : XK} {tr : TA} (h : ValA tr σ H vs) (hr : sp (vs ++ dvs) H D.rt E) : tRet (tCall sp dvs E tr) D σ H := h _ hr
theorem va_at {ta : TA} {vs : List V} {Q : List V → Hp → Prop} (h : ValA ta σ H vs) (q : Q vs H) : ta σ H Q := h Q q
theorem va_atC {ta : TE} {tr : TA} {vs : List V} {Q : List V → Hp → Prop} (h : ValA (tCons ta tr) σ H vs) (q : Q vs H) : tCons ta tr σ H Q := h Q q
theorem s_par {i j : Nat} {tr : TA} {v w : V} (h : ValA tr σ H [v, w]) (q : D.nx ((σ.set i (some v)).set j (some w)) H) : tPar i j tr D σ H := h _ ⟨v, w, rfl, q⟩
theorem q_par {i j : Nat} {tr : TA} {v w : V} (h : ValA tr σ H [v, w]) (q : t2 D ((σ.set i (some v)).set j (some w)) H) : tSeq (tPar i j tr) t2 D σ H := h _ ⟨v, w, rfl, q⟩
end

theorem _root_.L2.Val.at {te : TE} {σ : L2.St} {H : Hp} {v : V} {Q : VK} (h : Val te σ H v) (q : Q v H) : te σ H Q := h Q q
/-! ### == of pairs of ints -/
theorem eqv_pair {a b c d : Int} : PyData.eqv (.tuple [.int a, .int b]) (.tuple [.int c, .int d]) = (a == c && b == d) := by
  simp [PyData.eqv, PyData.eqvAll]
theorem rEq2 {K : PySem.W.Frag} {H : Hp} {p q : Addr} {a b c d : Int} {Q : VK} (hp : H p = some (.tup [.int a, .int b])) (hq : H q = some (.tup [.int c, .int d])) (k : Q (.bl (a == c && b == d)) H) : rEqD K (.ref p) (.ref q) H Q :=
  ⟨.tuple [.int a, .int b], .tuple [.int c, .int d], .tup (SqT.of hp) (.cons (.int a) (.cons (.int b) .nil)), .tup (SqT.of hq) (.cons (.int c) (.cons (.int d) .nil)), rfl, rfl, by rw [eqv_pair]; exact k⟩
theorem rNe2 {K : PySem.W.Frag} {H : Hp} {p q : Addr} {a b c d : Int} {Q : VK} (hp : H p = some (.tup [.int a, .int b])) (hq : H q = some (.tup [.int c, .int d])) (k : Q (.bl (!(a == c && b == d))) H) : rNeD K (.ref p) (.ref q) H Q :=
  ⟨.tuple [.int a, .int b], .tuple [.int c, .int d], .tup (SqT.of hp) (.cons (.int a) (.cons (.int b) .nil)), .tup (SqT.of hq) (.cons (.int c) (.cons (.int d) .nil)), rfl, rfl, by rw [eqv_pair]; exact k⟩

/-! ### // of great ints by a divisor of either sign -/
section
variable {X : Cx}
def CDivZ (_ j : Int) : Prop := j ≠ 0 ∧ j.natAbs.log2 < 9000
theorem op_fdivZ : OpR X (binaryOp .FloorDiv) (rI CDivZ fun i j => .int (i.fdiv j)) := opI fun i j _ _ _ _ _ hc q => PyProof.Rows.floordiv_int hc.1 q (.inl (PyProof.noPylong_of_log2 hc.2))
end
/-- a def with defaults, called with keywords (no keyword-only parameters) -/
theorem kbinds1 {K : PySem.W.Frag} {x qual : Str} {params : Arguments} {body : List Stmt} {scope : Scope} {dvs : List V} {kws : List (Str × V)} {f : Addr} {fd : FuncData} {ps : List Str} (F : FunD K x qual params body scope dvs kws f fd) (n : Nat) (ks : List Str)
    (g : {α : Type} → List α → List α → List α → List α) (hd : dvs ≠ []) (hrel : ∀ {vs ds zs : List V} {us its ws : List Value}, Vals vs us → Vals ds its → Vals zs ws → Vals (g vs ds zs) (g us its ws))
    (h : ∀ (T : Addr) (kV doc pm : Value) (an : Option Addr) (cdv ct : Value) (us its ws : List Value), us.length = n → its.length = dvs.length → ws.length = ks.length →
      ∃ k, bindArgs (PySem.W.fnOf x qual params body scope (.ref T) kV doc pm an cdv ct) ⟨us, ks.zip ws⟩ = seqItems? (.ref T) >>= k ∧ k (some its.toArray) = pure (ps.zip (g us its ws))) :
    ∃ its : List Value, KBn K fd ps n ks (fun us ws => g us its ws) (fun vs zs => g vs dvs zs) := by
  obtain ⟨oc, od, dV, kV, doc, pm, an, cdv, ct, osl, rfl, lk, hcd, hD, hK⟩ := F.ex
  rcases hD with ⟨e, _⟩ | ⟨_, T, o, its, m, rfl, lT, oT, rT⟩
  · exact absurd e hd
  · refine ⟨its, ⟨fun s us ws X l1 l2 => ?_, fun r1 r2 => hrel r1 rT r2⟩⟩
    obtain ⟨k, e1, e2⟩ := h T kV doc pm an cdv ct us its ws l1 rT.length.symm l2
    refine BindsTo.of_looks fun M => ?_
    rw [e1]
    exact looks_items X lT oT (.of_pure e2)
theorem vals_nil {us : List Value} (h : Vals [] us) : us = [] := by
  cases h
  rfl
/-- a new object leaves the elder ones as they are -/
theorem kept {H : Hp} {p q : Addr} {o u : HO} (h : H p = some u) (hq : H q = none) : (upd H q o) p = some u := (upd_ne (ne_of_none h hq)).trans h
theorem passF {X : Cx} : Passes CX0 X (fun _ _ _ => False) := fun _ _ _ _ _ _ _ h => h.elim
theorem log2_lt {n b : Nat} (h0 : 0 < b) (h : n < 2 ^ b) : n.log2 < b := PySem.Flt.log2_lt_of h0 h

theorem lgp {x : Int} {n : Nat} (h : x.natAbs < 2 ^ n) (h0 : 0 < n := by decide) (h9 : n ≤ 9000 := by decide) : x.natAbs.log2 < 9000 := Nat.lt_of_lt_of_le (log2_lt h0 h) h9

/-! ### lists of a few written ints, asked by a draw -/
theorem pick (xs : List Int) (lo hi : Int) (hb : ∀ x ∈ xs, lo ≤ x ∧ x ≤ hi) {d : Int} (h0 : 0 ≤ d) (h1 : d < (xs.length : Int)) : ∃ s, atI (xs.map V.int) d = some (V.int s) ∧ lo ≤ s ∧ s ≤ hi := by
  have hd : d.toNat < xs.length := by omega
  have hm : xs[d.toNat] ∈ xs := List.getElem_mem hd
  obtain ⟨h2, h3⟩ := hb _ hm
  exact ⟨xs[d.toNat], atI_of h0 (by rw [List.getElem?_map, List.getElem?_eq_getElem hd]; rfl), h2, h3⟩

theorem pickP (xs : List Int) (P : Int → Prop) (hb : ∀ x ∈ xs, P x) {d : Int} (h0 : 0 ≤ d) (h1 : d < (xs.length : Int)) : ∃ s, atI (xs.map V.int) d = some (V.int s) ∧ P s ∧ ixN xs.length d = some d.toNat := by
  have hd : d.toNat < xs.length := by omega
  refine ⟨xs[d.toNat], atI_of h0 (by rw [List.getElem?_map, List.getElem?_eq_getElem hd]; rfl), hb _ (List.getElem_mem hd), ?_⟩
  unfold ixN
  rw [if_pos h0, if_pos h1]

/-! ### the laws' box: a list of cells, a place, a state -/
/-- the box stands at b, its cells at c -/
def BoxAt (H : Hp) (b c : Addr) : Prop := ∃ (ns : List Int) (k s : Int), H b = some (.lst [.ref c, .int k, .int s]) ∧ H c = some (.lst (ns.map V.int)) ∧ ns.length ≤ 63 ∧ (∀ x ∈ ns, 0 ≤ x) ∧ 0 ≤ k ∧ 0 ≤ s ∧ s < 2147483647
/-- all else stands as it stood -/
def Ext (b c : Addr) (H H' : Hp) : Prop := ∀ a o, a ≠ b → a ≠ c → H a = some o → H' a = some o
theorem BoxAt.ne {H : Hp} {b c : Addr} (h : BoxAt H b c) : b ≠ c := by
  obtain ⟨ns, k, s, h1, h2, _⟩ := h
  intro e
  rw [← e, h1] at h2
  cases ns with
  | nil => cases h2
  | cons n ns => cases h2
theorem BoxAt.same {H H' : Hp} {b c : Addr} (h : BoxAt H b c) (e : Same H H') : BoxAt H' b c := by
  obtain ⟨ns, k, s, h1, h2, r⟩ := h
  exact ⟨ns, k, s, e _ _ h1, e _ _ h2, r⟩
theorem BoxAt.neb {H : Hp} {b c p : Addr} (h : BoxAt H b c) (hp : H p = none) : p ≠ b ∧ p ≠ c := by
  obtain ⟨ns, k, s, h1, h2, r⟩ := h
  exact ⟨fun e => (by rw [e, h1] at hp; cases hp), fun e => (by rw [e, h2] at hp; cases hp)⟩
theorem Ext.refl {b c : Addr} {H : Hp} : Ext b c H H := fun _ _ _ _ h => h
theorem Ext.trans {b c : Addr} {H H1 H2 : Hp} (e : Ext b c H H1) (f : Ext b c H1 H2) : Ext b c H H2 := fun a o x y h => f a o x y (e a o x y h)
theorem Ext.of {b c : Addr} {H H1 : Hp} (e : Same H H1) : Ext b c H H1 := fun a o _ _ h => e a o h
theorem same_upd {H : Hp} {p : Addr} {o : HO} (hp : H p = none) : Same H (upd H p o) := fun b u e => by
  rw [upd_ne (ne_of_none e hp)]
  exact e

def spBox (K : PySem.W.Frag) : Sp := fun vs H Q _ => ∃ (a : Addr) (ns : List Int), vs = [.ref a] ∧ SqL K H a (ns.map V.int) ∧ ns.length ≤ 63 ∧ ∀ b c H', Same H H' → H b = none → H c = none → BoxAt H' b c → Q (.ref b) H'
def spTake : Sp := fun vs H Q _ => ∃ (b c : Addr) (n : Int), vs = [.ref b, .int n] ∧ BoxAt H b c ∧ 0 < n ∧ n.natAbs.log2 < 9000 ∧ ∀ (d : Int) H', 0 ≤ d → d < n → BoxAt H' b c → (∀ a, a ≠ b → a ≠ c → H' a = H a) → Q (.int d) H'
def spGcd : Sp := fun vs H Q _ => ∃ (m n : Int), vs = [.int m, .int n] ∧ Q (.int ((Nat.gcd m.natAbs n.natAbs : Nat) : Int)) H
theorem val_gcdc {σ : L2.St} {H : Hp} {ta tb : TE} {k l : Int} {E : XK} (ha : Val ta σ H (.int k)) (hb : Val tb σ H (.int l)) : Val (tCall spGcd [] E (tCons ta (tCons tb tNil))) σ H (.int ((Nat.gcd k.natAbs l.natAbs : Nat) : Int)) := fun Q q => ha _ (hb _ ⟨k, l, rfl, q⟩)
end Lk
/-! own exceptions with a field, caught: what the class must say, isinstance of the caught one -/
namespace Lk
open PySem L2
structure ExcK (K : PySem.W.Frag) (D : Addr) : Prop where
  cl : (PySem.W.clsIn K D).isSome = true
  ga : PySem.W.findIn K (.ref D) "__getattribute__" = some (some (.builtin "BaseException.__getattribute__"))
  gg : PySem.W.findIn K (.ref D) "__getattr__" = some none
  ex : PySem.W.subIn K (.ref D) (.type "BaseException") = some true
  ha : PySem.W.findIn K (.ref D) "__class__" = some (some (.builtin "object.__class__"))
  hn : PySem.W.specialIn K (.builtin "object.__class__") "__get__" = some (some (.builtin "getset_descriptor.__get__"))
  ht : PySem.W.takesIn K (.builtin "object.__class__") = some true
  hm : PySem.W.mroIn K D (.type "object") = some true
def rIsX (K : PySem.W.Frag) (a : Addr) (cls : Value) (d : Option Addr) : List V → Hp → VK → Prop := fun xs H Q => ∃ (c : V) (cv : Value) (b : Bool) (D dd : Addr) (fs : List (Str × V)),
  xs = [.ref a, c] ∧ cls = .ref D ∧ d = some dd ∧ ExcK K D ∧ H dd = some (.xd fs) ∧ (∀ u, RelV c u → u = cv) ∧ PySem.W.kitOne K (.ref D) cv = some b ∧ Q (.bl b) H
theorem call_isX {X : Cx} {a : Addr} {cls : Value} {d : Option Addr} {oe : Obj} {pn : List (Addr × Obj)} (hz : Zc cls d oe) (hf : ∃ vs, oe.data = .fields vs) : CallR (X.suite a ((a, oe) :: pn)) (.builtin "isinstance") (rIsX X.K a cls d) := by
  intro pins s σ H xs us Q I r h
  obtain ⟨c, cv, b, D, dd, fs, rfl, rfl, rfl, T, ea, hcv, e, q⟩ := h
  cases r with
  | cons rx rr =>
    cases rr with
    | cons rt rr =>
      cases rr
      cases rx
      have ec := hcv _ rt
      subst ec
      obtain ⟨hget, _⟩ := I.pin (a, oe) (List.mem_append.mpr (.inl List.mem_cons_self))
      obtain ⟨vs, hv⟩ := hf
      have hx : ObjOk X.prog X.w H s.heap dd (.xd fs) := I.hok dd _ ea
      obtain ⟨mA, hns, hr⟩ := hx
      obtain ⟨od, ho, hl⟩ := lookIn_ns hns
      have J : PySem.W.InstAt s.heap a oe D (some od) := ⟨hget, hz.1, by unfold PySem.W.notCls; rw [hv] <;> rfl, by rw [hz.2]; exact ho⟩
      exact PySem.W.kia_one (PySem.W.kitx_exc T.cl T.ga T.gg T.ex T.ha T.hn T.ht T.hm) I.kIn J e (fun z => nomatch z) fun tk => ⟨.bl b, H, I.tok tk, rfl, q⟩
/-- __init__(self, v): self.f = v, of an exception's class -/
def spExcInit (C : Addr) (f : Str) : Sp := fun vs H Q _ => ∃ (a : Addr) (v : V), vs = [.ref a, v] ∧ H a = some (exo a C none) ∧ ∀ dx, H dx = none → dx ≠ a → Q .non (upd (upd H dx (exd dx [(f, v)])) a (exo a C (some dx)))
/-- what is raised: an error of the class C whose field f is v -/
def Raised (C : Addr) (f : Str) (v : V) (H : Hp) (E : XK) : Prop := ∀ d H', Same H H' → H d = none → H' d = some (.xd [(f, v)]) → E (.ref C) (some d) H'
theorem raised_end {C a d : Addr} {f : Str} {v : V} {H : Hp} {E : XK} (ha : H a = none) (hd : H d = none) (hda : d ≠ a) (k : Raised C f v H E) : E (.ref C) (some d) (upd (del (upd (upd (upd H a (exo a C none)) d (exd d [(f, v)])) a (exo a C (some d))) a) d (.xd [(f, v)])) := by
  refine k d _ (fun b o e => ?_) hd upd_same
  have hb : b ≠ a := ne_of_none e ha
  have hbd : b ≠ d := ne_of_none e hd
  rw [upd_ne hbd, del_ne hb, upd_ne hb, upd_ne hbd, upd_ne hb]
  exact e
end Lk
/-! ratios: the mathematics -/
namespace Lk
/-- the signed greatest common divisor that ratio divides by -/
def rdiv (n d : Int) : Int := if d < 0 then -((Nat.gcd n.natAbs d.natAbs : Nat) : Int) else ((Nat.gcd n.natAbs d.natAbs : Nat) : Int)
def ratN (n d : Int) : Int := n.fdiv (rdiv n d)
def ratD (n d : Int) : Int := d.fdiv (rdiv n d)
/-- a/b is in lowest terms -/
def Low (a b : Int) : Prop := 1 ≤ b ∧ Nat.gcd a.natAbs b.natAbs = 1
theorem rdiv_ne {n d : Int} (hd : d ≠ 0) : rdiv n d ≠ 0 := by
  have hg : 0 < Nat.gcd n.natAbs d.natAbs := Nat.gcd_pos_of_pos_right _ (by omega)
  unfold rdiv
  split <;> omega
theorem rdiv_natAbs (n d : Int) : (rdiv n d).natAbs = Nat.gcd n.natAbs d.natAbs := by
  unfold rdiv
  split <;> omega
theorem fdiv_of_mul {a b c : Int} (hb : b ≠ 0) (h : a = c * b) : a.fdiv b = c := by
  rw [h]
  exact Int.mul_fdiv_cancel _ hb
theorem dvd_rdiv_left (n d : Int) : rdiv n d ∣ n := Int.natAbs_dvd_natAbs.mp (by rw [rdiv_natAbs]; exact Nat.gcd_dvd_left _ _)
theorem dvd_rdiv_right (n d : Int) : rdiv n d ∣ d := Int.natAbs_dvd_natAbs.mp (by rw [rdiv_natAbs]; exact Nat.gcd_dvd_right _ _)
theorem ratN_mul {n d : Int} (hd : d ≠ 0) : ratN n d * rdiv n d = n := by
  obtain ⟨c, hc⟩ := dvd_rdiv_left n d
  have : ratN n d = c := fdiv_of_mul (rdiv_ne hd) (by rw [Int.mul_comm]; exact hc)
  rw [this, Int.mul_comm]
  exact hc.symm
theorem ratD_mul {n d : Int} (hd : d ≠ 0) : ratD n d * rdiv n d = d := by
  obtain ⟨c, hc⟩ := dvd_rdiv_right n d
  have : ratD n d = c := fdiv_of_mul (rdiv_ne hd) (by rw [Int.mul_comm]; exact hc)
  rw [this, Int.mul_comm]
  exact hc.symm
theorem rat_low {n d : Int} (hd : d ≠ 0) : Low (ratN n d) (ratD n d) := by
  have h1 := ratN_mul (n := n) hd
  have h2 := ratD_mul (n := n) hd
  have h3 := rdiv_ne (n := n) hd
  have hg := rdiv_natAbs n d
  have gpos : 0 < Nat.gcd n.natAbs d.natAbs := Nat.gcd_pos_of_pos_right _ (by omega)
  constructor
  · by_cases hneg : d < 0
    · have hr : rdiv n d < 0 := by
        unfold rdiv
        rw [if_pos hneg]
        omega
      by_cases hb : 1 ≤ ratD n d
      · exact hb
      · have : 0 ≤ ratD n d * rdiv n d := Int.mul_nonneg_of_nonpos_of_nonpos (by omega) (by omega)
        omega
    · have hr : 0 < rdiv n d := by
        unfold rdiv
        rw [if_neg hneg]
        omega
      by_cases hb : 1 ≤ ratD n d
      · exact hb
      · have : ratD n d * rdiv n d ≤ 0 := Int.mul_nonpos_of_nonpos_of_nonneg (by omega) (by omega)
        omega
  · have e1 : (ratN n d).natAbs * Nat.gcd n.natAbs d.natAbs = n.natAbs := by rw [← hg, ← Int.natAbs_mul, h1]
    have e2 : (ratD n d).natAbs * Nat.gcd n.natAbs d.natAbs = d.natAbs := by rw [← hg, ← Int.natAbs_mul, h2]
    have e3 : Nat.gcd ((ratN n d).natAbs * Nat.gcd n.natAbs d.natAbs) ((ratD n d).natAbs * Nat.gcd n.natAbs d.natAbs) = Nat.gcd n.natAbs d.natAbs := by rw [e1, e2]
    rw [Nat.gcd_mul_right] at e3
    exact Nat.eq_of_mul_eq_mul_right gpos (by rw [Nat.one_mul]; exact e3)
theorem rat_cross {n d : Int} (hd : d ≠ 0) : ratN n d * d = n * ratD n d := by
  have h1 := ratN_mul (n := n) hd
  have h2 := ratD_mul (n := n) hd
  have e : ratN n d * (ratD n d * rdiv n d) = ratN n d * rdiv n d * ratD n d := by
    rw [Int.mul_assoc, Int.mul_comm (rdiv n d)]
  rw [h2, h1] at e
  exact e
theorem low_unique {a b c d : Int} (h1 : Low a b) (h2 : Low c d) (h : a * d = c * b) : a = c ∧ b = d := by
  obtain ⟨b1, g1⟩ := h1
  obtain ⟨d1, g2⟩ := h2
  have hN : a.natAbs * d.natAbs = c.natAbs * b.natAbs := by rw [← Int.natAbs_mul, h, Int.natAbs_mul]
  have x1 : b.natAbs ∣ d.natAbs := Nat.Coprime.dvd_of_dvd_mul_left (show Nat.Coprime b.natAbs a.natAbs from (Nat.gcd_comm _ _).trans g1) ⟨c.natAbs, by rw [hN, Nat.mul_comm]⟩
  have x2 : d.natAbs ∣ b.natAbs := Nat.Coprime.dvd_of_dvd_mul_left (show Nat.Coprime d.natAbs c.natAbs from (Nat.gcd_comm _ _).trans g2) ⟨a.natAbs, by rw [← hN, Nat.mul_comm]⟩
  have e : b.natAbs = d.natAbs := Nat.dvd_antisymm x1 x2
  have e2 : b = d := by omega
  subst e2
  exact ⟨Int.eq_of_mul_eq_mul_right (by omega) h, rfl⟩
theorem low_rat {a b : Int} (h : Low a b) : ratN a b = a ∧ ratD a b = b := by
  have hb : b ≠ 0 := by
    have := h.1
    omega
  have e := low_unique (rat_low (n := a) hb) h (rat_cross hb)
  exact e
theorem rat_neg {n d : Int} (hd : d ≠ 0) : ratN (-n) (-d) = ratN n d ∧ ratD (-n) (-d) = ratD n d := by
  have hd' : -d ≠ 0 := by omega
  refine low_unique (rat_low hd') (rat_low hd) ?_
  have h1 := rat_cross (n := n) hd
  have h2 := rat_cross (n := -n) hd'
  have e1 : ratN (-n) (-d) * d = n * ratD (-n) (-d) := by
    rw [Int.mul_neg, Int.neg_mul] at h2
    omega
  -- multiply by d
  have e2 : (ratN (-n) (-d) * ratD n d) * d = (ratN n d * ratD (-n) (-d)) * d := by
    rw [Int.mul_right_comm, e1, Int.mul_right_comm (ratN n d), h1, Int.mul_right_comm]
  exact Int.eq_of_mul_eq_mul_right hd e2
theorem rat_one (n : Int) : ratN n 1 = n ∧ ratD n 1 = 1 := low_rat ⟨by omega, by simp⟩
theorem rdiv_log {n d : Int} (hd : d ≠ 0) (h : d.natAbs.log2 < 9000) : (rdiv n d).natAbs.log2 < 9000 := by
  rw [rdiv_natAbs]
  have hle : Nat.gcd n.natAbs d.natAbs ≤ d.natAbs := Nat.gcd_le_right _ (by omega)
  have hlt : d.natAbs < 2 ^ 9000 := (Nat.log2_lt (by omega)).mp h
  by_cases h0 : Nat.gcd n.natAbs d.natAbs = 0
  · rw [h0]
    decide
  · exact (Nat.log2_lt h0).mpr (Nat.lt_of_le_of_lt hle hlt)
theorem ratN_le {n d : Int} (hd : d ≠ 0) : (ratN n d).natAbs ≤ n.natAbs := by
  have h1 := ratN_mul (n := n) hd
  have e : (ratN n d).natAbs * (rdiv n d).natAbs = n.natAbs := by rw [← Int.natAbs_mul, h1]
  have h3 := rdiv_ne (n := n) hd
  rw [← e]
  exact Nat.le_mul_of_pos_right _ (by omega)
theorem ratD_le {n d : Int} (hd : d ≠ 0) : (ratD n d).natAbs ≤ d.natAbs := by
  have h1 := ratD_mul (n := n) hd
  have e : (ratD n d).natAbs * (rdiv n d).natAbs = d.natAbs := by rw [← Int.natAbs_mul, h1]
  have h3 := rdiv_ne (n := n) hd
  have h4 : (ratD n d).natAbs ≤ (ratD n d).natAbs * (rdiv n d).natAbs := Nat.le_mul_of_pos_right _ (by omega)
  omega
end Lk
/-! defs with a star parameter, called with plain arguments -/
namespace Lk
open PySem L2
def starSp (n : Nat) (sp : Sp) : Sp := fun vs H Q E => ∃ ws rest, vs = ws ++ rest ∧ ws.length = n ∧ rest.length ≤ sizeLine ∧ ∀ p, H p = Option.none → sp (ws ++ [V.ref p]) (upd H p (.tup rest)) Q E
section
variable {P : Program} {w : World} {K : PySem.W.Frag} {mg : Str → Option Value} {base : Heap}
theorem okStar {CX : CXT} {x qual pv : Str} {st : Stmt} {f : Addr} {fd : FuncData} {N ps : List Str} {k : Nat} {sp : Sp} (F : Fun K x qual st f fd) (S : FnScope N (ps ++ [pv]) (defScope st)) (hCX : StX.CXUp CX)
    (hb : ∀ (kV doc pm : Value) (an : Option Addr) (cdv ct : Value) (us rest : List Value), us.length = ps.length → bindArgs (PySem.W.fnOf x qual (defArgs st) (defBody st) (defScope st) .none kV doc pm an cdv ct) ⟨us ++ rest, []⟩ = (newTuple rest >>= fun t => pure (ps.zip us ++ [(pv, t)])))
    (hbody : ∀ (cdv : Value) (A : Around) (outer : List Env) (s : Shared) (H : Hp) (vs : List V) (Q : VK) (E : XK), Room k (A.deeper (PyProof.Rows.envOfC qual (defScope st) s.heap.objs.size f cdv)) → sp vs H Q E →
      ∃ t, PSs (cxOf CX P w K mg base N qual (defScope st) f cdv A outer s H E) (defBody st) t ∧ t { nx := fun _ H' => Q .non H', rt := Q } (L2.start N vs) H) : FnR P w K mg base CX (k + 1) f (starSp ps.length sp) := by
  obtain ⟨oc, od, kV, doc, pm, an, cdv, ct, osl, rfl, lk, hcd⟩ := F.ex
  exact StX.fn_star lk hcd S hCX (hb kV doc pm an cdv ct) fun A outer s H vs Q E hr hsp => hbody cdv A outer s H vs Q E hr hsp
end
section
variable {X : Cx} {CX : CXT} {k : Nat} {f : Addr} {sp : Sp} {E : XK} {x : Str} {e : Expr} {es : List Expr} {t : TA} {p pos : Pos}
def tCallR (sp : Sp) (E : XK) (t : TA) : TE := fun σ H Q => t σ H fun vs H1 => sp vs H1 Q E
theorem pe_callR (F : FnR X.prog X.w X.K X.mg X.base CX k f sp) (hr : Room k X.A) (hg : Gl X x) (hm : X.mg x = some (.ref f)) (hk : PySem.W.keepIn X.K (.ref f) = true) (hx : Passes CX X E) (ha : PA X (e :: es) t) (hdb : (x == ("__debug__" : Str)) = false := by decide)
    (he : starEach (e :: es) X.env = (false, eval e X.env) :: starEach es X.env := by rfl) (hpl : (backTo pos (starEach es X.env)).any (·.1) = false := by rfl) :
    PE X (.Call (.Name x p) (e :: es) [] pos) (tCallR sp E t) := by
  refine ⟨fun pins s σ H Q I h => ?_⟩
  refine wpAny_Call_Name_kw (ld_glob I hg hm ?_ hdb)
  refine PySem.W.callWith_K (h₀ := X.base) I.ok.mod.kin hk (thn (ha.run pos pins s σ H _ I h) fun us s1 ⟨vs, H1, I1, r, q⟩ => ⟨I1.kIn, ?_⟩) he hpl
  exact wpAny_call (run_fnR F hr hx I1 r q)
theorem pe_callR0 (F : FnR X.prog X.w X.K X.mg X.base CX k f sp) (hr : Room k X.A) (hg : Gl X x) (hm : X.mg x = some (.ref f)) (hk : PySem.W.keepIn X.K (.ref f) = true) (hx : Passes CX X E) (hdb : (x == ("__debug__" : Str)) = false := by decide) :
    PE X (.Call (.Name x p) [] [] pos) (tCallR sp E tNil) := by
  refine ⟨fun pins s σ H Q I h => ?_⟩
  refine wpAny_Call_Name_kw (ld_glob I hg hm ?_ hdb)
  exact PySem.W.callWith_K0 I.kIn hk (wpAny_call (run_fnR F hr hx I .nil h))
theorem callR_of {σ : L2.St} {H : Hp} {vs : List V} {Q : VK} (h : ValA t σ H vs) (hr : sp vs H Q E) : tCallR sp E t σ H Q := h _ hr
end
end Lk
namespace Pf
open PySem L2 Lk
def top (i : Nat) : Stmt := PySem.Challenge.pw_lookstop_k01_lowest_terms.main.body.getD i (.Pass ⟨0, 0, 0, 0⟩)
abbrev s_InvalidRatio___init__ : Stmt := (inClass (top 3) 0)
abbrev N_InvalidRatio___init__ : List Str := ["self", "value"]
abbrev s_ratio : Stmt := (top 5)
abbrev N_ratio : List Str := ["num", "den", "divisor"]
abbrev s__law_box : Stmt := (top 7)
abbrev N__law_box : List Str := ["_law_script", "_law_cell"]
abbrev s__law_take : Stmt := (top 8)
abbrev N__law_take : List Str := ["_law_box_here", "_law_size", "_law_cells", "_law_worth", "_law_at", "_law_digit", "_law_stirred"]
abbrev s__law_gcd : Stmt := (top 9)
abbrev N__law_gcd : List Str := ["_law_a", "_law_b"]
abbrev s__law_is_integer : Stmt := (top 10)
abbrev N__law_is_integer : List Str := ["_law_value"]
abbrev s__law_is_ratio : Stmt := (top 11)
abbrev N__law_is_ratio : List Str := ["_law_value"]
abbrev s__law_refuses_zero : Stmt := (top 12)
abbrev N__law_refuses_zero : List Str := ["_law_top", "e"]
abbrev s_law : Stmt := (top 13)
abbrev N_law : List Str := ["_law_script", "_law_box_here", "_law_size", "_law_common", "_law_top", "_law_bottom", "_law_found"]
structure Adr where
  f_InvalidRatio___init__ : Addr
  d_InvalidRatio___init__ : FuncData
  f_ratio : Addr
  d_ratio : FuncData
  f__law_box : Addr
  d__law_box : FuncData
  f__law_take : Addr
  d__law_take : FuncData
  f__law_gcd : Addr
  d__law_gcd : FuncData
  f__law_is_integer : Addr
  d__law_is_integer : FuncData
  f__law_is_ratio : Addr
  d__law_is_ratio : FuncData
  f__law_refuses_zero : Addr
  d__law_refuses_zero : FuncData
  f_law : Addr
  d_law : FuncData
  C_StopError : Addr
  C_InvalidRatio : Addr
structure Txt (K : PySem.W.Frag) (mg : Str → Option Value) (A : Adr) : Prop where
  F_InvalidRatio___init__ : Fun K "__init__" "InvalidRatio.__init__" s_InvalidRatio___init__ A.f_InvalidRatio___init__ A.d_InvalidRatio___init__
  k_InvalidRatio___init__ : PySem.W.keepIn K (.ref A.f_InvalidRatio___init__) = true
  b_InvalidRatio___init__ : Binds K A.d_InvalidRatio___init__ ["self", "value"] []
  m_InvalidRatio___init__ : PySem.W.findIn K (.ref A.C_InvalidRatio) "__init__" = some (some (.ref A.f_InvalidRatio___init__))
  i_InvalidRatio___init__ : PySem.W.isFn K (.ref A.f_InvalidRatio___init__) = true
  t_InvalidRatio___init__ : PySem.W.typeIn K (.ref A.f_InvalidRatio___init__) = some (.type "function")
  F_ratio : FunD K "ratio" "ratio" (defArgs s_ratio) (defBody s_ratio) (defScope s_ratio) [.int 1] [] A.f_ratio A.d_ratio
  k_ratio : PySem.W.keepIn K (.ref A.f_ratio) = true
  b1_ratio : ∃ ds, Vals (([.int 1] : List V).drop 0) ds ∧ Binds K A.d_ratio ["num", "den"] ds
  b2_ratio : ∃ ds, Vals (([.int 1] : List V).drop 1) ds ∧ Binds K A.d_ratio ["num", "den"] ds
  g_ratio : mg "ratio" = some (.ref A.f_ratio)
  F__law_box : Fun K "_law_box" "_law_box" s__law_box A.f__law_box A.d__law_box
  k__law_box : PySem.W.keepIn K (.ref A.f__law_box) = true
  b__law_box : Binds K A.d__law_box ["_law_script"] []
  g__law_box : mg "_law_box" = some (.ref A.f__law_box)
  F__law_take : Fun K "_law_take" "_law_take" s__law_take A.f__law_take A.d__law_take
  k__law_take : PySem.W.keepIn K (.ref A.f__law_take) = true
  b__law_take : Binds K A.d__law_take ["_law_box_here", "_law_size"] []
  g__law_take : mg "_law_take" = some (.ref A.f__law_take)
  F__law_gcd : Fun K "_law_gcd" "_law_gcd" s__law_gcd A.f__law_gcd A.d__law_gcd
  k__law_gcd : PySem.W.keepIn K (.ref A.f__law_gcd) = true
  b__law_gcd : Binds K A.d__law_gcd ["_law_a", "_law_b"] []
  g__law_gcd : mg "_law_gcd" = some (.ref A.f__law_gcd)
  F__law_is_integer : Fun K "_law_is_integer" "_law_is_integer" s__law_is_integer A.f__law_is_integer A.d__law_is_integer
  k__law_is_integer : PySem.W.keepIn K (.ref A.f__law_is_integer) = true
  b__law_is_integer : Binds K A.d__law_is_integer ["_law_value"] []
  g__law_is_integer : mg "_law_is_integer" = some (.ref A.f__law_is_integer)
  F__law_is_ratio : Fun K "_law_is_ratio" "_law_is_ratio" s__law_is_ratio A.f__law_is_ratio A.d__law_is_ratio
  k__law_is_ratio : PySem.W.keepIn K (.ref A.f__law_is_ratio) = true
  b__law_is_ratio : Binds K A.d__law_is_ratio ["_law_value"] []
  g__law_is_ratio : mg "_law_is_ratio" = some (.ref A.f__law_is_ratio)
  F__law_refuses_zero : Fun K "_law_refuses_zero" "_law_refuses_zero" s__law_refuses_zero A.f__law_refuses_zero A.d__law_refuses_zero
  k__law_refuses_zero : PySem.W.keepIn K (.ref A.f__law_refuses_zero) = true
  b__law_refuses_zero : Binds K A.d__law_refuses_zero ["_law_top"] []
  g__law_refuses_zero : mg "_law_refuses_zero" = some (.ref A.f__law_refuses_zero)
  F_law : Fun K "law" "law" s_law A.f_law A.d_law
  k_law : PySem.W.keepIn K (.ref A.f_law) = true
  b_law : Binds K A.d_law ["_law_script"] []
  g_law : mg "law" = some (.ref A.f_law)
  g_StopError : mg "StopError" = some (.ref A.C_StopError)
  g_InvalidRatio : mg "InvalidRatio" = some (.ref A.C_InvalidRatio)
  sa_InvalidRatio : PySem.W.findIn K (.ref A.C_InvalidRatio) "__setattr__" = some (some (.builtin "object.__setattr__"))
  ga_InvalidRatio : PySem.W.findIn K (.ref A.C_InvalidRatio) "__getattribute__" = some (some (.builtin "BaseException.__getattribute__"))
  gg_InvalidRatio : PySem.W.findIn K (.ref A.C_InvalidRatio) "__getattr__" = some none
  exb_InvalidRatio : PySem.W.subIn K (.ref A.C_InvalidRatio) (.type "BaseException") = some true
  ty_InvalidRatio : PySem.W.typeIn K (.ref A.C_InvalidRatio) = some (.type "type")
  kp_InvalidRatio : PySem.W.keepIn K (.ref A.C_InvalidRatio) = true
  hd_InvalidRatio : PySem.W.hasDictIn K A.C_InvalidRatio = true
  cl_InvalidRatio : (PySem.W.clsIn K A.C_InvalidRatio).isSome = true
  ha_InvalidRatio : PySem.W.findIn K (.ref A.C_InvalidRatio) "__class__" = some (some (.builtin "object.__class__"))
  hn_InvalidRatio : PySem.W.specialIn K (.builtin "object.__class__") "__get__" = some (some (.builtin "getset_descriptor.__get__"))
  ht_InvalidRatio : PySem.W.takesIn K (.builtin "object.__class__") = some true
  hm_InvalidRatio : PySem.W.mroIn K A.C_InvalidRatio (.type "object") = some true
  no_value_InvalidRatio : PySem.W.findIn K (.ref A.C_InvalidRatio) "value" = some none
  ki_InvalidRatio : PySem.W.kitOne K (.ref A.C_InvalidRatio) (.ref A.C_InvalidRatio) = some true
  kv_InvalidRatio : PySem.W.kitOne K (.ref A.C_InvalidRatio) (.type "ValueError") = some true
  oex_InvalidRatio : OexC K A.C_InvalidRatio
  exk_InvalidRatio : ExcK K A.C_InvalidRatio
  xf_InvalidRatio : XfC K A.C_InvalidRatio
  ex_self_InvalidRatio : PySem.W.exmOne K (.ref A.C_InvalidRatio) (.ref A.C_InvalidRatio) = some true
  exm_StopError_InvalidRatio : PySem.W.exmOne K (.ref A.C_InvalidRatio) (.ref A.C_StopError) = some true
  z_ValueError : mg "ValueError" = none
  z_abs : mg "abs" = none
  z_bool : mg "bool" = none
  g_gcd : mg "gcd" = some (.builtin "math.gcd")
  z_int : mg "int" = none
  z_isinstance : mg "isinstance" = none
  z_len : mg "len" = none
  z_tuple : mg "tuple" = none
section
variable {P : Program} {w : World} {K : PySem.W.Frag} {mg : Str → Option Value} {base : Heap} {A : Adr}
theorem sc_InvalidRatio___init__ : FnScope N_InvalidRatio___init__ ["self", "value"] (defScope s_InvalidRatio___init__) := ⟨rfl, rfl, rfl, by decide +kernel, rfl, by decide +kernel, by decide +kernel⟩
theorem ok_InvalidRatio___init__ (T : Txt K mg A) : FnOk P w K mg base CX0 1 A.f_InvalidRatio___init__ A.d_InvalidRatio___init__ ["self", "value"] (spExcInit A.C_InvalidRatio "value") := by
  refine T.F_InvalidRatio___init__.ok sc_InvalidRatio___init__ (fun vs H Q E h => ?_) (fun cdv Ar outer s H vs Q E hr h => ?_)
  · obtain ⟨a, v, rfl, _⟩ := h
    rfl
  · obtain ⟨a, v, rfl, ha, k⟩ := h
    refine ⟨_, (pss_one (ps_ost (pv 0) (pv 1))), ?_⟩
    exact ⟨_, rfl, _, rfl, a, A.C_InvalidRatio, rfl, T.oex_InvalidRatio, T.no_value_InvalidRatio, .inl ⟨ha, k⟩⟩
theorem sc_ratio : FnScope N_ratio ["num", "den"] (defScope s_ratio) := ⟨rfl, rfl, rfl, by decide +kernel, rfl, by decide +kernel, by decide +kernel⟩

def spRatio (K : PySem.W.Frag) (C : Addr) : Sp := fun vs H Q E => ∃ (n d : Int), vs = [.int n, .int d] ∧ d.natAbs.log2 < 9000 ∧
  ((d = 0 ∧ ∀ p, H p = none → Raised C "value" (.ref p) (upd H p (.tup [.int n, .int 0])) E) ∨ (d ≠ 0 ∧ ∀ p, H p = none → Q (.ref p) (upd H p (.tup [.int (ratN n d), .int (ratD n d)]))))
theorem ok_ratio (T : Txt K mg A) : FnOk P w K mg base (L2.CX P w) 3 A.f_ratio A.d_ratio ["num", "den"] (spRatio K A.C_InvalidRatio) := by
  have GInvalidRatio___init__ := ok_InvalidRatio___init__ (P := P) (w := w) (base := base) T
  refine T.F_ratio.ok sc_ratio (fun vs H Q E h => ?_) (fun cdv Ar outer s H vs Q E hr h => ?_)
  · obtain ⟨n, d, rfl, _⟩ := h
    rfl
  · obtain ⟨n, d, rfl, hlog, k⟩ := h
    refine ⟨_, (pss_cons (ps_if (pt_cmpR op_eq (pv 1) pe_int (nomark _)) (pss_one (ps_raise rfl (takes_of rfl rfl rfl rfl) (pmk_oex T.oex_InvalidRatio T.m_InvalidRatio___init__ T.t_InvalidRatio___init__ GInvalidRatio___init__ hr T.b_InvalidRatio___init__ .nil passF rfl T.g_InvalidRatio (pa_cons (pe_tup (pa_cons (pv 0) (pa_cons (pv 1) pa_nil))) pa_nil)))) pss_nil)
      (pss_cons (ps_set (i := 2) sc_ratio.nd rfl (Or.inl rfl) (pe_callBfun cr_gcd (by rfl) T.g_gcd (pa_cons (pv 0) (pa_cons (pv 1) pa_nil))))
      (pss_cons (ps_if (pt_cmpR op_lt (pv 1) pe_int (nomark _)) (pss_one (ps_set (i := 2) sc_ratio.nd rfl (Or.inl rfl) (pe_un un_neg (pv 2)))) pss_nil)
      (pss_one (ps_ret (pe_tup (pa_cons (pe_op op_fdivZ (pv 0) (pv 2)) (pa_cons (pe_op op_fdivZ (pv 1) (pv 2)) pa_nil)))))))), ?_⟩
    rcases k with ⟨rfl, k⟩ | ⟨hd, k⟩
    · refine qW ⟨_, rfl, rfl, _, rfl, iteT ?_⟩
      refine ⟨_, rfl, _, rfl, (by show 2 ≤ sizeLine; decide), fun p hp => ⟨(by show 1 ≤ 1000; decide), fun a ha => ?_⟩⟩
      refine ⟨a, _, rfl, upd_same, fun dx hdx hda => ?_⟩
      have hdx0 : (upd H p (.tup [.int n, .int 0])) dx = none := by rw [upd_ne hda] at hdx; exact hdx
      refine ⟨rfl, dx, [("value", .ref p)], upd_same, ?_, hdx0, ?_⟩
      · rw [upd_ne hda]
        exact upd_same
      · exact raised_end ha hdx0 hda (k p hp)
    · refine qW ⟨_, rfl, rfl, _, rfl, ite2 (fun z => absurd (V.int.inj (of_decide_eq_true z)) hd) (fun _ => ?_)⟩
      apply q_set
      case h => (repeat' (first | exact val_var rfl | exact val_c | exact va_nil | with_reducible apply va_cons | with_reducible apply val_op0 | with_reducible apply val_un | with_reducible apply val_abs | with_reducible apply val_int| with_reducible apply val_gcd | with_reducible apply val_gcdc | with_reducible apply val_isB | with_reducible apply val_notB | with_reducible apply val_chain | with_reducible apply val_eq | with_reducible apply val_ne | with_reducible apply val_andV | with_reducible apply val_orV | with_reducible apply val_notV | with_reducible apply val_opC | with_reducible apply ans_of | with_reducible apply ans_B | with_reducible apply ans_not | with_reducible apply ans_and' | with_reducible apply ans_or' | with_reducible intro _ | (show scal _ _ = true; rfl) | exact wide_mul (by assumption) (by assumption) (by decide) (by decide) (by decide)))
      have hlast : ∀ σ' : L2.St, σ' = [some (.int n), some (.int d), some (.int (rdiv n d))] → (tRet (tTup (tCons (tOp (rI CDivZ fun i j => .int (i.fdiv j)) (tVar 0) (tVar 2)) (tCons (tOp (rI CDivZ fun i j => .int (i.fdiv j)) (tVar 1) (tVar 2)) tNil)))) { nx := fun _ H' => Q .non H', rt := Q } σ' H := by
        rintro σ' rfl
        refine sR ⟨_, rfl, _, rfl, _, _, rfl, rfl, ⟨rdiv_ne hd, rdiv_log hd hlog⟩, _, rfl, _, rfl, _, _, rfl, rfl, ⟨rdiv_ne hd, rdiv_log hd hlog⟩, (by show 2 ≤ sizeLine; decide), fun p hp => k p hp⟩
      refine qW ⟨_, rfl, _, _, rfl, rfl, _, rfl, ite2 (fun hlt => ?_) (fun hlt => ?_)⟩
      · apply s_set
        case h => (repeat' (first | exact val_var rfl | exact val_c | exact va_nil | with_reducible apply va_cons | with_reducible apply val_op0 | with_reducible apply val_un | with_reducible apply val_abs | with_reducible apply val_int| with_reducible apply val_gcd | with_reducible apply val_gcdc | with_reducible apply val_isB | with_reducible apply val_notB | with_reducible apply val_chain | with_reducible apply val_eq | with_reducible apply val_ne | with_reducible apply val_andV | with_reducible apply val_orV | with_reducible apply val_notV | with_reducible apply val_opC | with_reducible apply ans_of | with_reducible apply ans_B | with_reducible apply ans_not | with_reducible apply ans_and' | with_reducible apply ans_or' | with_reducible intro _ | (show scal _ _ = true; rfl) | exact wide_mul (by assumption) (by assumption) (by decide) (by decide) (by decide)))
        refine hlast _ ?_
        have hlt' : d < 0 := of_decide_eq_true hlt
        unfold rdiv
        rw [if_pos hlt']
        rfl
      · refine hlast _ ?_
        have hlt' : ¬ d < 0 := fun z => hlt (decide_eq_true z)
        unfold rdiv
        rw [if_neg hlt']
        rfl
theorem sc__law_box : FnScope N__law_box ["_law_script"] (defScope s__law_box) := ⟨rfl, rfl, rfl, by decide +kernel, rfl, by decide +kernel, by decide +kernel⟩
theorem ok__law_box (T : Txt K mg A) : FnOk P w K mg base CX0 1 A.f__law_box A.d__law_box ["_law_script"] (spBox K) := by
  refine T.F__law_box.ok sc__law_box (fun vs H Q E h => ?_) (fun cdv Ar outer s H vs Q E hr h => ?_)
  · obtain ⟨a, ns, rfl, _⟩ := h
    rfl
  · obtain ⟨a, ns, rfl, hS, hlen, k⟩ := h
    refine ⟨_, (pss_one (ps_ret (pe_lst (pa_cons (pe_lc (own := [("_law_cell", 1)]) (g := gName 1) (tt := tYes) rfl sc__law_box.nd (pi_list (pe_slice sl_list (pv 0) po_none (po_some pe_int))) (blkOk_by (own := [("_law_cell", 1)]) (N := N__law_box) (sc := defScope s__law_box) (by decide +kernel)) (fun _ _ _ _ _ => (pg_name (i := 1) sc__law_box.nd rfl (Or.inl rfl))) (fun _ _ _ _ _ => pts_nil) (fun _ _ _ _ _ => (pe_callB call_abs (by rfl) T.z_abs (by decide +kernel) (pa_cons (pe_callTy call_int1 (by rfl) T.z_int (by decide +kernel) (pa_cons (pv 1) pa_nil)) pa_nil)))) (pa_cons pe_int (pa_cons pe_int pa_nil)))))), ?_⟩
    refine ⟨_, rfl, 63, rfl, a, _, rfl, hS, fun p hp => ?_⟩
    have ecut : cutV (ns.map V.int) none (some 63) = (ns.map V.int) := by
      unfold cutV
      have e63 : ∀ n, HT.sIx n n (some (63 : Int)) = min 63 n := fun n => HT.sIx_nat n n 63
      rw [show HT.sIx (ns.map V.int).length 0 none = 0 from rfl, e63, List.length_map]
      rw [List.drop_zero, List.take_of_length_le]
      rw [List.length_map]
      omega
    rw [ecut]
    refine ⟨p, rfl, ⟨_, SqL.of upd_same⟩, fun D hD => ?_⟩
    have hDp : D ≠ p := fun e => (by rw [e, upd_same] at hD; cases hD)
    have hD0 : H D = none := by rw [upd_ne hDp] at hD; exact hD
    refine lc_list (K := K) (a := p) (xs := ns.map V.int) (fun i H' => Same H H' ∧ H' p = some (.lst (ns.map V.int)) ∧ ∃ ms : List Int, H' D = some (.lst (ms.map V.int)) ∧ ms.length = i ∧ ∀ x ∈ ms, 0 ≤ x)
      ⟨Same.trans (same_upd hp) (same_upd hD), by rw [upd_ne hDp.symm, upd_same], [], upd_same, rfl, fun x hx => (by cases hx)⟩
      (fun i H' _ h => SqL.of h.2.1) ?_ ?_
    · rintro i y H' hi ⟨s1, h1, ms, h2, hl, h3⟩
      have hi63 : i < ns.length := by
        have q := (List.getElem?_eq_some_iff.mp hi).1
        rw [List.length_map] at q
        exact q
      obtain ⟨u, rfl⟩ : ∃ u, y = V.int u := by
        rw [List.getElem?_map] at hi
        cases e : ns[i]? with
        | none =>
          rw [e] at hi
          cases hi
        | some u =>
          rw [e] at hi
          exact ⟨u, (Option.some.inj hi).symm⟩
      refine ⟨rfl, ?_⟩
      refine ⟨_, rfl, .inl ⟨u, rfl, u, rfl, ?_⟩⟩
      rw [iabs]
      refine ⟨_, h2, ?_, (fun b o e => by rw [upd_ne (ne_of_none e hD0)]; exact s1 b o e), ?_, ms ++ [((u.natAbs : Nat) : Int)], ?_, ?_, ?_⟩
      · rw [List.length_map, hl]
        exact small1000 (by omega)
      · rw [upd_ne hDp.symm]
        exact h1
      · rw [List.map_append]
        exact upd_same
      · rw [List.length_append, hl]
        rfl
      · intro x hx
        rcases List.mem_append.mp hx with hx | hx
        · exact h3 x hx
        · rw [List.mem_singleton.mp hx]
          exact Int.natCast_nonneg _
    · rintro H' ⟨s1, h1, ms, h2, hl, h3⟩
      refine ⟨?_, fun b hb => ?_⟩
      · show 3 ≤ sizeLine
        decide
      · have hbD : b ≠ D := fun e => (by rw [e, h2] at hb; cases hb)
        refine k b D _ (Same.trans s1 (same_upd hb)) (s1.free hb) hD0 ⟨ms, 0, 1, upd_same, ?_, ?_, h3, by omega, by omega, by omega⟩
        · rw [upd_ne hbD.symm]
          exact h2
        · rw [hl, List.length_map]
          omega
theorem sc__law_take : FnScope N__law_take ["_law_box_here", "_law_size"] (defScope s__law_take) := ⟨rfl, rfl, rfl, by decide +kernel, rfl, by decide +kernel, by decide +kernel⟩
theorem ok__law_take (T : Txt K mg A) : FnOk P w K mg base CX0 1 A.f__law_take A.d__law_take ["_law_box_here", "_law_size"] spTake := by
  refine T.F__law_take.ok sc__law_take (fun vs H Q E h => ?_) (fun cdv Ar outer s H vs Q E hr h => ?_)
  · obtain ⟨b, c, n, rfl, _⟩ := h
    rfl
  · obtain ⟨b, c, n, rfl, hB, hn, hlog, k⟩ := h
    refine ⟨_, (pss_cons (ps_set (i := 2) sc__law_take.nd rfl (Or.inl rfl) (pe_ix ix_list (pv 0) pe_int (fun _ _ => rfl)))
      (pss_cons (ps_set (i := 3) sc__law_take.nd rfl (Or.inl rfl) pe_int)
      (Evl.pss_cut (ps_if (pt_cmpR op_gt (pe_callB call_len_seq (by rfl) T.z_len (by decide +kernel) (pa_cons (pv 2) pa_nil)) pe_int (nomark _)) (pss_cons (ps_set (i := 4) sc__law_take.nd rfl (Or.inl rfl) (pe_op op_mod (pe_callTy call_int1 (by rfl) T.z_int (by decide +kernel) (pa_cons (pe_ix ix_list (pv 0) pe_int (fun _ _ => rfl)) pa_nil)) (pe_callB call_len_seq (by rfl) T.z_len (by decide +kernel) (pa_cons (pv 2) pa_nil))))
      (pss_cons (ps_if (pt_cmpR op_ge (pe_ix ix_list (pv 2) (pv 4) (fun _ _ => rfl)) (pe_op op_pow pe_int pe_int) (nomark _)) (pss_cons (ps_set (i := 5) sc__law_take.nd rfl (Or.inl rfl) (pe_op op_mod (pe_callTy call_int1 (by rfl) T.z_int (by decide +kernel) (pa_cons (pe_ix ix_list (pv 2) (pv 4) (fun _ _ => rfl)) pa_nil)) (pv 1)))
      (pss_cons (ps_asg (pe_op op_fdivW (pe_ix ix_list (pv 2) (pv 4) (fun _ _ => rfl)) (pv 1)) (pg_sub (pv 2) (pv 4) set_list))
      (pss_one (ps_ret (pv 5))))) pss_nil)
      (pss_cons (ps_asg (pe_op op_add (pe_ix ix_list (pv 0) pe_int (fun _ _ => rfl)) pe_int) (pg_sub (pv 0) pe_int set_list))
      (pss_one (ps_set (i := 3) sc__law_take.nd rfl (Or.inl rfl) (pe_op op_add (pe_op op_mulW (pe_ix ix_list (pv 2) (pv 4) (fun _ _ => rfl)) pe_int) pe_int)))))) pss_nil)
      (pss_cons (ps_asg (pe_op op_mod (pe_callTy call_int1 (by rfl) T.z_int (by decide +kernel) (pa_cons (pe_op op_add (pe_op op_mulW (pe_ix ix_list (pv 0) pe_int (fun _ _ => rfl)) pe_int) (pv 3)) pa_nil)) pe_int) (pg_sub (pv 0) pe_int set_list))
      (pss_cons (ps_set (i := 6) sc__law_take.nd rfl (Or.inl rfl) (pe_op op_mod (pe_callTy call_int1 (by rfl) T.z_int (by decide +kernel) (pa_cons (pe_op op_add (pe_op op_mulW (pe_ix ix_list (pv 0) pe_int (fun _ _ => rfl)) pe_int) (pe_op op_fdivW (pe_ix ix_list (pv 0) pe_int (fun _ _ => rfl)) pe_int)) pa_nil)) pe_int))
      (pss_one (ps_ret (pe_op op_mod (pe_callTy call_int1 (by rfl) T.z_int (by decide +kernel) (pa_cons (pe_op op_fdivW (pv 6) pe_int) pa_nil)) (pv 1))))))))), ?_⟩
    have hbc := hB.ne
    obtain ⟨ns, kk, s, h1, h2, hl, h0, k0, s0, s1⟩ := hB
    have hlen : (ns.map V.int).length = ns.length := List.length_map ..
    refine qS ⟨_, rfl, b, _, _, _, rfl, rfl, SqL.of h1, rfl, ?_⟩
    apply q_set
    case h => (repeat' (first | exact val_var rfl | exact val_c | exact va_nil | with_reducible apply va_cons | with_reducible apply val_op0 | with_reducible apply val_un | with_reducible apply val_abs | with_reducible apply val_int| with_reducible apply val_gcd | with_reducible apply val_gcdc | with_reducible apply val_isB | with_reducible apply val_notB | with_reducible apply val_chain | with_reducible apply val_eq | with_reducible apply val_ne | with_reducible apply val_andV | with_reducible apply val_orV | with_reducible apply val_notV | with_reducible apply val_opC | with_reducible apply ans_of | with_reducible apply ans_B | with_reducible apply ans_not | with_reducible apply ans_and' | with_reducible apply ans_or' | with_reducible intro _ | (show scal _ _ = true; rfl) | exact wide_mul (by assumption) (by assumption) (by decide) (by decide) (by decide)))
    refine ⟨fun σ' H' => ∃ (w k' : Int) (v4 v5 : Option V), σ' = [some (.ref b), some (.int n), some (.ref c), some (.int w), v4, v5, none] ∧ 0 ≤ k' ∧ H' b = some (.lst [.ref c, .int k', .int s]) ∧ H' c = some (.lst (ns.map V.int)) ∧ ∀ a, a ≠ b → a ≠ c → H' a = H a, ?_, ?_⟩
    · refine sW ⟨_, rfl, c, _, rfl, .inl (SqL.of h2), _, _, rfl, rfl, _, rfl, ite2 (fun hp => ?_) (fun hp => ?_)⟩
      · have hp' : (0 : Int) < ((ns.map V.int).length : Int) := of_decide_eq_true hp
        refine qS ⟨_, rfl, b, _, _, _, rfl, rfl, SqL.of h1, rfl, .inl ⟨_, rfl, _, rfl, c, _, rfl, .inl (SqL.of h2), _, _, rfl, rfl, hp', ?_⟩⟩
        obtain ⟨x, hx, hx0, hix⟩ := pickP ns (fun x => 0 ≤ x) h0 (d := kk % ((ns.map V.int).length : Int)) (Int.emod_nonneg _ (by omega)) (by rw [← hlen]; exact Int.emod_lt_of_pos _ hp')
        refine qW ⟨_, rfl, _, rfl, c, _, _, _, rfl, rfl, SqL.of h2, hx, _, _, rfl, rfl, ⟨by decide, by decide, by decide⟩, _, _, rfl, rfl, _, rfl, ite2 (fun hq => ?_) (fun hq => ?_)⟩
        · refine qS ⟨_, rfl, _, rfl, c, _, _, _, rfl, rfl, SqL.of h2, hx, .inl ⟨_, rfl, _, rfl, _, _, rfl, rfl, hn, ?_⟩⟩
          refine qB ⟨_, rfl, _, rfl, c, _, _, _, rfl, rfl, SqL.of h2, hx, _, rfl, _, _, rfl, rfl, ⟨hn, hlog⟩, _, rfl, _, rfl, c, _, _, _, rfl, rfl, h2, (by have q := hix; rw [← hlen] at q; exact q), ?_⟩
          refine ⟨_, rfl, ?_⟩
          refine k _ _ (Int.emod_nonneg _ (by omega)) (Int.emod_lt_of_pos _ hn) ⟨ns.set (kk % ((ns.map V.int).length : Int)).toNat (x / n), kk, s, ?_, ?_, ?_, ?_, k0, s0, s1⟩ (fun a hab hac => upd_ne hac)
          · rw [upd_ne hbc]
            exact h1
          · rw [List.map_set]
            exact upd_same
          · rw [List.length_set]
            exact hl
          · intro y hy
            rcases List.mem_or_eq_of_mem_set hy with hy | hy
            · exact h0 y hy
            · rw [hy]
              exact Int.ediv_nonneg hx0 (by omega)
        · refine qB ⟨_, rfl, b, _, _, _, rfl, rfl, SqL.of h1, rfl, _, _, rfl, rfl, _, rfl, b, _, _, 1, rfl, rfl, h1, rfl, ?_⟩
          refine sS ⟨_, rfl, _, rfl, c, _, _, _, rfl, rfl, SqL.of ((upd_ne hbc.symm).trans h2), hx, _, _, rfl, rfl, ?_, _, _, rfl, rfl, ?_⟩
          · have hx18 : ¬ (10 : Int) ^ (18 : Int).toNat ≤ x := fun z => hq (decide_eq_true z)
            have hx18' : x < 10 ^ 18 := by
              rw [show (18 : Int).toNat = 18 from rfl] at hx18
              omega
            exact wide_mul (a := 70) (b := 20) (by omega) (by decide) (by decide) (by decide) (by decide)
          · exact ⟨_, kk + 1, _, _, rfl, by omega, upd_same, (upd_ne hbc.symm).trans h2, fun a hab hac => upd_ne hab⟩
      · exact ⟨_, kk, _, _, rfl, k0, h1, h2, fun a _ _ => rfl⟩
    · rintro σ' H' ⟨w, k', v4, v5, rfl, hk', hb, hc, he⟩
      refine qB ⟨_, rfl, b, _, _, _, rfl, rfl, SqL.of hb, rfl, _, _, rfl, rfl, wide_mul (a := 40) (b := 20) (by omega) (by decide) (by decide) (by decide) (by decide), _, rfl, _, _, rfl, rfl, .inl ⟨_, rfl, _, _, rfl, rfl, (by decide : (0 : Int) < 2147483647), _, rfl, b, _, _, 2, rfl, rfl, hb, rfl, ?_⟩⟩
      dsimp only
      have e0 := Int.emod_nonneg (s * 48271 + w) (by decide : (2147483647 : Int) ≠ 0)
      have e1 := Int.emod_lt_of_pos (s * 48271 + w) (by decide : (0 : Int) < 2147483647)
      generalize (s * 48271 + w) % 2147483647 = s' at e0 e1 ⊢
      have hb' : (upd H' b (.lst ([.ref c, .int k', .int s].set 2 (.int s')))) b = some (.lst [.ref c, .int k', .int s']) := upd_same
      refine qS ⟨_, rfl, b, _, _, _, rfl, rfl, SqL.of hb', rfl, _, _, rfl, rfl, wide_mul (a := 40) (b := 20) (by omega) (by decide) (by decide) (by decide) (by decide), _, rfl, b, _, _, _, rfl, rfl, SqL.of hb', rfl, _, _, rfl, rfl, ⟨by decide, by decide⟩, _, _, rfl, rfl, .inl ⟨_, rfl, _, _, rfl, rfl, (by decide : (0 : Int) < 2147483629), ?_⟩⟩
      refine ⟨_, rfl, _, _, rfl, rfl, ⟨by decide, by decide⟩, .inl ⟨_, rfl, _, rfl, _, _, rfl, rfl, hn, ?_⟩⟩
      exact k _ _ (Int.emod_nonneg _ (by omega)) (Int.emod_lt_of_pos _ hn) ⟨ns, k', s', hb', (upd_ne hbc.symm).trans hc, hl, h0, hk', e0, e1⟩ (fun a hab hac => (upd_ne hab).trans (he a hab hac))
theorem sc__law_gcd : FnScope N__law_gcd ["_law_a", "_law_b"] (defScope s__law_gcd) := ⟨rfl, rfl, rfl, by decide +kernel, rfl, by decide +kernel, by decide +kernel⟩
theorem ok__law_gcd (T : Txt K mg A) : FnOk P w K mg base CX0 1 A.f__law_gcd A.d__law_gcd ["_law_a", "_law_b"] spGcd := by
  refine T.F__law_gcd.ok sc__law_gcd (fun vs H Q E h => ?_) (fun cdv Ar outer s H vs Q E hr h => ?_)
  · obtain ⟨m, n, rfl, _⟩ := h
    rfl
  · obtain ⟨m, n, rfl, k⟩ := h
    refine ⟨_, (pss_cons (ps_set (i := 0) sc__law_gcd.nd rfl (Or.inl rfl) (pe_callB call_abs (by rfl) T.z_abs (by decide +kernel) (pa_cons (pv 0) pa_nil)))
      (pss_cons (ps_set (i := 1) sc__law_gcd.nd rfl (Or.inl rfl) (pe_callB call_abs (by rfl) T.z_abs (by decide +kernel) (pa_cons (pv 1) pa_nil)))
      (pss_cons (ps_while PassesOwn.never (pt_cmpR op_gt (pv 1) pe_int (nomark _)) (pss_one (ps_par (i := 0) (j := 1) (by rfl) sc__law_gcd.nd rfl rfl (by decide) rfl rfl (pa_cons (pv 1) (pa_cons (pe_op op_mod (pe_callTy call_int1 (by rfl) T.z_int (by decide +kernel) (pa_cons (pv 0) pa_nil)) (pv 1)) pa_nil)) (by rfl))))
      (pss_one (ps_ret (pv 0)))))), ?_⟩
    apply q_set
    case h => (repeat' (first | exact val_var rfl | exact val_c | exact va_nil | with_reducible apply va_cons | with_reducible apply val_op0 | with_reducible apply val_un | with_reducible apply val_abs | with_reducible apply val_int| with_reducible apply val_gcd | with_reducible apply val_gcdc | with_reducible apply val_isB | with_reducible apply val_notB | with_reducible apply val_chain | with_reducible apply val_eq | with_reducible apply val_ne | with_reducible apply val_andV | with_reducible apply val_orV | with_reducible apply val_notV | with_reducible apply val_opC | with_reducible apply ans_of | with_reducible apply ans_B | with_reducible apply ans_not | with_reducible apply ans_and' | with_reducible apply ans_or' | with_reducible intro _ | (show scal _ _ = true; rfl) | exact wide_mul (by assumption) (by assumption) (by decide) (by decide) (by decide)))
    apply q_set
    case h => (repeat' (first | exact val_var rfl | exact val_c | exact va_nil | with_reducible apply va_cons | with_reducible apply val_op0 | with_reducible apply val_un | with_reducible apply val_abs | with_reducible apply val_int| with_reducible apply val_gcd | with_reducible apply val_gcdc | with_reducible apply val_isB | with_reducible apply val_notB | with_reducible apply val_chain | with_reducible apply val_eq | with_reducible apply val_ne | with_reducible apply val_andV | with_reducible apply val_orV | with_reducible apply val_notV | with_reducible apply val_opC | with_reducible apply ans_of | with_reducible apply ans_B | with_reducible apply ans_not | with_reducible apply ans_and' | with_reducible apply ans_or' | with_reducible intro _ | (show scal _ _ = true; rfl) | exact wide_mul (by assumption) (by assumption) (by decide) (by decide) (by decide)))
    refine q_whileA (fun mm σ' H' => ∃ a b : Nat, σ' = [some (.int (a : Int)), some (.int (b : Int))] ∧ H' = H ∧ mm = b ∧ Nat.gcd a b = Nat.gcd m.natAbs n.natAbs) n.natAbs ⟨_, _, rfl, rfl, rfl, rfl⟩ ?_
    rintro mm σ' H' ⟨a, b, rfl, rfl, rfl, hg⟩
    refine ⟨decide ((0 : Int) < (mm : Int)), ?_, fun hb N hN => ?_, fun hb => ?_⟩
    · (repeat' (first | exact val_var rfl | exact val_c | exact va_nil | with_reducible apply va_cons | with_reducible apply val_op0 | with_reducible apply val_un | with_reducible apply val_abs | with_reducible apply val_int| with_reducible apply val_gcd | with_reducible apply val_gcdc | with_reducible apply val_isB | with_reducible apply val_notB | with_reducible apply val_chain | with_reducible apply val_eq | with_reducible apply val_ne | with_reducible apply val_andV | with_reducible apply val_orV | with_reducible apply val_notV | with_reducible apply val_opC | with_reducible apply ans_of | with_reducible apply ans_B | with_reducible apply ans_not | with_reducible apply ans_and' | with_reducible apply ans_or' | with_reducible intro _ | (show scal _ _ = true; rfl) | exact wide_mul (by assumption) (by assumption) (by decide) (by decide) (by decide)))
    · have hb' : (0 : Int) < (mm : Int) := of_decide_eq_true hb
      apply s_par
      case h => (repeat' (first | exact val_var rfl | exact val_c | exact va_nil | with_reducible apply va_cons | with_reducible apply val_op0 | with_reducible apply val_un | with_reducible apply val_abs | with_reducible apply val_int| with_reducible apply val_gcd | with_reducible apply val_gcdc | with_reducible apply val_isB | with_reducible apply val_notB | with_reducible apply val_chain | with_reducible apply val_eq | with_reducible apply val_ne | with_reducible apply val_andV | with_reducible apply val_orV | with_reducible apply val_notV | with_reducible apply val_opC | with_reducible apply ans_of | with_reducible apply ans_B | with_reducible apply ans_not | with_reducible apply ans_and' | with_reducible apply ans_or' | with_reducible intro _ | (show scal _ _ = true; rfl) | exact wide_mul (by assumption) (by assumption) (by decide) (by decide) (by decide))); exact hb'
      refine hN _ _ (a % mm) (Nat.mod_lt _ (by omega)) ⟨mm, a % mm, ?_, rfl, rfl, ?_⟩
      · rw [Int.natCast_emod] <;> rfl
      · rw [Nat.gcd_comm mm (a % mm), ← Nat.gcd_rec, Nat.gcd_comm]
        exact hg
    · have hb' : ¬ (0 : Int) < (mm : Int) := of_decide_eq_false hb
      apply s_ret
      case h => (repeat' (first | exact val_var rfl | exact val_c | exact va_nil | with_reducible apply va_cons | with_reducible apply val_op0 | with_reducible apply val_un | with_reducible apply val_abs | with_reducible apply val_int| with_reducible apply val_gcd | with_reducible apply val_gcdc | with_reducible apply val_isB | with_reducible apply val_notB | with_reducible apply val_chain | with_reducible apply val_eq | with_reducible apply val_ne | with_reducible apply val_andV | with_reducible apply val_orV | with_reducible apply val_notV | with_reducible apply val_opC | with_reducible apply ans_of | with_reducible apply ans_B | with_reducible apply ans_not | with_reducible apply ans_and' | with_reducible apply ans_or' | with_reducible intro _ | (show scal _ _ = true; rfl) | exact wide_mul (by assumption) (by assumption) (by decide) (by decide) (by decide)))
      have hb0 : mm = 0 := by omega
      rw [hb0, Nat.gcd_zero_right] at hg
      rw [hg]
      exact k
theorem sc__law_is_integer : FnScope N__law_is_integer ["_law_value"] (defScope s__law_is_integer) := ⟨rfl, rfl, rfl, by decide +kernel, rfl, by decide +kernel, by decide +kernel⟩

def spIsInt : Sp := fun vs H Q _ => ∃ n : Int, vs = [.int n] ∧ Q (.bl true) H
theorem ok__law_is_integer (T : Txt K mg A) : FnOk P w K mg base CX0 1 A.f__law_is_integer A.d__law_is_integer ["_law_value"] spIsInt := by
  refine T.F__law_is_integer.ok sc__law_is_integer (fun vs H Q E h => ?_) (fun cdv Ar outer s H vs Q E hr h => ?_)
  · obtain ⟨n, rfl, _⟩ := h
    rfl
  · obtain ⟨n, rfl, k⟩ := h
    refine ⟨_, (pss_one (ps_ret (pe_and (pe_callB call_isi (by rfl) T.z_isinstance (by decide +kernel) (pa_cons (pv 0) (pa_cons (pe_bltn (v := .ty "int") (u := .type "int") (by rfl) T.z_int (by decide +kernel) (by rfl)) pa_nil))) (pe_one (pe_not (pe_callB call_isi (by rfl) T.z_isinstance (by decide +kernel) (pa_cons (pv 0) (pa_cons (pe_bltn (v := .ty "bool") (u := .type "bool") (by rfl) T.z_bool (by decide +kernel) (by rfl)) pa_nil)))))))), ?_⟩
    exact sR ⟨_, rfl, _, _, _, _, true, rfl, .ty "int", .base (.int _), kit_ty (by decide +kernel), true, rfl, iteT ⟨_, rfl, _, _, _, _, false, rfl, .ty "bool", .base (.int _), kit_ty (by decide +kernel), false, rfl, k⟩⟩
theorem sc__law_is_ratio : FnScope N__law_is_ratio ["_law_value"] (defScope s__law_is_ratio) := ⟨rfl, rfl, rfl, by decide +kernel, rfl, by decide +kernel, by decide +kernel⟩

def lowB (n d : Int) : Bool := decide (1 ≤ d) && decide (V.int ((Nat.gcd n.natAbs d.natAbs : Nat) : Int) = V.int 1)
theorem lowB_of {n d : Int} (h : Low n d) : lowB n d = true := by
  unfold lowB
  rw [decide_eq_true h.1, h.2]
  rfl
def spIsRatio (K : PySem.W.Frag) : Sp := fun vs H Q _ => ∃ (p : Addr) (n d : Int), vs = [.ref p] ∧ H p = some (.tup [.int n, .int d]) ∧ Q (.bl (lowB n d)) H
theorem ok__law_is_ratio (T : Txt K mg A) : FnOk P w K mg base CX0 2 A.f__law_is_ratio A.d__law_is_ratio ["_law_value"] (spIsRatio K) := by
  have G_law_is_integer := ok__law_is_integer (P := P) (w := w) (base := base) T
  have G_law_gcd := ok__law_gcd (P := P) (w := w) (base := base) T
  refine T.F__law_is_ratio.ok sc__law_is_ratio (fun vs H Q E h => ?_) (fun cdv Ar outer s H vs Q E hr h => ?_)
  · obtain ⟨p, n, d, rfl, _⟩ := h
    rfl
  · obtain ⟨p, n, d, rfl, hT, k⟩ := h
    refine ⟨_, (pss_cons (ps_if (PW.pt (pw_or (pt_not (pt_val (pe_callB call_isi (by rfl) T.z_isinstance (by decide +kernel) (pa_cons (pv 0) (pa_cons (pe_bltn (v := .ty "tuple") (u := .type "tuple") (by rfl) T.z_tuple (by decide +kernel) (by rfl)) pa_nil))))) (pw_or1 (pt_cmpR op_ne (pe_callB call_len_seq (by rfl) T.z_len (by decide +kernel) (pa_cons (pv 0) pa_nil)) pe_int (nomark _))))) (pss_one (ps_ret pe_bl)) pss_nil)
      (pss_cons (ps_if (PW.pt (pw_or (pt_not (pt_val (pe_call G_law_is_integer (hr.mono (by decide)) rfl T.g__law_is_integer T.k__law_is_integer T.b__law_is_integer .nil pass0 (pa_cons (pe_ix ix_tup (pv 0) pe_int (fun _ _ => rfl)) pa_nil)))) (pw_or1 (pt_not (pt_val (pe_call G_law_is_integer (hr.mono (by decide)) rfl T.g__law_is_integer T.k__law_is_integer T.b__law_is_integer .nil pass0 (pa_cons (pe_ix ix_tup (pv 0) pe_int (fun _ _ => rfl)) pa_nil))))))) (pss_one (ps_ret pe_bl)) pss_nil)
      (pss_one (ps_ret (pe_and (pe_cmpR op_ge (pe_ix ix_tup (pv 0) pe_int (fun _ _ => rfl)) pe_int (nomark _)) (pe_one (pe_cmpR op_eq (pe_call G_law_gcd (hr.mono (by decide)) rfl T.g__law_gcd T.k__law_gcd T.b__law_gcd .nil pass0 (pa_cons (pe_ix ix_tup (pv 0) pe_int (fun _ _ => rfl)) (pa_cons (pe_ix ix_tup (pv 0) pe_int (fun _ _ => rfl)) pa_nil))) pe_int (nomark _)))))))), ?_⟩
    have hS := SqT.of hT (K := K)
    refine qW ⟨_, rfl, _, _, _, _, true, rfl, .ty "tuple", .base (.tup hT), kit_ty (by decide +kernel), true, rfl, iteF ⟨_, rfl, p, _, rfl, .inr hS, rfl, _, rfl, iteF ?_⟩⟩
    refine qW ⟨_, rfl, p, _, _, _, rfl, rfl, hS, rfl, n, rfl, true, rfl, iteF ⟨_, rfl, p, _, _, _, rfl, rfl, hS, rfl, d, rfl, true, rfl, iteF ?_⟩⟩
    apply s_ret
    case h => (repeat' (first | (exact val_ixT (val_var rfl) val_c hS rfl) | exact val_var rfl | exact val_c | exact va_nil | with_reducible apply va_cons | with_reducible apply val_op0 | with_reducible apply val_un | with_reducible apply val_abs | with_reducible apply val_int| with_reducible apply val_gcd | with_reducible apply val_gcdc | with_reducible apply val_isB | with_reducible apply val_notB | with_reducible apply val_chain | with_reducible apply val_eq | with_reducible apply val_ne | with_reducible apply val_andV | with_reducible apply val_orV | with_reducible apply val_notV | with_reducible apply val_opC | with_reducible apply ans_of | with_reducible apply ans_B | with_reducible apply ans_not | with_reducible apply ans_and' | with_reducible apply ans_or' | with_reducible intro _ | (show scal _ _ = true; rfl) | exact wide_mul (by assumption) (by assumption) (by decide) (by decide) (by decide)))
    exact k
theorem sc__law_refuses_zero : FnScope N__law_refuses_zero ["_law_top"] (defScope s__law_refuses_zero) := ⟨rfl, rfl, rfl, by decide +kernel, rfl, by decide +kernel, by decide +kernel⟩

def spRefuses : Sp := fun vs H Q _ => ∃ n : Int, vs = [.int n] ∧ ∀ H', Same H H' → Q (.bl true) H'
theorem ok__law_refuses_zero (T : Txt K mg A) : FnOk P w K mg base CX0 4 A.f__law_refuses_zero A.d__law_refuses_zero ["_law_top"] spRefuses := by
  have Gratio := ok_ratio (P := P) (w := w) (base := base) T
  obtain ⟨ds2, vd2, b2⟩ := T.b2_ratio
  have ed2 := vals_nil vd2
  subst ed2
  refine T.F__law_refuses_zero.ok sc__law_refuses_zero (fun vs H Q E h => ?_) (fun cdv Ar outer s H vs Q E hr h => ?_)
  · obtain ⟨n, rfl, _⟩ := h
    rfl
  · obtain ⟨n, rfl, k⟩ := h
    refine ⟨_, (pss_cons (ps_try_as (i := 1) (Wout := fun _ _ _ _ => False) rfl rfl sc__law_refuses_zero.nd rfl rfl ⟨rfl, by decide, Or.inl T.g_StopError⟩ takes0
          (fun W pn xe tk _ => pss_one (ps_expr (by exact (pe_callS Gratio (hr.mono (by decide)) rfl T.g_ratio T.k_ratio b2 (fun σ => passAt tk σ) (by exact (pa_cons (pv 0) (pa_cons pe_int pa_nil)))))))
          (fun a oe cls d pn hz hf => pss_one (ps_ret (by exact (pe_and (pe_callB (call_isX hz hf) (by rfl) T.z_isinstance (by decide +kernel) (pa_cons (pv 1) (pa_cons (pe_glob (v := .ref A.C_InvalidRatio) rfl T.g_InvalidRatio rfl) pa_nil)))
            (pe_and (pe_callB (call_isX hz hf) (by rfl) T.z_isinstance (by decide +kernel) (pa_cons (pv 1) (pa_cons (pe_bltn (v := .ty "ValueError") (u := .type "ValueError") (by rfl) T.z_ValueError (by decide +kernel) (by rfl)) pa_nil)))
              (pe_one (pe_cmpR (show OpR _ (compareOp .Eq) (rEqD K) from op_eqD hr.units) (pe_xf T.xf_InvalidRatio T.no_value_InvalidRatio hz hf (pv 1)) (pe_tup (pa_cons (pv 0) (pa_cons pe_int pa_nil))) (nomark _)))))))))
      (pss_one (ps_ret pe_bl))), ?_⟩
    refine ⟨_, rfl, n, 0, rfl, by decide, .inl ⟨rfl, fun p hp d H1 s1 hd0 hd1 => ?_⟩⟩
    refine ⟨true, T.exm_StopError_InvalidRatio, fun _ a ha => ?_, fun z => nomatch z⟩
    have hp1 : H1 p = some (.tup [.int n, .int 0]) := s1 _ _ upd_same
    refine sR ⟨_, rfl, _, _, true, A.C_InvalidRatio, d, _, rfl, rfl, rfl, T.exk_InvalidRatio, hd1, (fun u hu => hu), T.ki_InvalidRatio, true, rfl, iteT ?_⟩
    refine ⟨_, rfl, _, _, true, A.C_InvalidRatio, d, _, rfl, rfl, rfl, T.exk_InvalidRatio, hd1, (fun u hu => hu), T.kv_InvalidRatio, true, rfl, iteT ?_⟩
    refine ⟨_, rfl, rfl, rfl, d, _, .ref p, rfl, hd1, rfl, ?_⟩
    refine ⟨_, rfl, (by show 2 ≤ sizeLine; decide), fun q hq => rEq2 (by rw [upd_ne (ne_of_none hp1 hq)]; exact hp1) upd_same ?_⟩
    rw [beq_self_eq_true, beq_self_eq_true]
    exact k _ ((L2.Same.trans (same_upd hp) s1).trans (same_upd hq))
theorem sc_law : FnScope N_law ["_law_script"] (defScope s_law) := ⟨rfl, rfl, rfl, by decide +kernel, rfl, by decide +kernel, by decide +kernel⟩

def spLaw (K : PySem.W.Frag) : Sp := fun vs H Q _ => ∃ (a : Addr) (ns : List Int), vs = [.ref a] ∧ SqL K H a (ns.map V.int) ∧ ns.length ≤ 63 ∧ ∀ H', Q (.bl true) H'
theorem lg {n : Int} (h0 : 0 ≤ n) (h1 : n ≤ 10 ^ 40) : n.natAbs.log2 < 9000 := Nat.lt_of_lt_of_le (log2_lt (b := 140) (by decide) (by omega)) (by decide)
theorem ok_law (T : Txt K mg A) : FnOk P w K mg base CX0 5 A.f_law A.d_law ["_law_script"] (spLaw K) := by
  have G_law_box := ok__law_box (P := P) (w := w) (base := base) T
  have G_law_take := ok__law_take (P := P) (w := w) (base := base) T
  have G_law_gcd := ok__law_gcd (P := P) (w := w) (base := base) T
  have G_law_is_ratio := ok__law_is_ratio (P := P) (w := w) (base := base) T
  have G_law_refuses_zero := ok__law_refuses_zero (P := P) (w := w) (base := base) T
  have Gratio := ok_ratio (P := P) (w := w) (base := base) T
  obtain ⟨ds2, vd2, b2⟩ := T.b2_ratio
  have ed2 := vals_nil vd2
  subst ed2
  obtain ⟨ds1, vd1, b1⟩ := T.b1_ratio
  obtain ⟨its, bk⟩ := kbinds1 T.F_ratio (ps := ["num", "den"]) 1 ["den"] (fun us _ ws => us ++ ws) (fun z => nomatch z) (fun r1 _ r3 => r1.append r3) (fun T kV doc pm an cdv ct us its ws hu hi hw => (match us, its, ws, hu, hi, hw with | [_], [_], [_], _, _, _ => ⟨_, rfl, rfl⟩))
  refine T.F_law.ok sc_law (fun vs H Q E h => ?_) (fun cdv Ar outer s H vs Q E hr h => ?_)
  · obtain ⟨a, ns, rfl, _⟩ := h
    rfl
  · obtain ⟨a, ns, rfl, hS, hlen, k⟩ := h
    refine ⟨_, (pss_cons (ps_set (i := 1) sc_law.nd rfl (Or.inl rfl) (pe_call G_law_box (hr.mono (by decide)) rfl T.g__law_box T.k__law_box T.b__law_box .nil pass0 (pa_cons (pv 0) pa_nil)))
      (pss_cons (ps_set (i := 2) sc_law.nd rfl (Or.inl rfl) (pe_ix ix_list (pe_lst (pa_cons pe_int (pa_cons pe_int (pa_cons (pe_op op_pow pe_int pe_int) (pa_cons (pe_op op_pow pe_int pe_int) pa_nil))))) (pe_call G_law_take (hr.mono (by decide)) rfl T.g__law_take T.k__law_take T.b__law_take .nil pass0 (pa_cons (pv 1) (pa_cons pe_int pa_nil))) (fun _ _ => rfl)))
      (pss_cons (ps_set (i := 3) sc_law.nd rfl (Or.inl rfl) (pe_op op_add pe_int (pe_call G_law_take (hr.mono (by decide)) rfl T.g__law_take T.k__law_take T.b__law_take .nil pass0 (pa_cons (pv 1) (pa_cons pe_int pa_nil)))))
      (pss_cons (ps_set (i := 4) sc_law.nd rfl (Or.inl rfl) (pe_op op_mulW (pe_op op_sub (pe_call G_law_take (hr.mono (by decide)) rfl T.g__law_take T.k__law_take T.b__law_take .nil pass0 (pa_cons (pv 1) (pa_cons (pv 2) pa_nil))) (pe_op op_fdivW (pv 2) pe_int)) (pv 3)))
      (pss_cons (ps_set (i := 5) sc_law.nd rfl (Or.inl rfl) (pe_op op_mulW (pe_op op_sub (pe_call G_law_take (hr.mono (by decide)) rfl T.g__law_take T.k__law_take T.b__law_take .nil pass0 (pa_cons (pv 1) (pa_cons (pv 2) pa_nil))) (pe_op op_fdivW (pv 2) pe_int)) (pv 3)))
      (pss_cons (ps_if (pt_not (pt_val (pe_call G_law_refuses_zero (hr.mono (by decide)) rfl T.g__law_refuses_zero T.k__law_refuses_zero T.b__law_refuses_zero .nil pass0 (pa_cons (pv 4) pa_nil)))) (pss_one (ps_ret pe_bl)) pss_nil)
      (Evl.pss_cut (ps_if (pt_cmpR op_eq (pv 5) pe_int (nomark _)) (pss_one (ps_set (i := 5) sc_law.nd rfl (Or.inl rfl) pe_int)) pss_nil)
      (pss_cons (ps_set (i := 6) sc_law.nd rfl (Or.inl rfl) (pe_call Gratio (hr.mono (by decide)) rfl T.g_ratio T.k_ratio b2 .nil passL (pa_cons (pv 4) (pa_cons (pv 5) pa_nil))))
      (pss_cons (ps_if (PW.pt (pw_or (pt_not (pt_val (pe_call G_law_is_ratio (hr.mono (by decide)) rfl T.g__law_is_ratio T.k__law_is_ratio T.b__law_is_ratio .nil pass0 (pa_cons (pv 6) pa_nil)))) (pw_or1 (pt_cmpR op_ne (pe_op op_mulW (pe_ix ix_tup (pv 6) pe_int (fun _ _ => rfl)) (pv 5)) (pe_op op_mulW (pv 4) (pe_ix ix_tup (pv 6) pe_int (fun _ _ => rfl))) (nomark _))))) (pss_one (ps_ret pe_bl)) pss_nil)
      (pss_cons (ps_if (PW.pt (pw_or (pt_cmpR (op_neD hr.units) (pe_callN Gratio (hr.mono (by decide)) rfl T.g_ratio T.k_ratio bk passL (pa_cons (pv 4) pa_nil) (pk_cons (pv 5) pk_nil)) (pv 6) (nomark _)) (pw_or1 (pt_cmpR (op_neD hr.units) (pe_call Gratio (hr.mono (by decide)) rfl T.g_ratio T.k_ratio b2 .nil passL (pa_cons (pe_ix ix_tup (pv 6) pe_int (fun _ _ => rfl)) (pa_cons (pe_ix ix_tup (pv 6) pe_int (fun _ _ => rfl)) pa_nil))) (pv 6) (nomark _))))) (pss_one (ps_ret pe_bl)) pss_nil)
      (pss_one (ps_ret (pe_and (pe_cmpR (op_eqD hr.units) (pe_call Gratio (hr.mono (by decide)) rfl T.g_ratio T.k_ratio b1 vd1 passL (pa_cons (pv 4) pa_nil)) (pe_tup (pa_cons (pv 4) (pa_cons pe_int pa_nil))) (nomark _)) (pe_one (pe_cmpR (op_eqD hr.units) (pe_call Gratio (hr.mono (by decide)) rfl T.g_ratio T.k_ratio b2 .nil passL (pa_cons (pe_un un_neg (pv 4)) (pa_cons (pe_un un_neg (pv 5)) pa_nil))) (pv 6) (nomark _)))))))))))))))), ?_⟩
    refine qS ⟨_, rfl, a, ns, rfl, hS, hlen, fun b c H1 s1 hb hc B1 => ?_⟩
    -- the size
    refine qS ⟨_, _, rfl, rfl, ⟨by decide, by decide, by decide⟩, _, _, rfl, rfl, ⟨by decide, by decide, by decide⟩, (by show 4 ≤ sizeLine; decide), fun p hp => ?_⟩
    refine ⟨_, rfl, b, c, 4, rfl, B1.same (same_upd hp), by decide, by decide, fun d H2 d0 d1 B3 e2 => ?_⟩
    obtain ⟨sz, hsz, z0, z1⟩ := pick [9, 100, 10 ^ 12, 10 ^ 40] 9 (10 ^ 40) (by decide) d0 d1
    refine ⟨p, _, d, _, rfl, rfl, SqL.of ((e2 p (B1.neb hp).1 (B1.neb hp).2).trans upd_same), hsz, ?_⟩
    -- the common number, top, bottom
    refine qS ⟨_, rfl, b, c, 12, rfl, B3, by decide, by decide, fun m H3 m0 m1 B4 e3 => ⟨_, _, rfl, rfl, ?_⟩⟩
    refine qS ⟨_, rfl, _, rfl, b, c, sz, rfl, B4, by omega, lg (by omega) z1, fun x H4 x0 x1 B5 e4 => ⟨_, rfl, _, _, rfl, rfl, ⟨by decide, by decide⟩, _, _, rfl, rfl, _, rfl, _, _, rfl, rfl, wide_mul (a := 200) (b := 10) (by omega) (by omega) (by decide) (by decide) (by decide), ?_⟩⟩
    have ht : ((x - sz / 3) * (1 + m)).natAbs < 2 ^ (200 + 10) := wide_lt (by omega) (by omega)
    dsimp only
    generalize (x - sz / 3) * (1 + m) = t at ht ⊢
    refine qS ⟨_, rfl, _, rfl, b, c, sz, rfl, B5, by omega, lg (by omega) z1, fun y H5 y0 y1 B6 e5 => ⟨_, rfl, _, _, rfl, rfl, ⟨by decide, by decide⟩, _, _, rfl, rfl, _, rfl, _, _, rfl, rfl, wide_mul (a := 200) (b := 10) (by omega) (by omega) (by decide) (by decide) (by decide), ?_⟩⟩
    have hv : ((y - sz / 3) * (1 + m)).natAbs < 2 ^ (200 + 10) := wide_lt (by omega) (by omega)
    dsimp only
    generalize (y - sz / 3) * (1 + m) = v at hv ⊢
    -- the refused zero
    refine qW ⟨_, rfl, t, rfl, fun H6 s6 => ⟨true, rfl, iteF ?_⟩⟩
    refine ⟨fun σ' H' => ∃ u : Int, u ≠ 0 ∧ u.natAbs < 2 ^ 210 ∧ σ' = [some (.ref a), some (.ref b), some (.int sz), some (.int (1 + m)), some (.int t), some (.int u), none], ?_, ?_⟩
    · refine sW ⟨_, rfl, rfl, _, rfl, ite2 (fun z => ?_) (fun z => ?_)⟩
      · apply s_set
        case h => (repeat' (first | exact val_var rfl | exact val_c | exact va_nil | with_reducible apply va_cons | with_reducible apply val_op0 | with_reducible apply val_un | with_reducible apply val_abs | with_reducible apply val_int| with_reducible apply val_gcd | with_reducible apply val_gcdc | with_reducible apply val_isB | with_reducible apply val_notB | with_reducible apply val_chain | with_reducible apply val_eq | with_reducible apply val_ne | with_reducible apply val_andV | with_reducible apply val_orV | with_reducible apply val_notV | with_reducible apply val_opC | with_reducible apply ans_of | with_reducible apply ans_B | with_reducible apply ans_not | with_reducible apply ans_and' | with_reducible apply ans_or' | with_reducible intro _ | (show scal _ _ = true; rfl) | exact wide_mul (by assumption) (by assumption) (by decide) (by decide) (by decide)))
        exact ⟨1, by decide, by decide, rfl⟩
      · exact ⟨v, fun e => z (decide_eq_true (by rw [e])), hv, rfl⟩
    rintro σ' H' ⟨u, hu0, hu, rfl⟩
    have hul : u.natAbs.log2 < 9000 := Nat.lt_of_lt_of_le (log2_lt (b := 210) (by decide) hu) (by decide)
    have hN := ratN_le (n := t) hu0
    have hD := ratD_le (n := t) hu0
    refine qS ⟨_, rfl, _, rfl, t, u, rfl, hul, .inr ⟨hu0, fun p1 hp1 => ?_⟩⟩
    refine qW ⟨_, rfl, p1, _, _, rfl, upd_same, true, (by rw [lowB_of (rat_low hu0)]), iteF ?_⟩
    refine ⟨_, rfl, p1, _, _, _, rfl, rfl, SqT.of upd_same, rfl, _, rfl, _, _, rfl, rfl, wide_mul (a := 210) (b := 210) (by omega) (by omega) (by decide) (by decide) (by decide), _, rfl, _, rfl, p1, _, _, _, rfl, rfl, SqT.of upd_same, rfl, _, _, rfl, rfl, wide_mul (a := 210) (b := 210) (by omega) (by omega) (by decide) (by decide) (by decide), rfl, false, ?_, iteF ?_⟩
    · rw [decide_eq_true (by show V.int (ratN t u * u) = V.int (t * ratD t u); rw [rat_cross hu0])]
      rfl
    have hf : ∀ (q : Addr) (o : HO), (upd H' p1 (.tup [.int (ratN t u), .int (ratD t u)])) q = none → (upd (upd H' p1 (.tup [.int (ratN t u), .int (ratD t u)])) q o) p1 = some (.tup [.int (ratN t u), .int (ratD t u)]) := fun q o hq => (upd_ne (ne_of_none upd_same hq)).trans upd_same
    refine qW ⟨_, rfl, _, rfl, rfl, rfl, t, u, rfl, hul, .inr ⟨hu0, fun p2 hp2 => ⟨_, rfl, rNe2 upd_same (hf _ _ hp2) ⟨false, (by rw [beq_self_eq_true, beq_self_eq_true]; rfl), iteF ?_⟩⟩⟩⟩
    have h2 := hf _ (.tup [.int (ratN t u), .int (ratD t u)]) hp2
    generalize upd (upd H' p1 (.tup [.int (ratN t u), .int (ratD t u)])) p2 (.tup [.int (ratN t u), .int (ratD t u)]) = H8 at h2 ⊢
    refine ⟨_, rfl, p1, _, _, _, rfl, rfl, SqT.of h2, rfl, _, rfl, p1, _, _, _, rfl, rfl, SqT.of h2, rfl, ratN t u, ratD t u, rfl, ?_, .inr ⟨?_, fun p3 hp3 => ⟨_, rfl, rNe2 upd_same ((upd_ne (ne_of_none h2 hp3)).trans h2) ⟨false, ?_, iteF ?_⟩⟩⟩⟩
    · exact Nat.lt_of_lt_of_le (log2_lt (b := 210) (by decide) (by omega)) (by decide)
    · have := (rat_low (n := t) hu0).1
      omega
    · rw [(low_rat (rat_low hu0)).1, (low_rat (rat_low hu0)).2, beq_self_eq_true, beq_self_eq_true]
      rfl
    have h3 := (upd_ne (o := .tup [.int (ratN (ratN t u) (ratD t u)), .int (ratD (ratN t u) (ratD t u))]) (ne_of_none h2 hp3)).trans h2
    generalize upd H8 p3 (.tup [.int (ratN (ratN t u) (ratD t u)), .int (ratD (ratN t u) (ratD t u))]) = H9 at h3 ⊢
    refine sR ⟨_, rfl, t, 1, rfl, by decide, .inr ⟨by decide, fun p4 hp4 => ⟨_, rfl, (by show 2 ≤ sizeLine; decide), fun p5 hp5 => rEq2 ((upd_ne (ne_of_none upd_same hp5)).trans upd_same) upd_same ⟨true, (by rw [(rat_one t).1, (rat_one t).2, beq_self_eq_true, beq_self_eq_true]; rfl), iteT ?_⟩⟩⟩⟩
    refine ⟨_, rfl, _, rfl, _, rfl, _, rfl, -t, -u, rfl, by rw [Int.natAbs_neg]; exact hul, .inr ⟨by omega, fun p6 hp6 => ⟨_, rfl, rEq2 upd_same (kept (kept (kept h3 hp4) hp5) hp6) ?_⟩⟩⟩
    rw [(rat_neg hu0).1, (rat_neg hu0).2, beq_self_eq_true, beq_self_eq_true]
    exact k _
end
theorem all_mk {l : PySem.W.OpenLaw} {w : World} {K : PySem.W.Frag} {h : Heap} {mg : Str → Option Value} {fa : Addr} (X : K.In h) (G : h.Ns mainGlobals mg) (hfa : mg "law" = some (.ref fa))
    {C_StopError : Addr} (aC_StopError : PySem.W.nsIn K mainGlobals "StopError" = some (some (.ref C_StopError)))
    {C_InvalidRatio : Addr} (aC_InvalidRatio : PySem.W.nsIn K mainGlobals "InvalidRatio" = some (some (.ref C_InvalidRatio)))
    {f0 : Addr} {od0 an0 : Option Addr} {sl0 : Array (Option Value)} {oc0 kV0 dc0 pm0 cd0 ct0 : Value}
    (a0 : PySem.W.findIn K (.ref C_InvalidRatio) "__init__" = some (some (.ref f0))) (i0 : PySem.W.isFn K (.ref f0) = true) (t0 : PySem.W.typeIn K (.ref f0) = some (.type "function"))
    (l0 : K.lookup f0 = some ⟨oc0, od0, .func (PySem.W.fnOf "__init__" "InvalidRatio.__init__" (defArgs s_InvalidRatio___init__) (defBody s_InvalidRatio___init__) (defScope s_InvalidRatio___init__) .none kV0 dc0 pm0 an0 cd0 ct0), sl0⟩) (c0 : PySem.W.codeIn K cd0 "InvalidRatio.__init__" = true) (k0 : PySem.W.keepIn K (.ref f0) = true)
    {f1 : Addr} {od1 an1 : Option Addr} {sl1 : Array (Option Value)} {oc1 kV1 dc1 pm1 cd1 ct1 : Value}
    {T1 : Addr} {mc1 : Value} {md1 : Option Addr} {ms1 : Array (Option Value)} {mn1 : Nat} {tk1_0 : Tok} (m1 : K.lookup T1 = some ⟨mc1, md1, .seq #[.int 1 tk1_0] mn1, ms1⟩)
    (a1 : PySem.W.nsIn K mainGlobals "ratio" = some (some (.ref f1)))
    (l1 : K.lookup f1 = some ⟨oc1, od1, .func (PySem.W.fnOf "ratio" "ratio" (defArgs s_ratio) (defBody s_ratio) (defScope s_ratio) (.ref T1) kV1 dc1 pm1 an1 cd1 ct1), sl1⟩) (c1 : PySem.W.codeIn K cd1 "ratio" = true) (k1 : PySem.W.keepIn K (.ref f1) = true)
    {f2 : Addr} {od2 an2 : Option Addr} {sl2 : Array (Option Value)} {oc2 kV2 dc2 pm2 cd2 ct2 : Value}
    (a2 : PySem.W.nsIn K mainGlobals "_law_box" = some (some (.ref f2)))
    (l2 : K.lookup f2 = some ⟨oc2, od2, .func (PySem.W.fnOf "_law_box" "_law_box" (defArgs s__law_box) (defBody s__law_box) (defScope s__law_box) .none kV2 dc2 pm2 an2 cd2 ct2), sl2⟩) (c2 : PySem.W.codeIn K cd2 "_law_box" = true) (k2 : PySem.W.keepIn K (.ref f2) = true)
    {f3 : Addr} {od3 an3 : Option Addr} {sl3 : Array (Option Value)} {oc3 kV3 dc3 pm3 cd3 ct3 : Value}
    (a3 : PySem.W.nsIn K mainGlobals "_law_take" = some (some (.ref f3)))
    (l3 : K.lookup f3 = some ⟨oc3, od3, .func (PySem.W.fnOf "_law_take" "_law_take" (defArgs s__law_take) (defBody s__law_take) (defScope s__law_take) .none kV3 dc3 pm3 an3 cd3 ct3), sl3⟩) (c3 : PySem.W.codeIn K cd3 "_law_take" = true) (k3 : PySem.W.keepIn K (.ref f3) = true)
    {f4 : Addr} {od4 an4 : Option Addr} {sl4 : Array (Option Value)} {oc4 kV4 dc4 pm4 cd4 ct4 : Value}
    (a4 : PySem.W.nsIn K mainGlobals "_law_gcd" = some (some (.ref f4)))
    (l4 : K.lookup f4 = some ⟨oc4, od4, .func (PySem.W.fnOf "_law_gcd" "_law_gcd" (defArgs s__law_gcd) (defBody s__law_gcd) (defScope s__law_gcd) .none kV4 dc4 pm4 an4 cd4 ct4), sl4⟩) (c4 : PySem.W.codeIn K cd4 "_law_gcd" = true) (k4 : PySem.W.keepIn K (.ref f4) = true)
    {f5 : Addr} {od5 an5 : Option Addr} {sl5 : Array (Option Value)} {oc5 kV5 dc5 pm5 cd5 ct5 : Value}
    (a5 : PySem.W.nsIn K mainGlobals "_law_is_integer" = some (some (.ref f5)))
    (l5 : K.lookup f5 = some ⟨oc5, od5, .func (PySem.W.fnOf "_law_is_integer" "_law_is_integer" (defArgs s__law_is_integer) (defBody s__law_is_integer) (defScope s__law_is_integer) .none kV5 dc5 pm5 an5 cd5 ct5), sl5⟩) (c5 : PySem.W.codeIn K cd5 "_law_is_integer" = true) (k5 : PySem.W.keepIn K (.ref f5) = true)
    {f6 : Addr} {od6 an6 : Option Addr} {sl6 : Array (Option Value)} {oc6 kV6 dc6 pm6 cd6 ct6 : Value}
    (a6 : PySem.W.nsIn K mainGlobals "_law_is_ratio" = some (some (.ref f6)))
    (l6 : K.lookup f6 = some ⟨oc6, od6, .func (PySem.W.fnOf "_law_is_ratio" "_law_is_ratio" (defArgs s__law_is_ratio) (defBody s__law_is_ratio) (defScope s__law_is_ratio) .none kV6 dc6 pm6 an6 cd6 ct6), sl6⟩) (c6 : PySem.W.codeIn K cd6 "_law_is_ratio" = true) (k6 : PySem.W.keepIn K (.ref f6) = true)
    {f7 : Addr} {od7 an7 : Option Addr} {sl7 : Array (Option Value)} {oc7 kV7 dc7 pm7 cd7 ct7 : Value}
    (a7 : PySem.W.nsIn K mainGlobals "_law_refuses_zero" = some (some (.ref f7)))
    (l7 : K.lookup f7 = some ⟨oc7, od7, .func (PySem.W.fnOf "_law_refuses_zero" "_law_refuses_zero" (defArgs s__law_refuses_zero) (defBody s__law_refuses_zero) (defScope s__law_refuses_zero) .none kV7 dc7 pm7 an7 cd7 ct7), sl7⟩) (c7 : PySem.W.codeIn K cd7 "_law_refuses_zero" = true) (k7 : PySem.W.keepIn K (.ref f7) = true)
    {f8 : Addr} {od8 an8 : Option Addr} {sl8 : Array (Option Value)} {oc8 kV8 dc8 pm8 cd8 ct8 : Value}
    (a8 : PySem.W.nsIn K mainGlobals "law" = some (some (.ref f8)))
    (l8 : K.lookup f8 = some ⟨oc8, od8, .func (PySem.W.fnOf "law" "law" (defArgs s_law) (defBody s_law) (defScope s_law) .none kV8 dc8 pm8 an8 cd8 ct8), sl8⟩) (c8 : PySem.W.codeIn K cd8 "law" = true) (k8 : PySem.W.keepIn K (.ref f8) = true)
    (z_ValueError : PySem.W.nsIn K mainGlobals "ValueError" = some none)
    (z_abs : PySem.W.nsIn K mainGlobals "abs" = some none)
    (z_bool : PySem.W.nsIn K mainGlobals "bool" = some none)
    (z_gcd : PySem.W.nsIn K mainGlobals "gcd" = some (some (.builtin "math.gcd")))
    (z_int : PySem.W.nsIn K mainGlobals "int" = some none)
    (z_isinstance : PySem.W.nsIn K mainGlobals "isinstance" = some none)
    (z_len : PySem.W.nsIn K mainGlobals "len" = some none)
    (z_tuple : PySem.W.nsIn K mainGlobals "tuple" = some none)
    {nmInvalidRatio qInvalidRatio : Str} {NInvalidRatio : Addr} {bsInvalidRatio bmInvalidRatio subInvalidRatio : List Value} {snInvalidRatio : List Str} {abInvalidRatio : Bool} {colInvalidRatio : Option Bool} {ddInvalidRatio : Option Addr} {m0InvalidRatio m1InvalidRatio m2InvalidRatio m3InvalidRatio m5InvalidRatio : Option Value} (x_xl_InvalidRatio : K.lookup C_InvalidRatio = some (excClassObj nmInvalidRatio qInvalidRatio C_InvalidRatio NInvalidRatio bsInvalidRatio bmInvalidRatio true snInvalidRatio subInvalidRatio abInvalidRatio colInvalidRatio ddInvalidRatio m0InvalidRatio m1InvalidRatio m2InvalidRatio m3InvalidRatio m5InvalidRatio "ValueError.__new__"))
    (x_ve_InvalidRatio : PySem.HandSPX.refsVE bmInvalidRatio = true)
    (x_sa_InvalidRatio : PySem.W.findIn K (.ref C_InvalidRatio) "__setattr__" = some (some (.builtin "object.__setattr__")))
    (x_ga_InvalidRatio : PySem.W.findIn K (.ref C_InvalidRatio) "__getattribute__" = some (some (.builtin "BaseException.__getattribute__")))
    (x_gg_InvalidRatio : PySem.W.findIn K (.ref C_InvalidRatio) "__getattr__" = some none)
    (x_exb_InvalidRatio : PySem.W.subIn K (.ref C_InvalidRatio) (.type "BaseException") = some true)
    (x_ty_InvalidRatio : PySem.W.typeIn K (.ref C_InvalidRatio) = some (.type "type"))
    (x_kp_InvalidRatio : PySem.W.keepIn K (.ref C_InvalidRatio) = true)
    (x_hd_InvalidRatio : PySem.W.hasDictIn K C_InvalidRatio = true)
    (x_cl_InvalidRatio : (PySem.W.clsIn K C_InvalidRatio).isSome = true)
    (x_ha_InvalidRatio : PySem.W.findIn K (.ref C_InvalidRatio) "__class__" = some (some (.builtin "object.__class__")))
    (x_hn_InvalidRatio : PySem.W.specialIn K (.builtin "object.__class__") "__get__" = some (some (.builtin "getset_descriptor.__get__")))
    (x_ht_InvalidRatio : PySem.W.takesIn K (.builtin "object.__class__") = some true)
    (x_hm_InvalidRatio : PySem.W.mroIn K C_InvalidRatio (.type "object") = some true)
    (x_no_value_InvalidRatio : PySem.W.findIn K (.ref C_InvalidRatio) "value" = some none)
    (x_ki_InvalidRatio : PySem.W.kitOne K (.ref C_InvalidRatio) (.ref C_InvalidRatio) = some true)
    (x_kv_InvalidRatio : PySem.W.kitOne K (.ref C_InvalidRatio) (.type "ValueError") = some true)
    (x_ex_self_InvalidRatio : PySem.W.exmOne K (.ref C_InvalidRatio) (.ref C_InvalidRatio) = some true)
    (x_exm_StopError_InvalidRatio : PySem.W.exmOne K (.ref C_InvalidRatio) (.ref C_StopError) = some true)
    : ∃ fd : FuncData, (∀ (s : Shared) (v : Value), BindsTo s fd ⟨[v], []⟩ [("_law_script", v)]) ∧ ∀ base : Heap, K.In base → base.Ns mainGlobals mg → FnOk l.prog w K mg base CX0 5 fa fd ["_law_script"] (spLaw K) := by
  have e := hfa.symm.trans (PySem.W.mg_of X G a8)
  cases e
  have F0 := fun_mk (st := s_InvalidRatio___init__) l0 c0 k0
  have F1 : FunD K "ratio" "ratio" (defArgs s_ratio) (defBody s_ratio) (defScope s_ratio) [.int 1] [] f1 _ := ⟨⟨oc1, od1, .ref T1, kV1, dc1, pm1, an1, cd1, ct1, sl1, rfl, l1, c1, .inr ⟨(fun z => (by cases z)), T1, _, [.int 1 tk1_0], _, rfl, m1, rfl, (.cons ⟨_, rfl⟩ .nil)⟩, .inl rfl⟩, k1⟩
  have F2 := fun_mk (st := s__law_box) l2 c2 k2
  have F3 := fun_mk (st := s__law_take) l3 c3 k3
  have F4 := fun_mk (st := s__law_gcd) l4 c4 k4
  have F5 := fun_mk (st := s__law_is_integer) l5 c5 k5
  have F6 := fun_mk (st := s__law_is_ratio) l6 c6 k6
  have F7 := fun_mk (st := s__law_refuses_zero) l7 c7 k7
  have F8 := fun_mk (st := s_law) l8 c8 k8
  have T : Txt K mg ⟨f0, PySem.W.fnOf "__init__" "InvalidRatio.__init__" (defArgs s_InvalidRatio___init__) (defBody s_InvalidRatio___init__) (defScope s_InvalidRatio___init__) .none kV0 dc0 pm0 an0 cd0 ct0, f1, PySem.W.fnOf "ratio" "ratio" (defArgs s_ratio) (defBody s_ratio) (defScope s_ratio) (.ref T1) kV1 dc1 pm1 an1 cd1 ct1, f2, PySem.W.fnOf "_law_box" "_law_box" (defArgs s__law_box) (defBody s__law_box) (defScope s__law_box) .none kV2 dc2 pm2 an2 cd2 ct2, f3, PySem.W.fnOf "_law_take" "_law_take" (defArgs s__law_take) (defBody s__law_take) (defScope s__law_take) .none kV3 dc3 pm3 an3 cd3 ct3, f4, PySem.W.fnOf "_law_gcd" "_law_gcd" (defArgs s__law_gcd) (defBody s__law_gcd) (defScope s__law_gcd) .none kV4 dc4 pm4 an4 cd4 ct4, f5, PySem.W.fnOf "_law_is_integer" "_law_is_integer" (defArgs s__law_is_integer) (defBody s__law_is_integer) (defScope s__law_is_integer) .none kV5 dc5 pm5 an5 cd5 ct5, f6, PySem.W.fnOf "_law_is_ratio" "_law_is_ratio" (defArgs s__law_is_ratio) (defBody s__law_is_ratio) (defScope s__law_is_ratio) .none kV6 dc6 pm6 an6 cd6 ct6, f7, PySem.W.fnOf "_law_refuses_zero" "_law_refuses_zero" (defArgs s__law_refuses_zero) (defBody s__law_refuses_zero) (defScope s__law_refuses_zero) .none kV7 dc7 pm7 an7 cd7 ct7, fa, PySem.W.fnOf "law" "law" (defArgs s_law) (defBody s_law) (defScope s_law) .none kV8 dc8 pm8 an8 cd8 ct8, C_StopError, C_InvalidRatio⟩ := {
    F_InvalidRatio___init__ := F0
    k_InvalidRatio___init__ := k0
    b_InvalidRatio___init__ := F0.binds (ps := ["self", "value"]) (fun _ _ _ _ _ _ us hl => (match us, hl with | [_, _], _ => rfl))
    m_InvalidRatio___init__ := a0
    i_InvalidRatio___init__ := i0
    t_InvalidRatio___init__ := t0
    F_ratio := F1
    k_ratio := k1
    b1_ratio := F1.binds1 (ps := ["num", "den"]) 1 0 (fun z => nomatch z) (by decide) (fun T kV doc pm an cdv ct us its hu hi => (match us, its, hu, hi with | [_], [_], _, _ => ⟨_, rfl, rfl⟩))
    b2_ratio := F1.binds1 (ps := ["num", "den"]) 2 1 (fun z => nomatch z) (by decide) (fun T kV doc pm an cdv ct us its hu hi => (match us, its, hu, hi with | [_, _], [_], _, _ => ⟨_, rfl, rfl⟩))
    g_ratio := PySem.W.mg_of X G a1
    F__law_box := F2
    k__law_box := k2
    b__law_box := F2.binds (ps := ["_law_script"]) (fun _ _ _ _ _ _ us hl => (match us, hl with | [_], _ => rfl))
    g__law_box := PySem.W.mg_of X G a2
    F__law_take := F3
    k__law_take := k3
    b__law_take := F3.binds (ps := ["_law_box_here", "_law_size"]) (fun _ _ _ _ _ _ us hl => (match us, hl with | [_, _], _ => rfl))
    g__law_take := PySem.W.mg_of X G a3
    F__law_gcd := F4
    k__law_gcd := k4
    b__law_gcd := F4.binds (ps := ["_law_a", "_law_b"]) (fun _ _ _ _ _ _ us hl => (match us, hl with | [_, _], _ => rfl))
    g__law_gcd := PySem.W.mg_of X G a4
    F__law_is_integer := F5
    k__law_is_integer := k5
    b__law_is_integer := F5.binds (ps := ["_law_value"]) (fun _ _ _ _ _ _ us hl => (match us, hl with | [_], _ => rfl))
    g__law_is_integer := PySem.W.mg_of X G a5
    F__law_is_ratio := F6
    k__law_is_ratio := k6
    b__law_is_ratio := F6.binds (ps := ["_law_value"]) (fun _ _ _ _ _ _ us hl => (match us, hl with | [_], _ => rfl))
    g__law_is_ratio := PySem.W.mg_of X G a6
    F__law_refuses_zero := F7
    k__law_refuses_zero := k7
    b__law_refuses_zero := F7.binds (ps := ["_law_top"]) (fun _ _ _ _ _ _ us hl => (match us, hl with | [_], _ => rfl))
    g__law_refuses_zero := PySem.W.mg_of X G a7
    F_law := F8
    k_law := k8
    b_law := F8.binds (ps := ["_law_script"]) (fun _ _ _ _ _ _ us hl => (match us, hl with | [_], _ => rfl))
    g_law := PySem.W.mg_of X G a8
    z_ValueError := PySem.W.mg_none_of X G z_ValueError
    z_abs := PySem.W.mg_none_of X G z_abs
    z_bool := PySem.W.mg_none_of X G z_bool
    g_gcd := PySem.W.mg_of X G z_gcd
    z_int := PySem.W.mg_none_of X G z_int
    z_isinstance := PySem.W.mg_none_of X G z_isinstance
    z_len := PySem.W.mg_none_of X G z_len
    z_tuple := PySem.W.mg_none_of X G z_tuple
    g_StopError := PySem.W.mg_of X G aC_StopError
    g_InvalidRatio := PySem.W.mg_of X G aC_InvalidRatio
    sa_InvalidRatio := x_sa_InvalidRatio
    ga_InvalidRatio := x_ga_InvalidRatio
    gg_InvalidRatio := x_gg_InvalidRatio
    exb_InvalidRatio := x_exb_InvalidRatio
    ty_InvalidRatio := x_ty_InvalidRatio
    kp_InvalidRatio := x_kp_InvalidRatio
    hd_InvalidRatio := x_hd_InvalidRatio
    cl_InvalidRatio := x_cl_InvalidRatio
    ha_InvalidRatio := x_ha_InvalidRatio
    hn_InvalidRatio := x_hn_InvalidRatio
    ht_InvalidRatio := x_ht_InvalidRatio
    hm_InvalidRatio := x_hm_InvalidRatio
    no_value_InvalidRatio := x_no_value_InvalidRatio
    ki_InvalidRatio := x_ki_InvalidRatio
    kv_InvalidRatio := x_kv_InvalidRatio
    oex_InvalidRatio := ⟨⟨_, _, _, _, _, _, _, _, _, _, _, _, _, _, _, x_xl_InvalidRatio, x_ve_InvalidRatio⟩, x_sa_InvalidRatio, x_exb_InvalidRatio, x_ty_InvalidRatio, x_kp_InvalidRatio⟩
    exk_InvalidRatio := ⟨x_cl_InvalidRatio, x_ga_InvalidRatio, x_gg_InvalidRatio, x_exb_InvalidRatio, x_ha_InvalidRatio, x_hn_InvalidRatio, x_ht_InvalidRatio, x_hm_InvalidRatio⟩
    xf_InvalidRatio := ⟨x_ga_InvalidRatio, x_gg_InvalidRatio, x_exb_InvalidRatio, x_hd_InvalidRatio⟩
    ex_self_InvalidRatio := x_ex_self_InvalidRatio
    exm_StopError_InvalidRatio := x_exm_StopError_InvalidRatio }
  exact ⟨_, fun s v => .of_eq rfl, fun base _ _ => ok_law T⟩
theorem walk {l : PySem.W.OpenLaw} {q : Program} {loose : List Str} {XP : (Str → Option Value) → Heap → Prop} {YP : World → Heap → Prop} {d : DefRec} {K : Params → PySem.W.Frag} (hn : l.most = some 63) (hdf : d.params.defaults = [])
    (hY : ∀ (w : World) (h : Heap), YP w h → (K w.params).In h)
    (F : ∀ (w : World) (mg : Str → Option Value) (fa : Addr) (h : Heap), (K w.params).In h → h.Ns mainGlobals mg → mg d.name = some (.ref fa) →
      ∃ fd : FuncData, (∀ (s : Shared) (u : Value), BindsTo s fd ⟨[u], []⟩ [("_law_script", u)]) ∧ ∀ base : Heap, (K w.params).In base → base.Ns mainGlobals mg → FnOk l.prog w (K w.params) mg base CX0 5 fa fd ["_law_script"] (spLaw (K w.params))) :
    PySem.W.WalkO q loose XP YP l.row.toRowW d [] (fun f vs => PySem.call f vs) :=
  L2.walk_of (n := 63) (k := 5) (x := "_law_script") (CX := fun _ => CX0) (sp := fun w => spLaw (K w.params)) hn (by decide) hdf ⟨rfl, by decide, by decide⟩ hY F (fun _ _ a ns hl _ hS => ⟨a, ns, rfl, hS, hl, fun _ => rfl⟩) fun _ _ _ _ _ z => z
end Pf

open PySem PySem.W PyProof.Rows in
set_option maxRecDepth 100000 in
set_option maxHeartbeats 0 in
theorem PySem.Challenge.cw_lookstop_k01_lowest_terms_holds : PySem.Challenge.rw_lookstop_k01_lowest_terms.Holds := by
  w_on; o_law; k_head; (case hw => w_witness2)
  k_fill
  refine Pf.walk (l := PySem.Challenge.rw_lookstop_k01_lowest_terms) rfl rfl (fun w h Y => PySem.W.kIn_of Y) ?F
  case F =>
    intro w mg fa h KX G hmg
    refine' Pf.all_mk KX G hmg (aC_StopError := ?aC_StopError) (aC_InvalidRatio := ?aC_InvalidRatio) (a0 := ?a0) (i0 := ?i0) (t0 := ?t0) (l0 := ?l0) (c0 := ?c0) (k0 := ?k0) (a1 := ?a1) (l1 := ?l1) (c1 := ?c1) (k1 := ?k1) (m1 := ?m1) (a2 := ?a2) (l2 := ?l2) (c2 := ?c2) (k2 := ?k2) (a3 := ?a3) (l3 := ?l3) (c3 := ?c3) (k3 := ?k3) (a4 := ?a4) (l4 := ?l4) (c4 := ?c4) (k4 := ?k4) (a5 := ?a5) (l5 := ?l5) (c5 := ?c5) (k5 := ?k5) (a6 := ?a6) (l6 := ?l6) (c6 := ?c6) (k6 := ?k6) (a7 := ?a7) (l7 := ?l7) (c7 := ?c7) (k7 := ?k7) (a8 := ?a8) (l8 := ?l8) (c8 := ?c8) (k8 := ?k8) (z_ValueError := ?z_ValueError) (z_abs := ?z_abs) (z_bool := ?z_bool) (z_gcd := ?z_gcd) (z_int := ?z_int) (z_isinstance := ?z_isinstance) (z_len := ?z_len) (z_tuple := ?z_tuple) (x_xl_InvalidRatio := ?x_xl_InvalidRatio) (x_ve_InvalidRatio := ?x_ve_InvalidRatio) (x_sa_InvalidRatio := ?x_sa_InvalidRatio) (x_ga_InvalidRatio := ?x_ga_InvalidRatio) (x_gg_InvalidRatio := ?x_gg_InvalidRatio) (x_exb_InvalidRatio := ?x_exb_InvalidRatio) (x_ty_InvalidRatio := ?x_ty_InvalidRatio) (x_kp_InvalidRatio := ?x_kp_InvalidRatio) (x_hd_InvalidRatio := ?x_hd_InvalidRatio) (x_cl_InvalidRatio := ?x_cl_InvalidRatio) (x_ha_InvalidRatio := ?x_ha_InvalidRatio) (x_hn_InvalidRatio := ?x_hn_InvalidRatio) (x_ht_InvalidRatio := ?x_ht_InvalidRatio) (x_hm_InvalidRatio := ?x_hm_InvalidRatio) (x_no_value_InvalidRatio := ?x_no_value_InvalidRatio) (x_ki_InvalidRatio := ?x_ki_InvalidRatio) (x_kv_InvalidRatio := ?x_kv_InvalidRatio) (x_ex_self_InvalidRatio := ?x_ex_self_InvalidRatio) (x_exm_StopError_InvalidRatio := ?x_exm_StopError_InvalidRatio)
    (case aC_StopError => k_is)
    (case aC_InvalidRatio => k_is)
    (case a0 => k_is)
    (case i0 => k_is)
    (case t0 => k_is)
    (case l0 => k_is)
    (case c0 => k_is)
    (case k0 => k_is)
    (case a1 => k_is)
    (case l1 => k_is)
    (case c1 => k_is)
    (case k1 => k_is)
    (case m1 => k_is)
    (case a2 => k_is)
    (case l2 => k_is)
    (case c2 => k_is)
    (case k2 => k_is)
    (case a3 => k_is)
    (case l3 => k_is)
    (case c3 => k_is)
    (case k3 => k_is)
    (case a4 => k_is)
    (case l4 => k_is)
    (case c4 => k_is)
    (case k4 => k_is)
    (case a5 => k_is)
    (case l5 => k_is)
    (case c5 => k_is)
    (case k5 => k_is)
    (case a6 => k_is)
    (case l6 => k_is)
    (case c6 => k_is)
    (case k6 => k_is)
    (case a7 => k_is)
    (case l7 => k_is)
    (case c7 => k_is)
    (case k7 => k_is)
    (case a8 => k_is)
    (case l8 => k_is)
    (case c8 => k_is)
    (case k8 => k_is)
    (case z_ValueError => k_is)
    (case z_abs => k_is)
    (case z_bool => k_is)
    (case z_gcd => k_is)
    (case z_int => k_is)
    (case z_isinstance => k_is)
    (case z_len => k_is)
    (case z_tuple => k_is)
    (case x_xl_InvalidRatio => first | k_is | kit_is | rfl)
    (case x_ve_InvalidRatio => first | rfl | decide +kernel)
    (case x_sa_InvalidRatio => first | k_is | kit_is | rfl)
    (case x_ga_InvalidRatio => first | k_is | kit_is | rfl)
    (case x_gg_InvalidRatio => first | k_is | kit_is | rfl)
    (case x_exb_InvalidRatio => first | k_is | kit_is | rfl)
    (case x_ty_InvalidRatio => first | k_is | kit_is | rfl)
    (case x_kp_InvalidRatio => first | k_is | kit_is | rfl)
    (case x_hd_InvalidRatio => first | k_is | kit_is | rfl)
    (case x_cl_InvalidRatio => first | k_is | rfl | decide +kernel)
    (case x_ha_InvalidRatio => first | k_is | kit_is | rfl)
    (case x_hn_InvalidRatio => first | k_is | kit_is | rfl)
    (case x_ht_InvalidRatio => first | k_is | kit_is | rfl)
    (case x_hm_InvalidRatio => first | k_is | kit_is | rfl)
    (case x_no_value_InvalidRatio => first | k_is | kit_is | rfl)
    (case x_ki_InvalidRatio => first | k_is | kit_is | rfl)
    (case x_kv_InvalidRatio => first | k_is | kit_is | rfl)
    (case x_ex_self_InvalidRatio => first | k_is | kit_is | rfl)
    (case x_exm_StopError_InvalidRatio => first | k_is | kit_is | rfl)
