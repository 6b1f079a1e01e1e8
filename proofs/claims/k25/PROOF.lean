import PyProof.Rows.All
import Wide.All
import OpenK.AllK
import Wide.FinOn
import HandS.ForMost
import HandS.ForExc
import HandS.Steps
import HandS.Style
import HandS.Wide
import HandS.Gcd
import HandS.IsInst
import HandS.ExcInit
import HandS.Defaults
import HandS.Star
import HandS.Evl
import HandS.ExcField
import HandS.ExcIs
import HandS.ExcOwn
import HandS.RevRange
import KE.KExcIs
import HandS.Slots
import HandS.SlotsOwn
import HandS.Property
import HandS.ClsMeth
import KE.KOpsOwn
import PyProof.InstNe
import HandS.TupAny
import HandS.FStr
import HandS.Text
import HandS.Codes
import KE.BitLaws
import KE.GoesMore
import KE.KMathGC
import PySem.Challenge.RW_lookstop_k25_wrong_words
set_option Elab.async false
set_option linter.all false
set_option maxRecDepth 100000
set_option maxHeartbeats 4000000
/-! Lk: short words for values (Val, Ans of HandS.Steps), own rules for great numbers, the laws' box of draws. -/
namespace Lk
open PySem L2
def ValA (ta : TA) (σ : L2.St) (H : Hp) (vs : List V) : Prop := ∀ Q : List V → Hp → Prop, Q vs H → ta σ H Q
def ifs (C : Prop) (D : Decidable C) : Bool := @decide C D
section
variable {σ : L2.St} {H : Hp} {i : Nat} {v x y z : V} {ta tb tc te tv : TE} {a b c : Bool} {K : PySem.W.Frag} {t u : TT} {k l m n : Int}
theorem val_op0 {g : Int → Int → V} (ha : Val ta σ H (.int k)) (hb : Val tb σ H (.int l)) : Val (tOp (rI0 g) ta tb) σ H (g k l) := fun Q q => ha _ (hb _ ⟨k, l, rfl, rfl, q⟩)
theorem val_opC {C : Int → Int → Prop} {g : Int → Int → V} (ha : Val ta σ H (.int k)) (hb : Val tb σ H (.int l)) (hc : C k l) : Val (tOp (rI C g) ta tb) σ H (g k l) := fun Q q => ha _ (hb _ ⟨k, l, rfl, rfl, hc, q⟩)
theorem val_un {g : Int → V} (ha : Val ta σ H (.int k)) : Val (tUn (rU g) ta) σ H (g k) := fun Q q => ha _ ⟨k, rfl, q⟩
theorem val_eq (ha : Val ta σ H x) (hb : Val tb σ H y) (hs : scal x y = true) : Val (tOp rEq ta tb) σ H (.bl (decide (x = y))) := fun Q q => ha _ (hb _ ⟨hs, q⟩)
theorem val_ne (ha : Val ta σ H x) (hb : Val tb σ H y) (hs : scal x y = true) : Val (tOp rNe ta tb) σ H (.bl (!decide (x = y))) := fun Q q => ha _ (hb _ ⟨hs, q⟩)
theorem val_isB (ha : Val ta σ H (.bl a)) (hb : Val tb σ H (.bl b)) : Val (tOp rIsB ta tb) σ H (.bl (decide (a = b))) := fun Q q => ha _ (hb _ ⟨a, b, rfl, rfl, q⟩)
theorem val_notB (ha : Val ta σ H (.bl a)) (hb : Val tb σ H (.bl b)) : Val (tOp rNotB ta tb) σ H (.bl (!decide (a = b))) := fun Q q => ha _ (hb _ ⟨a, b, rfl, rfl, q⟩)
theorem val_andV (ha : Val ta σ H (.bl a)) (hb : a = true → Val tb σ H (.bl b)) : Val (tAndV ta tb) σ H (.bl (a && b)) := fun Q q => ha _ ⟨a, rfl, by
  cases a with
  | true => exact hb rfl Q q
  | false => exact q⟩
theorem val_orV (ha : Val ta σ H (.bl a)) (hb : a = false → Val tb σ H (.bl b)) : Val (tOrV ta tb) σ H (.bl (a || b)) := fun Q q => ha _ ⟨a, rfl, by
  cases a with
  | true => exact q
  | false => exact hb rfl Q q⟩
theorem val_notV (ha : Val ta σ H (.bl a)) : Val (tNotV ta) σ H (.bl (!a)) := fun Q q => ha _ ⟨a, rfl, q⟩
theorem val_chain {p q : Int → Int → Bool} (ha : Val ta σ H (.int k)) (hb : Val tb σ H (.int l)) (hc : Val tc σ H (.int m)) : Val (tChain (rI0 fun i j => .bl (p i j)) (rI0 fun i j => .bl (q i j)) ta tb tc) σ H (.bl (p k l && q l m)) := fun Q h => ha _ (hb _ ⟨k, l, rfl, rfl, p k l, rfl, by
  cases hp : p k l with
  | true => exact hc _ ⟨l, m, rfl, rfl, by rw [hp] at h; exact h⟩
  | false => rw [hp] at h; exact h⟩)
theorem val_if (ht : Ans t σ H b) (h1 : b = true → Val ta σ H v) (h2 : b = false → Val tb σ H v) : Val (tIf t ta tb) σ H v := fun Q q => ht _ (by
  cases b with
  | true => exact h1 rfl Q q
  | false => exact h2 rfl Q q)
theorem va_nil : ValA tNil σ H [] := fun _ q => q
theorem va_cons {tr : TA} {vs : List V} (ha : Val ta σ H x) (hr : ValA tr σ H vs) : ValA (tCons ta tr) σ H (x :: vs) := fun _ q => ha _ (hr _ q)
theorem val_cb {r : List V → Hp → VK → Prop} {tr : TA} {vs : List V} (h : ValA tr σ H vs) (hr : ∀ Q : VK, Q z H → r vs H Q) : Val (tCB r tr) σ H z := fun Q q => h _ (hr Q q)
theorem val_call {sp : Sp} {dvs vs : List V} {E : XK} {tr : TA} (h : ValA tr σ H vs) (hr : ∀ Q : VK, Q z H → sp (vs ++ dvs) H Q E) : Val (tCall sp dvs E tr) σ H z := fun Q q => h _ (hr Q q)
theorem val_gcd (ha : Val ta σ H (.int k)) (hb : Val tb σ H (.int l)) : Val (tCB rGcd (tCons ta (tCons tb tNil))) σ H (.int ((Nat.gcd k.natAbs l.natAbs : Nat) : Int)) := fun Q q => ha _ (hb _ ⟨k, l, rfl, q⟩)
theorem iabs (k : Int) : (if k < 0 then -k else k) = ((k.natAbs : Nat) : Int) := by
  by_cases h : k < 0
  · rw [if_pos h]; omega
  · rw [if_neg h]; omega
theorem val_abs (ha : Val ta σ H (.int k)) : Val (tCB (fun xs H Q => ∃ i, xs = [V.int i] ∧ Q (V.int (if i < 0 then -i else i)) H) (tCons ta tNil)) σ H (.int ((k.natAbs : Nat) : Int)) := fun Q q => ha _ ⟨k, rfl, by rw [iabs]; exact q⟩
theorem val_int (ha : Val ta σ H (.int k)) : Val (tCB (fun xs H Q => (∃ i, xs = [V.int i] ∧ Q (V.int i) H) ∨ ∃ k, xs = [V.bl k] ∧ Q (V.int (if k then 1 else 0)) H) (tCons ta tNil)) σ H (.int k) := fun Q q => ha _ (.inl ⟨k, rfl, q⟩)
theorem val_ixL {p : Addr} {xs : List V} (ha : Val ta σ H (.ref p)) (hb : Val tb σ H (.int k)) (hs : SqL K H p xs) (hx : atI xs k = some v) : Val (tOp (rIxL K) ta tb) σ H v := fun Q q => ha _ (hb _ ⟨p, xs, k, v, rfl, rfl, hs, hx, q⟩)
theorem val_ixT {p : Addr} {xs : List V} (ha : Val ta σ H (.ref p)) (hb : Val tb σ H (.int k)) (hs : SqT K H p xs) (hx : atI xs k = some v) : Val (tOp (rIxT K) ta tb) σ H v := fun Q q => ha _ (hb _ ⟨p, xs, k, v, rfl, rfl, hs, hx, q⟩)
theorem val_to {w : V} (h : Val te σ H w) (e : w = v) : Val te σ H v := e ▸ h
theorem atI_nat {xs : List V} {j : Nat} (h : xs[j]? = some v) : atI xs (j : Int) = some v := by
  have hj : j < xs.length := (List.getElem?_eq_some_iff.mp h).1
  unfold atI ixN
  rw [if_pos (Int.natCast_nonneg j), if_pos (by omega)]
  exact h
theorem atI_of {xs : List V} (h0 : 0 ≤ k) (h : xs[k.toNat]? = some v) : atI xs k = some v := by
  have e : ((k.toNat : Nat) : Int) = k := Int.toNat_of_nonneg h0
  rw [← e]
  exact atI_nat h

theorem ans_of (ha : Val te σ H (.bl a)) : Ans (tTest te) σ H a := fun Q q => ha _ ⟨a, rfl, q⟩
theorem ans_B (ha : Val te σ H (.bl a)) : Ans (tB te) σ H a := fun Q q => ha _ ⟨a, rfl, q⟩
theorem ans_and' (ha : Ans t σ H a) (hb : a = true → Ans u σ H b) : Ans (tAnd t u) σ H (a && b) := fun Q q => ha _ (by
  cases a with
  | true => exact hb rfl Q q
  | false => exact q)
theorem ans_or' (ha : Ans t σ H a) (hb : a = false → Ans u σ H b) : Ans (tOr t u) σ H (a || b) := fun Q q => ha _ (by
  cases a with
  | true => exact q
  | false => exact hb rfl Q q)

variable {D : Ends} {t1 t2 t3 : TS}
theorem q_set (h : Val te σ H v) (q : t2 D (σ.set i (some v)) H) : tSeq (tAsg te (gName i)) t2 D σ H := h _ q
theorem s_set (h : Val te σ H v) (q : D.nx (σ.set i (some v)) H) : tAsg te (gName i) D σ H := h _ q
theorem s_ret (h : Val te σ H v) (q : D.rt v H) : tRet te D σ H := h _ q
theorem q_if (h : Ans t σ H b) (h1 : b = true → t1 { D with nx := t3 D } σ H) (h2 : b = false → t2 { D with nx := t3 D } σ H) : tSeq (tIfS t t1 t2) t3 D σ H := h _ (by
  cases b with
  | true => exact h1 rfl
  | false => exact h2 rfl)
theorem s_if (h : Ans t σ H b) (h1 : b = true → t1 D σ H) (h2 : b = false → t2 D σ H) : tIfS t t1 t2 D σ H := h _ (by
  cases b with
  | true => exact h1 rfl
  | false => exact h2 rfl)
/-- an if without else -/
theorem q_when (h : Ans t σ H b) (h1 : b = true → t1 { D with nx := t3 D } σ H) (h2 : b = false → t3 D σ H) : tSeq (tIfS t t1 tNext) t3 D σ H := q_if h h1 h2
theorem s_when (h : Ans t σ H b) (h1 : b = true → t1 D σ H) (h2 : b = false → D.nx σ H) : tIfS t t1 tNext D σ H := s_if h h1 h2
theorem q_whileA (W : Nat → L2.St → Hp → Prop) (m0 : Nat) (h0 : W m0 σ H)
    (hs : ∀ m σ' H', W m σ' H' → ∃ b, Ans t σ' H' b ∧ (b = true → ∀ N : L2.St → Hp → Prop, (∀ σ2 H2 m', m' < m → W m' σ2 H2 → N σ2 H2) → t1 { D with nx := N, ct := N, bk := t2 D } σ' H') ∧ (b = false → t2 D σ' H')) : tSeq (tWhile t t1) t2 D σ H :=
  ⟨W, ⟨m0, h0⟩, fun m σ' H' w => by
    obtain ⟨b, hb, h1, h2⟩ := hs m σ' H' w
    refine hb _ ?_
    cases b with
    | true => exact ⟨fun σ2 H2 => ∃ m', m' < m ∧ W m' σ2 H2, fun _ _ n => n, h1 rfl _ fun σ2 H2 m' l w' => ⟨m', l, w'⟩⟩
    | false => exact h2 rfl⟩
/-! the same by the reading itself -/
theorem qS {te : TE} (h : te σ H fun x H1 => t2 D (σ.set i (some x)) H1) : tSeq (tAsg te (gName i)) t2 D σ H := h
theorem sS {te : TE} (h : te σ H fun x H1 => D.nx (σ.set i (some x)) H1) : tAsg te (gName i) D σ H := h
theorem qB {te to ti : TE} {r : TSet} (h : te σ H fun x H1 => to σ H1 fun o H2 => ti σ H2 fun j H3 => r o j x H3 fun H4 => t2 D σ H4) : tSeq (tAsg te (gSub to ti r)) t2 D σ H := h
theorem sB {te to ti : TE} {r : TSet} (h : te σ H fun x H1 => to σ H1 fun o H2 => ti σ H2 fun j H3 => r o j x H3 fun H4 => D.nx σ H4) : tAsg te (gSub to ti r) D σ H := h
theorem qI (h : t σ H fun b H1 => if b = true then t1 { D with nx := t3 D } σ H1 else t2 { D with nx := t3 D } σ H1) : tSeq (tIfS t t1 t2) t3 D σ H := h
theorem sI (h : t σ H fun b H1 => if b = true then t1 D σ H1 else t2 D σ H1) : tIfS t t1 t2 D σ H := h
theorem qW (h : t σ H fun b H1 => if b = true then t1 { D with nx := t3 D } σ H1 else t3 D σ H1) : tSeq (tIfS t t1 tNext) t3 D σ H := h
theorem sW (h : t σ H fun b H1 => if b = true then t1 D σ H1 else D.nx σ H1) : tIfS t t1 tNext D σ H := h
theorem qD {te : TE} (h : te σ H fun _ H1 => t2 D σ H1) : tSeq (tDrop te) t2 D σ H := h
theorem sD {te : TE} (h : te σ H fun _ H1 => D.nx σ H1) : tDrop te D σ H := h
theorem sR {te : TE} (h : te σ H D.rt) : tRet te D σ H := h
theorem qU2 {te : TE} {i j : Nat} {p : Addr} {x y : V} (h : Val te σ H (.ref p)) (ht : SqT K H p [x, y]) (q : t2 D ((σ.set i (some x)).set j (some y)) H) : tSeq (tAsg te (gTup K 2 (gCons (gName i) (gCons (gName j) gNil)))) t2 D σ H :=
  h _ ⟨p, _, rfl, ht, rfl, x, [y], rfl, y, [], rfl, rfl, q⟩
theorem call_of {sp : Sp} {dvs vs : List V} {E : XK} {tr : TA} {Q : VK} (h : ValA tr σ H vs) (hr : sp (vs ++ dvs) H Q E) : tCall sp dvs E tr σ H Q := h _ hr
theorem q_call {sp : Sp} {dvs vs : List V} {E : XK} {tr : TA} (h : ValA tr σ H vs) (hr : sp (vs ++ dvs) H (fun x H1 => t2 D (σ.set i (some x)) H1) E) : tSeq (tAsg (tCall sp dvs E tr) (gName i)) t2 D σ H := h _ hr
theorem s_rcall {sp : Sp} {dvs vs : List V} {E : XK} {tr : TA} (h : ValA tr σ H vs) (hr : sp (vs ++ dvs) H D.rt E) : tRet (tCall sp dvs E tr) D σ H := h _ hr
theorem va_at {ta : TA} {vs : List V} {Q : List V → Hp → Prop} (h : ValA ta σ H vs) (q : Q vs H) : ta σ H Q := h Q q
theorem va_atC {ta : TE} {tr : TA} {vs : List V} {Q : List V → Hp → Prop} (h : ValA (tCons ta tr) σ H vs) (q : Q vs H) : tCons ta tr σ H Q := h Q q
theorem s_par {i j : Nat} {tr : TA} {v w : V} (h : ValA tr σ H [v, w]) (q : D.nx ((σ.set i (some v)).set j (some w)) H) : tPar i j tr D σ H := h _ ⟨v, w, rfl, q⟩
theorem q_par {i j : Nat} {tr : TA} {v w : V} (h : ValA tr σ H [v, w]) (q : t2 D ((σ.set i (some v)).set j (some w)) H) : tSeq (tPar i j tr) t2 D σ H := h _ ⟨v, w, rfl, q⟩
end

theorem _root_.L2.Val.at {te : TE} {σ : L2.St} {H : Hp} {v : V} {Q : VK} (h : Val te σ H v) (q : Q v H) : te σ H Q := h Q q
/-! ### == of pairs of ints -/
theorem eqv_pair {a b c d : Int} : PyData.eqv (.tuple [.int a, .int b]) (.tuple [.int c, .int d]) = (a == c && b == d) := by
  simp [PyData.eqv, PyData.eqvAll]
theorem rEq2 {K : PySem.W.Frag} {H : Hp} {p q : Addr} {a b c d : Int} {Q : VK} (hp : H p = some (.tup [.int a, .int b])) (hq : H q = some (.tup [.int c, .int d])) (k : Q (.bl (a == c && b == d)) H) : rEqD K (.ref p) (.ref q) H Q :=
  ⟨.tuple [.int a, .int b], .tuple [.int c, .int d], .tup (SqT.of hp) (.cons (.int a) (.cons (.int b) .nil)), .tup (SqT.of hq) (.cons (.int c) (.cons (.int d) .nil)), rfl, rfl, by rw [eqv_pair]; exact k⟩
theorem rNe2 {K : PySem.W.Frag} {H : Hp} {p q : Addr} {a b c d : Int} {Q : VK} (hp : H p = some (.tup [.int a, .int b])) (hq : H q = some (.tup [.int c, .int d])) (k : Q (.bl (!(a == c && b == d))) H) : rNeD K (.ref p) (.ref q) H Q :=
  ⟨.tuple [.int a, .int b], .tuple [.int c, .int d], .tup (SqT.of hp) (.cons (.int a) (.cons (.int b) .nil)), .tup (SqT.of hq) (.cons (.int c) (.cons (.int d) .nil)), rfl, rfl, by rw [eqv_pair]; exact k⟩

/-! ### // of great ints by a divisor of either sign -/
section
variable {X : Cx}
def CDivZ (_ j : Int) : Prop := j ≠ 0 ∧ j.natAbs.log2 < 9000
theorem op_fdivZ : OpR X (binaryOp .FloorDiv) (rI CDivZ fun i j => .int (i.fdiv j)) := opI fun i j _ _ _ _ _ hc q => PyProof.Rows.floordiv_int hc.1 q (.inl (PyProof.noPylong_of_log2 hc.2))
end
/-- a def with defaults, called with keywords (no keyword-only parameters) -/
theorem kbinds1 {K : PySem.W.Frag} {x qual : Str} {params : Arguments} {body : List Stmt} {scope : Scope} {dvs : List V} {kws : List (Str × V)} {f : Addr} {fd : FuncData} {ps : List Str} (F : FunD K x qual params body scope dvs kws f fd) (n : Nat) (ks : List Str)
    (g : {α : Type} → List α → List α → List α → List α) (hd : dvs ≠ []) (hrel : ∀ {vs ds zs : List V} {us its ws : List Value}, Vals vs us → Vals ds its → Vals zs ws → Vals (g vs ds zs) (g us its ws))
    (h : ∀ (T : Addr) (kV doc pm : Value) (an : Option Addr) (cdv ct : Value) (us its ws : List Value), us.length = n → its.length = dvs.length → ws.length = ks.length →
      ∃ k, bindArgs (PySem.W.fnOf x qual params body scope (.ref T) kV doc pm an cdv ct) ⟨us, ks.zip ws⟩ = seqItems? (.ref T) >>= k ∧ k (some its.toArray) = pure (ps.zip (g us its ws))) :
    ∃ its : List Value, KBn K fd ps n ks (fun us ws => g us its ws) (fun vs zs => g vs dvs zs) := by
  obtain ⟨oc, od, dV, kV, doc, pm, an, cdv, ct, osl, rfl, lk, hcd, hD, hK⟩ := F.ex
  rcases hD with ⟨e, _⟩ | ⟨_, T, o, its, m, rfl, lT, oT, rT⟩
  · exact absurd e hd
  · refine ⟨its, ⟨fun s us ws X l1 l2 => ?_, fun r1 r2 => hrel r1 rT r2⟩⟩
    obtain ⟨k, e1, e2⟩ := h T kV doc pm an cdv ct us its ws l1 rT.length.symm l2
    refine BindsTo.of_looks fun M => ?_
    rw [e1]
    exact looks_items X lT oT (.of_pure e2)
theorem vals_nil {us : List Value} (h : Vals [] us) : us = [] := by
  cases h
  rfl
/-- a new object leaves the elder ones as they are -/
theorem kept {H : Hp} {p q : Addr} {o u : HO} (h : H p = some u) (hq : H q = none) : (upd H q o) p = some u := (upd_ne (ne_of_none h hq)).trans h
theorem passF {X : Cx} : Passes CX0 X (fun _ _ _ => False) := fun _ _ _ _ _ _ _ h => h.elim
theorem log2_lt {n b : Nat} (h0 : 0 < b) (h : n < 2 ^ b) : n.log2 < b := PySem.Flt.log2_lt_of h0 h

theorem lgp {x : Int} {n : Nat} (h : x.natAbs < 2 ^ n) (h0 : 0 < n := by decide) (h9 : n ≤ 9000 := by decide) : x.natAbs.log2 < 9000 := Nat.lt_of_lt_of_le (log2_lt h0 h) h9

/-! ### lists of a few written ints, asked by a draw -/
theorem pick (xs : List Int) (lo hi : Int) (hb : ∀ x ∈ xs, lo ≤ x ∧ x ≤ hi) {d : Int} (h0 : 0 ≤ d) (h1 : d < (xs.length : Int)) : ∃ s, atI (xs.map V.int) d = some (V.int s) ∧ lo ≤ s ∧ s ≤ hi := by
  have hd : d.toNat < xs.length := by omega
  have hm : xs[d.toNat] ∈ xs := List.getElem_mem hd
  obtain ⟨h2, h3⟩ := hb _ hm
  exact ⟨xs[d.toNat], atI_of h0 (by rw [List.getElem?_map, List.getElem?_eq_getElem hd]; rfl), h2, h3⟩

theorem pickP (xs : List Int) (P : Int → Prop) (hb : ∀ x ∈ xs, P x) {d : Int} (h0 : 0 ≤ d) (h1 : d < (xs.length : Int)) : ∃ s, atI (xs.map V.int) d = some (V.int s) ∧ P s ∧ ixN xs.length d = some d.toNat := by
  have hd : d.toNat < xs.length := by omega
  refine ⟨xs[d.toNat], atI_of h0 (by rw [List.getElem?_map, List.getElem?_eq_getElem hd]; rfl), hb _ (List.getElem_mem hd), ?_⟩
  unfold ixN
  rw [if_pos h0, if_pos h1]

/-! ### the laws' box: a list of cells, a place, a state -/
/-- the box stands at b, its cells at c -/
def BoxAt (H : Hp) (b c : Addr) : Prop := ∃ (ns : List Int) (k s : Int), H b = some (.lst [.ref c, .int k, .int s]) ∧ H c = some (.lst (ns.map V.int)) ∧ ns.length ≤ 63 ∧ (∀ x ∈ ns, 0 ≤ x) ∧ 0 ≤ k ∧ 0 ≤ s ∧ s < 2147483647
/-- all else stands as it stood -/
def Ext (b c : Addr) (H H' : Hp) : Prop := ∀ a o, a ≠ b → a ≠ c → H a = some o → H' a = some o
theorem BoxAt.ne {H : Hp} {b c : Addr} (h : BoxAt H b c) : b ≠ c := by
  obtain ⟨ns, k, s, h1, h2, _⟩ := h
  intro e
  rw [← e, h1] at h2
  cases ns with
  | nil => cases h2
  | cons n ns => cases h2
theorem BoxAt.same {H H' : Hp} {b c : Addr} (h : BoxAt H b c) (e : Same H H') : BoxAt H' b c := by
  obtain ⟨ns, k, s, h1, h2, r⟩ := h
  exact ⟨ns, k, s, e _ _ h1, e _ _ h2, r⟩
theorem BoxAt.neb {H : Hp} {b c p : Addr} (h : BoxAt H b c) (hp : H p = none) : p ≠ b ∧ p ≠ c := by
  obtain ⟨ns, k, s, h1, h2, r⟩ := h
  exact ⟨fun e => (by rw [e, h1] at hp; cases hp), fun e => (by rw [e, h2] at hp; cases hp)⟩
theorem Ext.refl {b c : Addr} {H : Hp} : Ext b c H H := fun _ _ _ _ h => h
theorem Ext.trans {b c : Addr} {H H1 H2 : Hp} (e : Ext b c H H1) (f : Ext b c H1 H2) : Ext b c H H2 := fun a o x y h => f a o x y (e a o x y h)
theorem Ext.of {b c : Addr} {H H1 : Hp} (e : Same H H1) : Ext b c H H1 := fun a o _ _ h => e a o h
theorem same_upd {H : Hp} {p : Addr} {o : HO} (hp : H p = none) : Same H (upd H p o) := fun b u e => by
  rw [upd_ne (ne_of_none e hp)]
  exact e

def spBox (K : PySem.W.Frag) : Sp := fun vs H Q _ => ∃ (a : Addr) (ns : List Int), vs = [.ref a] ∧ SqL K H a (ns.map V.int) ∧ ns.length ≤ 63 ∧ ∀ b c H', Same H H' → H b = none → H c = none → BoxAt H' b c → Q (.ref b) H'
def spTake : Sp := fun vs H Q _ => ∃ (b c : Addr) (n : Int), vs = [.ref b, .int n] ∧ BoxAt H b c ∧ 0 < n ∧ n.natAbs.log2 < 9000 ∧ ∀ (d : Int) H', 0 ≤ d → d < n → BoxAt H' b c → (∀ a, a ≠ b → a ≠ c → H' a = H a) → Q (.int d) H'
def spGcd : Sp := fun vs H Q _ => ∃ (m n : Int), vs = [.int m, .int n] ∧ Q (.int ((Nat.gcd m.natAbs n.natAbs : Nat) : Int)) H
theorem val_gcdc {σ : L2.St} {H : Hp} {ta tb : TE} {k l : Int} {E : XK} (ha : Val ta σ H (.int k)) (hb : Val tb σ H (.int l)) : Val (tCall spGcd [] E (tCons ta (tCons tb tNil))) σ H (.int ((Nat.gcd k.natAbs l.natAbs : Nat) : Int)) := fun Q q => ha _ (hb _ ⟨k, l, rfl, q⟩)
end Lk
/-! own exceptions with a field, caught: what the class must say, isinstance of the caught one -/
namespace Lk
open PySem L2
structure ExcK (K : PySem.W.Frag) (D : Addr) : Prop where
  cl : (PySem.W.clsIn K D).isSome = true
  ga : PySem.W.findIn K (.ref D) "__getattribute__" = some (some (.builtin "BaseException.__getattribute__"))
  gg : PySem.W.findIn K (.ref D) "__getattr__" = some none
  ex : PySem.W.subIn K (.ref D) (.type "BaseException") = some true
  ha : PySem.W.findIn K (.ref D) "__class__" = some (some (.builtin "object.__class__"))
  hn : PySem.W.specialIn K (.builtin "object.__class__") "__get__" = some (some (.builtin "getset_descriptor.__get__"))
  ht : PySem.W.takesIn K (.builtin "object.__class__") = some true
  hm : PySem.W.mroIn K D (.type "object") = some true
def rIsX (K : PySem.W.Frag) (a : Addr) (cls : Value) (d : Option Addr) : List V → Hp → VK → Prop := fun xs H Q => ∃ (c : V) (cv : Value) (b : Bool) (D dd : Addr) (fs : List (Str × V)),
  xs = [.ref a, c] ∧ cls = .ref D ∧ d = some dd ∧ ExcK K D ∧ H dd = some (.xd fs) ∧ (∀ u, RelV c u → u = cv) ∧ PySem.W.kitOne K (.ref D) cv = some b ∧ Q (.bl b) H
theorem call_isX {X : Cx} {a : Addr} {cls : Value} {d : Option Addr} {oe : Obj} {pn : List (Addr × Obj)} (hz : Zc cls d oe) (hf : ∃ vs, oe.data = .fields vs) : CallR (X.suite a ((a, oe) :: pn)) (.builtin "isinstance") (rIsX X.K a cls d) := by
  intro pins s σ H xs us Q I r h
  obtain ⟨c, cv, b, D, dd, fs, rfl, rfl, rfl, T, ea, hcv, e, q⟩ := h
  cases r with
  | cons rx rr =>
    cases rr with
    | cons rt rr =>
      cases rr
      cases rx
      have ec := hcv _ rt
      subst ec
      obtain ⟨hget, _⟩ := I.pin (a, oe) (List.mem_append.mpr (.inl List.mem_cons_self))
      obtain ⟨vs, hv⟩ := hf
      have hx : ObjOk X.prog X.w H s.heap dd (.xd fs) := I.hok dd _ ea
      obtain ⟨mA, hns, hr⟩ := hx
      obtain ⟨od, ho, hl⟩ := lookIn_ns hns
      have J : PySem.W.InstAt s.heap a oe D (some od) := ⟨hget, hz.1, by unfold PySem.W.notCls; rw [hv] <;> rfl, by rw [hz.2]; exact ho⟩
      exact PySem.W.kia_one (PySem.W.kitx_exc T.cl T.ga T.gg T.ex T.ha T.hn T.ht T.hm) I.kIn J e (fun z => nomatch z) fun tk => ⟨.bl b, H, I.tok tk, rfl, q⟩
/-- __init__(self, v): self.f = v, of an exception's class -/
def spExcInit (C : Addr) (f : Str) : Sp := fun vs H Q _ => ∃ (a : Addr) (v : V), vs = [.ref a, v] ∧ H a = some (exo a C none) ∧ ∀ dx, H dx = none → dx ≠ a → Q .non (upd (upd H dx (exd dx [(f, v)])) a (exo a C (some dx)))
/-- what is raised: an error of the class C whose field f is v -/
def Raised (C : Addr) (f : Str) (v : V) (H : Hp) (E : XK) : Prop := ∀ d H', Same H H' → H d = none → H' d = some (.xd [(f, v)]) → E (.ref C) (some d) H'
theorem raised_end {C a d : Addr} {f : Str} {v : V} {H : Hp} {E : XK} (ha : H a = none) (hd : H d = none) (hda : d ≠ a) (k : Raised C f v H E) : E (.ref C) (some d) (upd (del (upd (upd (upd H a (exo a C none)) d (exd d [(f, v)])) a (exo a C (some d))) a) d (.xd [(f, v)])) := by
  refine k d _ (fun b o e => ?_) hd upd_same
  have hb : b ≠ a := ne_of_none e ha
  have hbd : b ≠ d := ne_of_none e hd
  rw [upd_ne hbd, del_ne hb, upd_ne hb, upd_ne hbd, upd_ne hb]
  exact e
end Lk
/-! ratios: the mathematics -/
namespace Lk
/-- the signed greatest common divisor that ratio divides by -/
def rdiv (n d : Int) : Int := if d < 0 then -((Nat.gcd n.natAbs d.natAbs : Nat) : Int) else ((Nat.gcd n.natAbs d.natAbs : Nat) : Int)
def ratN (n d : Int) : Int := n.fdiv (rdiv n d)
def ratD (n d : Int) : Int := d.fdiv (rdiv n d)
/-- a/b is in lowest terms -/
def Low (a b : Int) : Prop := 1 ≤ b ∧ Nat.gcd a.natAbs b.natAbs = 1
theorem rdiv_ne {n d : Int} (hd : d ≠ 0) : rdiv n d ≠ 0 := by
  have hg : 0 < Nat.gcd n.natAbs d.natAbs := Nat.gcd_pos_of_pos_right _ (by omega)
  unfold rdiv
  split <;> omega
theorem rdiv_natAbs (n d : Int) : (rdiv n d).natAbs = Nat.gcd n.natAbs d.natAbs := by
  unfold rdiv
  split <;> omega
theorem fdiv_of_mul {a b c : Int} (hb : b ≠ 0) (h : a = c * b) : a.fdiv b = c := by
  rw [h]
  exact Int.mul_fdiv_cancel _ hb
theorem dvd_rdiv_left (n d : Int) : rdiv n d ∣ n := Int.natAbs_dvd_natAbs.mp (by rw [rdiv_natAbs]; exact Nat.gcd_dvd_left _ _)
theorem dvd_rdiv_right (n d : Int) : rdiv n d ∣ d := Int.natAbs_dvd_natAbs.mp (by rw [rdiv_natAbs]; exact Nat.gcd_dvd_right _ _)
theorem ratN_mul {n d : Int} (hd : d ≠ 0) : ratN n d * rdiv n d = n := by
  obtain ⟨c, hc⟩ := dvd_rdiv_left n d
  have : ratN n d = c := fdiv_of_mul (rdiv_ne hd) (by rw [Int.mul_comm]; exact hc)
  rw [this, Int.mul_comm]
  exact hc.symm
theorem ratD_mul {n d : Int} (hd : d ≠ 0) : ratD n d * rdiv n d = d := by
  obtain ⟨c, hc⟩ := dvd_rdiv_right n d
  have : ratD n d = c := fdiv_of_mul (rdiv_ne hd) (by rw [Int.mul_comm]; exact hc)
  rw [this, Int.mul_comm]
  exact hc.symm
theorem rat_low {n d : Int} (hd : d ≠ 0) : Low (ratN n d) (ratD n d) := by
  have h1 := ratN_mul (n := n) hd
  have h2 := ratD_mul (n := n) hd
  have h3 := rdiv_ne (n := n) hd
  have hg := rdiv_natAbs n d
  have gpos : 0 < Nat.gcd n.natAbs d.natAbs := Nat.gcd_pos_of_pos_right _ (by omega)
  constructor
  · by_cases hneg : d < 0
    · have hr : rdiv n d < 0 := by
        unfold rdiv
        rw [if_pos hneg]
        omega
      by_cases hb : 1 ≤ ratD n d
      · exact hb
      · have : 0 ≤ ratD n d * rdiv n d := Int.mul_nonneg_of_nonpos_of_nonpos (by omega) (by omega)
        omega
    · have hr : 0 < rdiv n d := by
        unfold rdiv
        rw [if_neg hneg]
        omega
      by_cases hb : 1 ≤ ratD n d
      · exact hb
      · have : ratD n d * rdiv n d ≤ 0 := Int.mul_nonpos_of_nonpos_of_nonneg (by omega) (by omega)
        omega
  · have e1 : (ratN n d).natAbs * Nat.gcd n.natAbs d.natAbs = n.natAbs := by rw [← hg, ← Int.natAbs_mul, h1]
    have e2 : (ratD n d).natAbs * Nat.gcd n.natAbs d.natAbs = d.natAbs := by rw [← hg, ← Int.natAbs_mul, h2]
    have e3 : Nat.gcd ((ratN n d).natAbs * Nat.gcd n.natAbs d.natAbs) ((ratD n d).natAbs * Nat.gcd n.natAbs d.natAbs) = Nat.gcd n.natAbs d.natAbs := by rw [e1, e2]
    rw [Nat.gcd_mul_right] at e3
    exact Nat.eq_of_mul_eq_mul_right gpos (by rw [Nat.one_mul]; exact e3)
theorem rat_cross {n d : Int} (hd : d ≠ 0) : ratN n d * d = n * ratD n d := by
  have h1 := ratN_mul (n := n) hd
  have h2 := ratD_mul (n := n) hd
  have e : ratN n d * (ratD n d * rdiv n d) = ratN n d * rdiv n d * ratD n d := by
    rw [Int.mul_assoc, Int.mul_comm (rdiv n d)]
  rw [h2, h1] at e
  exact e
theorem low_unique {a b c d : Int} (h1 : Low a b) (h2 : Low c d) (h : a * d = c * b) : a = c ∧ b = d := by
  obtain ⟨b1, g1⟩ := h1
  obtain ⟨d1, g2⟩ := h2
  have hN : a.natAbs * d.natAbs = c.natAbs * b.natAbs := by rw [← Int.natAbs_mul, h, Int.natAbs_mul]
  have x1 : b.natAbs ∣ d.natAbs := Nat.Coprime.dvd_of_dvd_mul_left (show Nat.Coprime b.natAbs a.natAbs from (Nat.gcd_comm _ _).trans g1) ⟨c.natAbs, by rw [hN, Nat.mul_comm]⟩
  have x2 : d.natAbs ∣ b.natAbs := Nat.Coprime.dvd_of_dvd_mul_left (show Nat.Coprime d.natAbs c.natAbs from (Nat.gcd_comm _ _).trans g2) ⟨a.natAbs, by rw [← hN, Nat.mul_comm]⟩
  have e : b.natAbs = d.natAbs := Nat.dvd_antisymm x1 x2
  have e2 : b = d := by omega
  subst e2
  exact ⟨Int.eq_of_mul_eq_mul_right (by omega) h, rfl⟩
theorem low_rat {a b : Int} (h : Low a b) : ratN a b = a ∧ ratD a b = b := by
  have hb : b ≠ 0 := by
    have := h.1
    omega
  have e := low_unique (rat_low (n := a) hb) h (rat_cross hb)
  exact e
theorem rat_neg {n d : Int} (hd : d ≠ 0) : ratN (-n) (-d) = ratN n d ∧ ratD (-n) (-d) = ratD n d := by
  have hd' : -d ≠ 0 := by omega
  refine low_unique (rat_low hd') (rat_low hd) ?_
  have h1 := rat_cross (n := n) hd
  have h2 := rat_cross (n := -n) hd'
  have e1 : ratN (-n) (-d) * d = n * ratD (-n) (-d) := by
    rw [Int.mul_neg, Int.neg_mul] at h2
    omega
  -- multiply by d
  have e2 : (ratN (-n) (-d) * ratD n d) * d = (ratN n d * ratD (-n) (-d)) * d := by
    rw [Int.mul_right_comm, e1, Int.mul_right_comm (ratN n d), h1, Int.mul_right_comm]
  exact Int.eq_of_mul_eq_mul_right hd e2
theorem rat_one (n : Int) : ratN n 1 = n ∧ ratD n 1 = 1 := low_rat ⟨by omega, by simp⟩
theorem rdiv_log {n d : Int} (hd : d ≠ 0) (h : d.natAbs.log2 < 9000) : (rdiv n d).natAbs.log2 < 9000 := by
  rw [rdiv_natAbs]
  have hle : Nat.gcd n.natAbs d.natAbs ≤ d.natAbs := Nat.gcd_le_right _ (by omega)
  have hlt : d.natAbs < 2 ^ 9000 := (Nat.log2_lt (by omega)).mp h
  by_cases h0 : Nat.gcd n.natAbs d.natAbs = 0
  · rw [h0]
    decide
  · exact (Nat.log2_lt h0).mpr (Nat.lt_of_le_of_lt hle hlt)
theorem ratN_le {n d : Int} (hd : d ≠ 0) : (ratN n d).natAbs ≤ n.natAbs := by
  have h1 := ratN_mul (n := n) hd
  have e : (ratN n d).natAbs * (rdiv n d).natAbs = n.natAbs := by rw [← Int.natAbs_mul, h1]
  have h3 := rdiv_ne (n := n) hd
  rw [← e]
  exact Nat.le_mul_of_pos_right _ (by omega)
theorem ratD_le {n d : Int} (hd : d ≠ 0) : (ratD n d).natAbs ≤ d.natAbs := by
  have h1 := ratD_mul (n := n) hd
  have e : (ratD n d).natAbs * (rdiv n d).natAbs = d.natAbs := by rw [← Int.natAbs_mul, h1]
  have h3 := rdiv_ne (n := n) hd
  have h4 : (ratD n d).natAbs ≤ (ratD n d).natAbs * (rdiv n d).natAbs := Nat.le_mul_of_pos_right _ (by omega)
  omega
end Lk
/-! defs with a star parameter, called with plain arguments -/
namespace Lk
open PySem L2
def starSp (n : Nat) (sp : Sp) : Sp := fun vs H Q E => ∃ ws rest, vs = ws ++ rest ∧ ws.length = n ∧ rest.length ≤ sizeLine ∧ ∀ p, H p = Option.none → sp (ws ++ [V.ref p]) (upd H p (.tup rest)) Q E
section
variable {P : Program} {w : World} {K : PySem.W.Frag} {mg : Str → Option Value} {base : Heap}
theorem okStar {CX : CXT} {x qual pv : Str} {st : Stmt} {f : Addr} {fd : FuncData} {N ps : List Str} {k : Nat} {sp : Sp} (F : Fun K x qual st f fd) (S : FnScope N (ps ++ [pv]) (defScope st)) (hCX : StX.CXUp CX)
    (hb : ∀ (kV doc pm : Value) (an : Option Addr) (cdv ct : Value) (us rest : List Value), us.length = ps.length → bindArgs (PySem.W.fnOf x qual (defArgs st) (defBody st) (defScope st) .none kV doc pm an cdv ct) ⟨us ++ rest, []⟩ = (newTuple rest >>= fun t => pure (ps.zip us ++ [(pv, t)])))
    (hbody : ∀ (cdv : Value) (A : Around) (outer : List Env) (s : Shared) (H : Hp) (vs : List V) (Q : VK) (E : XK), Room k (A.deeper (PyProof.Rows.envOfC qual (defScope st) s.heap.objs.size f cdv)) → sp vs H Q E →
      ∃ t, PSs (cxOf CX P w K mg base N qual (defScope st) f cdv A outer s H E) (defBody st) t ∧ t { nx := fun _ H' => Q .non H', rt := Q } (L2.start N vs) H) : FnR P w K mg base CX (k + 1) f (starSp ps.length sp) := by
  obtain ⟨oc, od, kV, doc, pm, an, cdv, ct, osl, rfl, lk, hcd⟩ := F.ex
  exact StX.fn_star lk hcd S hCX (hb kV doc pm an cdv ct) fun A outer s H vs Q E hr hsp => hbody cdv A outer s H vs Q E hr hsp
end
section
variable {X : Cx} {CX : CXT} {k : Nat} {f : Addr} {sp : Sp} {E : XK} {x : Str} {e : Expr} {es : List Expr} {t : TA} {p pos : Pos}
def tCallR (sp : Sp) (E : XK) (t : TA) : TE := fun σ H Q => t σ H fun vs H1 => sp vs H1 Q E
theorem pe_callR (F : FnR X.prog X.w X.K X.mg X.base CX k f sp) (hr : Room k X.A) (hg : Gl X x) (hm : X.mg x = some (.ref f)) (hk : PySem.W.keepIn X.K (.ref f) = true) (hx : Passes CX X E) (ha : PA X (e :: es) t) (hdb : (x == ("__debug__" : Str)) = false := by decide)
    (he : starEach (e :: es) X.env = (false, eval e X.env) :: starEach es X.env := by rfl) (hpl : (backTo pos (starEach es X.env)).any (·.1) = false := by rfl) :
    PE X (.Call (.Name x p) (e :: es) [] pos) (tCallR sp E t) := by
  refine ⟨fun pins s σ H Q I h => ?_⟩
  refine wpAny_Call_Name_kw (ld_glob I hg hm ?_ hdb)
  refine PySem.W.callWith_K (h₀ := X.base) I.ok.mod.kin hk (thn (ha.run pos pins s σ H _ I h) fun us s1 ⟨vs, H1, I1, r, q⟩ => ⟨I1.kIn, ?_⟩) he hpl
  exact wpAny_call (run_fnR F hr hx I1 r q)
theorem pe_callR0 (F : FnR X.prog X.w X.K X.mg X.base CX k f sp) (hr : Room k X.A) (hg : Gl X x) (hm : X.mg x = some (.ref f)) (hk : PySem.W.keepIn X.K (.ref f) = true) (hx : Passes CX X E) (hdb : (x == ("__debug__" : Str)) = false := by decide) :
    PE X (.Call (.Name x p) [] [] pos) (tCallR sp E tNil) := by
  refine ⟨fun pins s σ H Q I h => ?_⟩
  refine wpAny_Call_Name_kw (ld_glob I hg hm ?_ hdb)
  exact PySem.W.callWith_K0 I.kIn hk (wpAny_call (run_fnR F hr hx I .nil h))
theorem callR_of {σ : L2.St} {H : Hp} {vs : List V} {Q : VK} (h : ValA t σ H vs) (hr : sp vs H Q E) : tCallR sp E t σ H Q := h _ hr
end
end Lk
/-! own classes with a dict: made by star arguments, their operators, len, repr, [], unary minus -/
namespace Lk
open PySem L2
section
variable {X : Cx} {pins : List (Addr × Obj)} {σ : L2.St} {H : Hp} {s : Shared}
theorem inst_at {a C dx : Addr} {fs : List (Str × V)} (I : Inv X pins σ H s) (ea : H a = some (.ins C dx fs)) : ∃ ox od, PySem.W.InstAt s.heap a ox C (some od) := by
  obtain ⟨mA, O, _⟩ := ins_get I.hok ea
  obtain ⟨od, J, _⟩ := O.look
  exact ⟨_, od, J⟩
end
section
variable {X : Cx} {CX : CXT} {n k i : Nat} {C g f : Addr} {sp : Sp} {E : XK} {e : Expr} {te : TE} {x : Str} {p sp_ pos : Pos}
/-- C(*e), C a class of the module -/
def tMakeS (K : PySem.W.Frag) (C : Addr) (sp : Sp) (E : XK) (te : TE) : TE := fun σ H Q => te σ H fun y H1 => ∃ a xs, y = V.ref a ∧ (SqT K H1 a xs ∨ SqL K H1 a xs) ∧ ∀ o dx, H1 o = Option.none → H1 dx = Option.none → dx ≠ o →
  sp (V.ref o :: xs) (upd (upd H1 dx (.own o)) o (.ins C dx [])) (fun v H2 => v = .non ∧ Q (.ref o) H2) E
theorem pe_makeS (M : Mk X.K C f) (F : FnR X.prog X.w X.K X.mg X.base CX k f sp) (hr : Room (k + 1) X.A) (hg : Gl X x) (hm : X.mg x = some (.ref C)) (hx : Passes CX X E) (he : PE X e te) (hd : (x == ("__debug__" : Str)) = false := by decide)
    (hst : starEach [.Starred e sp_] X.env = [(true, eval e X.env)] := by rfl) : PE X (.Call (.Name x p) [.Starred e sp_] [] pos) (tMakeS X.K C sp E te) := by
  refine ⟨fun pins s σ H Q I h => ?_⟩
  refine wpAny_Call_Name_kw (ld_glob I hg hm ?_ hd)
  refine PySem.W.callWith_S (h₀ := X.base) I.ok.mod.kin M.kp (thn (he.run pins s σ H _ I h) fun v s1 ⟨y, H1, I1, ry, a, xs, ey, hxs, q⟩ => ?_) hst
  subst ey
  obtain rfl : v = Value.ref a := ry
  exact StX.star_any I1 hxs fun us s2 I2 rv => ⟨I2.kIn, StX.run_makeR M F hr hx I2 rv q⟩
/-- c(*e), c a name of the def that holds the class C -/
def tMakeLS (K : PySem.W.Frag) (i : Nat) (C : Addr) (sp : Sp) (E : XK) (te : TE) : TE := fun σ H Q => σ[i]? = some (some (.ref C)) ∧ tMakeS K C sp E te σ H Q
theorem pe_makeLS (M : Mk X.K C f) (F : FnR X.prog X.w X.K X.mg X.base CX k f sp) (hr : Room (k + 1) X.A) (hx : Passes CX X E) (hN : X.N[i]? = some x) (hv : Vis X.env.scope x) (he : PE X e te) (hd : (x == ("__debug__" : Str)) = false := by decide)
    (hcd : (x == ("__classdict__" : Str)) = false := by decide) (hst : starEach [.Starred e sp_] X.env = [(true, eval e X.env)] := by rfl) : PE X (.Call (.Name x p) [.Starred e sp_] [] pos) (tMakeLS X.K i C sp E te) := by
  refine ⟨fun pins s σ H Q I h => ?_⟩
  obtain ⟨hs, h⟩ := h
  refine wpAny_Call_Name_kw (thn ((pe_var (pos := p) (i := i) hN hv hd hcd).run pins s σ H (fun v H1 => v = .ref C ∧ H1 = H) I ⟨.ref C, hs, rfl, rfl⟩) fun u s1 ⟨v, H1, I1, r1, ev, eH⟩ => ?_)
  subst ev
  rw [eH] at I1
  cases r1
  refine PySem.W.callWith_S (h₀ := X.base) I.ok.mod.kin M.kp (thn (he.run pins s1 σ H _ I1 h) fun v s1 ⟨y, H1, I1, ry, a, xs, ey, hxs, q⟩ => ?_) hst
  subst ey
  obtain rfl : v = Value.ref a := ry
  exact StX.star_any I1 hxs fun us s2 I2 rv => ⟨I2.kIn, StX.run_makeR M F hr hx I2 rv q⟩
/-- C(), without arguments -/
theorem pe_makeR0 (M : Mk X.K C f) (F : FnR X.prog X.w X.K X.mg X.base CX k f sp) (hr : Room (k + 1) X.A) (hg : Gl X x) (hm : X.mg x = some (.ref C)) (hx : Passes CX X E) (hdb : (x == ("__debug__" : Str)) = false := by decide) :
    PE X (.Call (.Name x p) [] [] pos) (StX.tMakeR C sp E tNil) := by
  refine ⟨fun pins s σ H Q I h => ?_⟩
  refine wpAny_Call_Name_kw (ld_glob I hg hm ?_ hdb)
  exact PySem.W.callWith_K0 I.kIn M.kp (StX.run_makeR M F hr hx I .nil h)

/-! ### operators -/
/-- x op y, both instances of C -/
def rBin (C : Addr) (sp : Sp) (E : XK) : R2 := fun x y H Q => ∃ a dx fs b dy gs, x = .ref a ∧ y = .ref b ∧ H a = some (.ins C dx fs) ∧ H b = some (.ins C dy gs) ∧ sp [x, y] H Q E
/-- x op k, k an int -/
def rBinI (C : Addr) (sp : Sp) (E : XK) : R2 := fun x y H Q => ∃ a dx fs j, x = .ref a ∧ y = .int j ∧ H a = some (.ins C dx fs) ∧ sp [x, y] H Q E
def rUnO (C : Addr) (sp : Sp) (E : XK) : V → Hp → VK → Prop := fun x H Q => ∃ a dx fs, x = .ref a ∧ H a = some (.ins C dx fs) ∧ sp [x] H Q E
/-- what the class must say of op, with an int on the other side -/
structure OpOk (K : PySem.W.Frag) (C g : Addr) (nm : String) : Prop where
  self : PySem.W.selfFirst K C = true
  at_ : PySem.W.findIn K (.ref C) (PySem.dunder nm) = some (some (.ref g))
  fn : PySem.W.isFn K (.ref g) = true
structure OpOkI (K : PySem.W.Frag) (C : Addr) (nm : String) : Prop where
  r : ∃ rc, PySem.W.findIn K (.ref C) (dunderR nm) = some rc ∧ (rc = none ∨ ∃ g : Addr, rc = some (.ref g))
  i1 : ∃ fo, PySem.W.findIn K (.type "int") (PySem.dunder nm) = some fo
  i2 : ∃ ro, PySem.W.findIn K (.type "int") (dunderR nm) = some ro
  sub : PySem.W.subIn K (.type "int") (.ref C) = some false
theorem op_bin {op : Operator} (O : OpOk X.K C g op.info.2) (F : FnR X.prog X.w X.K X.mg X.base CX n g sp) (hr : Room n X.A) (hx : Passes CX X E) : OpR X (binaryOp op) (rBin C sp E) := by
  intro pins s σ H x y v u Q I rx ry h
  obtain ⟨a, dx, fs, b, dy, gs, rfl, rfl, ha, hb, q⟩ := h
  cases (show v = Value.ref a from rx)
  cases (show u = Value.ref b from ry)
  obtain ⟨_, _, J⟩ := inst_at I ha
  obtain ⟨_, _, J'⟩ := inst_at I hb
  obtain ⟨m, hF⟩ := I.fr
  refine PySem.W.binop_K hF I.ok.mod.kin J J'.type O.self O.at_ O.fn ?_
  refine wpAny_mono (wpAny_call (run_fnR (us := [.ref a, .ref b]) (vs := [.ref a, .ref b]) F hr hx I (.cons rfl (.cons rfl .nil)) q)) (fun w s' z => ?_) fun _ _ x => x
  obtain ⟨z', H', I', rz, qz⟩ := z
  exact SlX.cmpback rz ⟨z', H', I', rz, qz⟩
theorem op_binI {op : Operator} (O : OpOk X.K C g op.info.2) (O2 : OpOkI X.K C op.info.2) (F : FnR X.prog X.w X.K X.mg X.base CX n g sp) (hr : Room n X.A) (hx : Passes CX X E) : OpR X (binaryOp op) (rBinI C sp E) := by
  intro pins s σ H x y v u Q I rx ry h
  obtain ⟨a, dx, fs, j, rfl, rfl, ha, q⟩ := h
  cases (show v = Value.ref a from rx)
  obtain ⟨t, ej⟩ := (show ∃ t, u = Value.int j t from ry)
  subst ej
  obtain ⟨_, _, J⟩ := inst_at I ha
  obtain ⟨m, hF⟩ := I.fr
  obtain ⟨rc, r1, r2⟩ := O2.r
  obtain ⟨fo, i1⟩ := O2.i1
  obtain ⟨ro, i2⟩ := O2.i2
  refine PySem.W.ksp_binT (T := "int") hF I.ok.mod.kin J rfl O.self O.at_ O.fn r1 r2 i1 i2 O2.sub ?_
  refine wpAny_mono (wpAny_call (run_fnR (us := [.ref a, .int j t]) (vs := [.ref a, .int j]) F hr hx I (.cons rfl (.cons ⟨t, rfl⟩ .nil)) q)) (fun w s' z => ?_) fun _ _ x => x
  obtain ⟨z', H', I', rz, qz⟩ := z
  exact SlX.cmpback rz ⟨z', H', I', rz, qz⟩
theorem un_own (hs : PySem.W.findIn X.K (.ref C) "__neg__" = some (some (.ref g))) (hf : PySem.W.isFn X.K (.ref g) = true) (F : FnR X.prog X.w X.K X.mg X.base CX n g sp) (hr : Room n X.A) (hx : Passes CX X E) : UnR X (unaryOp .USub) (rUnO C sp E) := by
  intro pins s σ H x v Q I rx h
  obtain ⟨a, dx, fs, rfl, ha, q⟩ := h
  cases (show v = Value.ref a from rx)
  obtain ⟨_, _, J⟩ := inst_at I ha
  obtain ⟨m, hF⟩ := I.fr
  refine PySem.W.ksp_neg hF I.ok.mod.kin J hs hf ?_
  exact wpAny_call (run_fnR (us := [.ref a]) (vs := [.ref a]) F hr hx I (.cons rfl .nil) q)
/-- len(x) by an own __len__ -/
def rLenO (C : Addr) (sp : Sp) (E : XK) : List V → Hp → VK → Prop := fun xs H Q => ∃ a dx fs, xs = [.ref a] ∧ H a = some (.ins C dx fs) ∧ sp [.ref a] H (fun v H' => ∃ j : Int, v = .int j ∧ 0 ≤ j ∧ j < 2 ^ 63 ∧ Q (.int j) H') E
theorem call_lenO (hs : PySem.W.findIn X.K (.ref C) "__len__" = some (some (.ref g))) (hf : PySem.W.isFn X.K (.ref g) = true) (F : FnR X.prog X.w X.K X.mg X.base CX n g sp) (hr : Room (n + 1) X.A) (hx : ∀ (H : Hp) (s : Shared) (e : Value) (s' : Shared), CX X.stack H s E e s' → False) : CallR X (.builtin "len") (rLenO C sp E) := by
  intro pins s σ H xs us Q I r h
  obtain ⟨a, dx, fs, rfl, ha, q⟩ := h
  obtain ⟨u, rfl, ru⟩ := vals1 r
  cases (show u = Value.ref a from ru)
  obtain ⟨_, _, J⟩ := inst_at I ha
  obtain ⟨m, hF⟩ := I.fr
  refine PySem.W.len_K hF I.ok.mod.kin J hs hf (wpAny_call ?_)
  refine codeAny_mono (F X.A.in1 X.stack s H [.ref a] [.ref a] _ E hr.in1 I.env0.in1 (.cons rfl .nil) q) fun r s' hq => ?_
  cases r with
  | error e => exact (hx _ _ _ _ hq).elim
  | ok fl =>
    cases fl with
    | ret u =>
      obtain ⟨v, H', I2, rv, j, ev, j0, j1, q⟩ := I.after hq
      subst ev
      obtain ⟨t, et⟩ := (show ∃ t, u = Value.int j t from rv)
      subst et
      exact ⟨⟨j0, j1⟩, .int j, H', I2.tok _, ⟨_, rfl⟩, q⟩
    | next => exact False.elim hq
    | brk => exact False.elim hq
    | cont => exact False.elim hq
/-- x == y by an own __eq__, y of any type that is not below C -/
def rEqO (K : PySem.W.Frag) (C : Addr) (sp : Sp) (E : XK) : R2 := fun x y H Q => ∃ a dx fs t, x = .ref a ∧ H a = some (.ins C dx fs) ∧ TyX K H y t ∧ PySem.W.notFirst K C t = true ∧ sp [x, y] H Q E
theorem op_eqO (hs : PySem.W.findIn X.K (.ref C) "__eq__" = some (some (.ref g))) (hf : PySem.W.isFn X.K (.ref g) = true) (F : FnR X.prog X.w X.K X.mg X.base CX n g sp) (hr : Room n X.A) (hx : Passes CX X E) : OpR X (compareOp .Eq) (rEqO X.K C sp E) := by
  intro pins s σ H x y v u Q I rx ry h
  obtain ⟨a, dx, fs, t, rfl, ha, ty, hn, q⟩ := h
  cases (show v = Value.ref a from rx)
  obtain ⟨_, _, J⟩ := inst_at I ha
  obtain ⟨P, Z, p, _⟩ := kit_of I ry ty
  obtain ⟨m, hF⟩ := I.fr
  refine PySem.W.cmp_ofEq ?_
  refine PySem.W.cmp_K (op := .Eq) (tb := t) hr.units0 hF I.ok.mod.kin J (Z.ty _ _ I.kIn p) hn hs hf ?_
  refine wpAny_mono (wpAny_call (run_fnR (us := [.ref a, u]) (vs := [.ref a, y]) F hr hx I (.cons rfl (.cons ry .nil)) q)) (fun w s' z => ?_) fun _ _ x => x
  obtain ⟨z', H', I', rz, qz⟩ := z
  exact SlX.cmpback rz ⟨z', H', I', rz, qz⟩
/-- x[k] by an own __getitem__ -/
def rIxO (C : Addr) (sp : Sp) (E : XK) : R2 := fun x y H Q => ∃ a dx fs j, x = .ref a ∧ y = .int j ∧ H a = some (.ins C dx fs) ∧ sp [x, y] H Q E
end
end Lk

/-! ### an int on the left, an instance on the right: the reflected def -/
namespace PySem
theorem lk_int_add (a : Int) (t : Tok) (l : Addr) (cls : Value) (d : Option Addr) (sl : Array (Option Value)) :
    Meets (Builtin.«int.__add__» ⟨[.int a t, .ref l], []⟩) (fun _ R s => s.heap.get? l = some { cls := cls, dict := d, data := .plain, slots := sl } ∧ R (.ok (.ret Value.notImplemented)) s) :=
  .of_wp fun prog w A R s h => by obtain ⟨hp, g, d, tk, os⟩ := s; obtain ⟨hl, h⟩ := h; wp_walk; exact ⟨_, rfl, h⟩
theorem lk_int_sub (a : Int) (t : Tok) (l : Addr) (cls : Value) (d : Option Addr) (sl : Array (Option Value)) :
    Meets (Builtin.«int.__sub__» ⟨[.int a t, .ref l], []⟩) (fun _ R s => s.heap.get? l = some { cls := cls, dict := d, data := .plain, slots := sl } ∧ R (.ok (.ret Value.notImplemented)) s) :=
  .of_wp fun prog w A R s h => by obtain ⟨hp, g, d, tk, os⟩ := s; obtain ⟨hl, h⟩ := h; wp_walk; exact ⟨_, rfl, h⟩
theorem lk_int_mul (a : Int) (t : Tok) (l : Addr) (cls : Value) (d : Option Addr) (sl : Array (Option Value)) :
    Meets (Builtin.«int.__mul__» ⟨[.int a t, .ref l], []⟩) (fun _ R s => s.heap.get? l = some { cls := cls, dict := d, data := .plain, slots := sl } ∧ R (.ok (.ret Value.notImplemented)) s) :=
  .of_wp fun prog w A R s h => by obtain ⟨hp, g, d, tk, os⟩ := s; obtain ⟨hl, h⟩ := h; wp_walk; exact ⟨_, rfl, h⟩
end PySem
namespace PySem.W
open PySem PySem.Calls PyProof.Rows
section
variable {prog : Program} {w : World} {A : Around} {E : Value → Shared → Prop} {s : Shared} {K : Frag} {x C L f : Addr} {h₀ : Heap} {m : Str → Option Value} {ox : Obj} {od : Option Obj}
theorem lk_binR {op : Operator} {id : String} {fd : Addr} {j : Int} {t : Tok} {Q : Value → Shared → Prop} (F : Fr h₀ L s.heap m) (X₀ : K.In h₀) (I : InstAt s.heap x ox C od) (hc : selfFirst K C = true)
    (hd : findIn K (.ref C) (PySem.dunder op.info.2) = some (some (.ref fd))) (hs : findIn K (.ref C) (dunderR op.info.2) = some (some (.ref f))) (hf : isFn K (.ref f) = true)
    (hfi : fillsNumberSlot (.type "int") op.info.2 = pure true) (hsl : Slot "int" (PySem.dunder op.info.2) id) (hsub : subIn K (.ref C) (.type "int") = some false)
    (hn : ∀ P : Shared → Prop, P s → wpAny (model prog w) A (call (.builtin id) [.int j t, .ref x]) (fun v s' => v = .notImplemented ∧ P s') E s)
    (h : wpAny (model prog w) A (call (.ref f) [.ref x, .int j t]) (CmpBack Q) E s) : wpAny (model prog w) A (binaryOp op (.int j t) (.ref x)) Q E s := by
  have X := X₀.keeps F.keep
  obtain ⟨cd, rest, hcd, hm⟩ := ksp_first hc
  have one := ksp_try X I hs hf h
  rcases hi : op.info with ⟨sym, nm'⟩
  rw [hi] at hd hs hfi hsl one
  dsimp only at hd hs hfi hsl one
  have L1 : Looks (model prog w) s.heap (typeOf (.ref x)) (.ref C) := I.type
  have L3 : Looks (model prog w) s.heap (fillsNumberSlot (.ref C) nm') true := fills_K X hcd hm hd
  have L5 : Looks (model prog w) s.heap (isSubtype (.ref C) (.type "int")) false := looks_subIn X hsub
  have hne : (Value.type "int" == Value.ref C) = false := Bool.eq_false_iff.mpr fun q => by cases beq_iff_eq.mp q
  have hpy : numberSlotInPython (.type "int") nm' = pure false := rfl
  simp only [binaryOp, hi]
  refine wpAny_holding (wpAny_bind ?_)
  unfold binaryOp1
  refine wpAny_bind (wpAny_typeOf (typeIs_int s j t) (wpAny_bind (L1.here (wpAny_bind (wpAny_of_eq hfi ?_)))))
  simp only [hne, Bool.false_eq_true, if_false]
  refine wpAny_bind (L3.here ?_)
  simp only [Bool.and_self, if_true]
  refine wpAny_bind (L5.here ?_)
  simp only [Bool.false_eq_true, if_false, pure_bind, Bool.not_false, Bool.and_self, if_true, hpy]
  refine wpAny_bind (wpAny_tryMethod_declines (typeIs_int s j t) hsl (hn (fun s' => wpAny _ _ _ _ _ s') ?_))
  refine wpAny_bind (wpAny_mono one (fun r s' hr' => ?_) fun _ _ e => e)
  obtain ⟨v, rfl, hq⟩ := hr'
  exact wpAny_bind (wpAny_rule (wpAny_pure (wpAny_pure hq)))
end
end PySem.W
namespace Lk
open PySem L2
section
variable {X : Cx} {CX : CXT} {n : Nat} {C g gd : Addr} {sp : Sp} {E : XK}
/-- k op x, k an int, x an instance of C with the reflected def at g -/
def rBinR (C : Addr) (sp : Sp) (E : XK) : R2 := fun x y H Q => ∃ b dy gs j, x = .int j ∧ y = .ref b ∧ H b = some (.ins C dy gs) ∧ sp [y, x] H Q E
structure OpOkR (K : PySem.W.Frag) (C gd g : Addr) (nm : String) : Prop where
  self : PySem.W.selfFirst K C = true
  fwd : PySem.W.findIn K (.ref C) (PySem.dunder nm) = some (some (.ref gd))
  at_ : PySem.W.findIn K (.ref C) (dunderR nm) = some (some (.ref g))
  fn : PySem.W.isFn K (.ref g) = true
  sub : PySem.W.subIn K (.ref C) (.type "int") = some false
theorem op_binR {op : Operator} {id : String} {B : Builtin} (O : OpOkR X.K C gd g op.info.2) (hfi : fillsNumberSlot (.type "int") op.info.2 = pure true) (hsl : Slot "int" (PySem.dunder op.info.2) id) (entry : entryFor table id = some B) (args : ∀ a b, argsOk id ⟨[a, b], []⟩)
    (meets : ∀ (a : Int) (t : Tok) (l : Addr) (cls : Value) (d : Option Addr) (sl : Array (Option Value)), Meets (B ⟨[.int a t, .ref l], []⟩) (fun _ R s => s.heap.get? l = some { cls := cls, dict := d, data := .plain, slots := sl } ∧ R (.ok (.ret Value.notImplemented)) s))
    (F : FnR X.prog X.w X.K X.mg X.base CX n g sp) (hr : Room n X.A) (hx : Passes CX X E) : OpR X (binaryOp op) (rBinR C sp E) := by
  intro pins s σ H x y v u Q I rx ry h
  obtain ⟨b, dy, gs, j, rfl, rfl, hb, q⟩ := h
  obtain ⟨t, ej⟩ := (show ∃ t, v = Value.int j t from rx)
  subst ej
  cases (show u = Value.ref b from ry)
  obtain ⟨ox, od, J, hpl⟩ := StX.insC_at I (.inr ⟨dy, gs, hb⟩)
  obtain ⟨m, hF⟩ := I.fr
  have hget := J.at_
  obtain ⟨oc, odd, oda, osl⟩ := ox
  dsimp only at hpl
  subst hpl
  refine PySem.W.lk_binR hF I.ok.mod.kin J O.self O.fwd O.at_ O.fn hfi hsl O.sub (fun P hP => ?_) ?_
  · exact call_meets hsl (typeIs_int s j t) entry (args _ _) (meets j t b oc odd osl) ⟨hget, rfl, hP⟩
  · refine wpAny_mono (wpAny_call (run_fnR (us := [.ref b, .int j t]) (vs := [.ref b, .int j]) F hr hx I (.cons rfl (.cons ⟨t, rfl⟩ .nil)) q)) (fun w s' z => ?_) fun _ _ x => x
    obtain ⟨z', H', I', rz, qz⟩ := z
    exact SlX.cmpback rz ⟨z', H', I', rz, qz⟩
theorem op_addR (O : OpOkR X.K C gd g "add") (F : FnR X.prog X.w X.K X.mg X.base CX n g sp) (hr : Room n X.A) (hx : Passes CX X E) : OpR X (binaryOp .Add) (rBinR C sp E) := op_binR (op := .Add) O PySem.F.fills_int_add PySem.F.slot_int_add PySem.F.entry_int_add (fun a b => PySem.F.args_int_add_2 a b) PySem.lk_int_add F hr hx
theorem op_subR (O : OpOkR X.K C gd g "sub") (F : FnR X.prog X.w X.K X.mg X.base CX n g sp) (hr : Room n X.A) (hx : Passes CX X E) : OpR X (binaryOp .Sub) (rBinR C sp E) := op_binR (op := .Sub) O PySem.F.fills_int_sub PySem.F.slot_int_sub PySem.F.entry_int_sub (fun a b => PySem.F.args_int_sub_2 a b) PySem.lk_int_sub F hr hx
theorem op_mulR (O : OpOkR X.K C gd g "mul") (F : FnR X.prog X.w X.K X.mg X.base CX n g sp) (hr : Room n X.A) (hx : Passes CX X E) : OpR X (binaryOp .Mult) (rBinR C sp E) := op_binR (op := .Mult) O PySem.F.fills_int_mul PySem.F.slot_int_mul PySem.F.entry_int_mul (fun a b => PySem.F.args_int_mul_2 a b) PySem.lk_int_mul F hr hx
end
end Lk
/-! ### != by an own __eq__ (object.__ne__), repr and [] by own defs -/
namespace PySem.W
open PySem PySem.Calls PyProof.Rows
section
variable {prog : Program} {w : World} {A : Around} {E : Value → Shared → Prop} {s : Shared} {K : Frag} {x C L f : Addr} {h₀ : Heap} {m : Str → Option Value} {ox : Obj} {od : Option Obj}
theorem lk_ifBound_obj {M : Model} {id : String} {name : Str} {args : List Value} {Q : Option Value → Shared → Prop} (X : K.In s.heap) (I : InstAt s.heap x ox C od) (hs : findIn K (.ref C) name = some (some (.builtin id))) (S : Slot "object" name id)
    (h : wpAny M A (call (.builtin id) (.ref x :: args)) (fun v => Q (some v)) E s) : wpAny M A (callSpecialIfBound? (.ref x) name args) Q E s := by
  simp only [callSpecialIfBound?, bindSpecialIfBound?]
  refine wpAny_holding (wpAny_bind (wpAny_bind (wpAny_bind (I.type.here ((looks_findIn X hs).here ?_)))))
  simp only [S.bind]
  refine wpAny_bind (wpAny_askSetting (wpAny_ite ?_))
  have fin : wpAny M A (call (.builtin id) ([.ref x] ++ args) >>= fun v => pure (some v)) Q E s := wpAny_bind (wpAny_mono h (fun v s' h' => wpAny_pure h') fun _ _ h' => h')
  split
  · exact wpAny_bind (wpAny_pure (wpAny_pure fin))
  · exact wpAny_tryCatch (wpAny_bind (wpAny_pure (wpAny_pure fin)))
theorem lk_check_obj {M : Model} {id n : String} {rest : List Value} {Q : Unit → Shared → Prop} (X : K.In s.heap) (I : InstAt s.heap x ox C od) (hk : builtinKind id = some .slot) (hs : splitId id = some ("object", n))
    (ha : argsOk id ⟨.ref x :: rest, []⟩) (hob : subIn K (.ref C) (.type "object") = some true) (hq : Q () s) : wpAny M A (checkBuiltinCall id ⟨.ref x :: rest, []⟩) Q E s := by
  simp only [checkBuiltinCall, hk, hs]
  have L : Looks M s.heap (isInstance (.ref x) (.type "object")) true := I.type.andThen (looks_subIn X hob)
  refine wpAny_bind (L.here ?_)
  cases hsig : Manifest.signature? id with
  | none => exact wpAny_pure hq
  | some sig =>
    simp only [argsOk, hsig] at ha
    have h2 : Bind.checkArgs id sig ⟨.ref x :: rest, []⟩ = pure () := ha
    show wpAny M A (Bind.checkArgs id sig ⟨.ref x :: rest, []⟩) Q E _
    rw [h2]; exact wpAny_pure hq
theorem lk_ne {b tb : Value} {Q : Value → Shared → Prop} (hu : A.units + 1 < cLine) (Fh : Fr h₀ L s.heap m) (X₀ : K.In h₀) (I : InstAt s.heap x ox C od) (hb : Looks (model prog w) s.heap (typeOf b) tb) (hn : notFirst K C tb = true)
    (hne : findIn K (.ref C) "__ne__" = some (some (.builtin "object.__ne__"))) (hob : subIn K (.ref C) (.type "object") = some true) (hs : findIn K (.ref C) "__eq__" = some (some (.ref f))) (hf : isFn K (.ref f) = true)
    (h : wpAny (model prog w) A.in1 (call (.ref f) [.ref x, b]) (fun v s' => ∃ b, v = .bool b ∧ Q (.bool (!b)) s') E s) : wpAny (model prog w) A (richCompare .NotEq (.ref x) b) Q E s := by
  have X := X₀.keeps Fh.keep
  have one : wpAny (model prog w) A (tryCompare (.ref x) "__ne__" b) (fun r s' => ∃ v, r = some v ∧ Q v s') E s := by
    unfold tryCompare
    refine wpAny_bind (lk_ifBound_obj X I hne PySem.F.cmp_object.ne ?_)
    refine wpAny_call (codeAny_call_builtin PySem.F.cmp_object.ne.plain PySem.F.cmpEntry_ne (lk_check_obj X I PySem.F.cmpKind_ne PySem.F.cmpSplit_ne (PySem.F.cmpArgs_ne _ _) hob ?_))
    unfold Builtin.«object.__ne__»
    refine wpAny_bind (m := slotArgs _ _ _) (wpAny_pure ?_)
    refine wpAny_bind (wpAny_cRoomFor hu ?_)
    refine wpAny_bind (ifBound_K X I hs hf (wpAny_mono h (fun r s' hr => ?_) fun _ _ e => e))
    obtain ⟨b, rfl, hq⟩ := hr
    refine wpAny_bind (m := truthy (.bool _)) (wpAny_truthy_bool ?_)
    exact wpAny_pure (wpAny_pure ⟨_, rfl, hq⟩)
  unfold richCompare
  simp only [oneThing_ref]
  refine wpAny_holding (wpAny_bind (wpAny_cRoomFor (Nat.lt_of_succ_lt hu) ?_))
  refine wpAny_bind (I.type.here (wpAny_bind (hb.here ?_)))
  rw [cmpInfo_NotEq]
  dsimp only
  split
  · rename_i q
    have e : subIn K tb (.ref C) = some false := by
      rcases Bool.or_eq_true_iff.mp hn with e | e
      · rw [beq_iff_eq.mp e] at q; simp at q
      · exact beq_iff_eq.mp e
    refine wpAny_bind ((looks_subIn X e).here ?_)
    simp only [Bool.false_eq_true, if_false]
    refine wpAny_bind (wpAny_mono one (fun r s' z => ?_) fun _ _ e => e)
    obtain ⟨v, rfl, hq⟩ := z
    exact wpAny_pure hq
  · refine wpAny_bind (wpAny_pure ?_)
    simp only [Bool.false_eq_true, if_false]
    refine wpAny_bind (wpAny_mono one (fun r s' z => ?_) fun _ _ e => e)
    obtain ⟨v, rfl, hq⟩ := z
    exact wpAny_pure hq
end
end PySem.W
namespace Lk
open PySem L2
section
variable {X : Cx} {CX : CXT} {n : Nat} {C g : Addr} {sp : Sp} {E : XK} {a b : Expr} {ta tb : TE} {pos : Pos}
structure NeOk (K : PySem.W.Frag) (C g : Addr) : Prop where
  ne : PySem.W.findIn K (.ref C) "__ne__" = some (some (.builtin "object.__ne__"))
  ob : PySem.W.subIn K (.ref C) (.type "object") = some true
  eq : PySem.W.findIn K (.ref C) "__eq__" = some (some (.ref g))
  fn : PySem.W.isFn K (.ref g) = true
/-- x != y by an own __eq__ that answers a bool -/
def rNeO (K : PySem.W.Frag) (C : Addr) (sp : Sp) (E : XK) : R2 := fun x y H Q => ∃ a dx fs t, x = .ref a ∧ H a = some (.ins C dx fs) ∧ TyX K H y t ∧ PySem.W.notFirst K C t = true ∧ sp [x, y] H (fun v H' => ∃ z, v = .bl z ∧ Q (.bl (!z)) H') E
theorem op_neO (O : NeOk X.K C g) (F : FnR X.prog X.w X.K X.mg X.base CX n g sp) (hr : Room (n + 1) X.A) (hx : ∀ (H : Hp) (s : Shared) (e : Value) (s' : Shared), CX X.stack H s E e s' → False) : OpR X (compareOp .NotEq) (rNeO X.K C sp E) := by
  intro pins s σ H x y v u Q I rx ry h
  obtain ⟨a, dx, fs, t, rfl, ha, ty, hn, q⟩ := h
  cases (show v = Value.ref a from rx)
  obtain ⟨_, _, J⟩ := inst_at I ha
  obtain ⟨P, Z, p, _⟩ := kit_of I ry ty
  obtain ⟨m, hF⟩ := I.fr
  refine PySem.W.cmp_ofNotEq ?_
  refine PySem.W.lk_ne (tb := t) (by have := hr.units; omega) hF I.ok.mod.kin J (Z.ty _ _ I.kIn p) hn O.ne O.ob O.eq O.fn (wpAny_call ?_)
  refine codeAny_mono (F X.A.in1 X.stack s H [.ref a, u] [.ref a, y] _ E hr.in1 I.env0.in1 (.cons rfl (.cons ry .nil)) q) fun r s' hq => ?_
  cases r with
  | error e => exact (hx _ _ _ _ hq).elim
  | ok fl =>
    cases fl with
    | ret u =>
      obtain ⟨v, H', I2, rv, z, ev, q⟩ := I.after hq
      subst ev
      cases (show u = Value.bool z from rv)
      exact ⟨z, rfl, .bl (!z), H', I2, rfl, q⟩
    | next => exact False.elim hq
    | brk => exact False.elim hq
    | cont => exact False.elim hq
/-- repr(x) by an own __repr__ that answers a str -/
def rReprO (C : Addr) (sp : Sp) (E : XK) : List V → Hp → VK → Prop := fun xs H Q => ∃ a dx fs, xs = [.ref a] ∧ H a = some (.ins C dx fs) ∧ sp [.ref a] H (fun v H' => ∃ y : Str, v = .str y ∧ Q (.str y) H') E
theorem call_reprO (hs : PySem.W.findIn X.K (.ref C) "__repr__" = some (some (.ref g))) (hf : PySem.W.isFn X.K (.ref g) = true) (F : FnR X.prog X.w X.K X.mg X.base CX n g sp) (hr : Room (n + 1) X.A) (hx : ∀ (H : Hp) (s : Shared) (e : Value) (s' : Shared), CX X.stack H s E e s' → False) : CallR X (.builtin "repr") (rReprO C sp E) := by
  intro pins s σ H xs us Q I r h
  obtain ⟨a, dx, fs, rfl, ha, q⟩ := h
  obtain ⟨u, rfl, ru⟩ := vals1 r
  cases (show u = Value.ref a from ru)
  obtain ⟨_, _, J⟩ := inst_at I ha
  obtain ⟨m, hF⟩ := I.fr
  refine PySem.W.repr_K hr.in1.units0 hF I.ok.mod.kin J hs hf (wpAny_call ?_)
  refine codeAny_mono (F X.A.in1 X.stack s H [.ref a] [.ref a] _ E hr.in1 I.env0.in1 (.cons rfl .nil) q) fun r s' hq => ?_
  cases r with
  | error e => exact (hx _ _ _ _ hq).elim
  | ok fl =>
    cases fl with
    | ret u =>
      obtain ⟨v, H', I2, rv, y, ev, q⟩ := I.after hq
      subst ev
      obtain ⟨t, et⟩ := (show ∃ t, u = Value.str y t from rv)
      subst et
      exact ⟨.str y, H', I2.tok _, ⟨_, rfl⟩, q⟩
    | next => exact False.elim hq
    | brk => exact False.elim hq
    | cont => exact False.elim hq
/-- x[k] by an own __getitem__ -/
structure GetOk (K : PySem.W.Frag) (C g : Addr) : Prop where
  at_ : PySem.W.findIn K (.ref C) "__getitem__" = some (some (.ref g))
  fn : PySem.W.isFn K (.ref g) = true
  fi : PySem.W.fnIn K g = true
theorem pe_ixO (O : GetOk X.K C g) (F : FnR X.prog X.w X.K X.mg X.base CX n g sp) (hr : Room (n + 1) X.A) (hx : Passes CX X.nox E) (ha : PE X a ta) (hb : PE X b tb)
    (hsl : ∀ v u, subscripted b true v u = runValue (.builtin "lifetime.subscript" ⟨[v, u], []⟩) := by intro v u; with_unfolding_all rfl) : PE X (.Subscript a b pos) (tOp (rIxO C sp E) ta tb) := by
  refine ⟨fun pins s σ H Q I h => ?_⟩
  refine PyProof.Rows.Subscript_ (binT ha hb I h fun v u s2 x y H2 I2 rx ry q => ?_)
  obtain ⟨c, dx, fs, j, rfl, rfl, hc, q⟩ := q
  cases (show v = Value.ref c from rx)
  obtain ⟨t, ej⟩ := (show ∃ t, u = Value.int j t from ry)
  subst ej
  obtain ⟨_, _, J⟩ := inst_at I2 hc
  obtain ⟨m, hF⟩ := I2.fr
  refine PySem.W.sub_K hF I2.ok.mod.kin J O.at_ O.fi O.fn (wpAny_call ?_) (hsl _ _)
  refine codeAny_mono (F X.A.in1 X.stack s2 H2 [.ref c, .int j t] [.ref c, .int j] _ E hr.in1 I2.env0.in1 (.cons rfl (.cons ⟨t, rfl⟩ .nil)) q) fun r s' hq => ?_
  cases r with
  | error er => exact False.elim (hx pins σ H2 s2 er s' (I2.wish _) hq)
  | ok fl =>
    cases fl with
    | ret u =>
      obtain ⟨v, H', I3, rv, q3⟩ := I2.after hq
      exact ⟨v, H', I3, rv, q3⟩
    | next => exact False.elim hq
    | brk => exact False.elim hq
    | cont => exact False.elim hq
end
end Lk
namespace Lk
open PySem L2
/-- a def without defaults, by its promise as it stands -/
theorem fnr0 {P : Program} {w : World} {K : PySem.W.Frag} {mg : Str → Option Value} {base : Heap} {CX : CXT} {k : Nat} {f : Addr} {fd : FuncData} {ps : List Str} {sp : Sp} (F : FnOk P w K mg base CX k f fd ps sp) (hb : Binds K fd ps []) : FnR P w K mg base CX k f sp :=
  (F.raw hb .nil).imp fun vs H Q E h => by rw [List.append_nil]; exact h
end Lk
/-! ### x += y where the class has no def of its own for it -/
namespace PySem.W
open PySem PySem.Calls PyProof.Rows
section
variable {prog : Program} {w : World} {A : Around} {E : Value → Shared → Prop} {s : Shared} {K : Frag} {x C L f : Addr} {h₀ : Heap} {m : Str → Option Value} {ox : Obj} {od : Option Obj} {T : String}
theorem lk_bin1 {nm : String} {b : Value} {Q : Value → Shared → Prop} (F : Fr h₀ L s.heap m) (X₀ : K.In h₀) (I : InstAt s.heap x ox C od) (hb : Looks (model prog w) s.heap (typeOf b) (.ref C)) (hc : selfFirst K C = true)
    (hs : findIn K (.ref C) (PySem.dunder nm) = some (some (.ref f))) (hf : isFn K (.ref f) = true)
    (h : wpAny (model prog w) A (call (.ref f) [.ref x, b]) (CmpBack Q) E s) : wpAny (model prog w) A (binaryOp1 nm (.ref x) b) (fun r s' => ∃ v, r = some v ∧ Q v s') E s := by
  have X := X₀.keeps F.keep
  obtain ⟨cd, rest, hcd, hm⟩ := ksp_first hc
  unfold binaryOp1
  refine wpAny_bind (I.type.here (wpAny_bind (hb.here (wpAny_bind ((fills_K X hcd hm hs).here ?_)))))
  simp only [beq_self_eq_true, if_true]
  refine wpAny_bind (wpAny_pure ?_)
  simp only [Bool.and_false, Bool.false_eq_true, if_false, Bool.false_and]
  refine wpAny_bind (wpAny_pure ?_)
  simp only [Bool.false_eq_true, if_false]
  refine wpAny_bind (m := tryMethod (.ref x) _ b) ?_
  unfold tryMethod
  refine wpAny_bind (special_fn X I hs (beq_iff_eq.mp hf) (wpAny_mono h (fun v s' hv => ?_) fun _ _ e => e))
  cases v <;> first | exact hv.elim | exact wpAny_pure (wpAny_pure ⟨_, rfl, hv⟩)
theorem lk_bin1T {nm' : String} {b : Value} {fo ro rc : Option Value} {Q : Value → Shared → Prop} (F : Fr h₀ L s.heap m) (X₀ : K.In h₀) (I : InstAt s.heap x ox C od) (hb : typeOf b = pure (.type T)) (hc : selfFirst K C = true)
    (hs : findIn K (.ref C) (PySem.dunder nm') = some (some (.ref f))) (hf : isFn K (.ref f) = true) (hr : findIn K (.ref C) (dunderR nm') = some rc) (hp : rc = none ∨ ∃ g : Addr, rc = some (.ref g))
    (h1 : findIn K (.type T) (PySem.dunder nm') = some fo) (h2 : findIn K (.type T) (dunderR nm') = some ro) (hsub : subIn K (.type T) (.ref C) = some false)
    (h : wpAny (model prog w) A (call (.ref f) [.ref x, b]) (CmpBack Q) E s) : wpAny (model prog w) A (binaryOp1 nm' (.ref x) b) (fun r s' => ∃ v, r = some v ∧ Q v s') E s := by
  have X := X₀.keeps F.keep
  obtain ⟨cd, rest, hcd, hm⟩ := ksp_first hc
  have one := ksp_try X I hs hf h
  obtain ⟨hh, g, d, tt, os⟩ := s
  have L1 : Looks (model prog w) hh (typeOf (.ref x)) (.ref C) := I.type
  have L2 : Looks (model prog w) hh (typeOf b) (.type T) := Looks.of_pure hb
  have L3 : Looks (model prog w) hh (fillsNumberSlot (.ref C) nm') true := fills_K X hcd hm hs
  have L4 : Looks (model prog w) hh (fillsNumberSlot (.type T) nm') ((fo.isSome && !isSeqSlot fo) || (ro.isSome && !isSeqSlot ro)) := ksp_fillsT X h1 h2
  have L5 : Looks (model prog w) hh (isSubtype (.type T) (.ref C)) false := looks_subIn X hsub
  have L6 : Looks (model prog w) hh (numberSlotInPython (.ref C) nm') true := ksp_inPy X hs hr hp
  have L7 : Looks (model prog w) hh (numberSlotInPython (.type T) nm') false := Looks.of_pure rfl
  have L8 : Looks (model prog w) hh (typeLookup (.type T) (dunderR nm')) ro := looks_findIn X h2
  generalize ((fo.isSome && !isSeqSlot fo) || (ro.isSome && !isSeqSlot ro)) = right at L4
  have hne : (Value.ref C == Value.type T) = false := Bool.eq_false_iff.mpr fun q => by cases beq_iff_eq.mp q
  unfold binaryOp1
  refine wpAny_bind (L1.at (wpAny_bind (L2.at (wpAny_bind (L3.at ?_)))))
  simp only [hne, Bool.false_eq_true, if_false]
  cases right with
  | false =>
    ksp_lk
    refine wpAny_mono one (fun r s' hr' => ?_) fun _ _ e => e
    obtain ⟨v, rfl, hq⟩ := hr'
    ksp_lk
    exact ⟨_, rfl, hq⟩
  | true =>
    ksp_lk
    refine wpAny_mono one (fun r s' hr' => ?_) fun _ _ e => e
    obtain ⟨v, rfl, hq⟩ := hr'
    ksp_lk
    exact ⟨_, rfl, hq⟩
theorem lk_noI {M : Model} {h : Heap} {nm : String} {add : Bool} (X : K.In h) (hc : (clsIn K C).map (·.mro) = some [.ref C, .type "object"]) (h1 : findIn K (.ref C) (dunderI nm) = some none) (h2 : findIn K (.type "object") (dunderI nm) = some none) : Looks M h (fillsInplaceSlot (.ref C) nm add) false := by
  obtain ⟨cd, hcd, hm⟩ := Option.map_eq_some_iff.mp hc
  intro A Q E s k q
  have Lm : Looks M h (mroOf (.ref C)) cd.mro := (looks_clsIn X hcd).andThen (f := fun cd => pure cd.mro) .now
  have Lm' := Lm.keeps k
  obtain ⟨hh, g, d, tt, os⟩ := s
  have X' : K.In hh := X.keeps k
  have L1 : Looks M hh (typeLookup (.ref C) (dunderI nm)) none := looks_findIn X' h1
  have L2 : Looks M hh (typeLookup (.type "object") (dunderI nm)) none := looks_findIn X' h2
  unfold fillsInplaceSlot
  refine wpAny_bind (Lm'.at ?_)
  rw [hm, List.anyM_cons]
  refine wpAny_bind (wpAny_bind (L1.at ?_))
  refine wpAny_pure ?_
  simp only [Bool.false_eq_true, if_false]
  rw [List.anyM_cons]
  refine wpAny_bind (wpAny_bind (L2.at ?_))
  refine wpAny_pure ?_
  simp only [Bool.false_eq_true, if_false, List.anyM_nil]
  exact wpAny_pure q
theorem lk_inplace {op : Operator} {b : Value} {Q : Value → Shared → Prop} (F : Fr h₀ L s.heap m) (X₀ : K.In h₀) (I : InstAt s.heap x ox C od) (hc : (clsIn K C).map (·.mro) = some [.ref C, .type "object"]) (h1 : findIn K (.ref C) (dunderI op.info.2) = some none) (h2 : findIn K (.type "object") (dunderI op.info.2) = some none)
    (h : wpAny (model prog w) A (binaryOp1 op.info.2 (.ref x) b) (fun r s' => ∃ v, r = some v ∧ Q v s') E s) : wpAny (model prog w) A (inplaceOp op (.ref x) b) Q E s := by
  have X := X₀.keeps F.keep
  unfold inplaceOp
  refine wpAny_holding ?_
  refine wpAny_bind (I.type.here ?_)
  refine wpAny_bind ((lk_noI X hc h1 h2).here ?_)
  simp only [Bool.false_eq_true, if_false]
  refine wpAny_bind (wpAny_mono h (fun r s' hr' => ?_) fun _ _ e => e)
  obtain ⟨v, rfl, hq⟩ := hr'
  exact wpAny_pure hq
end
end PySem.W
namespace Lk
open PySem L2
section
variable {X : Cx} {CX : CXT} {n : Nat} {C g : Addr} {sp : Sp} {E : XK} {op : Operator}
structure InOk (K : PySem.W.Frag) (C : Addr) (nm : String) : Prop where
  mro : (PySem.W.clsIn K C).map (·.mro) = some [.ref C, .type "object"]
  own : PySem.W.findIn K (.ref C) (dunderI nm) = some none
  obj : PySem.W.findIn K (.type "object") (dunderI nm) = some none
theorem ip_bin (J : InOk X.K C op.info.2) (O : OpOk X.K C g op.info.2) (F : FnR X.prog X.w X.K X.mg X.base CX n g sp) (hr : Room n X.A) (hx : Passes CX X E) : PIp X op (rBin C sp E) := by
  intro pins s σ H x y v u Q I rx ry h
  obtain ⟨a, dx, fs, b, dy, gs, rfl, rfl, ha, hb, q⟩ := h
  cases (show v = Value.ref a from rx)
  cases (show u = Value.ref b from ry)
  obtain ⟨_, _, J1⟩ := inst_at I ha
  obtain ⟨_, _, J2⟩ := inst_at I hb
  obtain ⟨m, hF⟩ := I.fr
  refine PySem.W.lk_inplace hF I.ok.mod.kin J1 J.mro J.own J.obj (PySem.W.lk_bin1 hF I.ok.mod.kin J1 J2.type O.self O.at_ O.fn ?_)
  refine wpAny_mono (wpAny_call (run_fnR (us := [.ref a, .ref b]) (vs := [.ref a, .ref b]) F hr hx I (.cons rfl (.cons rfl .nil)) q)) (fun w s' z => ?_) fun _ _ x => x
  obtain ⟨z', H', I', rz, qz⟩ := z
  exact SlX.cmpback rz ⟨z', H', I', rz, qz⟩
theorem ip_binI (J : InOk X.K C op.info.2) (O : OpOk X.K C g op.info.2) (O2 : OpOkI X.K C op.info.2) (F : FnR X.prog X.w X.K X.mg X.base CX n g sp) (hr : Room n X.A) (hx : Passes CX X E) : PIp X op (rBinI C sp E) := by
  intro pins s σ H x y v u Q I rx ry h
  obtain ⟨a, dx, fs, j, rfl, rfl, ha, q⟩ := h
  cases (show v = Value.ref a from rx)
  obtain ⟨t, ej⟩ := (show ∃ t, u = Value.int j t from ry)
  subst ej
  obtain ⟨_, _, J1⟩ := inst_at I ha
  obtain ⟨m, hF⟩ := I.fr
  obtain ⟨rc, r1, r2⟩ := O2.r
  obtain ⟨fo, i1⟩ := O2.i1
  obtain ⟨ro, i2⟩ := O2.i2
  refine PySem.W.lk_inplace hF I.ok.mod.kin J1 J.mro J.own J.obj (PySem.W.lk_bin1T (T := "int") hF I.ok.mod.kin J1 rfl O.self O.at_ O.fn r1 r2 i1 i2 O2.sub ?_)
  refine wpAny_mono (wpAny_call (run_fnR (us := [.ref a, .int j t]) (vs := [.ref a, .int j]) F hr hx I (.cons rfl (.cons ⟨t, rfl⟩ .nil)) q)) (fun w s' z => ?_) fun _ _ x => x
  obtain ⟨z', H', I', rz, qz⟩ := z
  exact SlX.cmpback rz ⟨z', H', I', rz, qz⟩
end
end Lk
/-! rows of ints without zeros at the end; what stands at a place of a row -/
namespace Lk
def trimI (xs : List Int) : List Int := (xs.reverse.dropWhile (· == 0)).reverse
/-- the coefficient at a place, 0 behind the end -/
def co (xs : List Int) (k : Nat) : Int := xs.getD k 0
theorem dropWhile_all {α : Type} {p : α → Bool} : ∀ (l m : List α), (∀ x ∈ l, p x = true) → (l ++ m).dropWhile p = m.dropWhile p
  | [], m, _ => rfl
  | a :: l, m, h => by
    rw [List.cons_append, List.dropWhile_cons, if_pos (h a List.mem_cons_self)]
    exact dropWhile_all l m fun x hx => h x (List.mem_cons_of_mem _ hx)
theorem co_lt {xs : List Int} {k : Nat} (h : k < xs.length) : co xs k = xs[k] := by
  unfold co
  rw [List.getD_eq_getElem?_getD, List.getElem?_eq_getElem h]
  rfl
theorem co_ge {xs : List Int} {k : Nat} (h : xs.length ≤ k) : co xs k = 0 := by
  unfold co
  rw [List.getD_eq_getElem?_getD, List.getElem?_eq_none h]
  rfl
theorem co_get {xs : List Int} {k : Nat} {x : Int} (h : xs[k]? = some x) : co xs k = x := by
  unfold co
  rw [List.getD_eq_getElem?_getD, h]
  rfl
theorem trimI_of {xs : List Int} {n : Nat} (h : n ≤ xs.length) (hz : ∀ j, n ≤ j → j < xs.length → co xs j = 0) (hl : n = 0 ∨ co xs (n - 1) ≠ 0) : xs.take n = trimI xs := by
  have e : xs.reverse = (xs.drop n).reverse ++ (xs.take n).reverse := by
    rw [← List.reverse_append, List.take_append_drop]
  unfold trimI
  rw [e, dropWhile_all]
  · rcases hl with h0 | hl
    · subst h0
      rfl
    · have hn : 0 < n := by
        rcases Nat.eq_zero_or_pos n with h0 | h0
        · subst h0
          by_cases hx : 0 < xs.length
          · exact absurd (hz 0 (Nat.le_refl _) hx) hl
          · exact absurd (co_ge (by omega)) hl
        · exact h0
      have hlt : n - 1 < xs.length := by omega
      have e2 : xs.take n = xs.take (n - 1) ++ [xs[n - 1]] := by
        have := List.take_succ_eq_append_getElem hlt
        rw [show n - 1 + 1 = n by omega] at this
        exact this
      rw [co_lt hlt] at hl
      rw [e2, List.reverse_append, List.reverse_singleton, List.singleton_append, List.dropWhile_cons, if_neg (by simpa using hl), List.reverse_cons, List.reverse_reverse]
  · intro x hx
    obtain ⟨j, hj⟩ := List.getElem?_of_mem (List.mem_reverse.mp hx)
    rw [List.getElem?_drop] at hj
    have h2 := hz (n + j) (Nat.le_add_right _ _) (List.getElem?_eq_some_iff.mp hj).1
    rw [co_get hj] at h2
    rw [h2]
    rfl
/-- what is trimmed ends in no zero -/
theorem trimI_ex (xs : List Int) : ∃ n, n ≤ xs.length ∧ trimI xs = xs.take n ∧ (∀ j, n ≤ j → co xs j = 0) ∧ (n = 0 ∨ co xs (n - 1) ≠ 0) := by
  suffices h : ∀ m, m ≤ xs.length → (∀ j, m ≤ j → co xs j = 0) → ∃ n, n ≤ xs.length ∧ (∀ j, n ≤ j → co xs j = 0) ∧ (n = 0 ∨ co xs (n - 1) ≠ 0) by
    obtain ⟨n, h1, h2, h3⟩ := h xs.length (Nat.le_refl _) fun j hj => co_ge hj
    exact ⟨n, h1, (trimI_of h1 (fun j hj _ => h2 j hj) h3).symm, h2, h3⟩
  intro m
  induction m with
  | zero => exact fun _ h => ⟨0, Nat.zero_le _, h, .inl rfl⟩
  | succ m ih =>
    intro hm hz
    by_cases h0 : co xs m = 0
    · exact ih (by omega) fun j hj => by
        rcases Nat.eq_or_lt_of_le hj with e | e
        · exact e ▸ h0
        · exact hz j e
    · exact ⟨m + 1, hm, hz, .inr h0⟩
theorem co_take (xs : List Int) (n k : Nat) : co (xs.take n) k = if k < n then co xs k else 0 := by
  unfold co
  rw [List.getD_eq_getElem?_getD, List.getD_eq_getElem?_getD, List.getElem?_take]
  split <;> rfl
theorem co_trim (xs : List Int) (k : Nat) : co (trimI xs) k = co xs k := by
  obtain ⟨n, h1, h2, h3, _⟩ := trimI_ex xs
  rw [h2, co_take]
  split
  · rfl
  · exact (h3 k (by omega)).symm
theorem trim_last (xs : List Int) : (trimI xs).length = 0 ∨ co (trimI xs) ((trimI xs).length - 1) ≠ 0 := by
  obtain ⟨n, h1, h2, h3, h4⟩ := trimI_ex xs
  have hl : (trimI xs).length = n := by
    rw [h2, List.length_take]
    omega
  rw [hl, co_trim]
  exact h4
theorem trim_len (xs : List Int) : (trimI xs).length ≤ xs.length := by
  obtain ⟨n, h1, h2, _⟩ := trimI_ex xs
  rw [h2, List.length_take]
  omega
theorem ext_co {xs ys : List Int} (hl : xs.length = ys.length) (h : ∀ k, co xs k = co ys k) : xs = ys := by
  refine List.ext_getElem hl fun i h1 h2 => ?_
  rw [← co_lt h1, ← co_lt h2]
  exact h i
/-- rows with the same coefficients are the same when trimmed -/
theorem trim_ext {xs ys : List Int} (h : ∀ k, co xs k = co ys k) : trimI xs = trimI ys := by
  have hc : ∀ k, co (trimI xs) k = co (trimI ys) k := fun k => by rw [co_trim, co_trim, h]
  refine ext_co ?_ hc
  rcases Nat.lt_trichotomy (trimI xs).length (trimI ys).length with l | l | l
  · rcases trim_last ys with e | e
    · omega
    · exact absurd ((hc _).symm.trans (co_ge (by omega))) e
  · exact l
  · rcases trim_last xs with e | e
    · omega
    · exact absurd ((hc _).trans (co_ge (by omega))) e
theorem trim_id {xs : List Int} (h : xs.length = 0 ∨ co xs (xs.length - 1) ≠ 0) : trimI xs = xs := by
  rw [← trimI_of (Nat.le_refl _) (fun j h1 h2 => by omega) h, List.take_length]
theorem trim_trim (xs : List Int) : trimI (trimI xs) = trimI xs := trim_id (trim_last xs)
end Lk
/-! sequences of ints, instances of Poly as rows -/
namespace Lk
open PySem L2
def iVs (xs : List Int) : List V := xs.map V.int
theorem iVs_len (xs : List Int) : (iVs xs).length = xs.length := List.length_map ..
theorem iVs_get {xs : List Int} {j : Nat} (h : j < xs.length) : (iVs xs)[j]? = some (.int (co xs j)) := by
  unfold iVs
  rw [List.getElem?_map, List.getElem?_eq_getElem h, co_lt h]
  rfl
theorem iVs_cut (xs : List Int) (n : Nat) (h : n ≤ xs.length) : cutV (iVs xs) none (some (n : Int)) = iVs (xs.take n) := by
  unfold cutV iVs
  rw [show HT.sIx (xs.map V.int).length 0 none = 0 from rfl, HT.sIx_nat, List.length_map, List.drop_zero, List.map_take, Nat.min_eq_left h, Nat.sub_zero]
/-- a list or a tuple of ints -/
def SqI (K : PySem.W.Frag) (H : Hp) (a : Addr) (xs : List Int) : Prop := SqL K H a (iVs xs) ∨ SqT K H a (iVs xs)
section
variable {K : PySem.W.Frag} {H H' : Hp} {a p C : Addr} {xs row : List Int} {σ : L2.St} {ta tb tv : TE} {k : Int} {vs : List V}
theorem _root_.L2.Same.tup (e : Same H H') (h : SqT K H a vs) : SqT K H' a vs :=
  h.elim (fun h => .inl (h.elim (fun h => .inl (e _ _ h)) fun ⟨o, h⟩ => .inr ⟨o, e _ _ h⟩)) fun h => .inr h
theorem SqI.same (h : SqI K H a xs) (e : Same H H') : SqI K H' a xs := h.elim (fun h => .inl (e.seq h)) fun h => .inr (e.tup h)
theorem SqI.lst (h : H a = some (.lst (iVs xs))) : SqI K H a xs := .inl (.of h)
theorem SqI.tup (h : H a = some (.tup (iVs xs))) : SqI K H a xs := .inr (.of h)
theorem atI_iVs (h0 : 0 ≤ k) (h1 : k < xs.length) : atI (iVs xs) k = some (.int (co xs k.toNat)) := atI_of h0 (iVs_get (by omega))
theorem rix_I {Q : VK} (hs : SqI K H a xs) (h0 : 0 ≤ k) (h1 : k < xs.length) (q : Q (.int (co xs k.toNat)) H) : rIx K (.ref a) (.int k) H Q :=
  hs.elim (fun h => .inl ⟨a, _, k, _, rfl, rfl, h, atI_iVs h0 h1, q⟩) fun h => .inr (.inl ⟨a, _, k, _, rfl, rfl, h, atI_iVs h0 h1, q⟩)
theorem val_ixI (ha : Val ta σ H (.ref a)) (hb : Val tb σ H (.int k)) (hs : SqI K H a xs) (h0 : 0 ≤ k) (h1 : k < xs.length) : Val (tOp (rIx K) ta tb) σ H (.int (co xs k.toNat)) := fun Q q => ha _ (hb _ (rix_I hs h0 h1 q))
theorem val_ixLi (ha : Val ta σ H (.ref a)) (hb : Val tb σ H (.int k)) (hs : SqL K H a (iVs xs)) (h0 : 0 ≤ k) (h1 : k < xs.length) : Val (tOp (rIxL K) ta tb) σ H (.int (co xs k.toNat)) := val_ixL ha hb hs (atI_iVs h0 h1)
/-- an instance of the class C whose coefs is a tuple of ints -/
def PolyAt (K : PySem.W.Frag) (C : Addr) (H : Hp) (p : Addr) (row : List Int) : Prop := ∃ dx t, H p = some (.ins C dx [("coefs", .ref t)]) ∧ SqT K H t (iVs row)
theorem PolyAt.same (h : PolyAt K C H p row) (e : Same H H') : PolyAt K C H' p row := by
  obtain ⟨dx, t, h1, h2⟩ := h
  exact ⟨dx, t, e _ _ h1, e.tup h2⟩
/-- a comprehension over a range whose elements are ints, reckoned without heap change -/
theorem lcI {lo : Int} {n : Nat} {te : TE} {i : Nat} {H1 : Hp} {D : Addr} {Qd : Hp → Prop} (f : Nat → Int) (hD : H1 D = none) (hn : n ≤ sizeLine)
    (he : ∀ j H, j < n → Same H1 H → Val te ((wipe σ [i]).set i (some (.int (lo + j)))) H (.int (f j))) (hd : ∀ H, Same H1 H → H D = some (.lst (iVs ((List.range n).map f))) → Qd H) :
    ∃ W : Nat → Nat → Hp → Prop, (∃ m, W 0 m (upd H1 D (.lst []))) ∧ ∀ i' m H, W i' m H →
      ((Itr lo n).stop i' H ∧ Qd H) ∨ ((Itr lo n).go i' H ∧ ∃ Nx : Hp → Prop, (∀ H', Nx H' → ∃ m', m' < m ∧ W (i' + 1) m' H') ∧ ∀ x H', (Itr lo n).yld i' H x H' → gName i x (wipe σ [i]) H' fun σ2 H2 => wipe σ2 [i] = wipe σ [i] ∧ tYes σ2 H2 fun b H3 =>
        if b = true then te σ2 H3 fun y H4 => ∃ acc, H4 D = some (.lst acc) ∧ acc.length < sizeLine ∧ Nx (upd H4 D (.lst (acc ++ [y]))) else Nx H3) := by
  refine lc_range (fun j H => Same H1 H ∧ H D = some (.lst (iVs ((List.range j).map f)))) ⟨same_upd hD, upd_same⟩ ?_ ?_
  · rintro j H hj ⟨s1, h1⟩
    refine ⟨?_, ?_⟩
    · show wipe ((wipe σ [i]).set i _) [i] = wipe σ [i]
      show ((σ.set i none).set i _).set i none = σ.set i none
      rw [List.set_set, List.set_set]
    · refine he j H hj s1 (fun y H4 => ∃ acc, H4 D = some (.lst acc) ∧ acc.length < sizeLine ∧ Same H1 (upd H4 D (.lst (acc ++ [y]))) ∧ (upd H4 D (.lst (acc ++ [y]))) D = some (.lst (iVs ((List.range (j + 1)).map f)))) ⟨_, h1, ?_, ?_, ?_⟩
      · rw [iVs_len, List.length_map, List.length_range]
        omega
      · exact fun b o e => by rw [upd_ne (ne_of_none e hD)]; exact s1 b o e
      · rw [upd_same, List.range_succ, List.map_append]
        unfold iVs
        rw [List.map_append]
        rfl
  · rintro H ⟨s1, h1⟩
    exact hd H s1 h1
end
end Lk
namespace Lk
open PySem L2
section
variable {K : PySem.W.Frag} {H H' : Hp} {a o p t C dx : Addr} {xs ys row : List Int} {vs : List V} {fs : List (Str × V)} {σ : L2.St} {ta tb tv : TE} {k : Int} {E : XK}
theorem SqT.past (h : SqT K H t vs) (ho : H o = some (.ins C dx fs)) {u : HO} : SqT K (upd H o u) t vs := by
  rcases h with (h | ⟨w, h⟩) | h
  · exact .inl (.inl (by rw [upd_ne (fun e => by rw [e, ho] at h; cases h)]; exact h))
  · exact .inl (.inr ⟨w, by rw [upd_ne (fun e => by rw [e, ho] at h; cases h)]; exact h⟩)
  · exact .inr h
theorem SqT.ty (h : SqT K H t vs) : TyX K H (.ref t) (.type "tuple") := by
  rcases h with (h | ⟨w, h⟩) | ⟨w, its, n, h, hc, _⟩
  · exact .base (.tup h)
  · exact .fTuple h
  · exact .kTuple h hc
/-- Poly.__init__ -/
def spInit (K : PySem.W.Frag) (C : Addr) : Sp := fun vs H Q _ => ∃ (o p dx : Addr) (row : List Int), vs = [.ref o, .ref p] ∧ H o = some (.ins C dx []) ∧ SqT K H p (iVs row) ∧
  ∀ t H', (∀ b u, b ≠ o → H b = some u → H' b = some u) → H' o = some (.ins C dx [("coefs", .ref t)]) → SqT K H' t (iVs (trimI row)) → Q .non H'
/-- what the making of a Poly out of a row leaves -/
def Made (K : PySem.W.Frag) (C : Addr) (H : Hp) (row : List Int) (Q : VK) : Prop := ∀ p H', Same H H' → H p = none → PolyAt K C H' p row → Q (.ref p) H'
theorem make_row {Q : VK} (hl : row.length ≤ sizeLine) (k : Made K C H (trimI row) Q) (o dx : Addr) (ho : H o = none) (hd : H dx = none) (hne : dx ≠ o) :
    starSp 1 (spInit K C) (V.ref o :: iVs row) (upd (upd H dx (.own o)) o (.ins C dx [])) (fun v H2 => v = .non ∧ Q (.ref o) H2) E := by
  refine ⟨[.ref o], iVs row, rfl, rfl, by rw [iVs_len]; exact hl, fun p hp => ?_⟩
  have hpo : p ≠ o := fun e => by rw [e, upd_same] at hp; cases hp
  refine ⟨o, p, dx, row, rfl, ?_, SqT.of upd_same, fun t H' hk ho' ht => ⟨rfl, k o H' (fun b u e => ?_) ho ⟨dx, t, ho', ht⟩⟩⟩
  · rw [upd_ne hpo.symm]
    exact upd_same
  · have hbo := ne_of_none e ho
    have hbd := ne_of_none e hd
    have e2 : (upd (upd H dx (.own o)) o (.ins C dx [])) b = some u := by rw [upd_ne hbo, upd_ne hbd]; exact e
    exact hk b u hbo (kept e2 hp)
structure PolyC (K : PySem.W.Frag) (C : Addr) : Prop where
  cls : Cls K C
  na : NoAttr K C "coefs"
theorem val_coefs (P : PolyC K C) (ha : Val ta σ H (.ref o)) (hp : H o = some (.ins C dx [("coefs", .ref t)])) : Val (tFld K ta "coefs") σ H (.ref t) := fun Q q => ha _ ⟨o, C, dx, _, _, rfl, hp, P.cls, P.na, rfl, q⟩
theorem val_lenI (ha : Val ta σ H (.ref t)) (h : SqI K H t xs) : Val (tCB (fun xs H Q => ∃ p ys, xs = [V.ref p] ∧ (SqL K H p ys ∨ SqT K H p ys) ∧ Q (V.int ys.length) H) (tCons ta tNil)) σ H (.int xs.length) := fun Q q => ha _ ⟨t, _, rfl, h, by rw [iVs_len]; exact q⟩
/-- x[k] of a Poly -/
def coZ (row : List Int) (k : Int) : Int := if 0 ≤ k then co row k.toNat else 0
end
/-! ### == of rows -/
theorem dp_ints {K : PySem.W.Frag} {H : Hp} : ∀ xs : List Int, DpAll K H (iVs xs) (xs.map PyData.int)
  | [] => .nil
  | x :: xs => .cons (.int x) (dp_ints xs)
theorem dp_tup {K : PySem.W.Frag} {H : Hp} {t : Addr} {xs : List Int} (h : SqT K H t (iVs xs)) : Dp K H (.ref t) (.tuple (xs.map PyData.int)) := .tup h (dp_ints xs)
theorem dp_lst {K : PySem.W.Frag} {H : Hp} {t : Addr} {xs : List Int} (h : SqL K H t (iVs xs)) : Dp K H (.ref t) (.list (xs.map PyData.int)) := .lst h (dp_ints xs)
theorem eqv_all : ∀ xs ys : List Int, PyData.eqvAll (xs.map PyData.int) (ys.map PyData.int) = decide (xs = ys)
  | [], [] => rfl
  | [], _ :: _ => rfl
  | _ :: _, [] => rfl
  | x :: xs, y :: ys => by
    show (PyData.eqv (.int x) (.int y) && PyData.eqvAll (xs.map PyData.int) (ys.map PyData.int)) = _
    rw [eqv_all xs ys]
    show ((x == y) && _) = _
    by_cases h : x = y
    · subst h
      simp
    · simp [h]
theorem can_ints : ∀ xs : List Int, PyData.canLayAll0 (xs.map PyData.int) = true
  | [] => by simp [PyData.canLayAll0]
  | _ :: xs => by simp [PyData.canLayAll0, PyData.canLay0, can_ints xs]
theorem depth_ints : ∀ xs : List Int, PyData.depthAll (xs.map PyData.int) ≤ 1
  | [] => by simp [PyData.depthAll]
  | _ :: xs => by
    have := depth_ints xs
    simp only [List.map_cons, PyData.depthAll, PyData.depth]
    omega
theorem shaped_tup (xs : List Int) : SeqAt.shaped (.tuple (xs.map PyData.int)) = true := by
  have := depth_ints xs
  exact Bool.and_eq_true_iff.mpr ⟨by simp [PyData.canLay0, can_ints], decide_eq_true (by simp only [PyData.depth]; omega)⟩
theorem shaped_lst (xs : List Int) : SeqAt.shaped (.list (xs.map PyData.int)) = true := by
  have := depth_ints xs
  exact Bool.and_eq_true_iff.mpr ⟨by simp [PyData.canLay0, can_ints], decide_eq_true (by simp only [PyData.depth]; omega)⟩
section
variable {K : PySem.W.Frag} {H : Hp} {a b : Addr} {xs ys : List Int} {Q : VK}
theorem eqv_tup (xs ys : List Int) : PyData.eqv (.tuple (xs.map PyData.int)) (.tuple (ys.map PyData.int)) = decide (xs = ys) := eqv_all xs ys
theorem eqv_lst (xs ys : List Int) : PyData.eqv (.list (xs.map PyData.int)) (.list (ys.map PyData.int)) = decide (xs = ys) := eqv_all xs ys
theorem rEqT (ha : SqT K H a (iVs xs)) (hb : SqT K H b (iVs ys)) (k : Q (.bl (decide (xs = ys))) H) : rEqD K (.ref a) (.ref b) H Q := ⟨_, _, dp_tup ha, dp_tup hb, shaped_tup xs, shaped_tup ys, by rw [eqv_tup]; exact k⟩
theorem rEqL (ha : SqL K H a (iVs xs)) (hb : SqL K H b (iVs ys)) (k : Q (.bl (decide (xs = ys))) H) : rEqD K (.ref a) (.ref b) H Q := ⟨_, _, dp_lst ha, dp_lst hb, shaped_lst xs, shaped_lst ys, by rw [eqv_lst]; exact k⟩
theorem rNeL (ha : SqL K H a (iVs xs)) (hb : SqL K H b (iVs ys)) (k : Q (.bl (!decide (xs = ys))) H) : rNeD K (.ref a) (.ref b) H Q := ⟨_, _, dp_lst ha, dp_lst hb, shaped_lst xs, shaped_lst ys, by rw [eqv_lst]; exact k⟩
end
end Lk
namespace Lk
open PySem L2
theorem atI_last {xs : List Int} (h : 0 < xs.length) : atI (iVs xs) (-1) = some (.int (co xs (xs.length - 1))) := by
  unfold atI ixN
  rw [iVs_len, if_neg (by decide), if_pos (by omega)]
  show (iVs xs)[((-1 : Int) + xs.length).toNat]? = _
  rw [show ((-1 : Int) + xs.length).toNat = xs.length - 1 by omega]
  exact iVs_get (by omega)
theorem iVs_at {xs : List Int} {i : Nat} {y : V} (h : (iVs xs)[i]? = some y) : i < xs.length ∧ y = .int (co xs i) := by
  have hl : i < xs.length := by
    have := (List.getElem?_eq_some_iff.mp h).1
    rwa [iVs_len] at this
  rw [iVs_get hl] at h
  exact ⟨hl, (Option.some.inj h).symm⟩
end Lk
namespace Lk
open PySem L2
def tStrs (row : List Int) : List Str := row.map fun i => (Str.ofString (toString i))
def showP (row : List Int) : Str := Str.ofString "Poly(" ++ Txt.join (Str.ofString ", ") (tStrs row) ++ Str.ofString ")"
theorem tStrs_snoc (xs : List Int) (x : Int) : tStrs (xs ++ [x]) = tStrs xs ++ [Str.ofString (toString x)] := List.map_append
theorem tStrs_len {row : List Int} (hb : ∀ x ∈ row, x.natAbs.log2 < 1920) : ((tStrs row).map (·.length)).sum ≤ row.length * 1921 := by
  induction row with
  | nil => exact Nat.le_refl _
  | cons x xs ih =>
    have h1 := PyProof.Rows.int_text_len_1921 (hb x List.mem_cons_self)
    have h2 := ih fun y hy => hb y (List.mem_cons_of_mem _ hy)
    unfold tStrs at h2 ⊢
    simp only [List.map_cons, List.sum_cons, List.length_cons, Nat.succ_mul]
    omega
theorem tStrs_join {row : List Int} (hl : row.length ≤ 1000) (hb : ∀ x ∈ row, x.natAbs.log2 < 1920) :
    ((tStrs row).map (·.length)).sum + (tStrs row).length * (Str.ofString ", ").length ≤ 16777216 ∧ (Txt.join (Str.ofString ", ") (tStrs row)).length ≤ 2000000 := by
  have h1 := tStrs_len hb
  have h2 : (tStrs row).length = row.length := List.length_map ..
  have h3 : (Str.ofString ", ").length = 2 := by decide +kernel
  have h4 := StrLaws.join_length_le (Str.ofString ", ") (tStrs row)
  rw [h2, h3] at h4 ⊢
  refine ⟨by omega, ?_⟩
  show (Builtin.Str.glued _ _).length ≤ _
  rw [StrLaws.glued_eq_join]
  omega
end Lk
namespace Lk
open PySem L2
/-! what the defs of Poly and the laws' helpers promise -/
def spTrimmed (K : PySem.W.Frag) : Sp := fun vs H Q _ => ∃ (a : Addr) (row : List Int), vs = [.ref a] ∧ SqI K H a row ∧ ∀ t H', Same H H' → SqT K H' t (iVs (trimI row)) → Q (.ref t) H'
def spOf (K : PySem.W.Frag) (C : Addr) : Sp := fun vs H Q _ => ∃ (a : Addr) (row : List Int), vs = [.ref C, .ref a] ∧ SqI K H a row ∧ row.length ≤ sizeLine ∧ Made K C H (trimI row) Q
def spDegree (K : PySem.W.Frag) (C : Addr) : Sp := fun vs H Q _ => ∃ (p : Addr) (row : List Int), vs = [.ref p] ∧ PolyAt K C H p row ∧ Q (.int ((row.length : Int) - 1)) H
def spLen (K : PySem.W.Frag) (C : Addr) : Sp := fun vs H Q _ => ∃ (p : Addr) (row : List Int), vs = [.ref p] ∧ PolyAt K C H p row ∧ Q (.int (row.length : Int)) H
def spGet (K : PySem.W.Frag) (C : Addr) : Sp := fun vs H Q _ => ∃ (p : Addr) (row : List Int) (j : Int), vs = [.ref p, .int j] ∧ PolyAt K C H p row ∧ Q (.int (coZ row j)) H
def spEq (K : PySem.W.Frag) (C : Addr) : Sp := fun vs H Q _ => ∃ (p : Addr) (row : List Int) (y : V), vs = [.ref p, y] ∧ PolyAt K C H p row ∧
  ((∃ q row2, y = .ref q ∧ PolyAt K C H q row2 ∧ Q (.bl (decide (row = row2))) H) ∨ (∃ t, TyX K H y t ∧ PySem.W.kitOne K t (.ref C) = some false ∧ Q (.bl false) H))
def spRow (K : PySem.W.Frag) (C : Addr) : Sp := fun vs H Q _ => ∃ (p : Addr) (row : List Int), vs = [.ref p] ∧ PolyAt K C H p row ∧ trimI row = row ∧ ∀ l, H l = none → Q (.ref l) (upd H l (.lst (iVs row)))
def spTrim (K : PySem.W.Frag) : Sp := fun vs H Q _ => ∃ (a : Addr) (row : List Int), vs = [.ref a] ∧ SqL K H a (iVs row) ∧ row.length < 2 ^ 24 ∧ ∀ l H', Same H H' → H l = none → H' l = some (.lst (iVs (trimI row))) → Q (.ref l) H'
def spCoefs : Sp := fun vs H Q _ => ∃ b c, vs = [.ref b] ∧ BoxAt H b c ∧ ∀ p row H', row.length ≤ 7 → (∀ x ∈ row, x.natAbs ≤ 10 ^ 20) → H p = none → BoxAt H' b c → Ext b c H H' → H' p = some (.lst (iVs row)) → Q (.ref p) H'
def spRepr (K : PySem.W.Frag) (C : Addr) : Sp := fun vs H Q _ => ∃ (p : Addr) (row : List Int), vs = [.ref p] ∧ PolyAt K C H p row ∧ row.length ≤ 1000 ∧ (∀ x ∈ row, x.natAbs.log2 < 1920) ∧ ∀ H', Same H H' → Q (.str (showP row)) H'
def spShown (K : PySem.W.Frag) : Sp := fun vs H Q _ => ∃ (a : Addr) (row : List Int), vs = [.ref a] ∧ SqL K H a (iVs row) ∧ row.length ≤ 1000 ∧ (∀ x ∈ row, x.natAbs.log2 < 1920) ∧ ∀ H', Same H H' → Q (.str (showP row)) H'
end Lk
namespace Lk
open PySem L2
section
variable {K : PySem.W.Frag} {H : Hp} {l p t C : Addr} {vs ys : List V} {row : List Int} {u : HO}
theorem SqT.pastL (h : SqT K H t vs) (ho : H l = some (.lst ys)) : SqT K (upd H l u) t vs := by
  rcases h with (h | ⟨w, h⟩) | h
  · exact .inl (.inl (by rw [upd_ne (fun e => by rw [e, ho] at h; cases h)]; exact h))
  · exact .inl (.inr ⟨w, by rw [upd_ne (fun e => by rw [e, ho] at h; cases h)]; exact h⟩)
  · exact .inr h
theorem PolyAt.pastL (h : PolyAt K C H p row) (ho : H l = some (.lst ys)) : PolyAt K C (upd H l u) p row := by
  obtain ⟨dx, t, h1, h2⟩ := h
  exact ⟨dx, t, by rw [upd_ne (fun e => by rw [e, ho] at h1; cases h1)]; exact h1, SqT.pastL h2 ho⟩
theorem iVs_app (xs ys : List Int) : iVs (xs ++ ys) = iVs xs ++ iVs ys := List.map_append
end
end Lk
namespace Lk
open PySem L2
theorem iVs_cutE (xs : List Int) (lo hi : Option Int) : ∃ zs : List Int, cutV (iVs xs) lo hi = iVs zs ∧ zs.length ≤ xs.length := by
  have e : cutV (iVs xs) lo hi = iVs ((xs.drop (HT.sIx (iVs xs).length 0 lo)).take (HT.sIx (iVs xs).length (iVs xs).length hi - HT.sIx (iVs xs).length 0 lo)) := by
    unfold cutV iVs
    rw [List.map_take, List.map_drop]
  refine ⟨_, e, ?_⟩
  rw [List.length_take, List.length_drop]
  omega
end Lk
/-! what an expression comes to when it may lay new objects: a property of the value -/
namespace Lk
open PySem L2
/-- te comes to a value with R; the heap only grows -/
def EvR (te : TE) (σ : L2.St) (H : Hp) (R : Hp → V → Prop) : Prop := ∀ H1, Same H H1 → ∀ Q : VK, (∀ v H2, Same H1 H2 → R H2 v → Q v H2) → te σ H1 Q
/-- kept by growth -/
class Up (R : Hp → V → Prop) : Prop where
  up : ∀ {H H' : Hp} {v : V}, Same H H' → R H v → R H' v
def isV (v : V) : Hp → V → Prop := fun _ u => u = v
def isL (K : PySem.W.Frag) (row : List Int) : Hp → V → Prop := fun H v => ∃ p, v = .ref p ∧ SqL K H p (iVs row)
def isT (K : PySem.W.Frag) (row : List Int) : Hp → V → Prop := fun H v => ∃ p, v = .ref p ∧ SqT K H p (iVs row)
def isP (K : PySem.W.Frag) (C : Addr) (row : List Int) : Hp → V → Prop := fun H v => ∃ p, v = .ref p ∧ PolyAt K C H p row
instance {v : V} : Up (isV v) := ⟨fun _ h => h⟩
instance {K : PySem.W.Frag} {row : List Int} : Up (isL K row) := ⟨fun e ⟨p, h1, h2⟩ => ⟨p, h1, e.seq h2⟩⟩
instance {K : PySem.W.Frag} {row : List Int} : Up (isT K row) := ⟨fun e ⟨p, h1, h2⟩ => ⟨p, h1, e.tup h2⟩⟩
instance {K : PySem.W.Frag} {C : Addr} {row : List Int} : Up (isP K C row) := ⟨fun e ⟨p, h1, h2⟩ => ⟨p, h1, h2.same e⟩⟩
section
variable {K : PySem.W.Frag} {C : Addr} {σ : L2.St} {H H' : Hp} {ta tb te : TE} {R S T : Hp → V → Prop} {v w : V} {r : R2} {row row2 xs ys : List Int} {i : Nat} {E : XK} {sp : Sp} {n : Int}
theorem EvR.mono (h : EvR te σ H R) (e : Same H H') : EvR te σ H' R := fun H1 e1 => h H1 (e.trans e1)
theorem EvR.imp (h : EvR te σ H R) (k : ∀ H v, R H v → S H v) : EvR te σ H S := fun H1 e1 Q q => h H1 e1 Q fun v H2 e2 r => q v H2 e2 (k _ _ r)
theorem er_var [Up R] (h : σ[i]? = some (some v)) (hr : R H v) : EvR (tVar i) σ H R := fun H1 e Q q => ⟨v, h, q v H1 (Same.refl _) (Up.up e hr)⟩
theorem er_c : EvR (tC v) σ H (isV v) := fun H1 _ Q q => q v H1 (Same.refl _) rfl
theorem er_ev (h : EvR te σ H (isV v)) : Evl.Ev te σ H v := fun H1 e Q q => h H1 e Q fun u H2 e2 r => (show u = v from r) ▸ q H2 e2
theorem er_of (h : Evl.Ev te σ H v) : EvR te σ H (isV v) := fun H1 e Q q => h H1 e Q fun H2 e2 => q v H2 e2 rfl
theorem er_val (h : ∀ H1, Same H H1 → Val te σ H1 v) : EvR te σ H (isV v) := fun H1 e Q q => h H1 e Q (q v H1 (Same.refl _) rfl)
theorem er_op [Up R] (ha : EvR ta σ H R) (hb : EvR tb σ H S) (hr : ∀ H1 x y, Same H H1 → R H1 x → S H1 y → ∀ Q : VK, (∀ v H2, Same H1 H2 → T H2 v → Q v H2) → r x y H1 Q) : EvR (tOp r ta tb) σ H T := fun H1 e Q q =>
  ha H1 e _ fun x H2 e2 hx => hb H2 (e.trans e2) _ fun y H3 e3 hy => hr H3 x y ((e.trans e2).trans e3) (Up.up e3 hx) hy Q fun z H4 e4 hz => q z H4 ((e2.trans e3).trans e4) hz
theorem er_un {r : V → Hp → VK → Prop} (ha : EvR ta σ H R) (hr : ∀ H1 x, R H1 x → ∀ Q : VK, (∀ v H2, Same H1 H2 → T H2 v → Q v H2) → r x H1 Q) : EvR (tUn r ta) σ H T := fun H1 e Q q =>
  ha H1 e _ fun x H2 e2 hx => hr H2 x hx Q fun z H4 e4 hz => q z H4 (e2.trans e4) hz
theorem er_cb1 {r : List V → Hp → VK → Prop} (ha : EvR ta σ H R) (hr : ∀ H1 x, R H1 x → ∀ Q : VK, (∀ v H2, Same H1 H2 → T H2 v → Q v H2) → r [x] H1 Q) : EvR (tCB r (tCons ta tNil)) σ H T := fun H1 e Q q =>
  ha H1 e _ fun x H2 e2 hx => hr H2 x hx Q fun z H4 e4 hz => q z H4 (e2.trans e4) hz
theorem er_call1 (ha : EvR ta σ H R) (hr : ∀ H1 x, R H1 x → ∀ Q : VK, (∀ v H2, Same H1 H2 → T H2 v → Q v H2) → sp [x] H1 Q E) : EvR (tCall sp [] E (tCons ta tNil)) σ H T := fun H1 e Q q =>
  ha H1 e _ fun x H2 e2 hx => hr H2 x hx Q fun z H4 e4 hz => q z H4 (e2.trans e4) hz
theorem er_call2 [Up R] (ha : EvR ta σ H R) (hb : EvR tb σ H S) (hr : ∀ H1 x y, R H1 x → S H1 y → ∀ Q : VK, (∀ v H2, Same H1 H2 → T H2 v → Q v H2) → sp [x, y] H1 Q E) : EvR (tCall sp [] E (tCons ta (tCons tb tNil))) σ H T := fun H1 e Q q =>
  ha H1 e _ fun x H2 e2 hx => hb H2 (e.trans e2) _ fun y H3 e3 hy => hr H3 x y (Up.up e3 hx) hy Q fun z H4 e4 hz => q z H4 ((e2.trans e3).trans e4) hz
theorem er_int {f : Int → Int → Int} {a b : Int} (ha : EvR ta σ H (isV (.int a))) (hb : EvR tb σ H (isV (.int b))) : EvR (tOp (rI0 fun i j => .int (f i j)) ta tb) σ H (isV (.int (f a b))) :=
  er_op ha hb fun H1 x y _ hx hy Q q => ⟨a, b, hx, hy, q _ H1 (Same.refl _) rfl⟩
theorem er_ne (ha : EvR ta σ H (isV v)) (hb : EvR tb σ H (isV w)) (hs : scal v w = true) : EvR (tOp rNe ta tb) σ H (isV (.bl (!decide (v = w)))) :=
  er_op ha hb fun H1 x y _ hx hy Q q => by
    cases (show x = v from hx)
    cases (show y = w from hy)
    exact ⟨hs, q _ H1 (Same.refl _) rfl⟩
theorem er_eq (ha : EvR ta σ H (isV v)) (hb : EvR tb σ H (isV w)) (hs : scal v w = true) : EvR (tOp rEq ta tb) σ H (isV (.bl (decide (v = w)))) :=
  er_op ha hb fun H1 x y _ hx hy Q q => by
    cases (show x = v from hx)
    cases (show y = w from hy)
    exact ⟨hs, q _ H1 (Same.refl _) rfl⟩
theorem er_isB {a b : Bool} (ha : EvR ta σ H (isV (.bl a))) (hb : EvR tb σ H (isV (.bl b))) : EvR (tOp rIsB ta tb) σ H (isV (.bl (decide (a = b)))) := er_op ha hb fun H1 x y _ hx hy Q q => ⟨a, b, hx, hy, q _ H1 (Same.refl _) rfl⟩
theorem er_notB {a b : Bool} (ha : EvR ta σ H (isV (.bl a))) (hb : EvR tb σ H (isV (.bl b))) : EvR (tOp rNotB ta tb) σ H (isV (.bl (!decide (a = b)))) := er_op ha hb fun H1 x y _ hx hy Q q => ⟨a, b, hx, hy, q _ H1 (Same.refl _) rfl⟩
/-! lists and tuples of ints -/
theorem er_neL (ha : EvR ta σ H (isL K xs)) (hb : EvR tb σ H (isL K ys)) : EvR (tOp (rNeD K) ta tb) σ H (isV (.bl (!decide (xs = ys)))) :=
  er_op ha hb fun H1 _ _ _ ⟨p, ex, hx⟩ ⟨q, ey, hy⟩ Q k => by
    subst ex; subst ey
    exact rNeL hx hy (k _ H1 (Same.refl _) rfl)
theorem er_eqL (ha : EvR ta σ H (isL K xs)) (hb : EvR tb σ H (isL K ys)) : EvR (tOp (rEqD K) ta tb) σ H (isV (.bl (decide (xs = ys)))) :=
  er_op ha hb fun H1 _ _ _ ⟨p, ex, hx⟩ ⟨q, ey, hy⟩ Q k => by
    subst ex; subst ey
    exact rEqL hx hy (k _ H1 (Same.refl _) rfl)
theorem er_lenL (ha : EvR ta σ H (isL K xs)) : EvR (tCB (fun xs H Q => ∃ p ys, xs = [V.ref p] ∧ (SqL K H p ys ∨ SqT K H p ys) ∧ Q (V.int ys.length) H) (tCons ta tNil)) σ H (isV (.int xs.length)) :=
  er_cb1 ha fun H1 _ ⟨p, ex, hx⟩ Q k => ⟨p, _, by rw [ex], .inl hx, by rw [iVs_len]; exact k _ H1 (Same.refl _) rfl⟩
theorem er_list (ha : EvR ta σ H (isL K xs)) : EvR (tCB (fun xs H Q => ∃ p ys, xs = [V.ref p] ∧ (SqL K H p ys ∨ SqT K H p ys) ∧ ∀ l, H l = none → Q (V.ref l) (upd H l (.lst ys))) (tCons ta tNil)) σ H (isL K xs) :=
  er_cb1 ha fun H1 _ ⟨p, ex, hx⟩ Q k => ⟨p, _, by rw [ex], .inl hx, fun l hl => k _ _ (same_upd hl) ⟨l, rfl, SqL.of upd_same⟩⟩
theorem er_tuple (ha : EvR ta σ H (isL K xs)) : EvR (tCB (fun xs H Q => ∃ p ys, xs = [V.ref p] ∧ ((SqL K H p ys ∧ ∀ l, H l = none → Q (V.ref l) (upd H l (.tup ys))) ∨ (SqT K H p ys ∧ Q (V.ref p) H))) (tCons ta tNil)) σ H (isT K xs) :=
  er_cb1 ha fun H1 _ ⟨p, ex, hx⟩ Q k => ⟨p, _, by rw [ex], .inl ⟨hx, fun l hl => k _ _ (same_upd hl) ⟨l, rfl, SqT.of upd_same⟩⟩⟩
theorem er_lst {t : TA} (ha : ∀ H1, Same H H1 → ValA t σ H1 (iVs xs)) (hl : xs.length ≤ sizeLine) : EvR (tLst t) σ H (isL K xs) := fun H1 e Q q =>
  ha H1 e _ ⟨by rw [iVs_len]; exact hl, fun p hp => q _ _ (same_upd hp) ⟨p, rfl, SqL.of upd_same⟩⟩
/-! polynomials -/
theorem er_row (ha : EvR ta σ H (isP K C row)) (ht : trimI row = row) : EvR (tCall (spRow K C) [] E (tCons ta tNil)) σ H (isL K row) :=
  er_call1 ha fun H1 _ ⟨p, ex, hx⟩ Q k => ⟨p, row, by rw [ex], hx, ht, fun l hl => k _ _ (same_upd hl) ⟨l, rfl, SqL.of upd_same⟩⟩
theorem er_trim (ha : EvR ta σ H (isL K row)) (hl : row.length < 2 ^ 24) : EvR (tCall (spTrim K) [] E (tCons ta tNil)) σ H (isL K (trimI row)) :=
  er_call1 ha fun H1 _ ⟨p, ex, hx⟩ Q k => ⟨p, row, by rw [ex], hx, hl, fun l H2 s2 _ h2 => k _ _ s2 ⟨l, rfl, SqL.of h2⟩⟩
theorem er_polyOf (ha : EvR ta σ H (fun H v => ∃ p, v = .ref p ∧ SqI K H p row)) (hl : row.length ≤ sizeLine) : EvR (ClX.tCMeth C (spOf K C) E (tC (.ref C)) (tCons ta tNil)) σ H (isP K C (trimI row)) := fun H1 e Q q =>
  ⟨rfl, ha H1 e _ fun x H2 e2 ⟨p, ex, hx⟩ => ⟨p, row, by rw [ex], hx, hl, fun o H3 s3 _ ho => q _ H3 (e2.trans s3) ⟨o, rfl, ho⟩⟩⟩
theorem isL_I {H : Hp} {v : V} (h : isL K row H v) : ∃ p, v = .ref p ∧ SqI K H p row := let ⟨p, e, h⟩ := h; ⟨p, e, .inl h⟩
theorem isT_I {H : Hp} {v : V} (h : isT K row H v) : ∃ p, v = .ref p ∧ SqI K H p row := let ⟨p, e, h⟩ := h; ⟨p, e, .inr h⟩
theorem er_lenP (ha : EvR ta σ H (isP K C row)) (hl : row.length < 2 ^ 62) : EvR (tCB (rLenO C (spLen K C) E) (tCons ta tNil)) σ H (isV (.int row.length)) :=
  er_cb1 ha fun H1 _ ⟨p, ex, hx⟩ Q k => by
    obtain ⟨dx, t, h1, h2⟩ := id hx
    exact ⟨p, dx, _, by rw [ex], h1, p, row, rfl, hx, row.length, rfl, by omega, by omega, k _ H1 (Same.refl _) rfl⟩
theorem er_degree (ha : EvR ta σ H (isP K C row)) : EvR (tProp C (spDegree K C) [] E ta) σ H (isV (.int ((row.length : Int) - 1))) := fun H1 e Q q =>
  ha H1 e _ fun x H2 e2 ⟨p, ex, hx⟩ => by
    obtain ⟨dx, t, h1, h2⟩ := id hx
    exact ⟨p, dx, _, ex, h1, p, row, rfl, hx, q _ H2 e2 rfl⟩
theorem er_repr (ha : EvR ta σ H (isP K C row)) (hl : row.length ≤ 1000) (hb : ∀ x ∈ row, x.natAbs.log2 < 1920) : EvR (tCB (rReprO C (spRepr K C) E) (tCons ta tNil)) σ H (isV (.str (showP row))) :=
  er_cb1 ha fun H1 _ ⟨p, ex, hx⟩ Q k => by
    obtain ⟨dx, t, h1, h2⟩ := id hx
    exact ⟨p, dx, _, by rw [ex], h1, p, row, rfl, hx, hl, hb, fun H2 s2 => ⟨_, rfl, k _ H2 s2 rfl⟩⟩
theorem er_shown (ha : EvR ta σ H (isL K row)) (hl : row.length ≤ 1000) (hb : ∀ x ∈ row, x.natAbs.log2 < 1920) : EvR (tCall (spShown K) [] E (tCons ta tNil)) σ H (isV (.str (showP row))) :=
  er_call1 ha fun H1 _ ⟨p, ex, hx⟩ Q k => ⟨p, row, by rw [ex], hx, hl, hb, fun H2 s2 => k _ H2 s2 rfl⟩
theorem er_get (ha : EvR ta σ H (isP K C row)) (hb : EvR tb σ H (isV (.int n))) : EvR (tOp (rIxO C (spGet K C) E) ta tb) σ H (isV (.int (coZ row n))) :=
  er_op ha hb fun H1 _ _ _ ⟨p, ex, hx⟩ hy Q k => by
    obtain ⟨dx, t, h1, h2⟩ := id hx
    exact ⟨p, dx, _, n, ex, hy, h1, p, row, n, by rw [ex, show _ = V.int n from hy], hx, k _ H1 (Same.refl _) rfl⟩
structure PolyE (K : PySem.W.Frag) (C : Addr) : Prop where
  ty : ∀ {H : Hp} {p dx : Addr} {fs : List (Str × V)}, H p = some (.ins C dx fs) → TyX K H (.ref p) (.ref C)
  nf : PySem.W.notFirst K C (.ref C) = true
theorem er_eqP (P : PolyE K C) (ha : EvR ta σ H (isP K C row)) (hb : EvR tb σ H (isP K C row2)) : EvR (tOp (rEqO K C (spEq K C) E) ta tb) σ H (isV (.bl (decide (row = row2)))) :=
  er_op ha hb fun H1 _ _ _ ⟨p, ex, hx⟩ ⟨q, ey, hy⟩ Q k => by
    subst ex; subst ey
    obtain ⟨dx, t, h1, h2⟩ := id hx
    obtain ⟨dx', t', h1', h2'⟩ := id hy
    exact ⟨p, dx, _, _, rfl, h1, P.ty h1', P.nf, p, row, _, rfl, hx, .inl ⟨q, row2, rfl, hy, k _ H1 (Same.refl _) rfl⟩⟩
theorem er_neP (P : PolyE K C) (ha : EvR ta σ H (isP K C row)) (hb : EvR tb σ H (isP K C row2)) : EvR (tOp (rNeO K C (spEq K C) E) ta tb) σ H (isV (.bl (!decide (row = row2)))) :=
  er_op ha hb fun H1 _ _ _ ⟨p, ex, hx⟩ ⟨q, ey, hy⟩ Q k => by
    subst ex; subst ey
    obtain ⟨dx, t, h1, h2⟩ := id hx
    obtain ⟨dx', t', h1', h2'⟩ := id hy
    exact ⟨p, dx, _, _, rfl, h1, P.ty h1', P.nf, p, row, _, rfl, hx, .inl ⟨q, row2, rfl, hy, _, rfl, k _ H1 (Same.refl _) rfl⟩⟩
/-- == and != with what is no polynomial -/
def NotP (K : PySem.W.Frag) (C : Addr) (R : Hp → V → Prop) : Prop := ∀ H x, R H x → ∃ t, TyX K H x t ∧ PySem.W.notFirst K C t = true ∧ PySem.W.kitOne K t (.ref C) = some false
theorem er_eqX (N : NotP K C R) (ha : EvR ta σ H (isP K C row)) (hb : EvR tb σ H R) : EvR (tOp (rEqO K C (spEq K C) E) ta tb) σ H (isV (.bl false)) :=
  er_op ha hb fun H1 _ y _ ⟨p, ex, hx⟩ hy Q k => by
    subst ex
    obtain ⟨dx, t, h1, h2⟩ := id hx
    obtain ⟨ty, n1, n2, n3⟩ := N _ _ hy
    exact ⟨p, dx, _, ty, rfl, h1, n1, n2, p, row, _, rfl, hx, .inr ⟨ty, n1, n3, k _ H1 (Same.refl _) rfl⟩⟩
theorem er_neX (N : NotP K C R) (ha : EvR ta σ H (isP K C row)) (hb : EvR tb σ H R) : EvR (tOp (rNeO K C (spEq K C) E) ta tb) σ H (isV (.bl true)) :=
  er_op ha hb fun H1 _ y _ ⟨p, ex, hx⟩ hy Q k => by
    subst ex
    obtain ⟨dx, t, h1, h2⟩ := id hx
    obtain ⟨ty, n1, n2, n3⟩ := N _ _ hy
    exact ⟨p, dx, _, ty, rfl, h1, n1, n2, p, row, _, rfl, hx, .inr ⟨ty, n1, n3, _, rfl, k _ H1 (Same.refl _) rfl⟩⟩
end
end Lk
namespace Lk
open PySem L2
theorem SqL.ty {K : PySem.W.Frag} {H : Hp} {a : Addr} {vs : List V} (h : SqL K H a vs) : TyX K H (.ref a) (.type "list") := by
  rcases h with (h | ⟨w, h⟩) | ⟨w, its, n, h, hc, _⟩
  · exact .base (.lst h)
  · exact .base (.frz h)
  · exact .kList h hc
theorem er_makeR {K : PySem.W.Frag} {C : Addr} {σ : L2.St} {H : Hp} {E : XK} {t : TA} {row : List Int} (ha : ∀ H1, Same H H1 → ValA t σ H1 (iVs row)) (hl : row.length ≤ sizeLine) : EvR (StX.tMakeR C (starSp 1 (spInit K C)) E t) σ H (isP K C (trimI row)) := fun H1 e Q q =>
  ha H1 e _ fun o dx ho hd hne => make_row hl (fun p H' s' _ hp => q _ H' s' ⟨p, rfl, hp⟩) o dx ho hd hne
theorem er_cat {K : PySem.W.Frag} {σ : L2.St} {H : Hp} {ta tb : TE} {xs ys : List V} (ha : EvR ta σ H (fun H v => ∃ p, v = .ref p ∧ H p = some (.lst xs))) (hb : EvR tb σ H (fun H v => ∃ p, v = .ref p ∧ H p = some (.lst ys))) (hl : xs.length + ys.length ≤ sizeLine) :
    EvR (tOp rCat ta tb) σ H (fun H v => ∃ p, v = .ref p ∧ H p = some (.lst (xs ++ ys))) :=
  @er_op σ H ta tb (fun H v => ∃ p, v = .ref p ∧ H p = some (.lst xs)) _ _ rCat ⟨fun e ⟨p, h1, h2⟩ => ⟨p, h1, e _ _ h2⟩⟩ ha hb fun H1 x y _ ⟨p, ex, hx⟩ ⟨q, ey, hy⟩ Q k => ⟨p, q, xs, ys, ex, ey, hx, hy, hl, fun r hr => k _ _ (same_upd hr) ⟨r, rfl, upd_same⟩⟩
end Lk
namespace Lk
open PySem L2
/-- a list of ints of the run's own -/
def isN (row : List Int) : Hp → V → Prop := fun H v => ∃ p, v = .ref p ∧ H p = some (.lst (iVs row))
instance {row : List Int} : Up (isN row) := ⟨fun e ⟨p, h1, h2⟩ => ⟨p, h1, e _ _ h2⟩⟩
theorem isN_L {K : PySem.W.Frag} {row : List Int} {H : Hp} {v : V} (h : isN row H v) : isL K row H v := let ⟨p, e, h⟩ := h; ⟨p, e, SqL.of h⟩
section
variable {K : PySem.W.Frag} {C : Addr} {σ : L2.St} {H H' : Hp} {ta tb te : TE} {R S T : Hp → V → Prop} {v w : V} {row row2 xs ys : List Int} {E : XK} {n : Int} {b : Bool}
theorem er_nl {t : TA} (ha : ∀ H1, Same H H1 → ValA t σ H1 (iVs xs)) (hl : xs.length ≤ sizeLine) : EvR (tLst t) σ H (isN xs) := fun H1 e Q q =>
  ha H1 e _ ⟨by rw [iVs_len]; exact hl, fun p hp => q _ _ (same_upd hp) ⟨p, rfl, upd_same⟩⟩
theorem er_catN (ha : EvR ta σ H (isN xs)) (hb : EvR tb σ H (isN ys)) (hl : xs.length + ys.length ≤ sizeLine) : EvR (tOp rCat ta tb) σ H (isN (xs ++ ys)) :=
  er_op ha hb fun H1 x y _ ⟨p, ex, hx⟩ ⟨q, ey, hy⟩ Q k => ⟨p, q, _, _, ex, ey, hx, hy, by rw [iVs_len, iVs_len]; exact hl, fun r hr => k _ _ (same_upd hr) ⟨r, rfl, by rw [upd_same, iVs_app]⟩⟩
theorem er_ixL (ha : EvR ta σ H (isL K xs)) (hb : EvR tb σ H (isV (.int n))) (h0 : 0 ≤ n) (h1 : n < xs.length) : EvR (tOp (rIxL K) ta tb) σ H (isV (.int (co xs n.toNat))) :=
  er_op ha hb fun H1 x y _ ⟨p, ex, hx⟩ hy Q k => ⟨p, _, n, _, ex, hy, hx, atI_iVs h0 h1, k _ H1 (Same.refl _) rfl⟩
theorem er_isInt (ha : EvR ta σ H (isV (.int n))) {sp : Sp} (hs : ∀ H1 (Q : VK), Q (.bl true) H1 → sp [V.int n] H1 Q E) : EvR (tCall sp [] E (tCons ta tNil)) σ H (isV (.bl true)) :=
  er_call1 ha fun H1 x hx Q k => by
    cases (show x = _ from hx)
    exact hs H1 Q (k _ H1 (Same.refl _) rfl)
theorem t_no (h : EvR te σ H (isV (.bl b))) (e : b = false) : Evl.EvT (tTest te) σ H false := Evl.et_is (Evl.et_test (er_ev h)) e
theorem t_notB (h : EvR te σ H (isV (.bl b))) (e : b = true) : Evl.EvT (tNot (tB te)) σ H false := Evl.et_is (Evl.et_not (Evl.et_B (er_ev h))) (by rw [e]; rfl)
end
end Lk
/-! products of coefficients: sums over ranges, convolution, powers, bounds -/
namespace Lk
def S (f : Nat → Int) : Nat → Int
  | 0 => 0
  | n + 1 => S f n + f n
theorem S_zero {f : Nat → Int} {n : Nat} (h : ∀ i, i < n → f i = 0) : S f n = 0 := by
  induction n with
  | zero => rfl
  | succ n ih =>
    show S f n + f n = 0
    rw [ih fun i hi => h i (by omega), h n (by omega)]
    rfl
theorem S_congr {f g : Nat → Int} {n : Nat} (h : ∀ i, i < n → f i = g i) : S f n = S g n := by
  induction n with
  | zero => rfl
  | succ n ih =>
    show S f n + f n = S g n + g n
    rw [ih fun i hi => h i (by omega), h n (by omega)]
theorem S_add (f g : Nat → Int) (n : Nat) : S (fun i => f i + g i) n = S f n + S g n := by
  induction n with
  | zero => rfl
  | succ n ih =>
    show S (fun i => f i + g i) n + (f n + g n) = (S f n + f n) + (S g n + g n)
    rw [ih]
    omega
theorem S_mul (c : Int) (f : Nat → Int) (n : Nat) : S (fun i => c * f i) n = c * S f n := by
  induction n with
  | zero => exact (Int.mul_zero c).symm
  | succ n ih =>
    show S (fun i => c * f i) n + c * f n = c * (S f n + f n)
    rw [ih, Int.mul_add]
theorem S_mul' (c : Int) (f : Nat → Int) (n : Nat) : S (fun i => f i * c) n = S f n * c := by
  rw [Int.mul_comm, ← S_mul]
  exact S_congr fun i _ => Int.mul_comm _ _
theorem S_le {f g : Nat → Int} {n : Nat} (h : ∀ i, i < n → f i ≤ g i) : S f n ≤ S g n := by
  induction n with
  | zero => exact Int.le_refl _
  | succ n ih =>
    show S f n + f n ≤ S g n + g n
    have := ih fun i hi => h i (by omega)
    have := h n (by omega)
    omega
theorem S_abs (f : Nat → Int) (n : Nat) : ((S f n).natAbs : Int) ≤ S (fun i => ((f i).natAbs : Int)) n := by
  induction n with
  | zero => exact Int.le_refl _
  | succ n ih =>
    show ((S f n + f n).natAbs : Int) ≤ S (fun i => ((f i).natAbs : Int)) n + ((f n).natAbs : Int)
    omega
theorem S_head (f : Nat → Int) (n : Nat) : S f (n + 1) = f 0 + S (fun i => f (i + 1)) n := by
  induction n with
  | zero => show 0 + f 0 = f 0 + 0; omega
  | succ n ih =>
    show S f (n + 1) + f (n + 1) = f 0 + (S (fun i => f (i + 1)) n + f (n + 1))
    rw [ih]
    omega
theorem S_rev (n : Nat) : ∀ f : Nat → Int, S f (n + 1) = S (fun i => f (n - i)) (n + 1) := by
  induction n with
  | zero => intro f; rfl
  | succ n ih =>
    intro f
    rw [S_head (fun i => f (n + 1 - i))]
    show S f (n + 1) + f (n + 1) = f (n + 1 - 0) + S (fun i => f (n + 1 - (i + 1))) (n + 1)
    rw [ih f, S_congr (f := fun i => f (n + 1 - (i + 1))) (g := fun i => f (n - i)) fun i _ => by rw [Nat.add_sub_add_right]]
    rw [Nat.sub_zero]
    omega
/-- what stands behind is 0 -/
theorem S_more {f : Nat → Int} {n m : Nat} (hn : n ≤ m) (h : ∀ i, n ≤ i → i < m → f i = 0) : S f m = S f n := by
  induction m with
  | zero => rw [show n = 0 by omega]
  | succ m ih =>
    rcases Nat.eq_or_lt_of_le hn with e | l
    · rw [e]
    · show S f m + f m = S f n
      rw [ih (by omega) fun i h1 h2 => h i h1 (by omega), h m (by omega) (by omega), Int.add_zero]
theorem S_shift {f : Nat → Int} {s m : Nat} (h : ∀ i, i < s → f i = 0) : S f (s + m) = S (fun j => f (s + j)) m := by
  induction m with
  | zero => exact S_zero h
  | succ m ih =>
    show S f (s + m) + f (s + m) = S (fun j => f (s + j)) m + f (s + m)
    rw [ih]
theorem S_tri (F : Nat → Nat → Int) (n : Nat) : S (fun i => S (fun j => F j (i - j)) (i + 1)) n = S (fun j => S (fun l => F j l) (n - j)) n := by
  induction n with
  | zero => rfl
  | succ n ih =>
    show S (fun i => S (fun j => F j (i - j)) (i + 1)) n + S (fun j => F j (n - j)) (n + 1) = S (fun j => S (fun l => F j l) (n + 1 - j)) (n + 1)
    rw [ih, S_congr (f := fun j => S (fun l => F j l) (n + 1 - j)) (g := fun j => S (fun l => F j l) (n - j) + F j (n - j)) (n := n + 1) fun j hj => by
      rw [show n + 1 - j = (n - j) + 1 by omega]
      rfl]
    rw [S_add]
    show _ = (S (fun j => S (fun l => F j l) (n - j)) n + S (fun l => F n l) (n - n)) + _
    rw [Nat.sub_self]
    show _ = (_ + 0) + _
    omega
/-- the product's coefficient -/
def cv (f g : Nat → Int) (k : Nat) : Int := S (fun i => f i * g (k - i)) (k + 1)
theorem cv_comm (f g : Nat → Int) (k : Nat) : cv f g k = cv g f k := by
  unfold cv
  rw [S_rev]
  refine S_congr fun i hi => ?_
  rw [show k - (k - i) = i by omega, Int.mul_comm]
theorem cv_congr {f f' g g' : Nat → Int} (h1 : ∀ k, f k = f' k) (h2 : ∀ k, g k = g' k) (k : Nat) : cv f g k = cv f' g' k := S_congr fun i _ => by rw [h1, h2]
theorem cv_assoc (f g h : Nat → Int) (k : Nat) : cv (cv f g) h k = cv f (cv g h) k := by
  have e1 : cv (cv f g) h k = S (fun i => S (fun j => (fun j l => f j * g l * h (k - (j + l))) j (i - j)) (i + 1)) (k + 1) := by
    refine S_congr fun i hi => ?_
    show S (fun j => f j * g (i - j)) (i + 1) * h (k - i) = _
    rw [← S_mul']
    refine S_congr fun j hj => ?_
    show _ = f j * g (i - j) * h (k - (j + (i - j)))
    rw [show j + (i - j) = i by omega]
  refine e1.trans ((S_tri (fun j l => f j * g l * h (k - (j + l))) (k + 1)).trans ?_)
  refine S_congr fun j hj => ?_
  show S (fun l => f j * g l * h (k - (j + l))) (k + 1 - j) = f j * cv g h (k - j)
  rw [show k + 1 - j = (k - j) + 1 by omega]
  unfold cv
  rw [← S_mul]
  refine S_congr fun l hl => ?_
  rw [Int.mul_assoc, show k - (j + l) = k - j - l by omega]
def oneC (k : Nat) : Int := if k = 0 then 1 else 0
theorem one_cv (f : Nat → Int) (k : Nat) : cv oneC f k = f k := by
  unfold cv
  rw [S_head]
  rw [S_zero fun i hi => by show (if i + 1 = 0 then 1 else 0) * _ = (0 : Int); rw [if_neg (by omega), Int.zero_mul]]
  show 1 * f (k - 0) + 0 = _
  rw [Nat.sub_zero]
  omega
/-- the n-th power -/
def pw (f : Nat → Int) : Nat → Nat → Int
  | 0 => oneC
  | n + 1 => cv (pw f n) f
theorem pw_add (f : Nat → Int) (a b k : Nat) : cv (pw f a) (pw f b) k = pw f (a + b) k := by
  induction b generalizing k with
  | zero => exact (cv_comm _ _ _).trans (one_cv _ _)
  | succ b ih =>
    show cv (pw f a) (cv (pw f b) f) k = cv (pw f (a + b)) f k
    rw [← cv_assoc]
    exact cv_congr ih (fun _ => rfl) k
theorem pw_congr {f g : Nat → Int} (h : ∀ k, f k = g k) (n k : Nat) : pw f n k = pw g n k := by
  induction n generalizing k with
  | zero => rfl
  | succ n ih => exact cv_congr ih h k
theorem pw_one (f : Nat → Int) (k : Nat) : pw f 1 k = f k := one_cv f k
/-! the sum of all absolute values -/
def Nb (m : Nat) (f : Nat → Int) : Prop := ∀ n, S (fun k => ((f k).natAbs : Int)) n ≤ m
theorem Nb.congr {m : Nat} {f g : Nat → Int} (h : Nb m f) (e : ∀ k, f k = g k) : Nb m g := fun n => by
  rw [← S_congr (f := fun k => ((f k).natAbs : Int)) fun i _ => by rw [e]]
  exact h n
theorem Nb.mono {m n : Nat} {f : Nat → Int} (h : Nb m f) (l : m ≤ n) : Nb n f := fun k => by
  have := h k
  omega
theorem Nb.at {m : Nat} {f : Nat → Int} (h : Nb m f) (k : Nat) : (f k).natAbs ≤ m := by
  have h1 := h (k + 1)
  have h2 : 0 ≤ S (fun k => ((f k).natAbs : Int)) k := by
    have := S_le (f := fun _ => 0) (g := fun k => ((f k).natAbs : Int)) (n := k) fun i _ => Int.natCast_nonneg _
    rw [S_zero (f := fun _ => 0) fun _ _ => rfl] at this
    exact this
  have h3 : S (fun k => ((f k).natAbs : Int)) (k + 1) = S (fun k => ((f k).natAbs : Int)) k + ((f k).natAbs : Int) := rfl
  omega
theorem Nb.mul {a b : Nat} {f g : Nat → Int} (h1 : Nb a f) (h2 : Nb b g) : Nb (a * b) (cv f g) := fun n => by
  refine Int.le_trans (S_le (g := fun k => S (fun i => (fun i l => ((f i).natAbs : Int) * ((g l).natAbs : Int)) i (k - i)) (k + 1)) fun k _ => ?_) ?_
  · refine Int.le_trans (S_abs _ _) (Int.le_of_eq (S_congr fun i _ => ?_))
    rw [Int.natAbs_mul]
    exact Int.natCast_mul _ _
  · refine Int.le_trans (Int.le_of_eq (S_tri (fun i l => ((f i).natAbs : Int) * ((g l).natAbs : Int)) n)) ?_
    refine Int.le_trans (S_le (g := fun i => ((f i).natAbs : Int) * (b : Int)) fun i _ => ?_) ?_
    · show S (fun l => ((f i).natAbs : Int) * ((g l).natAbs : Int)) (n - i) ≤ _
      rw [S_mul]
      exact Int.mul_le_mul_of_nonneg_left (h2 (n - i)) (Int.natCast_nonneg _)
    · rw [S_mul', Int.natCast_mul]
      exact Int.mul_le_mul_of_nonneg_right (h1 n) (Int.natCast_nonneg _)
theorem Nb.one : Nb 1 oneC := fun n => by
  cases n with
  | zero => decide
  | succ n =>
    rw [S_head, S_zero fun i hi => by show (((if i + 1 = 0 then (1 : Int) else 0).natAbs : Nat) : Int) = 0; rw [if_neg (by omega)]; rfl]
    decide
theorem Nb.pw {m : Nat} {f : Nat → Int} (h : Nb m f) (n : Nat) : Nb (m ^ n) (pw f n) := by
  induction n with
  | zero => exact Nb.one
  | succ n ih => exact ih.mul h
end Lk
/-! sums, negatives, multiples of rows; comprehensions over sequences of ints -/
namespace Lk
open PySem L2
def addI (xs ys : List Int) : List Int := (List.range (max xs.length ys.length)).map fun j => co xs j + co ys j
def negI (xs : List Int) : List Int := xs.map fun x => -x
def scaleI (n : Int) (xs : List Int) : List Int := xs.map fun x => n * x
theorem co_map {f : Int → Int} (h0 : f 0 = 0) (xs : List Int) (k : Nat) : co (xs.map f) k = f (co xs k) := by
  unfold co
  rw [List.getD_eq_getElem?_getD, List.getD_eq_getElem?_getD, List.getElem?_map]
  cases xs[k]? with
  | none => exact h0.symm
  | some x => rfl
theorem co_neg (xs : List Int) (k : Nat) : co (negI xs) k = -co xs k := co_map (f := fun x => -x) rfl xs k
theorem co_scale (n : Int) (xs : List Int) (k : Nat) : co (scaleI n xs) k = n * co xs k := co_map (f := fun x => n * x) (Int.mul_zero n) xs k
theorem co_range (n : Nat) (f : Nat → Int) (k : Nat) : co ((List.range n).map f) k = if k < n then f k else 0 := by
  by_cases h : k < n
  · rw [if_pos h, co_lt (by rw [List.length_map, List.length_range]; exact h), List.getElem_map, List.getElem_range]
  · rw [if_neg h, co_ge (by rw [List.length_map, List.length_range]; omega)]
theorem co_add (xs ys : List Int) (k : Nat) : co (addI xs ys) k = co xs k + co ys k := by
  unfold addI
  rw [co_range]
  split
  · rfl
  · rw [co_ge (by omega), co_ge (by omega)]
    rfl
theorem add_len (xs ys : List Int) : (addI xs ys).length = max xs.length ys.length := by
  unfold addI
  rw [List.length_map, List.length_range]
section
variable {K : PySem.W.Frag} {H H' : Hp} {a b p C : Addr} {xs ys row : List Int} {σ : L2.St} {te : TE} {i : Nat} {H1 : Hp} {D : Addr} {Qd : Hp → Prop}
/-- a comprehension over a tuple of ints -/
theorem lcT (f : Int → Int) (hT : SqT K H1 a (iVs xs)) (hD : H1 D = none) (hn : xs.length ≤ sizeLine)
    (he : ∀ x H, x ∈ xs → Same H1 H → Val te ((wipe σ [i]).set i (some (.int x))) H (.int (f x))) (hd : ∀ H, Same H1 H → H D = some (.lst (iVs (xs.map f))) → Qd H) :
    ∃ W : Nat → Nat → Hp → Prop, (∃ m, W 0 m (upd H1 D (.lst []))) ∧ ∀ i' m H, W i' m H →
      ((Itt K a).stop i' H ∧ Qd H) ∨ ((Itt K a).go i' H ∧ ∃ Nx : Hp → Prop, (∀ H', Nx H' → ∃ m', m' < m ∧ W (i' + 1) m' H') ∧ ∀ x H', (Itt K a).yld i' H x H' → gName i x (wipe σ [i]) H' fun σ2 H2 => wipe σ2 [i] = wipe σ [i] ∧ tYes σ2 H2 fun b H3 =>
        if b = true then te σ2 H3 fun y H4 => ∃ acc, H4 D = some (.lst acc) ∧ acc.length < sizeLine ∧ Nx (upd H4 D (.lst (acc ++ [y]))) else Nx H3) := by
  refine lc_tup (xs := iVs xs) (fun j H => Same H1 H ∧ H D = some (.lst (iVs ((xs.take j).map f)))) ⟨same_upd hD, upd_same⟩ (fun j H _ h => h.1.tup hT) ?_ ?_
  · rintro j y H hi ⟨s1, h1⟩
    obtain ⟨hj, rfl⟩ := iVs_at hi
    refine ⟨?_, ?_⟩
    · show ((σ.set i none).set i _).set i none = σ.set i none
      rw [List.set_set, List.set_set]
    · refine he (co xs j) H (by rw [co_lt hj]; exact List.getElem_mem hj) s1 (fun y H4 => ∃ acc, H4 D = some (.lst acc) ∧ acc.length < sizeLine ∧ Same H1 (upd H4 D (.lst (acc ++ [y]))) ∧ (upd H4 D (.lst (acc ++ [y]))) D = some (.lst (iVs ((xs.take (j + 1)).map f)))) ⟨_, h1, ?_, ?_, ?_⟩
      · rw [iVs_len, List.length_map, List.length_take]
        omega
      · exact fun b o e => by rw [upd_ne (ne_of_none e hD)]; exact s1 b o e
      · rw [upd_same, List.take_succ_eq_append_getElem hj, List.map_append, iVs_app, co_lt hj]
        rfl
  · rintro H ⟨s1, h1⟩
    rw [iVs_len, List.take_length] at h1
    exact hd H s1 h1
theorem lcL (f : Int → Int) (hT : SqL K H1 a (iVs xs)) (hD : H1 D = none) (hn : xs.length ≤ sizeLine)
    (he : ∀ x H, x ∈ xs → Same H1 H → Val te ((wipe σ [i]).set i (some (.int x))) H (.int (f x))) (hd : ∀ H, Same H1 H → H D = some (.lst (iVs (xs.map f))) → Qd H) :
    ∃ W : Nat → Nat → Hp → Prop, (∃ m, W 0 m (upd H1 D (.lst []))) ∧ ∀ i' m H, W i' m H →
      ((Itl K a).stop i' H ∧ Qd H) ∨ ((Itl K a).go i' H ∧ ∃ Nx : Hp → Prop, (∀ H', Nx H' → ∃ m', m' < m ∧ W (i' + 1) m' H') ∧ ∀ x H', (Itl K a).yld i' H x H' → gName i x (wipe σ [i]) H' fun σ2 H2 => wipe σ2 [i] = wipe σ [i] ∧ tYes σ2 H2 fun b H3 =>
        if b = true then te σ2 H3 fun y H4 => ∃ acc, H4 D = some (.lst acc) ∧ acc.length < sizeLine ∧ Nx (upd H4 D (.lst (acc ++ [y]))) else Nx H3) := by
  refine lc_list (xs := iVs xs) (fun j H => Same H1 H ∧ H D = some (.lst (iVs ((xs.take j).map f)))) ⟨same_upd hD, upd_same⟩ (fun j H _ h => h.1.seq hT) ?_ ?_
  · rintro j y H hi ⟨s1, h1⟩
    obtain ⟨hj, rfl⟩ := iVs_at hi
    refine ⟨?_, ?_⟩
    · show ((σ.set i none).set i _).set i none = σ.set i none
      rw [List.set_set, List.set_set]
    · refine he (co xs j) H (by rw [co_lt hj]; exact List.getElem_mem hj) s1 (fun y H4 => ∃ acc, H4 D = some (.lst acc) ∧ acc.length < sizeLine ∧ Same H1 (upd H4 D (.lst (acc ++ [y]))) ∧ (upd H4 D (.lst (acc ++ [y]))) D = some (.lst (iVs ((xs.take (j + 1)).map f)))) ⟨_, h1, ?_, ?_, ?_⟩
      · rw [iVs_len, List.length_map, List.length_take]
        omega
      · exact fun b o e => by rw [upd_ne (ne_of_none e hD)]; exact s1 b o e
      · rw [upd_same, List.take_succ_eq_append_getElem hj, List.map_append, iVs_app, co_lt hj]
        rfl
  · rintro H ⟨s1, h1⟩
    rw [iVs_len, List.take_length] at h1
    exact hd H s1 h1
end
theorem iVs_set (xs : List Int) (i : Nat) (x : Int) : (iVs xs).set i (.int x) = iVs (xs.set i x) := List.map_set.symm
theorem co_set {xs : List Int} {i : Nat} (h : i < xs.length) (x : Int) (j : Nat) : co (xs.set i x) j = if j = i then x else co xs j := by
  unfold co
  rw [List.getD_eq_getElem?_getD, List.getD_eq_getElem?_getD, List.getElem?_set]
  by_cases e : i = j
  · subst e
    rw [if_pos rfl, if_pos rfl, if_pos h]
    rfl
  · rw [if_neg e, if_neg (fun z => e z.symm)]
theorem setL_I {H : Hp} {D : Addr} {cur : List Int} {k x : Int} {N : Hp → Prop} (h : H D = some (.lst (iVs cur))) (h0 : 0 ≤ k) (h1 : k < cur.length) (q : N (upd H D (.lst (iVs (cur.set k.toNat x))))) : rSetL (.ref D) (.int k) (.int x) H N := by
  refine ⟨D, _, k, k.toNat, rfl, rfl, h, ?_, by rw [iVs_set]; exact q⟩
  unfold ixN
  rw [iVs_len, if_pos h0, if_pos h1]
theorem dun_add : PySem.dunder "add" = "__add__" := by decide +kernel
theorem dunr_add : dunderR "add" = "__radd__" := by decide +kernel
theorem duni_add : dunderI "add" = "__iadd__" := by decide +kernel
theorem dun_sub : PySem.dunder "sub" = "__sub__" := by decide +kernel
theorem dunr_sub : dunderR "sub" = "__rsub__" := by decide +kernel
theorem duni_sub : dunderI "sub" = "__isub__" := by decide +kernel
theorem dun_mul : PySem.dunder "mul" = "__mul__" := by decide +kernel
theorem dunr_mul : dunderR "mul" = "__rmul__" := by decide +kernel
theorem duni_mul : dunderI "mul" = "__imul__" := by decide +kernel
/-! promises -/
/-- a polynomial or an int, as a row -/
def RowOf (K : PySem.W.Frag) (C : Addr) (H : Hp) (y : V) (row : List Int) : Prop := (∃ p, y = .ref p ∧ PolyAt K C H p row) ∨ (∃ n, y = .int n ∧ row = trimI [n])
theorem RowOf.same {K : PySem.W.Frag} {C : Addr} {H H' : Hp} {y : V} {row : List Int} (h : RowOf K C H y row) (e : Same H H') : RowOf K C H' y row := h.elim (fun ⟨p, a, b⟩ => .inl ⟨p, a, b.same e⟩) .inr
def spCoefAt (K : PySem.W.Frag) : Sp := fun vs H Q _ => ∃ (a : Addr) (row : List Int) (k : Int), vs = [.ref a, .int k] ∧ SqI K H a row ∧ 0 ≤ k ∧ Q (.int (co row k.toNat)) H
def spPlus (K : PySem.W.Frag) : Sp := fun vs H Q _ => ∃ (a b : Addr) (xs ys : List Int), vs = [.ref a, .ref b] ∧ SqI K H a xs ∧ SqI K H b ys ∧ xs.length ≤ 2 ^ 20 ∧ ys.length ≤ 2 ^ 20 ∧ ∀ t H', Same H H' → SqT K H' t (iVs (trimI (addI xs ys))) → Q (.ref t) H'
def spNeg (K : PySem.W.Frag) : Sp := fun vs H Q _ => ∃ (a : Addr) (xs : List Int), vs = [.ref a] ∧ SqT K H a (iVs xs) ∧ xs.length ≤ 2 ^ 20 ∧ ∀ t H', Same H H' → SqT K H' t (iVs (negI xs)) → Q (.ref t) H'
def spRowOf (K : PySem.W.Frag) (C : Addr) : Sp := fun vs H Q _ => ∃ (y : V) (row : List Int), vs = [y] ∧ RowOf K C H y row ∧ ∀ t H', Same H H' → SqT K H' t (iVs row) → Q (.ref t) H'
/-- self op other, F the row of the answer -/
def spBin (F : List Int → List Int → List Int) (K : PySem.W.Frag) (C : Addr) : Sp := fun vs H Q _ => ∃ (p : Addr) (xs : List Int) (y : V) (ys : List Int), vs = [.ref p, y] ∧ PolyAt K C H p xs ∧ RowOf K C H y ys ∧ xs.length ≤ 2 ^ 19 ∧ ys.length ≤ 2 ^ 19 ∧ Made K C H (trimI (F xs ys)) Q
def spNegP (K : PySem.W.Frag) (C : Addr) : Sp := fun vs H Q _ => ∃ (p : Addr) (xs : List Int), vs = [.ref p] ∧ PolyAt K C H p xs ∧ xs.length ≤ 2 ^ 19 ∧ Made K C H (trimI (negI xs)) Q
def subI (xs ys : List Int) : List Int := addI xs (negI ys)
def rsubI (xs ys : List Int) : List Int := addI ys (negI xs)
theorem Made.back {K : PySem.W.Frag} {C : Addr} {H H' : Hp} {row : List Int} {Q : VK} (h : Made K C H row Q) (e : Same H H') : Made K C H' row Q := fun p H2 s2 hp => h p H2 (e.trans s2) (e.free hp)
def spRadd (K : PySem.W.Frag) (C : Addr) : Sp := fun vs H Q _ => ∃ (p : Addr) (xs : List Int) (n : Int), vs = [.ref p, .int n] ∧ PolyAt K C H p xs ∧ xs.length ≤ 2 ^ 19 ∧ Made K C H (trimI (addI xs (trimI [n]))) Q
/-- the laws' own sums -/
def spLawPlus (K : PySem.W.Frag) : Sp := fun vs H Q _ => ∃ (a b : Addr) (xs ys : List Int), vs = [.ref a, .ref b] ∧ SqL K H a (iVs xs) ∧ SqL K H b (iVs ys) ∧ xs.length ≤ 50000 ∧ ys.length ≤ 50000 ∧ ∀ l H', Same H H' → H l = none → H' l = some (.lst (iVs (trimI (addI xs ys)))) → Q (.ref l) H'
def spScaled (K : PySem.W.Frag) : Sp := fun vs H Q _ => ∃ (a : Addr) (xs : List Int) (n : Int), vs = [.ref a, .int n] ∧ SqL K H a (iVs xs) ∧ xs.length ≤ 50000 ∧ (∀ x ∈ xs, x.natAbs < 2 ^ 400000) ∧ n.natAbs < 2 ^ 400000 ∧ ∀ l H', Same H H' → H l = none → H' l = some (.lst (iVs (trimI (scaleI n xs)))) → Q (.ref l) H'
end Lk
namespace Lk
open PySem L2
/-! bounds of a row's ints -/
def Bd (m : Nat) (xs : List Int) : Prop := ∀ k, (co xs k).natAbs ≤ m
theorem bd_of {m : Nat} {xs : List Int} (h : ∀ x ∈ xs, x.natAbs ≤ m) : Bd m xs := fun k => by
  by_cases hk : k < xs.length
  · rw [co_lt hk]
    exact h _ (List.getElem_mem hk)
  · rw [co_ge (by omega)]
    exact Nat.zero_le _
theorem Bd.mem {m : Nat} {xs : List Int} (h : Bd m xs) {x : Int} (hx : x ∈ xs) : x.natAbs ≤ m := by
  obtain ⟨k, hk⟩ := List.getElem?_of_mem hx
  rw [← co_get hk]
  exact h k
theorem Bd.trim {m : Nat} {xs : List Int} (h : Bd m xs) : Bd m (trimI xs) := fun k => by rw [co_trim]; exact h k
theorem Bd.scale {m : Nat} {xs : List Int} (h : Bd m xs) (n : Int) : Bd (n.natAbs * m) (scaleI n xs) := fun k => by rw [co_scale, Int.natAbs_mul]; exact Nat.mul_le_mul_left _ (h k)
theorem Bd.add {m n : Nat} {xs ys : List Int} (h : Bd m xs) (h2 : Bd n ys) : Bd (m + n) (addI xs ys) := fun k => by
  rw [co_add]
  have := h k
  have := h2 k
  omega
theorem Bd.mono {m n : Nat} {xs : List Int} (h : Bd m xs) (l : m ≤ n) : Bd n xs := fun k => Nat.le_trans (h k) l
theorem Bd.lt {m : Nat} {xs : List Int} {b : Nat} (h : Bd m xs) (l : m < 2 ^ b) (hb : b ≤ 400000 := by decide) : ∀ x ∈ xs, x.natAbs < 2 ^ 400000 := fun x hx => Nat.lt_of_le_of_lt (h.mem hx) (Nat.lt_of_lt_of_le l (Nat.pow_le_pow_right (by decide) hb))
theorem co_one_neg (n : Int) (k : Nat) : co [-n] k = -co [n] k := co_neg [n] k
theorem scale_len (n : Int) (xs : List Int) : (scaleI n xs).length = xs.length := List.length_map ..
theorem co_nil (k : Nat) : co [] k = 0 := rfl
section
variable {K : PySem.W.Frag} {C : Addr} {σ : L2.St} {H : Hp} {ta tb te : TE} {R : Hp → V → Prop} {x y : V} {xs ys : List Int} {E : XK} {n : Int} {F : List Int → List Int → List Int} {i : Nat} {t2 : TS} {D : Ends} {Q : VK}
theorem q_asgR (h : EvR te σ H R) (k : ∀ v H1, Same H H1 → R H1 v → t2 D (σ.set i (some v)) H1) : tSeq (tAsg te (gName i)) t2 D σ H := h H (Same.refl _) _ k
theorem s_asgR (h : EvR te σ H R) (k : ∀ v H1, Same H H1 → R H1 v → D.nx (σ.set i (some v)) H1) : tAsg te (gName i) D σ H := h H (Same.refl _) _ k
theorem bin_P (hx : isP K C xs H x) (hy : isP K C ys H y) (lx : xs.length ≤ 2 ^ 19) (ly : ys.length ≤ 2 ^ 19) (k : ∀ v H2, Same H H2 → isP K C (trimI (F xs ys)) H2 v → Q v H2) : rBin C (spBin F K C) E x y H Q := by
  obtain ⟨p, rfl, hp⟩ := hx
  obtain ⟨q, rfl, hq⟩ := hy
  obtain ⟨dx, t, h1, h2⟩ := id hp
  obtain ⟨dx', t', h1', h2'⟩ := id hq
  exact ⟨p, dx, _, q, dx', _, rfl, rfl, h1, h1', p, xs, _, ys, rfl, hp, .inl ⟨q, rfl, hq⟩, lx, ly, fun o H' s' _ ho => k _ H' s' ⟨o, rfl, ho⟩⟩
theorem bin_I (hx : isP K C xs H x) (hy : y = .int n) (lx : xs.length ≤ 2 ^ 19) (k : ∀ v H2, Same H H2 → isP K C (trimI (F xs (trimI [n]))) H2 v → Q v H2) : rBinI C (spBin F K C) E x y H Q := by
  obtain ⟨p, rfl, hp⟩ := hx
  subst hy
  obtain ⟨dx, t, h1, h2⟩ := id hp
  exact ⟨p, dx, _, n, rfl, rfl, h1, p, xs, _, _, rfl, hp, .inr ⟨n, rfl, rfl⟩, lx, Nat.le_trans (trim_len [n]) (by show 1 ≤ 2 ^ 19; decide), fun o H' s' _ ho => k _ H' s' ⟨o, rfl, ho⟩⟩
theorem bin_R (hx : x = .int n) (hy : isP K C ys H y) (ly : ys.length ≤ 2 ^ 19) (k : ∀ v H2, Same H H2 → isP K C (trimI (F ys (trimI [n]))) H2 v → Q v H2) : rBinR C (spBin F K C) E x y H Q := by
  obtain ⟨p, rfl, hp⟩ := hy
  subst hx
  obtain ⟨dx, t, h1, h2⟩ := id hp
  exact ⟨p, dx, _, n, rfl, rfl, h1, p, ys, _, _, rfl, hp, .inr ⟨n, rfl, rfl⟩, ly, Nat.le_trans (trim_len [n]) (by show 1 ≤ 2 ^ 19; decide), fun o H' s' _ ho => k _ H' s' ⟨o, rfl, ho⟩⟩
theorem radd_R (hx : x = .int n) (hy : isP K C ys H y) (ly : ys.length ≤ 2 ^ 19) (k : ∀ v H2, Same H H2 → isP K C (trimI (addI ys (trimI [n]))) H2 v → Q v H2) : rBinR C (spRadd K C) E x y H Q := by
  obtain ⟨p, rfl, hp⟩ := hy
  subst hx
  obtain ⟨dx, t, h1, h2⟩ := id hp
  exact ⟨p, dx, _, n, rfl, rfl, h1, p, ys, n, rfl, hp, ly, fun o H' s' _ ho => k _ H' s' ⟨o, rfl, ho⟩⟩
theorem er_bin (ha : EvR ta σ H (isP K C xs)) (hb : EvR tb σ H (isP K C ys)) (lx : xs.length ≤ 2 ^ 19) (ly : ys.length ≤ 2 ^ 19) : EvR (tOp (rBin C (spBin F K C) E) ta tb) σ H (isP K C (trimI (F xs ys))) :=
  er_op ha hb fun _ _ _ _ hx hy _ k => bin_P hx hy lx ly k
theorem er_binI (ha : EvR ta σ H (isP K C xs)) (hb : EvR tb σ H (isV (.int n))) (lx : xs.length ≤ 2 ^ 19) : EvR (tOp (rBinI C (spBin F K C) E) ta tb) σ H (isP K C (trimI (F xs (trimI [n])))) :=
  er_op ha hb fun _ _ _ _ hx hy _ k => bin_I hx hy lx k
theorem er_binR (ha : EvR ta σ H (isV (.int n))) (hb : EvR tb σ H (isP K C ys)) (ly : ys.length ≤ 2 ^ 19) : EvR (tOp (rBinR C (spBin F K C) E) ta tb) σ H (isP K C (trimI (F ys (trimI [n])))) :=
  er_op ha hb fun _ _ _ _ hx hy _ k => bin_R hx hy ly k
theorem er_radd (ha : EvR ta σ H (isV (.int n))) (hb : EvR tb σ H (isP K C ys)) (ly : ys.length ≤ 2 ^ 19) : EvR (tOp (rBinR C (spRadd K C) E) ta tb) σ H (isP K C (trimI (addI ys (trimI [n])))) :=
  er_op ha hb fun _ _ _ _ hx hy _ k => radd_R hx hy ly k
theorem er_neg (ha : EvR ta σ H (isP K C xs)) (lx : xs.length ≤ 2 ^ 19) : EvR (tUn (rUnO C (spNegP K C) E) ta) σ H (isP K C (trimI (negI xs))) :=
  er_un ha fun H1 _ ⟨p, ex, hp⟩ Q k => by
    subst ex
    obtain ⟨dx, t, h1, h2⟩ := id hp
    exact ⟨p, dx, _, rfl, h1, p, xs, rfl, hp, lx, fun o H' s' _ ho => k _ H' s' ⟨o, rfl, ho⟩⟩
theorem er_lplus (ha : EvR ta σ H (isL K xs)) (hb : EvR tb σ H (isL K ys)) (lx : xs.length ≤ 50000) (ly : ys.length ≤ 50000) : EvR (tCall (spLawPlus K) [] E (tCons ta (tCons tb tNil))) σ H (isL K (trimI (addI xs ys))) :=
  er_call2 ha hb fun H1 _ _ ⟨p, ex, hp⟩ ⟨q, ey, hq⟩ Q k => ⟨p, q, xs, ys, by rw [ex, ey], hp, hq, lx, ly, fun l H2 s2 _ h2 => k _ H2 s2 ⟨l, rfl, SqL.of h2⟩⟩
theorem er_scaled (ha : EvR ta σ H (isL K xs)) (hb : EvR tb σ H (isV (.int n))) (lx : xs.length ≤ 50000) (hx : ∀ x ∈ xs, x.natAbs < 2 ^ 400000) (hn : n.natAbs < 2 ^ 400000) : EvR (tCall (spScaled K) [] E (tCons ta (tCons tb tNil))) σ H (isL K (trimI (scaleI n xs))) :=
  er_call2 ha hb fun H1 _ _ ⟨p, ex, hp⟩ hy Q k => ⟨p, xs, n, by rw [ex, show _ = V.int n from hy], hp, lx, hx, hn, fun l H2 s2 _ h2 => k _ H2 s2 ⟨l, rfl, SqL.of h2⟩⟩
end
end Lk
namespace Lk
theorem lt_big {n : Int} (b : Nat) (h : n.natAbs < 2 ^ b) (hb : b ≤ 400000) : n.natAbs < 2 ^ 400000 := Nat.lt_of_lt_of_le h (Nat.pow_le_pow_right (by decide) hb)
theorem m1_big : (-1 : Int).natAbs < 2 ^ 400000 := lt_big 1 (by decide) (by decide)
end Lk
namespace Lk
open PySem L2
/-! products of rows -/
def mulI (xs ys : List Int) : List Int := (List.range (xs.length + ys.length - 1)).map (cv (co xs) (co ys))
theorem co_mul (xs ys : List Int) (k : Nat) : co (mulI xs ys) k = cv (co xs) (co ys) k := by
  unfold mulI
  rw [co_range]
  split
  · rfl
  · refine (S_zero fun i hi => ?_).symm
    by_cases h : i < xs.length
    · rw [co_ge (xs := ys) (by omega), Int.mul_zero]
    · rw [co_ge (by omega), Int.zero_mul]
theorem mul_len (xs ys : List Int) : (mulI xs ys).length = xs.length + ys.length - 1 := by
  unfold mulI
  rw [List.length_map, List.length_range]
theorem sum_map (f : Nat → Int) (n : Nat) : ((List.range n).map f).sum = S f n := by
  induction n with
  | zero => rfl
  | succ n ih =>
    rw [List.range_succ, List.map_append, List.sum_append, ih]
    show S f n + (f n + 0) = S f n + f n
    omega
/-- the terms that are asked are all that count -/
theorem cv_part (xs ys : List Int) (k s m : Nat) (hs : ∀ i, i < s → i ≤ k → ys.length ≤ k - i ∨ xs.length ≤ i) (ht : ∀ i, s + m ≤ i → i ≤ k → xs.length ≤ i) (hk : s + m ≤ k + 1) : S (fun j => co xs (s + j) * co ys (k - (s + j))) m = cv (co xs) (co ys) k := by
  unfold cv
  rw [S_more hk fun i h2 h3 => by rw [co_ge (ht i h2 (by omega)), Int.zero_mul]]
  rw [S_shift fun i hi => ?_]
  rcases hs i hi (by omega) with h | h
  · rw [co_ge h, Int.mul_zero]
  · rw [co_ge h, Int.zero_mul]
theorem cv_none (xs ys : List Int) (k : Nat) (h : ∀ i, i ≤ k → xs.length ≤ i ∨ ys.length ≤ k - i) : cv (co xs) (co ys) k = 0 := S_zero fun i hi => by
  rcases h i (by omega) with h | h
  · rw [co_ge h, Int.zero_mul]
  · rw [co_ge h, Int.mul_zero]
/-- ints of a bounded size -/
def Sm (xs : List Int) : Prop := ∀ k, (co xs k).natAbs < 2 ^ 400000
theorem Sm.trim {xs : List Int} (h : Sm xs) : Sm (trimI xs) := fun k => by rw [co_trim]; exact h k
def spCross (K : PySem.W.Frag) : Sp := fun vs H Q _ => ∃ (a b : Addr) (xs ys : List Int) (k : Int), vs = [.ref a, .ref b, .int k] ∧ SqI K H a xs ∧ SqI K H b ys ∧ 0 ≤ k ∧ k < 2 ^ 21 ∧ xs.length ≤ 2 ^ 19 ∧ ys.length ≤ 2 ^ 19 ∧ Sm xs ∧ Sm ys ∧ ∀ H', Same H H' → Q (.int (cv (co xs) (co ys) k.toNat)) H'
def spTimes (K : PySem.W.Frag) : Sp := fun vs H Q _ => ∃ (a b : Addr) (xs ys : List Int), vs = [.ref a, .ref b] ∧ SqI K H a xs ∧ SqI K H b ys ∧ xs.length ≤ 2 ^ 19 ∧ ys.length ≤ 2 ^ 19 ∧ Sm xs ∧ Sm ys ∧ ∀ t H', Same H H' → SqT K H' t (iVs (trimI (mulI xs ys))) → Q (.ref t) H'
/-- the row of the n-th power, by its coefficients -/
def IsPow (f : Nat → Int) (n : Nat) (row : List Int) : Prop := trimI row = row ∧ ∀ k, co row k = pw f n k
def spPower (K : PySem.W.Frag) : Sp := fun vs H Q _ => ∃ (a : Addr) (xs : List Int) (n : Int) (m : Nat), vs = [.ref a, .int n] ∧ SqT K H a (iVs xs) ∧ trimI xs = xs ∧ 0 ≤ n ∧ n ≤ 1000 ∧ xs.length ≤ 200 ∧ 1 ≤ m ∧ Nb m (co xs) ∧ m < 2 ^ 300 ∧ ∀ t row H', Same H H' → IsPow (co xs) n.toNat row → SqT K H' t (iVs row) → Q (.ref t) H'
def spMul (K : PySem.W.Frag) (C : Addr) : Sp := fun vs H Q _ => ∃ (p : Addr) (xs : List Int) (y : V) (ys : List Int), vs = [.ref p, y] ∧ PolyAt K C H p xs ∧ RowOf K C H y ys ∧ xs.length ≤ 2 ^ 18 ∧ ys.length ≤ 2 ^ 18 ∧ Sm xs ∧ Sm ys ∧ Made K C H (trimI (mulI xs ys)) Q
def spPow (K : PySem.W.Frag) (C : Addr) : Sp := fun vs H Q _ => ∃ (p : Addr) (xs : List Int) (n : Int) (m : Nat), vs = [.ref p, .int n] ∧ PolyAt K C H p xs ∧ trimI xs = xs ∧ 0 ≤ n ∧ n ≤ 1000 ∧ xs.length ≤ 200 ∧ 1 ≤ m ∧ Nb m (co xs) ∧ m < 2 ^ 300 ∧ ∀ row, IsPow (co xs) n.toNat row → Made K C H row Q
def spRmul (K : PySem.W.Frag) (C : Addr) : Sp := fun vs H Q _ => ∃ (p : Addr) (xs : List Int) (n : Int), vs = [.ref p, .int n] ∧ PolyAt K C H p xs ∧ xs.length ≤ 2 ^ 18 ∧ Sm xs ∧ Sm [n] ∧ Made K C H (trimI (mulI xs (trimI [n]))) Q
def spLawTimes (K : PySem.W.Frag) : Sp := fun vs H Q _ => ∃ (a b : Addr) (xs ys : List Int), vs = [.ref a, .ref b] ∧ SqL K H a (iVs xs) ∧ SqL K H b (iVs ys) ∧ xs.length ≤ 50000 ∧ ys.length ≤ 50000 ∧ Sm xs ∧ Sm ys ∧ ∀ l H', Same H H' → H l = none → H' l = some (.lst (iVs (trimI (mulI xs ys)))) → Q (.ref l) H'
end Lk
namespace Lk
open PySem L2
theorem cv_far {f g : Nat → Int} {a b : Nat} (hf : ∀ k, a ≤ k → f k = 0) (hg : ∀ k, b ≤ k → g k = 0) (k : Nat) (h : a + b ≤ k) : cv f g k = 0 := S_zero fun i hi => by
  by_cases ha : a ≤ i
  · rw [hf i ha, Int.zero_mul]
  · rw [hg (k - i) (by omega), Int.mul_zero]
theorem pw_far {f : Nat → Int} {L : Nat} (hf : ∀ k, L ≤ k → f k = 0) (n : Nat) : ∀ k, n * L + 1 ≤ k → pw f n k = 0 := by
  induction n with
  | zero => intro k hk; exact if_neg (by omega)
  | succ n ih => intro k hk; exact cv_far ih hf k (by rw [Nat.succ_mul] at hk; omega)
theorem len_le {xs : List Int} {N : Nat} (ht : trimI xs = xs) (h : ∀ k, N ≤ k → co xs k = 0) : xs.length ≤ N := by
  have := trim_last xs
  rw [ht] at this
  rcases this with e | e
  · omega
  · rcases Nat.lt_or_ge (xs.length - 1) N with l | l
    · omega
    · exact absurd (h _ l) e
theorem IsPow.len {f : Nat → Int} {n L : Nat} {row : List Int} (h : IsPow f n row) (hf : ∀ k, L ≤ k → f k = 0) : row.length ≤ n * L + 1 := len_le h.1 fun k hk => by rw [h.2]; exact pw_far hf n k hk
theorem IsPow.sm {f : Nat → Int} {n m : Nat} {row : List Int} (h : IsPow f n row) (hn : n ≤ 1000) (h1 : 1 ≤ m) (hb : Nb m f) (hm : m < 2 ^ 300) : Sm row := fun k => by
  rw [h.2]
  have h2 := (hb.pw n).at k
  have h3 : m ^ n ≤ m ^ 1000 := Nat.pow_le_pow_right h1 hn
  have h4 : m ^ 1000 ≤ (2 ^ 300) ^ 1000 := Nat.pow_le_pow_left (Nat.le_of_lt hm) 1000
  rw [← Nat.pow_mul] at h4
  exact Nat.lt_of_le_of_lt (Nat.le_trans h2 (Nat.le_trans h3 h4)) (Nat.pow_lt_pow_right (by decide) (by decide))
theorem IsPow.mul {f : Nat → Int} {a b : Nat} {xs ys : List Int} (h1 : IsPow f a xs) (h2 : IsPow f b ys) : IsPow f (a + b) (trimI (mulI xs ys)) := ⟨trim_trim _, fun k => by
  rw [co_trim, co_mul, cv_congr h1.2 h2.2, pw_add]⟩
theorem IsPow.uniq {f g : Nat → Int} {a : Nat} {xs ys : List Int} (h1 : IsPow f a xs) (h2 : IsPow g a ys) (e : ∀ k, f k = g k) : xs = ys := by
  rw [← h1.1, ← h2.1]
  exact trim_ext fun k => by rw [h1.2, h2.2, pw_congr e]
theorem co_one (k : Nat) : co [1] k = oneC k := by
  cases k with
  | zero => rfl
  | succ k => rfl
theorem IsPow.one {f : Nat → Int} : IsPow f 0 [1] := ⟨rfl, co_one⟩
section
variable {K : PySem.W.Frag} {σ : L2.St} {H : Hp} {ta tb te : TE} {i j : Int}
theorem val_max (ha : Val ta σ H (.int i)) (hb : Val tb σ H (.int j)) : Val (tCB (fun xs H Q => ∃ i j, xs = [V.int i, V.int j] ∧ Q (V.int (if j > i then j else i)) H) (tCons ta (tCons tb tNil))) σ H (.int (if j > i then j else i)) := fun Q q => ha _ (hb _ ⟨i, j, rfl, q⟩)
theorem val_min (ha : Val ta σ H (.int i)) (hb : Val tb σ H (.int j)) : Val (tCB (fun xs H Q => ∃ i j, xs = [V.int i, V.int j] ∧ Q (V.int (if j < i then j else i)) H) (tCons ta (tCons tb tNil))) σ H (.int (if j < i then j else i)) := fun Q q => ha _ (hb _ ⟨i, j, rfl, q⟩)
/-- a comprehension over a range whose elements may lay new objects -/
theorem lcE {lo : Int} {n : Nat} {te : TE} {i : Nat} {H1 : Hp} {D : Addr} {Qd : Hp → Prop} (f : Nat → Int) (hD : H1 D = none) (hn : n ≤ sizeLine)
    (he : ∀ j H, j < n → Same H1 H → EvR te ((wipe σ [i]).set i (some (.int (lo + j)))) H (isV (.int (f j)))) (hd : ∀ H, Same H1 H → H D = some (.lst (iVs ((List.range n).map f))) → Qd H) :
    ∃ W : Nat → Nat → Hp → Prop, (∃ m, W 0 m (upd H1 D (.lst []))) ∧ ∀ i' m H, W i' m H →
      ((Itr lo n).stop i' H ∧ Qd H) ∨ ((Itr lo n).go i' H ∧ ∃ Nx : Hp → Prop, (∀ H', Nx H' → ∃ m', m' < m ∧ W (i' + 1) m' H') ∧ ∀ x H', (Itr lo n).yld i' H x H' → gName i x (wipe σ [i]) H' fun σ2 H2 => wipe σ2 [i] = wipe σ [i] ∧ tYes σ2 H2 fun b H3 =>
        if b = true then te σ2 H3 fun y H4 => ∃ acc, H4 D = some (.lst acc) ∧ acc.length < sizeLine ∧ Nx (upd H4 D (.lst (acc ++ [y]))) else Nx H3) := by
  refine lc_range (fun j H => Same H1 H ∧ H D = some (.lst (iVs ((List.range j).map f)))) ⟨same_upd hD, upd_same⟩ ?_ ?_
  · rintro j H hj ⟨s1, h1⟩
    refine ⟨?_, ?_⟩
    · show ((σ.set i none).set i _).set i none = σ.set i none
      rw [List.set_set, List.set_set]
    · refine he j H hj s1 H (Same.refl _) (fun y H4 => ∃ acc, H4 D = some (.lst acc) ∧ acc.length < sizeLine ∧ Same H1 (upd H4 D (.lst (acc ++ [y]))) ∧ (upd H4 D (.lst (acc ++ [y]))) D = some (.lst (iVs ((List.range (j + 1)).map f)))) fun v H4 s4 hv => ?_
      cases (show v = V.int (f j) from hv)
      refine ⟨_, s4 _ _ h1, ?_, fun b o e => by rw [upd_ne (ne_of_none e hD)]; exact s4 _ _ (s1 b o e), ?_⟩
      · rw [iVs_len, List.length_map, List.length_range]
        omega
      · rw [upd_same, List.range_succ, List.map_append, iVs_app]
        rfl
  · rintro H ⟨s1, h1⟩
    exact hd H s1 h1
end
end Lk
namespace Lk
open PySem L2
theorem dun_pow : PySem.dunder "pow" = "__pow__" := by decide +kernel
theorem dunr_pow : dunderR "pow" = "__rpow__" := by decide +kernel
theorem nb_of {M L : Nat} {xs : List Int} (h : Bd M xs) (hl : xs.length ≤ L) : Nb (L * M) (co xs) := by
  have c : ∀ n, S (fun k => ((co xs k).natAbs : Int)) n ≤ (n : Int) * (M : Int) := fun n => by
    induction n with
    | zero => exact Int.le_of_eq (Int.zero_mul _).symm
    | succ n ih =>
      have h1 := h n
      show S (fun k => ((co xs k).natAbs : Int)) n + ((co xs n).natAbs : Int) ≤ ((n + 1 : Nat) : Int) * (M : Int)
      rw [show ((n + 1 : Nat) : Int) = (n : Int) + 1 from rfl, Int.add_mul, Int.one_mul]
      omega
  have mono : ∀ n, n ≤ L → (n : Int) * (M : Int) ≤ ((L * M : Nat) : Int) := fun n hn => by
    rw [Int.natCast_mul]
    exact Int.mul_le_mul_of_nonneg_right (by omega) (Int.natCast_nonneg _)
  intro n
  rcases Nat.le_total n L with l | l
  · exact Int.le_trans (c n) (mono n l)
  · rw [S_more l fun i h1 h2 => by rw [co_ge (by omega)]; rfl]
    exact Int.le_trans (c L) (mono L (Nat.le_refl _))
theorem cv_const (f : Nat → Int) (n : Int) (k : Nat) : cv f (co [n]) k = n * f k := by
  unfold cv
  show S (fun i => f i * co [n] (k - i)) k + f k * co [n] (k - k) = _
  rw [S_zero fun i hi => by rw [co_ge (xs := [n]) (by show 1 ≤ k - i; omega), Int.mul_zero], Nat.sub_self, Int.zero_add]
  exact Int.mul_comm _ _
theorem mul_one (xs : List Int) (n : Int) : trimI (mulI xs (trimI [n])) = trimI (scaleI n xs) := trim_ext fun k => by
  rw [co_mul, cv_congr (fun _ => rfl) (co_trim [n]), cv_const, co_scale]
theorem mul_comm' (xs ys : List Int) : trimI (mulI ys xs) = trimI (mulI xs ys) := trim_ext fun k => by rw [co_mul, co_mul, cv_comm]
theorem sm_of {m b : Nat} {xs : List Int} (h : Bd m xs) (l : m < 2 ^ b) (hb : b ≤ 400000) : Sm xs := fun k => Nat.lt_of_le_of_lt (h k) (Nat.lt_of_lt_of_le l (Nat.pow_le_pow_right (by decide) hb))
theorem sm_nil : Sm [] := fun k => by
  rw [co_nil]
  exact Nat.pow_pos (by decide)
/-- the n-th power, a polynomial -/
def isPw (K : PySem.W.Frag) (C : Addr) (f : Nat → Int) (n : Nat) : Hp → V → Prop := fun H v => ∃ row, IsPow f n row ∧ isP K C row H v
instance {K : PySem.W.Frag} {C : Addr} {f : Nat → Int} {n : Nat} : Up (isPw K C f n) := ⟨fun e ⟨r, h1, h2⟩ => ⟨r, h1, Up.up e h2⟩⟩
/-- arguments, each with its own property -/
def EvRA (ta : TA) (σ : L2.St) (H : Hp) (s n : Nat) (R : Nat → Hp → V → Prop) : Prop := ∀ H1, Same H H1 → ∀ Q : List V → Hp → Prop, (∀ vs H2, Same H1 H2 → vs.length = n → (∀ i v, vs[i]? = some v → R (s + i) H2 v) → Q vs H2) → ta σ H1 Q
section
variable {K : PySem.W.Frag} {C : Addr} {σ : L2.St} {H : Hp} {ta tb te : TE} {x y : V} {xs ys : List Int} {E : XK} {n : Int} {Q : VK} {m : Nat}
theorem era_nil {s : Nat} {R : Nat → Hp → V → Prop} : EvRA tNil σ H s 0 R := fun H1 _ Q q => q [] H1 (Same.refl _) rfl fun i v h => (by cases h)
theorem era_cons {s n : Nat} {R : Nat → Hp → V → Prop} {tr : TA} [∀ i, Up (R i)] (ha : EvR ta σ H (R s)) (hr : EvRA tr σ H (s + 1) n R) : EvRA (tCons ta tr) σ H s (n + 1) R := fun H1 e Q q =>
  ha H1 e _ fun v H2 e2 hv => hr H2 (e.trans e2) _ fun vs H3 e3 hl hvs => q (v :: vs) H3 (e2.trans e3) (by rw [List.length_cons, hl]) fun i w hw => by
    cases i with
    | zero =>
      cases hw
      exact Up.up e3 hv
    | succ i =>
      have := hvs i w hw
      rwa [show s + 1 + i = s + (i + 1) by omega] at this
theorem mul_P (hx : isP K C xs H x) (hy : isP K C ys H y) (lx : xs.length ≤ 2 ^ 18) (ly : ys.length ≤ 2 ^ 18) (bx : Sm xs) (by_ : Sm ys) (k : ∀ v H2, Same H H2 → isP K C (trimI (mulI xs ys)) H2 v → Q v H2) : rBin C (spMul K C) E x y H Q := by
  obtain ⟨p, rfl, hp⟩ := hx
  obtain ⟨q, rfl, hq⟩ := hy
  obtain ⟨dx, t, h1, h2⟩ := id hp
  obtain ⟨dx', t', h1', h2'⟩ := id hq
  exact ⟨p, dx, _, q, dx', _, rfl, rfl, h1, h1', p, xs, _, ys, rfl, hp, .inl ⟨q, rfl, hq⟩, lx, ly, bx, by_, fun o H' s' _ ho => k _ H' s' ⟨o, rfl, ho⟩⟩
theorem mul_I (hx : isP K C xs H x) (hy : y = .int n) (lx : xs.length ≤ 2 ^ 18) (bx : Sm xs) (bn : Sm [n]) (k : ∀ v H2, Same H H2 → isP K C (trimI (mulI xs (trimI [n]))) H2 v → Q v H2) : rBinI C (spMul K C) E x y H Q := by
  obtain ⟨p, rfl, hp⟩ := hx
  subst hy
  obtain ⟨dx, t, h1, h2⟩ := id hp
  exact ⟨p, dx, _, n, rfl, rfl, h1, p, xs, _, _, rfl, hp, .inr ⟨n, rfl, rfl⟩, lx, Nat.le_trans (trim_len [n]) (by show 1 ≤ 2 ^ 18; decide), bx, bn.trim, fun o H' s' _ ho => k _ H' s' ⟨o, rfl, ho⟩⟩
theorem rmul_R (hx : x = .int n) (hy : isP K C ys H y) (ly : ys.length ≤ 2 ^ 18) (by_ : Sm ys) (bn : Sm [n]) (k : ∀ v H2, Same H H2 → isP K C (trimI (mulI ys (trimI [n]))) H2 v → Q v H2) : rBinR C (spRmul K C) E x y H Q := by
  obtain ⟨p, rfl, hp⟩ := hy
  subst hx
  obtain ⟨dx, t, h1, h2⟩ := id hp
  exact ⟨p, dx, _, n, rfl, rfl, h1, p, ys, n, rfl, hp, ly, by_, bn, fun o H' s' _ ho => k _ H' s' ⟨o, rfl, ho⟩⟩
theorem pow_I (hx : isP K C xs H x) (hy : y = .int n) (tx : trimI xs = xs) (h0 : 0 ≤ n) (h1 : n ≤ 1000) (lx : xs.length ≤ 200) (m1 : 1 ≤ m) (hb : Nb m (co xs)) (hm : m < 2 ^ 300) (k : ∀ v H2, Same H H2 → isPw K C (co xs) n.toNat H2 v → Q v H2) : rBinI C (spPow K C) E x y H Q := by
  obtain ⟨p, rfl, hp⟩ := hx
  subst hy
  obtain ⟨dx, t, h1', h2⟩ := id hp
  exact ⟨p, dx, _, n, rfl, rfl, h1', p, xs, n, m, rfl, hp, tx, h0, h1, lx, m1, hb, hm, fun row pR o H' s' _ ho => k _ H' s' ⟨row, pR, o, rfl, ho⟩⟩
theorem er_mul (ha : EvR ta σ H (isP K C xs)) (hb : EvR tb σ H (isP K C ys)) (lx : xs.length ≤ 2 ^ 18) (ly : ys.length ≤ 2 ^ 18) (bx : Sm xs) (by_ : Sm ys) : EvR (tOp (rBin C (spMul K C) E) ta tb) σ H (isP K C (trimI (mulI xs ys))) := er_op ha hb fun _ _ _ _ hx hy _ k => mul_P hx hy lx ly bx by_ k
theorem er_mulI (ha : EvR ta σ H (isP K C xs)) (hb : EvR tb σ H (isV (.int n))) (lx : xs.length ≤ 2 ^ 18) (bx : Sm xs) (bn : Sm [n]) : EvR (tOp (rBinI C (spMul K C) E) ta tb) σ H (isP K C (trimI (mulI xs (trimI [n])))) := er_op ha hb fun _ _ _ _ hx hy _ k => mul_I hx hy lx bx bn k
theorem er_rmul (ha : EvR ta σ H (isV (.int n))) (hb : EvR tb σ H (isP K C ys)) (ly : ys.length ≤ 2 ^ 18) (by_ : Sm ys) (bn : Sm [n]) : EvR (tOp (rBinR C (spRmul K C) E) ta tb) σ H (isP K C (trimI (mulI ys (trimI [n])))) := er_op ha hb fun _ _ _ _ hx hy _ k => rmul_R hx hy ly by_ bn k
theorem er_pow (ha : EvR ta σ H (isP K C xs)) (hb : EvR tb σ H (isV (.int n))) (tx : trimI xs = xs) (h0 : 0 ≤ n) (h1 : n ≤ 1000) (lx : xs.length ≤ 200) (m1 : 1 ≤ m) (hb' : Nb m (co xs)) (hm : m < 2 ^ 300) : EvR (tOp (rBinI C (spPow K C) E) ta tb) σ H (isPw K C (co xs) n.toNat) := er_op ha hb fun _ _ _ _ hx hy _ k => pow_I hx hy tx h0 h1 lx m1 hb' hm k
theorem er_ltimes (ha : EvR ta σ H (isL K xs)) (hb : EvR tb σ H (isL K ys)) (lx : xs.length ≤ 50000) (ly : ys.length ≤ 50000) (bx : Sm xs) (by_ : Sm ys) : EvR (tCall (spLawTimes K) [] E (tCons ta (tCons tb tNil))) σ H (isL K (trimI (mulI xs ys))) :=
  er_call2 ha hb fun H1 _ _ ⟨p, ex, hp⟩ ⟨q, ey, hq⟩ Q k => ⟨p, q, xs, ys, by rw [ex, ey], hp, hq, lx, ly, bx, by_, fun l H2 s2 _ h2 => k _ H2 s2 ⟨l, rfl, SqL.of h2⟩⟩
/-- the row of a power -/
theorem er_rowPw {f : Nat → Int} {i : Nat} {row : List Int} (ha : EvR ta σ H (isPw K C f i)) (hr : IsPow f i row) : EvR (tCall (spRow K C) [] E (tCons ta tNil)) σ H (isL K row) :=
  er_row (ha.imp fun H v ⟨r, h1, h2⟩ => (h1.uniq hr fun _ => rfl) ▸ h2) hr.1
end
end Lk
namespace Lk
open PySem L2
/-- a loop over a list display whose elements may lay new objects -/
theorem q_forA {K : PySem.W.Frag} {σ : L2.St} {H : Hp} {ta : TA} {s n : Nat} {R : Nat → Hp → V → Prop} [hR : ∀ i, Up (R i)] {g : TG} {tb t2 : TS} {D : Ends} (h : EvRA ta σ H s n R) (hn : n ≤ sizeLine) (Pv : Addr → List V → Nat → L2.St → Hp → Prop)
    (h0 : ∀ p vs H1, Same H H1 → vs.length = n → (∀ i v, vs[i]? = some v → R (s + i) H1 v) → H1 p = some (.lst vs) → Pv p vs 0 σ H1) (hl : ∀ p vs i σ' H', Pv p vs i σ' H' → H' p = some (.lst vs))
    (hs : ∀ p vs i x σ' H', vs.length = n → vs[i]? = some x → Pv p vs i σ' H' → g x σ' H' fun σ2 H2 => tb { D with nx := Pv p vs (i + 1), ct := Pv p vs (i + 1), bk := t2 D } σ2 H2)
    (hd : ∀ p vs σ' H', Pv p vs n σ' H' → t2 D σ' H') : tSeq (tFor (iList K (tLst ta)) g tb) t2 D σ H :=
  h H (Same.refl _) _ fun vs H2 s2 hlen hv => ⟨by rw [hlen]; exact hn, fun p hp => ⟨p, rfl, ⟨vs, SqL.of upd_same⟩, for_list (K := K) (a := p) (xs := vs) (D := { D with nx := t2 D }) (Pv p vs)
    (h0 p vs _ (s2.trans (same_upd hp)) hlen (fun i v e => Up.up (same_upd hp) (hv i v e)) upd_same) (fun i σ' H' _ q => SqL.of (hl p vs i σ' H' q)) (fun i x σ' H' e q => hs p vs i x σ' H' hlen e q) (fun σ' H' q => hd p vs σ' H' (hlen ▸ q))⟩⟩
end Lk
/-! values of rows at a/d, times a power of d -/
namespace Lk
/-- Horner from the lowest power: the sum of f k * a ^ k * d ^ (n - 1 - k) -/
def VS (f : Nat → Int) (a d : Int) : Nat → Int
  | 0 => 0
  | n + 1 => VS f a d n * d + f n * a ^ n
theorem VS_congr {f g : Nat → Int} {a d : Int} : ∀ {n : Nat}, (∀ i, i < n → f i = g i) → VS f a d n = VS g a d n
  | 0, _ => rfl
  | n + 1, h => by
    show VS f a d n * d + f n * a ^ n = VS g a d n * d + g n * a ^ n
    rw [VS_congr fun i hi => h i (by omega), h n (by omega)]
theorem VS_head (a d : Int) : ∀ (n : Nat) (f : Nat → Int), VS f a d (n + 1) = VS (fun k => f (k + 1)) a d n * a + f 0 * d ^ n
  | 0, f => by show 0 * d + f 0 * a ^ 0 = 0 * a + f 0 * d ^ 0; rw [Int.pow_zero, Int.pow_zero, Int.zero_mul, Int.zero_mul]
  | n + 1, f => by
    show VS f a d (n + 1) * d + f (n + 1) * a ^ (n + 1) = (VS (fun k => f (k + 1)) a d n * d + f (n + 1) * a ^ n) * a + f 0 * d ^ (n + 1)
    rw [VS_head a d n f, Int.pow_succ, Int.pow_succ]
    generalize VS (fun k => f (k + 1)) a d n = v
    generalize a ^ n = p
    generalize d ^ n = q
    grind
theorem VS_more {f : Nat → Int} {a d : Int} {n : Nat} (h : f n = 0) : VS f a d (n + 1) = VS f a d n * d := by
  show VS f a d n * d + f n * a ^ n = _
  rw [h, Int.zero_mul, Int.add_zero]
theorem VS_far {f : Nat → Int} {a d : Int} {n : Nat} (h : ∀ k, n ≤ k → f k = 0) (j : Nat) : VS f a d (n + j) = VS f a d n * d ^ j := by
  induction j with
  | zero => rw [Int.pow_zero, Int.mul_one]; rfl
  | succ j ih =>
    rw [← Nat.add_assoc, VS_more (h _ (by omega)), ih, Int.pow_succ, Int.mul_assoc]
theorem VS_low {f : Nat → Int} {a d : Int} : ∀ {n : Nat}, (∀ k, k < n → f k = 0) → VS f a d n = 0
  | 0, _ => rfl
  | n + 1, h => by
    show VS f a d n * d + f n * a ^ n = 0
    rw [VS_low fun k hk => h k (by omega), h n (by omega), Int.zero_mul, Int.zero_mul, Int.add_zero]
/-- sizes -/
theorem VS_bd {f : Nat → Int} {a d : Int} {c m : Nat} (hf : ∀ k, (f k).natAbs < 2 ^ c) (ha : a.natAbs < 2 ^ m) (hd : d.natAbs < 2 ^ m) : ∀ n, (VS f a d n).natAbs < 2 ^ (c + (m + 1) * n)
  | 0 => by show (0 : Int).natAbs < _; exact Nat.pow_pos (by decide)
  | n + 1 => by
    have ih := VS_bd hf ha hd n
    show (VS f a d n * d + f n * a ^ n).natAbs < _
    have h1 : (VS f a d n * d).natAbs < 2 ^ (c + (m + 1) * n + m) := by
      rw [Int.natAbs_mul, Nat.pow_add]
      exact Nat.mul_lt_mul'' ih hd
    have h2 : (f n * a ^ n).natAbs < 2 ^ (c + (m + 1) * n + m) := by
      rw [Int.natAbs_mul, Int.natAbs_pow]
      have p1 : a.natAbs ^ n ≤ (2 ^ m) ^ n := Nat.pow_le_pow_left (Nat.le_of_lt ha) n
      rw [← Nat.pow_mul] at p1
      have p2 : (f n).natAbs * a.natAbs ^ n < 2 ^ c * 2 ^ (m * n) := Nat.lt_of_le_of_lt (Nat.mul_le_mul_left _ p1) (Nat.mul_lt_mul_of_pos_right (hf n) (Nat.pow_pos (by decide)))
      rw [← Nat.pow_add] at p2
      refine Nat.lt_of_lt_of_le p2 (Nat.pow_le_pow_right (by decide) ?_)
      rw [Nat.add_mul]
      omega
    have e : c + (m + 1) * (n + 1) = (c + (m + 1) * n + m) + 1 := by rw [Nat.mul_succ]; omega
    rw [e, Nat.pow_succ]
    omega
theorem pow_bd {d : Int} {m : Nat} (hd : d.natAbs < 2 ^ m) (i : Nat) : (d ^ i).natAbs ≤ 2 ^ (m * i) := by
  rw [Int.natAbs_pow, Nat.pow_mul]
  exact Nat.pow_le_pow_left (Nat.le_of_lt hd) i
theorem pow_lt' {d : Int} {m : Nat} (hd : d.natAbs < 2 ^ m) (i : Nat) : (d ^ i).natAbs < 2 ^ (m * i + 1) := Nat.lt_of_le_of_lt (pow_bd hd i) (Nat.pow_lt_pow_right (by decide) (by omega))
/-- the steps by which a common divisor is taken out -/
theorem vr_step {V T B d : Int} {i : Nat} (h : V * B = T * d ^ i) (hd : 0 < d) (hB : 1 ≤ B) (hg : Nat.gcd T.natAbs B.natAbs = 1) :
    V * (B * (d / ((Nat.gcd T.natAbs d.natAbs : Nat) : Int))) = T / ((Nat.gcd T.natAbs d.natAbs : Nat) : Int) * d ^ (i + 1) ∧ 1 ≤ B * (d / ((Nat.gcd T.natAbs d.natAbs : Nat) : Int)) ∧ B * (d / ((Nat.gcd T.natAbs d.natAbs : Nat) : Int)) ≤ B * d ∧
      Nat.gcd (T / ((Nat.gcd T.natAbs d.natAbs : Nat) : Int)).natAbs (B * (d / ((Nat.gcd T.natAbs d.natAbs : Nat) : Int))).natAbs = 1 ∧ (T / ((Nat.gcd T.natAbs d.natAbs : Nat) : Int)).natAbs ≤ T.natAbs := by
  have gpos : 0 < Nat.gcd T.natAbs d.natAbs := Nat.gcd_pos_of_pos_right _ (by omega)
  have dT : ((Nat.gcd T.natAbs d.natAbs : Nat) : Int) ∣ T := Int.natAbs_dvd_natAbs.mp (by rw [Int.natAbs_natCast]; exact Nat.gcd_dvd_left _ _)
  have dD : ((Nat.gcd T.natAbs d.natAbs : Nat) : Int) ∣ d := Int.natAbs_dvd_natAbs.mp (by rw [Int.natAbs_natCast]; exact Nat.gcd_dvd_right _ _)
  have eT := Int.ediv_mul_cancel dT
  have eD := Int.ediv_mul_cancel dD
  have aT : (T / ((Nat.gcd T.natAbs d.natAbs : Nat) : Int)).natAbs = T.natAbs / Nat.gcd T.natAbs d.natAbs := by
    rw [Int.natAbs_ediv, if_pos (.inr (.inr dT)), Int.natAbs_natCast]
    rfl
  have aD : (d / ((Nat.gcd T.natAbs d.natAbs : Nat) : Int)).natAbs = d.natAbs / Nat.gcd T.natAbs d.natAbs := by
    rw [Int.natAbs_ediv, if_pos (.inr (.inr dD)), Int.natAbs_natCast]
    rfl
  have cop : Nat.Coprime (T.natAbs / Nat.gcd T.natAbs d.natAbs) (d.natAbs / Nat.gcd T.natAbs d.natAbs) := Nat.coprime_div_gcd_div_gcd gpos
  have cop2 : Nat.Coprime (T.natAbs / Nat.gcd T.natAbs d.natAbs) B.natAbs := Nat.Coprime.coprime_div_left hg (Nat.gcd_dvd_left _ _)
  have g0 : ((Nat.gcd T.natAbs d.natAbs : Nat) : Int) ≠ 0 := by omega
  have q1 : 1 ≤ d / ((Nat.gcd T.natAbs d.natAbs : Nat) : Int) := by
    by_cases z : 1 ≤ d / ((Nat.gcd T.natAbs d.natAbs : Nat) : Int)
    · exact z
    · have : d / ((Nat.gcd T.natAbs d.natAbs : Nat) : Int) * ((Nat.gcd T.natAbs d.natAbs : Nat) : Int) ≤ 0 := Int.mul_nonpos_of_nonpos_of_nonneg (by omega) (by omega)
      omega
  have q2 : d / ((Nat.gcd T.natAbs d.natAbs : Nat) : Int) ≤ d := by
    have : d / ((Nat.gcd T.natAbs d.natAbs : Nat) : Int) * 1 ≤ d / ((Nat.gcd T.natAbs d.natAbs : Nat) : Int) * ((Nat.gcd T.natAbs d.natAbs : Nat) : Int) := Int.mul_le_mul_of_nonneg_left (by omega) (by omega)
    omega
  refine ⟨?_, ?_, Int.mul_le_mul_of_nonneg_left q2 (by omega), ?_, ?_⟩
  · refine Int.eq_of_mul_eq_mul_right g0 ?_
    rw [Int.pow_succ]
    generalize ((Nat.gcd T.natAbs d.natAbs : Nat) : Int) = g at *
    generalize d / g = x at *
    generalize T / g = y at *
    generalize d ^ i = p at *
    grind
  · have := Int.mul_le_mul hB q1 (by decide) (by omega)
    omega
  · rw [Int.natAbs_mul, aT, aD]
    exact Nat.Coprime.mul_right cop2 cop
  · rw [aT]
    exact Nat.div_le_self _ _
/-- the lowest terms of V * d / d ^ n -/
theorem vr_end {V T B d : Int} {n i : Nat} (h : V * B = T * d ^ i) (hd : 0 < d) (hB : 1 ≤ B) (hg : Nat.gcd T.natAbs B.natAbs = 1) (hn : n = i + 1 ∨ (n = 0 ∧ i = 0 ∧ V = 0)) : T = ratN (V * d) (d ^ n) ∧ B = ratD (V * d) (d ^ n) := by
  have hp : ∀ j : Nat, d ^ j ≠ 0 := fun j => Int.pow_ne_zero (by omega)
  have e := rat_cross (n := V * d) (hp n)
  have lo : Low T B := ⟨hB, hg⟩
  have l2 := rat_low (n := V * d) (hp n)
  refine low_unique lo l2 ?_
  rcases hn with e1 | ⟨e1, e2, e3⟩
  · subst e1
    have e4 : (T * ratD (V * d) (d ^ (i + 1))) * d ^ (i + 1) = (ratN (V * d) (d ^ (i + 1)) * B) * d ^ (i + 1) := by
      rw [Int.pow_succ] at e ⊢
      generalize ratD (V * d) (d ^ i * d) = x at *
      generalize ratN (V * d) (d ^ i * d) = y at *
      generalize d ^ i = p at *
      grind
    exact Int.eq_of_mul_eq_mul_right (hp _) e4
  · subst e1 e2 e3
    rw [Int.pow_zero, Int.zero_mul] at *
    rw [Int.mul_one] at h
    subst h
    rw [Int.zero_mul, Int.mul_one] at *
    rw [e, Int.zero_mul]
end Lk
/-! pairs, values of polynomials, derivatives: what such expressions come to -/
namespace Lk
open PySem L2
def isPr (n d : Int) : Hp → V → Prop := fun H v => ∃ p, v = .ref p ∧ H p = some (.tup [.int n, .int d])
instance {n d : Int} : Up (isPr n d) := ⟨fun e ⟨p, h1, h2⟩ => ⟨p, h1, e _ _ h2⟩⟩
/-- a ratio in lowest terms, its parts below 2 ^ b -/
def isRt (b : Nat) : Hp → V → Prop := fun H v => ∃ n d, Low n d ∧ n.natAbs < 2 ^ b ∧ d.natAbs < 2 ^ b ∧ isPr n d H v
instance {b : Nat} : Up (isRt b) := ⟨fun e ⟨n, d, h1, h2, h3, h4⟩ => ⟨n, d, h1, h2, h3, Up.up e h4⟩⟩
theorem sum_S (row : List Int) : row.sum = S (co row) row.length := by
  rw [← sum_map]
  congr 1
  refine ext_co ?_ fun k => ?_
  · rw [List.length_map, List.length_range]
  · rw [co_range]
    split
    · rfl
    · exact co_ge (by omega)
theorem VS_one (f : Nat → Int) (n : Nat) : VS f 1 1 n = S f n := by
  induction n with
  | zero => rfl
  | succ n ih =>
    show VS f 1 1 n * 1 + f n * 1 ^ n = S f n + f n
    rw [ih, Int.one_pow, Int.mul_one, Int.mul_one]
theorem sm_nb {m b : Nat} {xs : List Int} (h : Nb m (co xs)) (l : m < 2 ^ b) (hb : b ≤ 400000) : Sm xs := fun k => Nat.lt_of_le_of_lt (h.at k) (Nat.lt_of_lt_of_le l (Nat.pow_le_pow_right (by decide) hb))
section
variable {K : PySem.W.Frag} {C : Addr} {σ : L2.St} {H H' : Hp} {ta tb te tf : TE} {v w : V} {row xs ys : List Int} {E : XK} {n d n' d' lo hi : Int} {i j : Nat}
theorem er_tp {t : TA} (ha : ∀ H1, Same H H1 → ValA t σ H1 [.int n, .int d]) : EvR (tTup t) σ H (isPr n d) := fun H1 e Q q =>
  ha H1 e _ ⟨by show 2 ≤ 2 ^ 24; decide, fun p hp => q _ _ (same_upd hp) ⟨p, rfl, upd_same⟩⟩
theorem er_ne2 (ha : EvR ta σ H (isPr n d)) (hb : EvR tb σ H (isPr n' d')) : EvR (tOp (rNeD K) ta tb) σ H (isV (.bl (!(n == n' && d == d')))) :=
  er_op ha hb fun H1 _ _ _ ⟨p, ex, hx⟩ ⟨q, ey, hy⟩ Q k => by
    subst ex; subst ey
    exact rNe2 hx hy (k _ H1 (Same.refl _) rfl)
theorem er_eq2 (ha : EvR ta σ H (isPr n d)) (hb : EvR tb σ H (isPr n' d')) : EvR (tOp (rEqD K) ta tb) σ H (isV (.bl (n == n' && d == d'))) :=
  er_op ha hb fun H1 _ _ _ ⟨p, ex, hx⟩ ⟨q, ey, hy⟩ Q k => by
    subst ex; subst ey
    exact rEq2 hx hy (k _ H1 (Same.refl _) rfl)
/-- comprehensions over range(lo, hi) -/
theorem er_lcR2 {f : Nat → Int} (ha : EvR ta σ H (isV (.int lo))) (hb : EvR tb σ H (isV (.int hi))) (h0 : 0 ≤ lo ∧ lo ≤ 100000 ∧ -100000 ≤ hi ∧ hi ≤ 100000) (he : ∀ i H', i < (hi - lo).toNat → Same H H' → Val te ((wipe σ [j]).set j (some (.int (lo + (i : Int))))) H' (.int (f i))) :
    EvR (tLc (iRng2 (tCons ta (tCons tb tNil))) (gName j) tYes te [j]) σ H (isN ((List.range (hi - lo).toNat).map f)) := fun H1 e Q q =>
  ha H1 e _ fun x H2 e2 hx => hb H2 (e.trans e2) _ fun y H3 e3 hy => ⟨lo, hi, by rw [show x = V.int lo from hx, show y = V.int hi from hy], by omega, fun D hD => lcI f hD (by show (hi - lo).toNat ≤ 2 ^ 24; omega) (fun i H' hi s => he i H' hi (((e.trans e2).trans e3).trans s)) (fun H4 s4 h4 => q _ H4 ((e2.trans e3).trans s4) ⟨D, rfl, h4⟩)⟩
end
end Lk
/-! words: texts as lists of codes, what is a word, what it says -/
namespace Lk
open PySem L2
def cAt : List Nat := [97, 116, 32, 108, 101, 97, 115, 116]
def cBe : List Nat := [98, 101, 108, 111, 119]
def cNo : List Nat := [110, 111, 32, 119, 111, 114, 100]
def isDig (c : Nat) : Bool := decide (48 ≤ c) && decide (c ≤ 57)
def isNum (t : List Nat) : Bool := (decide (1 ≤ t.length) && decide (t.length ≤ 30)) && (!decide (t.head? = some 48)) && t.all isDig
def nVal (t : List Nat) : Nat := NumText.digitsVal t
def okSh (n d : Nat) : Bool := (decide (1 ≤ d) && decide (n ≤ d) && decide (Nat.gcd n d = 1)) && !(decide (n = 1) && decide (d = 1))
def rdShare (t : List Nat) : Option (Nat × Nat) :=
  match TL.spl [47] 0 [] t with
  | [p, q] => if isNum p && isNum q && okSh (nVal p) (nVal q) then some (nVal p, nVal q) else none
  | _ => none
/-- at least (true), below (false), with the share -/
def rdWord (l : List Nat) : Option (Bool × Nat × Nat) :=
  if TL.pre (cAt ++ [32]) l = true then (rdShare (l.drop 9)).map fun z => (true, z)
  else if TL.pre (cBe ++ [32]) l = true then (rdShare (l.drop 6)).map fun z => (false, z)
  else none
theorem isNum_len {t : List Nat} (h : isNum t = true) : 1 ≤ t.length ∧ t.length ≤ 30 ∧ t.all isDig = true ∧ t.head? ≠ some 48 := by
  unfold isNum at h
  simp only [Bool.and_eq_true, decide_eq_true_eq, Bool.not_eq_true', decide_eq_false_iff_not] at h
  exact ⟨h.1.1.1, h.1.1.2, h.2, h.1.2⟩
theorem isNum_int {t : List Nat} (h : isNum t = true) : intText? (SX.S t) = some ((nVal t : Nat) : Int) := by
  obtain ⟨h1, h2, h3, _⟩ := isNum_len h
  exact SX.int_S h3 (fun e => by rw [e] at h1; exact absurd h1 (by decide)) (by omega)
theorem starts_S {a b : List Nat} (hb : b ≠ []) : Txt.startswith (SX.S a) (SX.S b) = TL.pre b a := by
  have h := TL.at_iff (x := SX.S a) (y := SX.S b) (show TL.tl (SX.S b) ≠ [] from hb) 0
  unfold StrLaws.At at h
  unfold Txt.startswith
  rw [show TL.tl (SX.S b) = b from rfl, show TL.tl (SX.S a) = a from rfl, List.drop_zero] at h
  cases e : TL.pre b a with
  | true =>
    obtain ⟨h1, h2⟩ := h.mpr e
    rw [decide_eq_true h1, h2]
    rfl
  | false =>
    cases z : (decide (0 + (SX.S b).length ≤ (SX.S a).length) && Builtin.Str.subAt (SX.S a) (SX.S b) 0) with
    | false => rfl
    | true =>
      obtain ⟨z1, z2⟩ := Bool.and_eq_true_iff.mp z
      rw [h.mp ⟨of_decide_eq_true z1, z2⟩] at e
      cases e
/-! the texts of numbers -/
theorem numL_all (n : Nat) : (TL.numL n).all isDig = true := List.all_eq_true.mpr fun c hc => by
  have := TL.numL_digits n c hc
  exact Bool.and_eq_true_iff.mpr ⟨decide_eq_true this.1, decide_eq_true this.2⟩
theorem val_lt0 : ∀ (l : List Nat) (a : Nat), l.all isDig = true → l.foldl (fun acc c => acc * 10 + (c - 48)) a < (a + 1) * 10 ^ l.length
  | [], a, _ => by show a < (a + 1) * 1; omega
  | c :: l, a, h => by
    rw [List.all_cons, Bool.and_eq_true] at h
    have h2 : c ≤ 57 := of_decide_eq_true (Bool.and_eq_true_iff.mp h.1).2
    have h1 := val_lt0 l (a * 10 + (c - 48)) h.2
    show l.foldl _ (a * 10 + (c - 48)) < (a + 1) * 10 ^ (l.length + 1)
    refine Nat.lt_of_lt_of_le h1 ?_
    rw [Nat.pow_succ, Nat.mul_comm (10 ^ l.length) 10, ← Nat.mul_assoc]
    exact Nat.mul_le_mul_right _ (by omega)
theorem val_lt (l : List Nat) (h : l.all isDig = true) : NumText.digitsVal l < 10 ^ l.length := by
  have := val_lt0 l 0 h
  rw [Nat.zero_add, Nat.one_mul] at this
  exact this
theorem numL_len2 {n : Nat} (h : 10 ^ 30 ≤ n) : 30 < (TL.numL n).length := by
  refine Nat.lt_of_not_le fun q => ?_
  have h1 := val_lt (TL.numL n) (numL_all n)
  rw [TL.numL_val] at h1
  have := Nat.pow_le_pow_right (show 0 < 10 by decide) q
  omega
theorem numL_head {n : Nat} (h : 0 < n) : (TL.numL n).head? ≠ some 48 := by
  induction n using Nat.strongRecOn with
  | _ n ih =>
    rcases Nat.lt_or_ge n 10 with l | l
    · rw [TL.numL_lt l]
      show some (48 + n) ≠ some 48
      intro e
      have := Option.some.inj e
      omega
    · rw [TL.numL_step l]
      have h1 := ih (n / 10) (by omega) (by omega)
      have h2 := TL.numL_ne (n / 10)
      cases e : TL.numL (n / 10) with
      | nil => exact absurd e h2
      | cons c r =>
        rw [e] at h1
        exact h1
theorem isNum_numL {n : Nat} : isNum (TL.numL n) = (decide (0 < n) && decide (n < 10 ^ 30)) := by
  unfold isNum
  rw [numL_all, Bool.and_true]
  have h0 : 1 ≤ (TL.numL n).length := List.length_pos_iff.mpr (TL.numL_ne n)
  rcases Nat.eq_zero_or_pos n with e | e
  · subst e
    rw [show TL.numL 0 = [48] from TL.numL_lt (by decide)]
    decide
  · rw [decide_eq_true e, decide_eq_true h0, decide_eq_false (numL_head e)]
    by_cases h : n < 10 ^ 30
    · rw [decide_eq_true h, decide_eq_true (TL.numL_len (by decide) h)]
      rfl
    · rw [decide_eq_false h, decide_eq_false (Nat.not_le.mpr (numL_len2 (Nat.not_lt.mp h)))]
      rfl
theorem numL_long {n k : Nat} (hk : 0 < k) (h : n < 10 ^ k) : (TL.numL n).length ≤ k := TL.numL_len hk h
theorem spl_num (n d : Nat) : TL.spl [47] 0 [] (TL.numL n ++ (47 :: TL.numL d)) = [TL.numL n, TL.numL d] := by
  have h1 := TL.spl_part1 (s := 47) (S := []) (p := TL.numL n) (rest := TL.numL d) (acc := []) (TL.numL_free (by decide))
  have h2 := TL.spl_last1 (s := 47) (S := []) (p := TL.numL d) (acc := []) (TL.numL_free (by decide))
  rw [show TL.numL n ++ (47 :: TL.numL d) = TL.numL n ++ ([47] ++ TL.numL d) from rfl]
  exact h1.trans (by rw [h2]; rfl)
def okW (n d : Nat) : Bool := decide (0 < n) && decide (n < d) && decide (d < 10 ^ 30)
theorem rdShare_num {n d : Nat} (hg : Nat.gcd n d = 1) (hd : 1 ≤ d) (hn : n ≤ d) : rdShare (TL.numL n ++ (47 :: TL.numL d)) = if okW n d = true then some (n, d) else none := by
  unfold rdShare
  rw [spl_num]
  show (if _ then _ else _) = _
  rw [isNum_numL, isNum_numL]
  unfold nVal okSh okW
  rw [TL.numL_val, TL.numL_val, decide_eq_true hd, decide_eq_true hn, decide_eq_true hg]
  by_cases h1 : 0 < n
  · by_cases h2 : d < 10 ^ 30
    · by_cases h3 : n < d
      · have h4 : n < 10 ^ 30 := by omega
        have h5 : 0 < d := by omega
        have h6 : ¬ (n = 1 ∧ d = 1) := by omega
        have h7 : (decide (n = 1) && decide (d = 1)) = false := by
          rw [← Bool.not_eq_true, Bool.and_eq_true, decide_eq_true_eq, decide_eq_true_eq]
          exact h6
        rw [h7, decide_eq_true h1, decide_eq_true h2, decide_eq_true h3, decide_eq_true h4, decide_eq_true h5]
        rfl
      · have e : n = d := by omega
        subst e
        rw [Nat.gcd_self] at hg
        subst hg
        rfl
    · rw [decide_eq_false h2]
      simp
  · rw [decide_eq_false h1]
    simp
theorem rd_at (t : List Nat) : rdWord (cAt ++ (32 :: t)) = (rdShare t).map fun z => (true, z) := by
  unfold rdWord
  rw [if_pos (show TL.pre (cAt ++ [32]) (cAt ++ (32 :: t)) = true from TL.pre_self (cAt ++ [32]) t)]
  rfl
theorem rd_be (t : List Nat) : rdWord (cBe ++ (32 :: t)) = (rdShare t).map fun z => (false, z) := by
  unfold rdWord
  rw [if_neg (by show ¬ TL.pre (cAt ++ [32]) (98 :: _) = true; rw [show cAt ++ [32] = 97 :: [116, 32, 108, 101, 97, 115, 116, 32] from rfl, TL.pre_of_head _ _ (by decide)]; decide), if_pos (show TL.pre (cBe ++ [32]) (cBe ++ (32 :: t)) = true from TL.pre_self (cBe ++ [32]) t)]
  rfl
theorem rd_no : rdWord cNo = none := by decide
/-- a text read: nothing is said, or a kind with a share -/
def kTxt (b : Bool) : List Nat := if b then cAt else cBe
theorem rd_k (b : Bool) (t : List Nat) : rdWord (kTxt b ++ (32 :: t)) = (rdShare t).map fun z => (b, z) := by
  cases b with
  | true => exact rd_at t
  | false => exact rd_be t
/-! promises -/
theorem Raised.back {C : Addr} {f : Str} {v : V} {H H' : Hp} {E : XK} (h : Raised C f v H E) (e : Same H H') : Raised C f v H' E := fun d H2 s hd h2 => h d H2 (e.trans s) (e.free hd) h2
def spIsNum : Sp := fun vs H Q _ => ∃ t : List Nat, vs = [.str (SX.S t)] ∧ t.length ≤ 1000 ∧ ∀ H', Same H H' → Q (.bl (isNum t)) H'
def spReadShare (C : Addr) : Sp := fun vs H Q E => ∃ (w : Str) (t : List Nat), vs = [.str w, .str (SX.S t)] ∧ t.length ≤ 1000 ∧
  ((rdShare t = none ∧ Raised C "word" (.str w) H E) ∨ ∃ n d, rdShare t = some (n, d) ∧ ∀ p H', Same H H' → H' p = some (.tup [.int ((n : Nat) : Int), .int ((d : Nat) : Int)]) → Q (.ref p) H')
/-- what the reading of a text leads to -/
def ReadW (C : Addr) (l : List Nat) (H : Hp) (Q : VK) (E : XK) : Prop :=
  (l = cNo ∧ ∀ p H', Same H H' → H' p = some (.tup [.str (SX.S cNo), .non]) → Q (.ref p) H') ∨
  (l ≠ cNo ∧ rdWord l = none ∧ Raised C "word" (.str (SX.S l)) H E) ∨
  (l ≠ cNo ∧ ∃ b n d, rdWord l = some (b, n, d) ∧ ∀ p q H', Same H H' → H' q = some (.tup [.int ((n : Nat) : Int), .int ((d : Nat) : Int)]) → H' p = some (.tup [.str (SX.S (kTxt b)), .ref q]) → Q (.ref p) H')
def spReadWord (C : Addr) : Sp := fun vs H Q E => ∃ l : List Nat, vs = [.str (SX.S l)] ∧ l.length ≤ 1000 ∧ ReadW C l H Q E
/-- a def that hands its text on if it is a word -/
def spChecked (C : Addr) : Sp := fun vs H Q E => ∃ l : List Nat, vs = [.str (SX.S l)] ∧ l.length ≤ 1000 ∧ ((l ≠ cNo ∧ rdWord l = none ∧ Raised C "word" (.str (SX.S l)) H E) ∨ ((l = cNo ∨ rdWord l ≠ none) ∧ ∀ H', Same H H' → Q (.str (SX.S l)) H'))
end Lk
/-! comprehensions over a text; small expressions on texts -/
namespace Lk
open PySem L2
theorem e_no : (("no word" : Str)) = SX.S cNo := TL.ext_tl (by rw [TL.tl_ofString]; rfl)
theorem e_at : (("at least" : Str)) = SX.S cAt := TL.ext_tl (by rw [TL.tl_ofString]; rfl)
theorem e_be : (("below" : Str)) = SX.S cBe := TL.ext_tl (by rw [TL.tl_ofString]; rfl)
theorem e_at2 : (("at least " : Str)) = SX.S (cAt ++ [32]) := TL.ext_tl (by rw [TL.tl_ofString]; rfl)
theorem e_be2 : (("below " : Str)) = SX.S (cBe ++ [32]) := TL.ext_tl (by rw [TL.tl_ofString]; rfl)
theorem e_sp : ((" " : Str)) = SX.S [32] := TL.ext_tl (by rw [TL.tl_ofString]; rfl)
theorem e_sl : (("/" : Str)) = SX.S [47] := TL.ext_tl (by rw [TL.tl_ofString]; rfl)
theorem e_ze : (("0" : Str)) = SX.S [48] := TL.ext_tl (by rw [TL.tl_ofString]; rfl)
theorem e_dg : (("0123456789" : Str)) = SX.S [48, 49, 50, 51, 52, 53, 54, 55, 56, 57] := TL.ext_tl (by rw [TL.tl_ofString]; rfl)
theorem in_dig (c : Nat) : decide (c ∈ (SX.S [48, 49, 50, 51, 52, 53, 54, 55, 56, 57]).cps.toList) = isDig c := by
  have e : (SX.S [48, 49, 50, 51, 52, 53, 54, 55, 56, 57]).cps.toList = [48, 49, 50, 51, 52, 53, 54, 55, 56, 57] := rfl
  rw [e]
  unfold isDig
  rw [← Bool.decide_and]
  refine decide_eq_decide.mpr ⟨fun h => ?_, fun h => ?_⟩
  · simp only [List.mem_cons, List.not_mem_nil, or_false] at h
    omega
  · simp only [List.mem_cons, List.not_mem_nil, or_false]
    omega
section
variable {K : PySem.W.Frag} {C : Addr} {σ : L2.St} {H H' : Hp} {ta tb te : TE} {t : TT} {v w : V} {i : Nat} {E : XK} {b : Bool} {l m : List Nat} {vs : List V} {n : Int}
theorem et_ans (h : ∀ H1, Same H H1 → Ans t σ H1 b) : Evl.EvT t σ H b := fun H1 e Q q => h H1 e (fun c H2 => Q c H2) (q H1 (Same.refl _))
theorem lcS {z : Str} {te : TE} {i : Nat} {H1 : Hp} {D : Addr} {Qd : Hp → Prop} (f : Nat → Bool) (hD : H1 D = none) (hn : z.cps.size ≤ sizeLine)
    (he : ∀ c H, Same H1 H → Val te ((wipe σ [i]).set i (some (.str ⟨#[c]⟩))) H (.bl (f c))) (hd : ∀ H, Same H1 H → H D = some (.lst ((z.cps.toList.map f).map V.bl)) → Qd H) :
    ∃ W : Nat → Nat → Hp → Prop, (∃ m, W 0 m (upd H1 D (.lst []))) ∧ ∀ i' m H, W i' m H →
      ((Its z).stop i' H ∧ Qd H) ∨ ((Its z).go i' H ∧ ∃ Nx : Hp → Prop, (∀ H', Nx H' → ∃ m', m' < m ∧ W (i' + 1) m' H') ∧ ∀ x H', (Its z).yld i' H x H' → gName i x (wipe σ [i]) H' fun σ2 H2 => wipe σ2 [i] = wipe σ [i] ∧ tYes σ2 H2 fun b H3 =>
        if b = true then te σ2 H3 fun y H4 => ∃ acc, H4 D = some (.lst acc) ∧ acc.length < sizeLine ∧ Nx (upd H4 D (.lst (acc ++ [y]))) else Nx H3) := by
  refine ⟨fun j m H => m = z.cps.size - j ∧ j ≤ z.cps.size ∧ Same H1 H ∧ H D = some (.lst (((z.cps.toList.take j).map f).map V.bl)), ⟨z.cps.size, rfl, Nat.zero_le _, same_upd hD, upd_same⟩, ?_⟩
  rintro j m H ⟨rfl, hj, s1, h1⟩
  by_cases hlt : j < z.cps.size
  · refine .inr ⟨hlt, fun H' => Same H1 H' ∧ H' D = some (.lst (((z.cps.toList.take (j + 1)).map f).map V.bl)), fun H' q => ⟨z.cps.size - (j + 1), by omega, rfl, hlt, q⟩, ?_⟩
    rintro x H' ⟨rfl, c, hc, rfl⟩
    have hl : j < z.cps.toList.length := by rw [Array.length_toList]; exact hlt
    have ec : z.cps.toList[j] = c := by
      rw [Array.getElem?_eq_getElem hlt] at hc
      exact Option.some.inj hc
    refine ⟨?_, ?_⟩
    · show ((σ.set i none).set i _).set i none = σ.set i none
      rw [List.set_set, List.set_set]
    · refine he c H' s1 (fun y H4 => ∃ acc, H4 D = some (.lst acc) ∧ acc.length < sizeLine ∧ Same H1 (upd H4 D (.lst (acc ++ [y]))) ∧ (upd H4 D (.lst (acc ++ [y]))) D = some (.lst (((z.cps.toList.take (j + 1)).map f).map V.bl))) ⟨_, h1, ?_, ?_, ?_⟩
      · rw [List.length_map, List.length_map, List.length_take]
        omega
      · exact fun b o e => by rw [upd_ne (ne_of_none e hD)]; exact s1 b o e
      · rw [upd_same, List.take_succ_eq_append_getElem hl, ec, List.map_append, List.map_append]
        rfl
  · have ej : j = z.cps.size := by omega
    subst ej
    refine .inl ⟨Nat.le_refl _, hd H s1 ?_⟩
    rw [h1, List.take_of_length_le (by rw [Array.length_toList]; exact Nat.le_refl _)]
theorem spl_le (c : Nat) : ∀ (t acc : List Nat), ∀ q ∈ TL.spl [c] 0 acc t, q.length ≤ acc.length + t.length
  | [], acc, q, h => by
    rw [TL.spl_nil] at h
    rw [List.mem_singleton.mp h]
    exact Nat.le_add_right _ _
  | x :: r, acc, q, h => by
    cases e : TL.pre [c] (x :: r) with
    | true =>
      rw [TL.spl_hit e] at h
      rcases List.mem_cons.mp h with h | h
      · rw [h]
        exact Nat.le_add_right _ _
      · have := spl_le c r [] q h
        rw [List.length_cons]
        have e0 : ([] : List Nat).length = 0 := rfl
        omega
    | false =>
      rw [TL.spl_miss e] at h
      have := spl_le c r (acc ++ [x]) q h
      rw [List.length_append] at this
      rw [List.length_cons]
      have e0 : [x].length = 1 := rfl
      omega
/-- a list of any values -/
def isVs (K : PySem.W.Frag) (vs : List V) : Hp → V → Prop := fun H v => ∃ p, v = .ref p ∧ SqL K H p vs
instance {vs : List V} : Up (isVs K vs) := ⟨fun e ⟨p, h1, h2⟩ => ⟨p, h1, e.seq h2⟩⟩
theorem er_lenV (ha : EvR ta σ H (isVs K vs)) : EvR (tCB (fun xs H Q => ∃ p ys, xs = [V.ref p] ∧ (SqL K H p ys ∨ SqT K H p ys) ∧ Q (V.int ys.length) H) (tCons ta tNil)) σ H (isV (.int vs.length)) :=
  er_cb1 ha fun H1 _ ⟨p, ex, hx⟩ Q k => ⟨p, _, by rw [ex], .inl hx, k _ H1 (Same.refl _) rfl⟩
theorem er_ixV (ha : EvR ta σ H (isVs K vs)) (hb : EvR tb σ H (isV (.int n))) (h : atI vs n = some v) : EvR (tOp (rIxL K) ta tb) σ H (isV v) :=
  er_op ha hb fun H1 x y _ ⟨p, ex, hx⟩ hy Q k => ⟨p, _, n, _, ex, hy, hx, h, k _ H1 (Same.refl _) rfl⟩
theorem er_isNum (ha : EvR ta σ H (isV (.str (SX.S l)))) (hl : l.length ≤ 1000) : EvR (tCall spIsNum [] E (tCons ta tNil)) σ H (isV (.bl (isNum l))) :=
  er_call1 ha fun H1 x hx Q k => ⟨l, by rw [show x = _ from hx], hl, fun H2 s2 => k _ H2 s2 rfl⟩
/-- the sizes of what is read -/
theorem rdShare_bd {t : List Nat} {n d : Nat} (h : rdShare t = some (n, d)) : n < 10 ^ 30 ∧ d < 10 ^ 30 ∧ 1 ≤ d := by
  unfold rdShare at h
  split at h
  · rename_i p q _
    split at h
    · rename_i hc
      obtain ⟨h1, h2⟩ := Prod.mk.inj (Option.some.inj h)
      rw [Bool.and_eq_true, Bool.and_eq_true] at hc
      obtain ⟨⟨a, b⟩, c⟩ := hc
      obtain ⟨_, a2, a3, _⟩ := isNum_len a
      obtain ⟨_, b2, b3, _⟩ := isNum_len b
      have v1 := val_lt p a3
      have v2 := val_lt q b3
      have p1 := Nat.pow_le_pow_right (show 0 < 10 by decide) a2
      have p2 := Nat.pow_le_pow_right (show 0 < 10 by decide) b2
      unfold okSh at c
      simp only [Bool.and_eq_true, decide_eq_true_eq] at c
      unfold nVal at *
      omega
    · cases h
  · cases h
theorem rdWord_bd {t : List Nat} {b : Bool} {n d : Nat} (h : rdWord t = some (b, n, d)) : n < 10 ^ 30 ∧ d < 10 ^ 30 ∧ 1 ≤ d := by
  unfold rdWord at h
  split at h
  · obtain ⟨z, h1, h2⟩ := Option.map_eq_some_iff.mp h
    obtain ⟨_, e⟩ := Prod.mk.inj h2
    exact rdShare_bd (e ▸ h1)
  · split at h
    · obtain ⟨z, h1, h2⟩ := Option.map_eq_some_iff.mp h
      obtain ⟨_, e⟩ := Prod.mk.inj h2
      exact rdShare_bd (e ▸ h1)
    · cases h
end
theorem k_len (b : Bool) : (kTxt b).length = if b then 8 else 5 := by cases b <;> rfl
def wText (b : Bool) (n d : Nat) : List Nat := kTxt b ++ (32 :: (TL.numL n ++ (47 :: TL.numL d)))
theorem wText_len {b : Bool} {n d : Nat} (hn : n < 10 ^ 40) (hd : d < 10 ^ 40) : (wText b n d).length ≤ 100 := by
  have ln := numL_long (k := 40) (by decide) hn
  have ld := numL_long (k := 40) (by decide) hd
  have lk := k_len b
  unfold wText
  simp only [List.length_append, List.length_cons]
  split at lk <;> omega
theorem wText_no {b : Bool} {n d : Nat} : wText b n d ≠ cNo := by
  cases b <;> (intro h; have := (List.cons.inj h).1; exact absurd this (by decide))
theorem wText_rd {b : Bool} {n d : Nat} (hg : Nat.gcd n d = 1) (hd : 1 ≤ d) (hn : n ≤ d) : rdWord (wText b n d) = if okW n d = true then some (b, n, d) else none := by
  unfold wText
  rw [rd_k, rdShare_num hg hd hn]
  split <;> rfl
def spMade (K : PySem.W.Frag) (C : Addr) (b : Bool) : Sp := fun vs H Q E => ∃ (p : Addr) (n d : Nat), vs = [.ref p] ∧ SqT K H p [.int ((n : Nat) : Int), .int ((d : Nat) : Int)] ∧ n < 10 ^ 40 ∧ d < 10 ^ 40 ∧
  ((rdWord (wText b n d) = none ∧ Raised C "word" (.str (SX.S (wText b n d))) H E) ∨ (rdWord (wText b n d) ≠ none ∧ ∀ H', Same H H' → Q (.str (SX.S (wText b n d))) H'))
theorem num_nat (n : Nat) : toString ((n : Nat) : Int) = (Int.repr ((n : Nat) : Int)) := rfl
section
variable {K : PySem.W.Frag} {σ : L2.St} {H : Hp} {ta tb : TE} {x y : Str} {n : Nat} {b : Bool}
theorem val_addS (ha : Val ta σ H (.str x)) (hb : Val tb σ H (.str y)) (hl : x.length + y.length ≤ sizeLine) : Val (tOp (fun x y H Q => ∃ i j, x = V.str i ∧ y = V.str j ∧ i.length + j.length ≤ sizeLine ∧ Q (V.str (i ++ j)) H) ta tb) σ H (.str (x ++ y)) := fun Q q => ha _ (hb _ ⟨x, y, rfl, rfl, hl, q⟩)
theorem val_strN (ha : Val ta σ H (.int ((n : Nat) : Int))) (hn : n < 10 ^ 40) : Val (tCB (fun xs H Q => ∃ i, xs = [V.int i] ∧ i.natAbs.log2 < 1920 ∧ Q (V.str (Str.ofString (toString i))) H) (tCons ta tNil)) σ H (.str (SX.S (TL.numL n))) := fun Q q => ha _ ⟨_, rfl, by rw [Int.natAbs_natCast]; exact Nat.lt_of_lt_of_le (log2_lt (b := 140) (by decide) (by omega)) (by decide), by rw [SX.num_S n]; exact q⟩
/-- n/d as a text -/
def fTxt (n d : Nat) : List Nat := TL.numL n ++ (47 :: TL.numL d)
theorem fTxt_len {n d : Nat} (hn : n < 10 ^ 40) (hd : d < 10 ^ 40) : (fTxt n d).length ≤ 81 := by
  have ln := numL_long (k := 40) (by decide) hn
  have ld := numL_long (k := 40) (by decide) hd
  unfold fTxt
  simp only [List.length_append, List.length_cons]
  omega
theorem s_big {l : List Nat} (h : l.length ≤ 1000) : (SX.S l).length ≤ 1000 := by rw [SX.S_len]; exact h
theorem fTxt_cat (n d : Nat) : SX.S (TL.numL n) ++ ("/" : Str) ++ SX.S (TL.numL d) = SX.S (fTxt n d) := by
  rw [e_sl, SX.S_cat, SX.S_cat]
  unfold fTxt
  rw [List.append_assoc]
  rfl
theorem wTxt_at (n d : Nat) : ("at least " : Str) ++ SX.S (fTxt n d) = SX.S (wText true n d) := by
  rw [e_at2, SX.S_cat]
  rfl
theorem wTxt_be (n d : Nat) : ("below " : Str) ++ SX.S (fTxt n d) = SX.S (wText false n d) := by
  rw [e_be2, SX.S_cat]
  rfl
theorem len_at2 : ("at least " : Str).length = 9 := by rw [e_at2, SX.S_len]; rfl
theorem len_be2 : ("below " : Str).length = 6 := by rw [e_be2, SX.S_len]; rfl
theorem len_sl : ("/" : Str).length = 1 := by rw [e_sl, SX.S_len]; rfl
def isPrT (K : PySem.W.Frag) (n d : Int) : Hp → V → Prop := fun H v => ∃ p, v = .ref p ∧ SqT K H p [.int n, .int d]
instance {n d : Int} : Up (isPrT K n d) := ⟨fun e ⟨p, h1, h2⟩ => ⟨p, h1, e.tup h2⟩⟩
end
end Lk
namespace Pf
open PySem L2 Lk
def top (i : Nat) : Stmt := PySem.Challenge.pw_lookstop_k25_wrong_words.main.body.getD i (.Pass ⟨0, 0, 0, 0⟩)
abbrev s_InvalidWord___init__ : Stmt := (inClass (top 3) 0)
abbrev N_InvalidWord___init__ : List Str := ["self", "word"]
abbrev s_compare : Stmt := (top 5)
abbrev N_compare : List Str := ["a", "b", "left", "right"]
abbrev s_is_share : Stmt := (top 6)
abbrev N_is_share : List Str := ["value", "num", "den"]
abbrev s_read_word : Stmt := (top 12)
abbrev N_read_word : List Str := ["word", "kind"]
abbrev s_is_wrong : Stmt := (top 13)
abbrev N_is_wrong : List Str := ["word", "share", "kind", "named"]
abbrev s_is_number : Stmt := (top 14)
abbrev N_is_number : List Str := ["text", "letter"]
abbrev s__read_share : Stmt := (top 15)
abbrev N__read_share : List Str := ["word", "text", "parts", "share"]
abbrev s__law_box : Stmt := (top 17)
abbrev N__law_box : List Str := ["_law_script", "_law_cell"]
abbrev s__law_take : Stmt := (top 18)
abbrev N__law_take : List Str := ["_law_box_here", "_law_size", "_law_cells", "_law_worth", "_law_at", "_law_digit", "_law_stirred"]
abbrev s__law_gcd : Stmt := (top 19)
abbrev N__law_gcd : List Str := ["_law_a", "_law_b"]
abbrev s__law_ratio : Stmt := (top 20)
abbrev N__law_ratio : List Str := ["_law_num", "_law_den", "_law_divisor"]
abbrev s__law_share : Stmt := (top 21)
abbrev N__law_share : List Str := ["_law_box_here", "_law_most", "_law_den"]
abbrev s__law_less : Stmt := (top 22)
abbrev N__law_less : List Str := ["_law_a", "_law_b"]
abbrev s_law : Stmt := (top 23)
abbrev N_law : List Str := ["_law_script", "_law_box_here", "_law_size", "_law_at", "_law_true", "_law_pick", "_law_text", "_law_first", "_law_second"]
structure Adr where
  f_InvalidWord___init__ : Addr
  d_InvalidWord___init__ : FuncData
  f_compare : Addr
  d_compare : FuncData
  f_is_share : Addr
  d_is_share : FuncData
  f_read_word : Addr
  d_read_word : FuncData
  f_is_wrong : Addr
  d_is_wrong : FuncData
  f_is_number : Addr
  d_is_number : FuncData
  f__read_share : Addr
  d__read_share : FuncData
  f__law_box : Addr
  d__law_box : FuncData
  f__law_take : Addr
  d__law_take : FuncData
  f__law_gcd : Addr
  d__law_gcd : FuncData
  f__law_ratio : Addr
  d__law_ratio : FuncData
  f__law_share : Addr
  d__law_share : FuncData
  f__law_less : Addr
  d__law_less : FuncData
  f_law : Addr
  d_law : FuncData
  C_StopError : Addr
  C_InvalidWord : Addr
structure Txt (K : PySem.W.Frag) (mg : Str → Option Value) (A : Adr) : Prop where
  F_InvalidWord___init__ : Fun K "__init__" "InvalidWord.__init__" s_InvalidWord___init__ A.f_InvalidWord___init__ A.d_InvalidWord___init__
  k_InvalidWord___init__ : PySem.W.keepIn K (.ref A.f_InvalidWord___init__) = true
  b_InvalidWord___init__ : Binds K A.d_InvalidWord___init__ ["self", "word"] []
  m_InvalidWord___init__ : PySem.W.findIn K (.ref A.C_InvalidWord) "__init__" = some (some (.ref A.f_InvalidWord___init__))
  i_InvalidWord___init__ : PySem.W.isFn K (.ref A.f_InvalidWord___init__) = true
  t_InvalidWord___init__ : PySem.W.typeIn K (.ref A.f_InvalidWord___init__) = some (.type "function")
  F_compare : Fun K "compare" "compare" s_compare A.f_compare A.d_compare
  k_compare : PySem.W.keepIn K (.ref A.f_compare) = true
  b_compare : Binds K A.d_compare ["a", "b"] []
  g_compare : mg "compare" = some (.ref A.f_compare)
  F_is_share : Fun K "is_share" "is_share" s_is_share A.f_is_share A.d_is_share
  k_is_share : PySem.W.keepIn K (.ref A.f_is_share) = true
  b_is_share : Binds K A.d_is_share ["value"] []
  g_is_share : mg "is_share" = some (.ref A.f_is_share)
  F_read_word : Fun K "read_word" "read_word" s_read_word A.f_read_word A.d_read_word
  k_read_word : PySem.W.keepIn K (.ref A.f_read_word) = true
  b_read_word : Binds K A.d_read_word ["word"] []
  g_read_word : mg "read_word" = some (.ref A.f_read_word)
  F_is_wrong : Fun K "is_wrong" "is_wrong" s_is_wrong A.f_is_wrong A.d_is_wrong
  k_is_wrong : PySem.W.keepIn K (.ref A.f_is_wrong) = true
  b_is_wrong : Binds K A.d_is_wrong ["word", "share"] []
  g_is_wrong : mg "is_wrong" = some (.ref A.f_is_wrong)
  F_is_number : Fun K "is_number" "is_number" s_is_number A.f_is_number A.d_is_number
  k_is_number : PySem.W.keepIn K (.ref A.f_is_number) = true
  b_is_number : Binds K A.d_is_number ["text"] []
  g_is_number : mg "is_number" = some (.ref A.f_is_number)
  F__read_share : Fun K "_read_share" "_read_share" s__read_share A.f__read_share A.d__read_share
  k__read_share : PySem.W.keepIn K (.ref A.f__read_share) = true
  b__read_share : Binds K A.d__read_share ["word", "text"] []
  g__read_share : mg "_read_share" = some (.ref A.f__read_share)
  F__law_box : Fun K "_law_box" "_law_box" s__law_box A.f__law_box A.d__law_box
  k__law_box : PySem.W.keepIn K (.ref A.f__law_box) = true
  b__law_box : Binds K A.d__law_box ["_law_script"] []
  g__law_box : mg "_law_box" = some (.ref A.f__law_box)
  F__law_take : Fun K "_law_take" "_law_take" s__law_take A.f__law_take A.d__law_take
  k__law_take : PySem.W.keepIn K (.ref A.f__law_take) = true
  b__law_take : Binds K A.d__law_take ["_law_box_here", "_law_size"] []
  g__law_take : mg "_law_take" = some (.ref A.f__law_take)
  F__law_gcd : Fun K "_law_gcd" "_law_gcd" s__law_gcd A.f__law_gcd A.d__law_gcd
  k__law_gcd : PySem.W.keepIn K (.ref A.f__law_gcd) = true
  b__law_gcd : Binds K A.d__law_gcd ["_law_a", "_law_b"] []
  g__law_gcd : mg "_law_gcd" = some (.ref A.f__law_gcd)
  F__law_ratio : Fun K "_law_ratio" "_law_ratio" s__law_ratio A.f__law_ratio A.d__law_ratio
  k__law_ratio : PySem.W.keepIn K (.ref A.f__law_ratio) = true
  b__law_ratio : Binds K A.d__law_ratio ["_law_num", "_law_den"] []
  g__law_ratio : mg "_law_ratio" = some (.ref A.f__law_ratio)
  F__law_share : Fun K "_law_share" "_law_share" s__law_share A.f__law_share A.d__law_share
  k__law_share : PySem.W.keepIn K (.ref A.f__law_share) = true
  b__law_share : Binds K A.d__law_share ["_law_box_here", "_law_most"] []
  g__law_share : mg "_law_share" = some (.ref A.f__law_share)
  F__law_less : Fun K "_law_less" "_law_less" s__law_less A.f__law_less A.d__law_less
  k__law_less : PySem.W.keepIn K (.ref A.f__law_less) = true
  b__law_less : Binds K A.d__law_less ["_law_a", "_law_b"] []
  g__law_less : mg "_law_less" = some (.ref A.f__law_less)
  F_law : Fun K "law" "law" s_law A.f_law A.d_law
  k_law : PySem.W.keepIn K (.ref A.f_law) = true
  b_law : Binds K A.d_law ["_law_script"] []
  g_law : mg "law" = some (.ref A.f_law)
  g_StopError : mg "StopError" = some (.ref A.C_StopError)
  g_InvalidWord : mg "InvalidWord" = some (.ref A.C_InvalidWord)
  sa_InvalidWord : PySem.W.findIn K (.ref A.C_InvalidWord) "__setattr__" = some (some (.builtin "object.__setattr__"))
  ga_InvalidWord : PySem.W.findIn K (.ref A.C_InvalidWord) "__getattribute__" = some (some (.builtin "BaseException.__getattribute__"))
  gg_InvalidWord : PySem.W.findIn K (.ref A.C_InvalidWord) "__getattr__" = some none
  exb_InvalidWord : PySem.W.subIn K (.ref A.C_InvalidWord) (.type "BaseException") = some true
  ty_InvalidWord : PySem.W.typeIn K (.ref A.C_InvalidWord) = some (.type "type")
  kp_InvalidWord : PySem.W.keepIn K (.ref A.C_InvalidWord) = true
  hd_InvalidWord : PySem.W.hasDictIn K A.C_InvalidWord = true
  cl_InvalidWord : (PySem.W.clsIn K A.C_InvalidWord).isSome = true
  ha_InvalidWord : PySem.W.findIn K (.ref A.C_InvalidWord) "__class__" = some (some (.builtin "object.__class__"))
  hn_InvalidWord : PySem.W.specialIn K (.builtin "object.__class__") "__get__" = some (some (.builtin "getset_descriptor.__get__"))
  ht_InvalidWord : PySem.W.takesIn K (.builtin "object.__class__") = some true
  hm_InvalidWord : PySem.W.mroIn K A.C_InvalidWord (.type "object") = some true
  no_word_InvalidWord : PySem.W.findIn K (.ref A.C_InvalidWord) "word" = some none
  ki_InvalidWord : PySem.W.kitOne K (.ref A.C_InvalidWord) (.ref A.C_InvalidWord) = some true
  kv_InvalidWord : PySem.W.kitOne K (.ref A.C_InvalidWord) (.type "ValueError") = some true
  oex_InvalidWord : OexC K A.C_InvalidWord
  exk_InvalidWord : ExcK K A.C_InvalidWord
  xf_InvalidWord : XfC K A.C_InvalidWord
  ex_self_InvalidWord : PySem.W.exmOne K (.ref A.C_InvalidWord) (.ref A.C_InvalidWord) = some true
  exm_StopError_InvalidWord : PySem.W.exmOne K (.ref A.C_InvalidWord) (.ref A.C_StopError) = some true
  c_NO_WORD : ∃ t, mg "NO_WORD" = some (.str "no word" t)
  c_DIGITS : ∃ t, mg "DIGITS" = some (.str "0123456789" t)
  c_MOST_DIGITS : ∃ t, mg "MOST_DIGITS" = some (.int 30 t)
  c_KINDS : ∃ a, mg "KINDS" = some (.ref a) ∧ ∀ H, SqT K H a [.str (SX.S cAt), .str (SX.S cBe)]
  z_abs : mg "abs" = none
  z_all : mg "all" = none
  g_gcd : mg "gcd" = some (.builtin "math.gcd")
  z_int : mg "int" = none
  z_len : mg "len" = none
  z_str : mg "str" = none
section
variable {P : Program} {w : World} {K : PySem.W.Frag} {mg : Str → Option Value} {base : Heap} {A : Adr}
theorem sc_InvalidWord___init__ : FnScope N_InvalidWord___init__ ["self", "word"] (defScope s_InvalidWord___init__) := ⟨rfl, rfl, rfl, by decide +kernel, rfl, by decide +kernel, by decide +kernel⟩
theorem ok_InvalidWord___init__ (T : Txt K mg A) : FnOk P w K mg base CX0 1 A.f_InvalidWord___init__ A.d_InvalidWord___init__ ["self", "word"] (spExcInit A.C_InvalidWord "word") := by
  refine T.F_InvalidWord___init__.ok sc_InvalidWord___init__ (fun vs H Q E h => ?_) (fun cdv Ar outer s H vs Q E hr h => ?_)
  · obtain ⟨a, v, rfl, _⟩ := h
    rfl
  · obtain ⟨a, v, rfl, ha, k⟩ := h
    refine ⟨_, (pss_one (ps_ost (pv 0) (pv 1))), ?_⟩
    exact ⟨_, rfl, _, rfl, a, A.C_InvalidWord, rfl, T.oex_InvalidWord, T.no_word_InvalidWord, .inl ⟨ha, k⟩⟩
theorem sc_compare : FnScope N_compare ["a", "b"] (defScope s_compare) := ⟨rfl, rfl, rfl, by decide +kernel, rfl, by decide +kernel, by decide +kernel⟩

def cmpF (x y : Int) : Int := if x < y then -1 else if y < x then 1 else 0
def spCompare (K : PySem.W.Frag) : Sp := fun vs H Q _ => ∃ (p q : Addr) (a b c d : Int), vs = [.ref p, .ref q] ∧ SqT K H p [.int a, .int b] ∧ SqT K H q [.int c, .int d] ∧ a.natAbs < 2 ^ 240 ∧ b.natAbs < 2 ^ 240 ∧ c.natAbs < 2 ^ 240 ∧ d.natAbs < 2 ^ 240 ∧ b ≠ 0 ∧ d ≠ 0 ∧ Q (.int (cmpF (a * d) (c * b))) H
theorem ok_compare (T : Txt K mg A) : FnOk P w K mg base CX0 1 A.f_compare A.d_compare ["a", "b"] (spCompare K) := by
  refine T.F_compare.ok sc_compare (fun vs H Q E h => ?_) (fun cdv Ar outer s H vs Q E hr h => ?_)
  · obtain ⟨p, q, a, b, c, d, rfl, _⟩ := h
    rfl
  · obtain ⟨p, q, a, b, c, d, rfl, hA, hB, ha, hb, hc, hd, b0, d0, k⟩ := h
    refine ⟨_, (pss_cons (ps_set (i := 2) sc_compare.nd rfl (Or.inl rfl) (pe_op op_mulW (pe_ix ix_tup (pv 0) pe_int (fun _ _ => rfl)) (pe_ix ix_tup (pv 1) pe_int (fun _ _ => rfl))))
      (pss_cons (ps_set (i := 3) sc_compare.nd rfl (Or.inl rfl) (pe_op op_mulW (pe_ix ix_tup (pv 1) pe_int (fun _ _ => rfl)) (pe_ix ix_tup (pv 0) pe_int (fun _ _ => rfl))))
      (pss_cons (ps_if (pt_cmpR op_lt (pv 2) (pv 3) (nomark _)) (pss_one (ps_ret (pe_un un_neg pe_int))) pss_nil)
      (pss_cons (ps_if (pt_cmpR op_gt (pv 2) (pv 3) (nomark _)) (pss_one (ps_ret pe_int)) pss_nil)
      (pss_one (ps_ret pe_int)))))), ?_⟩
    apply q_set
    case h => (repeat' (first | (exact val_ixT (val_var rfl) val_c hA rfl) | (exact val_ixT (val_var rfl) val_c hB rfl) | exact val_var rfl | exact val_c | exact va_nil | with_reducible apply va_cons | with_reducible apply val_op0 | with_reducible apply val_un | with_reducible apply val_abs | with_reducible apply val_int| with_reducible apply val_gcd | with_reducible apply val_gcdc | with_reducible apply val_isB | with_reducible apply val_notB | with_reducible apply val_chain | with_reducible apply val_eq | with_reducible apply val_ne | with_reducible apply val_andV | with_reducible apply val_orV | with_reducible apply val_notV | with_reducible apply val_opC | with_reducible apply ans_of | with_reducible apply ans_B | with_reducible apply ans_not | with_reducible apply ans_and' | with_reducible apply ans_or' | with_reducible intro _ | (show scal _ _ = true; rfl) | exact wide_mul (by assumption) (by assumption) (by decide) (by decide) (by decide)))
    apply q_set
    case h => (repeat' (first | (exact val_ixT (val_var rfl) val_c hA rfl) | (exact val_ixT (val_var rfl) val_c hB rfl) | exact val_var rfl | exact val_c | exact va_nil | with_reducible apply va_cons | with_reducible apply val_op0 | with_reducible apply val_un | with_reducible apply val_abs | with_reducible apply val_int| with_reducible apply val_gcd | with_reducible apply val_gcdc | with_reducible apply val_isB | with_reducible apply val_notB | with_reducible apply val_chain | with_reducible apply val_eq | with_reducible apply val_ne | with_reducible apply val_andV | with_reducible apply val_orV | with_reducible apply val_notV | with_reducible apply val_opC | with_reducible apply ans_of | with_reducible apply ans_B | with_reducible apply ans_not | with_reducible apply ans_and' | with_reducible apply ans_or' | with_reducible intro _ | (show scal _ _ = true; rfl) | exact wide_mul (by assumption) (by assumption) (by decide) (by decide) (by decide)))
    apply q_when
    case h => (repeat' (first | exact val_var rfl | exact val_c | exact va_nil | with_reducible apply va_cons | with_reducible apply val_op0 | with_reducible apply val_un | with_reducible apply val_abs | with_reducible apply val_int| with_reducible apply val_gcd | with_reducible apply val_gcdc | with_reducible apply val_isB | with_reducible apply val_notB | with_reducible apply val_chain | with_reducible apply val_eq | with_reducible apply val_ne | with_reducible apply val_andV | with_reducible apply val_orV | with_reducible apply val_notV | with_reducible apply val_opC | with_reducible apply ans_of | with_reducible apply ans_B | with_reducible apply ans_not | with_reducible apply ans_and' | with_reducible apply ans_or' | with_reducible intro _ | (show scal _ _ = true; rfl) | exact wide_mul (by assumption) (by assumption) (by decide) (by decide) (by decide)))
    case h1 =>
      intro z
      apply s_ret
      case h => (repeat' (first | exact val_var rfl | exact val_c | exact va_nil | with_reducible apply va_cons | with_reducible apply val_op0 | with_reducible apply val_un | with_reducible apply val_abs | with_reducible apply val_int| with_reducible apply val_gcd | with_reducible apply val_gcdc | with_reducible apply val_isB | with_reducible apply val_notB | with_reducible apply val_chain | with_reducible apply val_eq | with_reducible apply val_ne | with_reducible apply val_andV | with_reducible apply val_orV | with_reducible apply val_notV | with_reducible apply val_opC | with_reducible apply ans_of | with_reducible apply ans_B | with_reducible apply ans_not | with_reducible apply ans_and' | with_reducible apply ans_or' | with_reducible intro _ | (show scal _ _ = true; rfl) | exact wide_mul (by assumption) (by assumption) (by decide) (by decide) (by decide)))
      rw [show cmpF (a * d) (c * b) = -1 from if_pos (of_decide_eq_true z)] at k
      exact k
    case h2 =>
      intro z
      apply q_when
      case h => (repeat' (first | exact val_var rfl | exact val_c | exact va_nil | with_reducible apply va_cons | with_reducible apply val_op0 | with_reducible apply val_un | with_reducible apply val_abs | with_reducible apply val_int| with_reducible apply val_gcd | with_reducible apply val_gcdc | with_reducible apply val_isB | with_reducible apply val_notB | with_reducible apply val_chain | with_reducible apply val_eq | with_reducible apply val_ne | with_reducible apply val_andV | with_reducible apply val_orV | with_reducible apply val_notV | with_reducible apply val_opC | with_reducible apply ans_of | with_reducible apply ans_B | with_reducible apply ans_not | with_reducible apply ans_and' | with_reducible apply ans_or' | with_reducible intro _ | (show scal _ _ = true; rfl) | exact wide_mul (by assumption) (by assumption) (by decide) (by decide) (by decide)))
      case h1 =>
        intro z2
        apply s_ret
        case h => (repeat' (first | exact val_var rfl | exact val_c | exact va_nil | with_reducible apply va_cons | with_reducible apply val_op0 | with_reducible apply val_un | with_reducible apply val_abs | with_reducible apply val_int| with_reducible apply val_gcd | with_reducible apply val_gcdc | with_reducible apply val_isB | with_reducible apply val_notB | with_reducible apply val_chain | with_reducible apply val_eq | with_reducible apply val_ne | with_reducible apply val_andV | with_reducible apply val_orV | with_reducible apply val_notV | with_reducible apply val_opC | with_reducible apply ans_of | with_reducible apply ans_B | with_reducible apply ans_not | with_reducible apply ans_and' | with_reducible apply ans_or' | with_reducible intro _ | (show scal _ _ = true; rfl) | exact wide_mul (by assumption) (by assumption) (by decide) (by decide) (by decide)))
        rw [show cmpF (a * d) (c * b) = 1 from (if_neg (of_decide_eq_false z)).trans (if_pos (of_decide_eq_true z2))] at k
        exact k
      case h2 =>
        intro z2
        apply s_ret
        case h => (repeat' (first | exact val_var rfl | exact val_c | exact va_nil | with_reducible apply va_cons | with_reducible apply val_op0 | with_reducible apply val_un | with_reducible apply val_abs | with_reducible apply val_int| with_reducible apply val_gcd | with_reducible apply val_gcdc | with_reducible apply val_isB | with_reducible apply val_notB | with_reducible apply val_chain | with_reducible apply val_eq | with_reducible apply val_ne | with_reducible apply val_andV | with_reducible apply val_orV | with_reducible apply val_notV | with_reducible apply val_opC | with_reducible apply ans_of | with_reducible apply ans_B | with_reducible apply ans_not | with_reducible apply ans_and' | with_reducible apply ans_or' | with_reducible intro _ | (show scal _ _ = true; rfl) | exact wide_mul (by assumption) (by assumption) (by decide) (by decide) (by decide)))
        rw [show cmpF (a * d) (c * b) = 0 from (if_neg (of_decide_eq_false z)).trans (if_neg (of_decide_eq_false z2))] at k
        exact k
theorem sc_is_share : FnScope N_is_share ["value"] (defScope s_is_share) := ⟨rfl, rfl, rfl, by decide +kernel, rfl, by decide +kernel, by decide +kernel⟩

def shareB (n d : Int) : Bool := decide (1 ≤ d) && ((decide (0 ≤ n) && decide (n ≤ d)) && decide (V.int ((Nat.gcd n.natAbs d.natAbs : Nat) : Int) = V.int 1))
def spIsShare (K : PySem.W.Frag) : Sp := fun vs H Q _ => ∃ (p : Addr) (n d : Int), vs = [.ref p] ∧ SqT K H p [.int n, .int d] ∧ Q (.bl (shareB n d)) H
theorem ok_is_share (T : Txt K mg A) : FnOk P w K mg base CX0 1 A.f_is_share A.d_is_share ["value"] (spIsShare K) := by
  refine T.F_is_share.ok sc_is_share (fun vs H Q E h => ?_) (fun cdv Ar outer s H vs Q E hr h => ?_)
  · obtain ⟨p, n, d, rfl, _⟩ := h
    rfl
  · obtain ⟨p, n, d, rfl, hT, k⟩ := h
    refine ⟨_, (pss_cons (ps_asg (pv 0) (pg_tup (by rfl) (pgs_cons (pg_name (i := 1) sc_is_share.nd rfl (Or.inl rfl)) (pgs_cons (pg_name (i := 2) sc_is_share.nd rfl (Or.inl rfl)) pgs_nil))))
      (pss_one (ps_ret (pe_and (pe_cmpR op_ge (pv 2) pe_int (nomark _)) (pe_and (pe_chain op_le op_le pe_int (pv 1) (pv 2)) (pe_one (pe_cmpR op_eq (pe_callBfun cr_gcd (by rfl) T.g_gcd (pa_cons (pv 1) (pa_cons (pv 2) pa_nil))) pe_int (nomark _)))))))), ?_⟩
    apply qU2 (val_var rfl) hT
    apply s_ret
    case h => (repeat' (first | exact val_var rfl | exact val_c | exact va_nil | with_reducible apply va_cons | with_reducible apply val_op0 | with_reducible apply val_un | with_reducible apply val_abs | with_reducible apply val_int| with_reducible apply val_gcd | with_reducible apply val_gcdc | with_reducible apply val_isB | with_reducible apply val_notB | with_reducible apply val_chain | with_reducible apply val_eq | with_reducible apply val_ne | with_reducible apply val_andV | with_reducible apply val_orV | with_reducible apply val_notV | with_reducible apply val_opC | with_reducible apply ans_of | with_reducible apply ans_B | with_reducible apply ans_not | with_reducible apply ans_and' | with_reducible apply ans_or' | with_reducible intro _ | (show scal _ _ = true; rfl) | exact wide_mul (by assumption) (by assumption) (by decide) (by decide) (by decide)))
    exact k
theorem sc_is_number : FnScope N_is_number ["text"] (defScope s_is_number) := ⟨rfl, rfl, rfl, by decide +kernel, rfl, by decide +kernel, by decide +kernel⟩
theorem ok_is_number (T : Txt K mg A) : FnOk P w K mg base CX0 1 A.f_is_number A.d_is_number ["text"] spIsNum := by
  obtain ⟨tNO, gNO⟩ := T.c_NO_WORD
  obtain ⟨tDG, gDG⟩ := T.c_DIGITS
  obtain ⟨tMD, gMD⟩ := T.c_MOST_DIGITS
  obtain ⟨aKI, gKI, sKI⟩ := T.c_KINDS
  refine T.F_is_number.ok sc_is_number (fun vs H Q E h => ?_) (fun cdv Ar outer s H vs Q E hr h => ?_)
  · obtain ⟨t, rfl, _⟩ := h
    rfl
  · obtain ⟨t, rfl, hl, k⟩ := h
    refine ⟨_, (pss_cons (ps_if (PW.pt (pw_or (pt_not (pt_chain op_le op_le pe_int (pe_callB call_len_str (by rfl) T.z_len (by decide +kernel) (pa_cons (pv 0) pa_nil)) (pe_glob (v := .int 30) rfl gMD ⟨_, rfl⟩))) (pw_or1 (pt_cmpR op_eq (pe_ix ix_str (pv 0) pe_int (fun _ _ => rfl)) pe_str (nomark _))))) (pss_one (ps_ret pe_bl)) pss_nil)
      (pss_one (ps_ret (pe_callB (cr_all rfl) (by rfl) T.z_all (by decide +kernel) (pa_cons (pe_lc (own := [("letter", 1)]) (g := gName 1) (tt := tYes) rfl sc_is_number.nd (pi_str (pv 0)) (blkOk_by (own := [("letter", 1)]) (N := N_is_number) (sc := defScope s_is_number) (by decide +kernel)) (fun _ _ _ _ _ => (pg_name (i := 1) sc_is_number.nd rfl (Or.inl rfl))) (fun _ _ _ _ _ => pts_nil) (fun _ _ _ _ _ => (pe_cmpR op_inS (pv 1) (pe_glob (v := .str "0123456789") rfl gDG ⟨_, rfl⟩) (by rfl)))) pa_nil))))), ?_⟩
    have hz : (SX.S t).length ≤ sizeLine := by
      rw [SX.S_len]
      show _ ≤ 2 ^ 24
      omega
    have e1 : ((SX.S t).length : Int) = (t.length : Int) := by rw [SX.S_len]
    refine Evl.q_when (b := !((decide ((1 : Int) ≤ ((SX.S t).length : Int))) && (decide (((SX.S t).length : Int) ≤ 30))) || decide (t.head? = some 48)) (Evl.et_or (Evl.et_not (et_ans fun H1 _ => ans_of (val_chain val_c (val_cb (va_cons (val_var rfl) va_nil) fun Q q => ⟨_, rfl, hz, q⟩) val_c))) fun z => ?_) (fun z H1 e => ?_) (fun z H1 e => ?_)
    · cases t with
      | nil =>
        rw [e1] at z
        cases z
      | cons c r =>
        refine Evl.et_is (Evl.et_test (er_ev (er_eq (v := .str ⟨#[c]⟩) (w := .str "0") (er_val fun H1 _ => ?_) er_c rfl))) ?_
        · exact fun Q q => ⟨_, rfl, _, 0, c, rfl, rfl, hz, (by unfold atI ixN; rw [if_pos (by decide), if_pos (by show (0 : Int) < ((c :: r).length : Int); rw [List.length_cons]; omega)]; rfl), q⟩
        · rw [e_ze]
          refine decide_eq_decide.mpr ⟨fun h => ?_, fun h => ?_⟩
          · have := SX.S_inj (a := [c]) (b := [48]) (V.str.inj h)
            show some c = some 48
            rw [List.cons.inj this |>.1]
          · have h2 : c = 48 := Option.some.inj h
            rw [h2]
    · refine sR (val_c.at ?_)
      have e2 : isNum t = false := by
        unfold isNum
        rw [e1] at z
        rcases Bool.or_eq_true_iff.mp z with h | h
        · have h2 : ((decide ((1 : Int) ≤ (t.length : Int))) && (decide ((t.length : Int) ≤ 30))) = false := by rw [Bool.not_eq_true'] at h; exact h
          have h3 : (decide (1 ≤ t.length) && decide (t.length ≤ 30)) = false := by
            rw [← h2]
            congr 1
            · exact decide_eq_decide.mpr ⟨fun _ => by omega, fun _ => by omega⟩
            · exact decide_eq_decide.mpr ⟨fun _ => by omega, fun _ => by omega⟩
          rw [h3]
          rfl
        · rw [h]
          simp
      rw [← e2]
      exact k H1 e
    · rw [e1] at z
      obtain ⟨z1, z2⟩ := Bool.or_eq_false_iff.mp z
      have e3 : isNum t = t.all isDig := by
        unfold isNum
        have h2 : ((decide ((1 : Int) ≤ (t.length : Int))) && (decide ((t.length : Int) ≤ 30))) = true := by rw [Bool.not_eq_false'] at z1; exact z1
        have h3 : (decide (1 ≤ t.length) && decide (t.length ≤ 30)) = true := by
          rw [← h2]
          congr 1
          · exact decide_eq_decide.mpr ⟨fun _ => by omega, fun _ => by omega⟩
          · exact decide_eq_decide.mpr ⟨fun _ => by omega, fun _ => by omega⟩
        rw [h3, z2]
        rfl
      refine sR ⟨_, rfl, _, rfl, fun D hD => ?_⟩
      refine lcS (z := SX.S t) isDig hD (by show t.toArray.size ≤ sizeLine; rw [List.size_toArray]; show _ ≤ 2 ^ 24; omega) (fun c H2 s2 => ?_) (fun H2 s2 h2 => ?_)
      · have := val_to (v := .bl (isDig c)) (w := .bl (decide (c ∈ (SX.S [48, 49, 50, 51, 52, 53, 54, 55, 56, 57]).cps.toList))) (te := tOp rInS (tVar 1) (tC (.str "0123456789"))) (σ := [some (.str (SX.S t)), some (.str ⟨#[c]⟩)]) (H := H2) (fun Q q => ⟨_, rfl, c, _, rfl, by rw [e_dg], q⟩) (by rw [in_dig])
        exact this
      · refine ⟨D, t.map isDig, rfl, SqL.of h2, ?_⟩
        have e4 : (t.map isDig).all id = t.all isDig := by rw [List.all_map]; rfl
        rw [e4, ← e3]
        exact k H2 (Same.trans e s2)
theorem sc__read_share : FnScope N__read_share ["word", "text"] (defScope s__read_share) := ⟨rfl, rfl, rfl, by decide +kernel, rfl, by decide +kernel, by decide +kernel⟩

theorem share_ok {n d : Nat} : (!(shareB (n : Int) (d : Int)) || ((n : Int) == 1 && (d : Int) == 1)) = !okSh n d := by
  unfold shareB okSh
  have e1 : decide ((1 : Int) ≤ (d : Int)) = decide (1 ≤ d) := decide_eq_decide.mpr (by omega)
  have e2 : decide ((0 : Int) ≤ (n : Int)) = true := decide_eq_true (by omega)
  have e3 : decide ((n : Int) ≤ (d : Int)) = decide (n ≤ d) := decide_eq_decide.mpr (by omega)
  have e4 : decide (V.int ((Nat.gcd (n : Int).natAbs (d : Int).natAbs : Nat) : Int) = V.int 1) = decide (Nat.gcd n d = 1) := decide_eq_decide.mpr ⟨fun h => by have := V.int.inj h; rw [Int.natAbs_natCast, Int.natAbs_natCast] at this; omega, fun h => by rw [Int.natAbs_natCast, Int.natAbs_natCast, h]; rfl⟩
  have e5 : ((n : Int) == 1) = decide (n = 1) := by rw [show ((n : Int) == 1) = decide ((n : Int) = 1) from rfl]; exact decide_eq_decide.mpr (by omega)
  have e6 : ((d : Int) == 1) = decide (d = 1) := by rw [show ((d : Int) == 1) = decide ((d : Int) = 1) from rfl]; exact decide_eq_decide.mpr (by omega)
  rw [e1, e2, e3, e4, e5, e6]
  cases decide (1 ≤ d) <;> cases decide (n ≤ d) <;> cases decide (Nat.gcd n d = 1) <;> cases decide (n = 1) <;> cases decide (d = 1) <;> rfl
theorem ok__read_share (T : Txt K mg A) : FnOk P w K mg base (L2.CX P w) 3 A.f__read_share A.d__read_share ["word", "text"] (spReadShare A.C_InvalidWord) := by
  have GInvalidWord___init__ := ok_InvalidWord___init__ (P := P) (w := w) (base := base) T
  have Gis_number := ok_is_number (P := P) (w := w) (base := base) T
  have Gis_share := ok_is_share (P := P) (w := w) (base := base) T
  refine T.F__read_share.okX sc__read_share (fun vs H Q E h => ?_) (fun cdv Ar outer s H vs Q E hr h => ?_)
  · obtain ⟨w, t, rfl, _⟩ := h
    rfl
  · obtain ⟨w, t, rfl, hl, k⟩ := h
    refine ⟨_, (pss_cons (ps_set (i := 2) sc__read_share.nd rfl (Or.inl rfl) (pe_split (pv 1) pe_str))
      (pss_cons (ps_if (PW.pt (pw_or (pt_cmpR op_ne (pe_callB call_len_seq (by rfl) T.z_len (by decide +kernel) (pa_cons (pv 2) pa_nil)) pe_int (nomark _)) (pw_or (pt_not (pt_val (pe_call Gis_number (hr.mono (by decide)) rfl T.g_is_number T.k_is_number T.b_is_number .nil pass0 (pa_cons (pe_ix ix_list (pv 2) pe_int (fun _ _ => rfl)) pa_nil)))) (pw_or1 (pt_not (pt_val (pe_call Gis_number (hr.mono (by decide)) rfl T.g_is_number T.k_is_number T.b_is_number .nil pass0 (pa_cons (pe_ix ix_list (pv 2) pe_int (fun _ _ => rfl)) pa_nil)))))))) (pss_one (ps_raise rfl (takes_of rfl rfl rfl rfl) (pmk_oex T.oex_InvalidWord T.m_InvalidWord___init__ T.t_InvalidWord___init__ GInvalidWord___init__ (hr.mono (by decide)) T.b_InvalidWord___init__ .nil passF rfl T.g_InvalidWord (pa_cons (pv 0) pa_nil)))) pss_nil)
      (pss_cons (ps_set (i := 3) sc__read_share.nd rfl (Or.inl rfl) (pe_tup (pa_cons (pe_callTy call_int_str (by rfl) T.z_int (by decide +kernel) (pa_cons (pe_ix ix_list (pv 2) pe_int (fun _ _ => rfl)) pa_nil)) (pa_cons (pe_callTy call_int_str (by rfl) T.z_int (by decide +kernel) (pa_cons (pe_ix ix_list (pv 2) pe_int (fun _ _ => rfl)) pa_nil)) pa_nil))))
      (pss_cons (ps_if (PW.pt (pw_or (pt_not (pt_val (pe_call Gis_share (hr.mono (by decide)) rfl T.g_is_share T.k_is_share T.b_is_share .nil pass0 (pa_cons (pv 3) pa_nil)))) (pw_or1 (pt_cmpR (op_eqD hr.units) (pv 3) (pe_tup (pa_cons pe_int (pa_cons pe_int pa_nil))) (nomark _))))) (pss_one (ps_raise rfl (takes_of rfl rfl rfl rfl) (pmk_oex T.oex_InvalidWord T.m_InvalidWord___init__ T.t_InvalidWord___init__ GInvalidWord___init__ (hr.mono (by decide)) T.b_InvalidWord___init__ .nil passF rfl T.g_InvalidWord (pa_cons (pv 0) pa_nil)))) pss_nil)
      (pss_one (ps_ret (pv 3))))))), ?_⟩
    refine qS ⟨_, rfl, ⟨_, rfl⟩, _, _, rfl, rfl, by decide, by rw [SX.S_len]; show _ ≤ 2 ^ 24; omega, fun p hp => ?_⟩
    have esp : Txt.split (SX.S t) "/" = (TL.spl [47] 0 [] t).map SX.S := by
      rw [e_sl]
      exact SX.split_S (by decide) (by decide)
    rw [esp]
    have hps : SqL K (upd H p (.lst (((TL.spl [47] 0 [] t).map SX.S).map V.str))) p (((TL.spl [47] 0 [] t).map SX.S).map V.str) := SqL.of upd_same
    have s1 : Same H (upd H p (.lst (((TL.spl [47] 0 [] t).map SX.S).map V.str))) := same_upd hp
    have hlen : ∀ q ∈ TL.spl [47] 0 [] t, q.length ≤ 1000 := fun q hq => by
      have := spl_le 47 t [] q hq
      have e0 : ([] : List Nat).length = 0 := rfl
      omega
    have hrd : rdShare t = match TL.spl [47] 0 [] t with
      | [p, q] => if isNum p && isNum q && okSh (nVal p) (nVal q) then some (nVal p, nVal q) else none
      | _ => none := rfl
    generalize upd H p (.lst (((TL.spl [47] 0 [] t).map SX.S).map V.str)) = H1 at hps s1 ⊢
    generalize TL.spl [47] 0 [] t = ps at *
    by_cases h2 : ps.length = 2
    · obtain ⟨a, b, rfl⟩ : ∃ a b, ps = [a, b] := by
        match ps, h2 with
        | [a, b], _ => exact ⟨a, b, rfl⟩
      have la := hlen a (by simp)
      have lb := hlen b (by simp)
      have hrd2 : rdShare t = if isNum a && isNum b && okSh (nVal a) (nVal b) then some (nVal a, nVal b) else none := hrd
      have pv : ∀ {H2 : Hp} {σ : L2.St}, Same H1 H2 → σ[2]? = some (some (.ref p)) → EvR (tVar 2) σ H2 (isVs K [.str (SX.S a), .str (SX.S b)]) := fun e z => er_var z ⟨p, rfl, Same.seq e hps⟩
      refine Evl.q_when (b := false || (!isNum a || !isNum b)) (Evl.et_or (t_no (er_ne (er_lenV (K := K) (pv (Same.refl _) rfl)) er_c rfl) (by simp)) fun _ => Evl.et_or (Evl.et_not (Evl.et_B (er_ev (er_isNum (er_ixV (K := K) (n := 0) (pv (Same.refl _) rfl) er_c (Lk.atI_nat (j := 0) rfl)) la)))) fun _ => Evl.et_not (Evl.et_B (er_ev (er_isNum (er_ixV (K := K) (n := 1) (pv (Same.refl _) rfl) er_c (Lk.atI_nat (j := 1) rfl)) lb)))) (fun z H2 e2 => ?_) (fun z H2 e2 => ?_)
      · have hn : rdShare t = none := by
          rw [hrd2]
          refine if_neg ?_
          cases ha : isNum a with
          | false => simp
          | true =>
            rw [ha] at z
            have hb : isNum b = false := by simpa using z
            rw [hb]
            simp
        rcases k with ⟨_, k⟩ | ⟨n, d, h, _⟩
        · refine ⟨_, rfl, ⟨(by show 1 ≤ 1000; decide), fun e he => ?_⟩⟩
          refine ⟨e, _, rfl, upd_same, fun dx hdx hda => ?_⟩
          have hdx0 : H2 dx = none := by rw [upd_ne hda] at hdx; exact hdx
          refine ⟨rfl, dx, [("word", .str w)], upd_same, ?_, hdx0, ?_⟩
          · rw [upd_ne hda]
            exact upd_same
          · exact raised_end he hdx0 hda (k.back (s1.trans e2))
        · rw [hn] at h
          cases h
      · have ha : isNum a = true := by
          cases q : isNum a with
          | true => rfl
          | false => rw [q] at z; simp at z
        have hb : isNum b = true := by
          cases q : isNum b with
          | true => rfl
          | false => rw [q] at z; simp at z
        have iv : ∀ {c : List Nat} {j : Nat} {H3 : Hp}, isNum c = true → [V.str (SX.S a), V.str (SX.S b)][j]? = some (.str (SX.S c)) → Same H2 H3 → Val (tCB (fun xs H Q => ∃ a n, xs = [V.str a] ∧ PySem.intText? a = some n ∧ a.length ≤ 640 ∧ Q (V.int n) H) (tCons (tOp (rIxL K) (tVar 2) (tC (.int (j : Int)))) tNil)) [some (.str w), some (.str (SX.S t)), some (.ref p), none] H3 (.int ((nVal c : Nat) : Int)) := fun {c j H3} hc hj e3 => val_cb (va_cons (val_ixL (val_var rfl) val_c (Same.seq e3 (Same.seq e2 hps)) (Lk.atI_nat hj)) va_nil) fun Q q => ⟨_, _, rfl, isNum_int hc, by rw [SX.S_len]; have := (isNum_len hc).2.1; omega, q⟩
        refine q_asgR (er_tp (n := ((nVal a : Nat) : Int)) (d := ((nVal b : Nat) : Int)) fun H3 s3 => va_cons (iv (j := 0) ha rfl s3) (va_cons (iv (j := 1) hb rfl s3) va_nil)) (fun v H3 s3 hv => ?_)
        obtain ⟨q, rfl, hq⟩ := hv
        have si : ∀ {σ : L2.St} {H : Hp} {te : TE} {n d : Int} {E : XK}, EvR te σ H (isPr n d) → EvR (tCall (spIsShare K) [] E (tCons te tNil)) σ H (isV (.bl (shareB n d))) := fun h => er_call1 h fun H1 _ ⟨p, ex, hx⟩ Q k => ⟨p, _, _, by rw [ex], SqT.of hx, k _ H1 (Same.refl _) rfl⟩
        refine Evl.q_when (b := !(shareB ((nVal a : Nat) : Int) ((nVal b : Nat) : Int)) || (((nVal a : Nat) : Int) == 1 && ((nVal b : Nat) : Int) == 1)) (Evl.et_or (Evl.et_not (Evl.et_B (er_ev (si (er_var rfl ⟨q, rfl, hq⟩))))) fun _ => Evl.et_test (er_ev (er_eq2 (K := K) (er_var rfl ⟨q, rfl, hq⟩) (er_tp (n := 1) (d := 1) fun _ _ => va_cons val_c (va_cons val_c va_nil))))) (fun z2 H4 e4 => ?_) (fun z2 H4 e4 => ?_)
        · rw [share_ok] at z2
          have ho : okSh (nVal a) (nVal b) = false := by simpa using z2
          rcases k with ⟨_, k⟩ | ⟨n, d, h, _⟩
          · refine ⟨_, rfl, ⟨(by show 1 ≤ 1000; decide), fun e he => ?_⟩⟩
            refine ⟨e, _, rfl, upd_same, fun dx hdx hda => ?_⟩
            have hdx0 : H4 dx = none := by rw [upd_ne hda] at hdx; exact hdx
            refine ⟨rfl, dx, [("word", .str w)], upd_same, ?_, hdx0, ?_⟩
            · rw [upd_ne hda]
              exact upd_same
            · exact raised_end he hdx0 hda (k.back (((s1.trans e2).trans s3).trans e4))
          · rw [hrd2, ho, ha, hb] at h
            cases h
        · rw [share_ok] at z2
          have ho : okSh (nVal a) (nVal b) = true := by simpa using z2
          rcases k with ⟨h, _⟩ | ⟨n, d, h, k⟩
          · rw [hrd2, ho, ha, hb] at h
            cases h
          · rw [hrd2, ho, ha, hb] at h
            obtain ⟨rfl, rfl⟩ := Prod.mk.inj (Option.some.inj h)
            exact sR ⟨_, rfl, k q H4 (((s1.trans e2).trans s3).trans e4) (e4 _ _ hq)⟩
    · have hn : rdShare t = none := by
        rw [hrd]
        match ps, h2 with
        | [], _ => rfl
        | [_], _ => rfl
        | _ :: _ :: _ :: _, _ => rfl
        | [_, _], h => exact absurd rfl h
      have hnb : (!decide (V.int (((ps.map SX.S).map V.str).length : Int) = V.int 2)) = true := by
        rw [List.length_map, List.length_map]
        simp only [Bool.not_eq_true', decide_eq_false_iff_not]
        intro q
        have := V.int.inj q
        omega
      refine Evl.q_when (b := true) (Evl.et_is (Evl.et_or (b := true) (Evl.et_test (er_ev (er_ne (er_lenV (K := K) (er_var (i := 2) rfl ⟨p, rfl, hps⟩)) er_c rfl))) fun z => absurd z (by rw [hnb]; decide)) (by rw [hnb]; rfl)) (fun z H2 e2 => ?_) (fun z => nomatch z)
      rcases k with ⟨_, k⟩ | ⟨n, d, h, _⟩
      · refine ⟨_, rfl, ⟨(by show 1 ≤ 1000; decide), fun e he => ?_⟩⟩
        refine ⟨e, _, rfl, upd_same, fun dx hdx hda => ?_⟩
        have hdx0 : H2 dx = none := by rw [upd_ne hda] at hdx; exact hdx
        refine ⟨rfl, dx, [("word", .str w)], upd_same, ?_, hdx0, ?_⟩
        · rw [upd_ne hda]
          exact upd_same
        · exact raised_end he hdx0 hda (k.back (s1.trans e2))
      · rw [hn] at h
        cases h
theorem sc_read_word : FnScope N_read_word ["word"] (defScope s_read_word) := ⟨rfl, rfl, rfl, by decide +kernel, rfl, by decide +kernel, by decide +kernel⟩

theorem pre_no {b : Bool} {l : List Nat} (h : l = cNo) : TL.pre (kTxt b ++ [32]) l = false := by
  subst h
  cases b <;> decide
/-- the two kinds, in their order -/
def kAt (i : Nat) : Bool := decide (i = 0)
theorem ok_read_word (T : Txt K mg A) : FnOk P w K mg base (L2.CX P w) 5 A.f_read_word A.d_read_word ["word"] (spReadWord A.C_InvalidWord) := by
  have GInvalidWord___init__ := ok_InvalidWord___init__ (P := P) (w := w) (base := base) T
  have G_read_share := ok__read_share (P := P) (w := w) (base := base) T
  obtain ⟨tNO, gNO⟩ := T.c_NO_WORD
  obtain ⟨tDG, gDG⟩ := T.c_DIGITS
  obtain ⟨tMD, gMD⟩ := T.c_MOST_DIGITS
  obtain ⟨aKI, gKI, sKI⟩ := T.c_KINDS
  refine T.F_read_word.okX sc_read_word (fun vs H Q E h => ?_) (fun cdv Ar outer s H vs Q E hr h => ?_)
  · obtain ⟨l, rfl, _⟩ := h
    rfl
  · obtain ⟨l, rfl, hl, k⟩ := h
    refine ⟨_, (pss_cons (ps_if (pt_cmpR op_eq (pv 0) (pe_glob (v := .str "no word") rfl gNO ⟨_, rfl⟩) (nomark _)) (pss_one (ps_ret (pe_tup (pa_cons (pe_glob (v := .str "no word") rfl gNO ⟨_, rfl⟩) (pa_cons pe_non pa_nil))))) pss_nil)
      (pss_cons (ps_for (passes_of rfl) rfl (pi_tup (pe_glob (v := .ref aKI) rfl gKI rfl)) (pg_name (i := 1) sc_read_word.nd rfl (Or.inl rfl)) (pss_one (ps_if (pt_val (pe_m1 F.slot_str_startswith F.type_str_startswith mt_startswith (pv 0) (pe_op op_add_str (pv 1) pe_str))) (pss_one (ps_ret (pe_tup (pa_cons (pv 1) (pa_cons (pe_callS G_read_share (hr.mono (by decide)) rfl T.g__read_share T.k__read_share T.b__read_share (fun σ => passAt (takes_of rfl rfl rfl rfl) σ) (pa_cons (pv 0) (pa_cons (pe_slice C8.sl_txt (pv 0) (po_some (pe_op op_add (pe_callB call_len_str (by rfl) T.z_len (by decide +kernel) (pa_cons (pv 1) pa_nil)) pe_int)) po_none) pa_nil))) pa_nil))))) pss_nil)))
      (pss_one (ps_raise rfl (takes_of rfl rfl rfl rfl) (pmk_oex T.oex_InvalidWord T.m_InvalidWord___init__ T.t_InvalidWord___init__ GInvalidWord___init__ (hr.mono (by decide)) T.b_InvalidWord___init__ .nil passF rfl T.g_InvalidWord (pa_cons (pv 0) pa_nil)))))), ?_⟩
    refine Evl.q_when (b := decide (l = cNo)) (Evl.et_is (Evl.et_test (er_ev (er_eq (er_var rfl rfl) er_c rfl))) (by rw [e_no]; exact decide_eq_decide.mpr ⟨fun h => SX.S_inj (V.str.inj h), fun h => by rw [h]⟩)) (fun z H1 e1 => ?_) (fun z H1 e1 => ?_)
    · have hl2 : l = cNo := of_decide_eq_true z
      rcases k with ⟨_, k⟩ | ⟨h, _⟩ | ⟨h, _⟩
      · refine sR ⟨(by show 2 ≤ sizeLine; decide), fun p hp => k p _ (Same.trans e1 (same_upd hp)) ?_⟩
        rw [upd_same, e_no]
      · exact absurd hl2 h
      · exact absurd hl2 h
    have hl2 : l ≠ cNo := of_decide_eq_false z
    refine ⟨aKI, rfl, ⟨_, sKI H1⟩, for_tup (K := K) (a := aKI) (xs := [.str (SX.S cAt), .str (SX.S cBe)]) (fun i σ' H' => (∃ v1, σ' = [some (.str (SX.S l)), v1]) ∧ Same H H' ∧ (1 ≤ i → TL.pre (cAt ++ [32]) l = false) ∧ (2 ≤ i → TL.pre (cBe ++ [32]) l = false)) ⟨⟨none, rfl⟩, e1, fun q => absurd q (by decide), fun q => absurd q (by decide)⟩ (fun i σ' H' _ _ => sKI H') ?_ ?_⟩
    · rintro i y σ' H' hi ⟨⟨v1, rfl⟩, s', p1, p2⟩
      have hb : ∃ b, y = .str (SX.S (kTxt b)) ∧ i = (if b then 0 else 1) := by
        match i, hi with
        | 0, hi => exact ⟨true, (Option.some.inj hi).symm, rfl⟩
        | 1, hi => exact ⟨false, (Option.some.inj hi).symm, rfl⟩
        | i + 2, hi => simp at hi
      obtain ⟨b, rfl, ei⟩ := hb
      have kz : (SX.S (kTxt b)).length + ((" " : Str)).length ≤ sizeLine := by
        rw [e_sp, SX.S_len, SX.S_len, k_len]
        show _ + 1 ≤ 2 ^ 24
        split <;> decide
      have ecat : SX.S (kTxt b) ++ (" " : Str) = SX.S (kTxt b ++ [32]) := by rw [e_sp, SX.S_cat]
      refine s_when (b := TL.pre (kTxt b ++ [32]) l) (ans_B fun Q q => ⟨_, rfl, ⟨_, rfl⟩, _, rfl, _, _, rfl, rfl, kz, _, _, rfl, rfl, by rw [ecat, starts_S (by cases b <;> decide)]; exact q⟩) (fun z => ?_) (fun z => ?_)
      · have erd : rdWord l = (rdShare (l.drop (if b then 9 else 6))).map fun q => (b, q) := by
          unfold rdWord
          cases b with
          | true => rw [if_pos (show TL.pre (cAt ++ [32]) l = true from z)]; rfl
          | false =>
            rw [if_neg (by rw [p1 (by rw [ei]; decide)]; decide), if_pos (show TL.pre (cBe ++ [32]) l = true from z)]
            rfl
        have hz : (SX.S l).length ≤ sizeLine := by
          rw [SX.S_len]
          show _ ≤ 2 ^ 24
          omega
        have hz2 : (SX.S (kTxt b)).length ≤ sizeLine := by
          rw [SX.S_len, k_len]
          show _ ≤ 2 ^ 24
          split <;> decide
        have ecut : Txt.slice (SX.S l) (some (((SX.S (kTxt b)).length : Int) + 1)) none = SX.S (l.drop (if b then 9 else 6)) := by
          rw [SX.slice_from (by omega), SX.S_len, k_len]
          cases b <;> rfl
        refine sR ⟨_, rfl, _, rfl, _, rfl, _, rfl, _, rfl, hz2, _, _, rfl, rfl, _, rfl, _, rfl, hz, ?_⟩
        rw [ecut]
        refine ⟨SX.S l, l.drop (if b then 9 else 6), rfl, by rw [List.length_drop]; omega, ?_⟩
        rcases k with ⟨h, _⟩ | ⟨_, h, k⟩ | ⟨_, b', n, d, h, k⟩
        · exact absurd h hl2
        · rw [erd, Option.map_eq_none_iff] at h
          exact .inl ⟨h, k.back s'⟩
        · rw [erd] at h
          obtain ⟨z, h1, h2⟩ := Option.map_eq_some_iff.mp h
          obtain ⟨rfl, rfl⟩ := Prod.mk.inj h2
          refine .inr ⟨n, d, h1, fun q H2 s2 hq => ⟨(by show 2 ≤ sizeLine; decide), fun p hp => k p q _ ((s'.trans s2).trans (same_upd hp)) ((same_upd hp) _ _ hq) upd_same⟩⟩
      · refine ⟨⟨_, rfl⟩, s', fun h => ?_, fun h => ?_⟩
        · cases b with
          | true => exact z
          | false => exact p1 (by rw [ei]; decide)
        · cases b with
          | true => rw [ei] at h; exact absurd h (by decide)
          | false => exact z
    · rintro σ' H2 ⟨⟨v1, rfl⟩, s2, p1, p2⟩
      dsimp only
      have hn : rdWord l = none := by
        unfold rdWord
        rw [if_neg (by rw [p1 (by decide)]; decide), if_neg (by rw [p2 (by decide)]; decide)]
      rcases k with ⟨h, _⟩ | ⟨_, h, k⟩ | ⟨_, b', n, d, h, _⟩
      · exact absurd h hl2
      · refine ⟨_, rfl, ⟨(by show 1 ≤ 1000; decide), fun e he => ?_⟩⟩
        refine ⟨e, _, rfl, upd_same, fun dx hdx hda => ?_⟩
        have hdx0 : H2 dx = none := by rw [upd_ne hda] at hdx; exact hdx
        refine ⟨rfl, dx, [("word", .str (SX.S l))], upd_same, ?_, hdx0, ?_⟩
        · rw [upd_ne hda]
          exact upd_same
        · exact raised_end he hdx0 hda (k.back s2)
      · rw [hn] at h
        cases h
theorem sc_is_wrong : FnScope N_is_wrong ["word", "share"] (defScope s_is_wrong) := ⟨rfl, rfl, rfl, by decide +kernel, rfl, by decide +kernel, by decide +kernel⟩

def wrongB (k : Bool) (a b : Int) (n d : Nat) : Bool := if k then decide (a * (d : Int) < (n : Int) * b) else !decide (a * (d : Int) < (n : Int) * b)
def spIsWrong (K : PySem.W.Frag) (C : Addr) : Sp := fun vs H Q E => ∃ (l : List Nat) (p : Addr) (a b : Int), vs = [.str (SX.S l), .ref p] ∧ l.length ≤ 1000 ∧ SqT K H p [.int a, .int b] ∧ 0 < b ∧ a.natAbs < 2 ^ 240 ∧ b.natAbs < 2 ^ 240 ∧
  ((l = cNo ∧ ∀ H', Same H H' → Q (.bl false) H') ∨ (l ≠ cNo ∧ rdWord l = none ∧ Raised C "word" (.str (SX.S l)) H E) ∨ (l ≠ cNo ∧ ∃ k n d, rdWord l = some (k, n, d) ∧ ∀ H', Same H H' → Q (.bl (wrongB k a b n d)) H'))
theorem cmp_lt {x y : Int} : decide (cmpF x y < 0) = decide (x < y) := by
  unfold cmpF
  refine decide_eq_decide.mpr ⟨fun h => ?_, fun h => ?_⟩
  · split at h
    · assumption
    · split at h <;> omega
  · rw [if_pos h]
    decide
theorem cmp_ge {x y : Int} : decide (0 ≤ cmpF x y) = !decide (x < y) := by
  rw [← cmp_lt, ← decide_not]
  exact decide_eq_decide.mpr (by omega)
theorem s_ne {x y : List Nat} (h : x ≠ y) : decide (V.str (SX.S x) = V.str (SX.S y)) = false := decide_eq_false fun q => h (SX.S_inj (V.str.inj q))
theorem ok_is_wrong (T : Txt K mg A) : FnOk P w K mg base (L2.CX P w) 6 A.f_is_wrong A.d_is_wrong ["word", "share"] (spIsWrong K A.C_InvalidWord) := by
  have Gread_word := ok_read_word (P := P) (w := w) (base := base) T
  have Gcompare := ok_compare (P := P) (w := w) (base := base) T
  refine T.F_is_wrong.okX sc_is_wrong (fun vs H Q E h => ?_) (fun cdv Ar outer s H vs Q E hr h => ?_)
  · obtain ⟨l, p, a, b, rfl, _⟩ := h
    rfl
  · obtain ⟨l, p, a, b, rfl, hl, hp, b0, ha, hb, k⟩ := h
    refine ⟨_, (pss_cons (ps_asg (pe_callS Gread_word (hr.mono (by decide)) rfl T.g_read_word T.k_read_word T.b_read_word (fun σ => passAt (takes_of rfl rfl rfl rfl) σ) (pa_cons (pv 0) pa_nil)) (pg_tup (by rfl) (pgs_cons (pg_name (i := 2) sc_is_wrong.nd rfl (Or.inl rfl)) (pgs_cons (pg_name (i := 3) sc_is_wrong.nd rfl (Or.inl rfl)) pgs_nil))))
      (pss_cons (ps_if (pt_cmpR op_eq (pv 2) pe_str (nomark _)) (pss_one (ps_ret (pe_cmpR op_lt (pe_call Gcompare (hr.mono (by decide)) rfl T.g_compare T.k_compare T.b_compare .nil pass0 (pa_cons (pv 1) (pa_cons (pv 3) pa_nil))) pe_int (nomark _)))) pss_nil)
      (pss_cons (ps_if (pt_cmpR op_eq (pv 2) pe_str (nomark _)) (pss_one (ps_ret (pe_cmpR op_ge (pe_call Gcompare (hr.mono (by decide)) rfl T.g_compare T.k_compare T.b_compare .nil pass0 (pa_cons (pv 1) (pa_cons (pv 3) pa_nil))) pe_int (nomark _)))) pss_nil)
      (pss_one (ps_ret pe_bl))))), ?_⟩
    refine ⟨_, rfl, l, rfl, hl, ?_⟩
    have go : ∀ {x y : V} {q : Addr} {H1 : Hp} {kk : List Nat}, H1 q = some (.tup [x, y]) → x = .str (SX.S kk) → True := fun _ _ => trivial
    rcases k with ⟨h, k⟩ | ⟨h1, h2, k⟩ | ⟨h1, kd, n, d, h2, k⟩
    · refine .inl ⟨h, fun q H1 s1 hq => ⟨q, _, rfl, SqT.of hq, rfl, _, _, rfl, _, _, rfl, rfl, ?_⟩⟩
      refine q_when (b := false) (ans_of (val_to (v := .bl false) (val_eq (val_var (v := .str (SX.S cNo)) rfl) val_c rfl) (by rw [e_at, s_ne (by decide)]))) (fun z => nomatch z) (fun _ => ?_)
      refine q_when (b := false) (ans_of (val_to (v := .bl false) (val_eq (val_var (v := .str (SX.S cNo)) rfl) val_c rfl) (by rw [e_be, s_ne (by decide)]))) (fun z => nomatch z) (fun _ => ?_)
      exact sR (val_c.at (k H1 s1))
    · exact .inr (.inl ⟨h1, h2, k⟩)
    · obtain ⟨bn, bd, d1⟩ := rdWord_bd h2
      refine .inr (.inr ⟨h1, kd, n, d, h2, fun q r H1 s1 hr hq => ⟨q, _, rfl, SqT.of hq, rfl, _, _, rfl, _, _, rfl, rfl, ?_⟩⟩)
      have hp1 := s1.tup hp
      have c30 : (10 : Nat) ^ 30 < 2 ^ 240 := by decide
      have vc : Val (tCall (spCompare K) [] E0 (tCons (tVar 1) (tCons (tVar 3) tNil))) [some (.str (SX.S l)), some (.ref p), some (.str (SX.S (kTxt kd))), some (.ref r)] H1 (.int (cmpF (a * (d : Int)) ((n : Int) * b))) := fun Q q => ⟨_, rfl, _, rfl, p, r, a, b, (n : Int), (d : Int), rfl, hp1, SqT.of hr, ha, hb, by omega, by omega, by omega, by omega, q⟩
      cases kd with
      | true =>
        refine q_when (b := true) (ans_of (val_to (v := .bl true) (val_eq (val_var (v := .str (SX.S cAt)) rfl) val_c rfl) (by rw [e_at]; exact congrArg V.bl (decide_eq_true rfl)))) (fun _ => ?_) (fun z => nomatch z)
        refine sR ((val_op0 (g := fun i j => V.bl (decide (i < j))) vc val_c).at ?_)
        show Q (.bl (decide (cmpF (a * (d : Int)) ((n : Int) * b) < 0))) H1
        rw [cmp_lt]
        exact k H1 s1
      | false =>
        refine q_when (b := false) (ans_of (val_to (v := .bl false) (val_eq (val_var (v := .str (SX.S cBe)) rfl) val_c rfl) (by rw [e_at, s_ne (by decide)]))) (fun z => nomatch z) (fun _ => ?_)
        refine q_when (b := true) (ans_of (val_to (v := .bl true) (val_eq (val_var (v := .str (SX.S cBe)) rfl) val_c rfl) (by rw [e_be]; exact congrArg V.bl (decide_eq_true rfl)))) (fun _ => ?_) (fun z => nomatch z)
        refine sR ((val_op0 (g := fun i j => V.bl (decide (j ≤ i))) vc val_c).at ?_)
        show Q (.bl (decide (0 ≤ cmpF (a * (d : Int)) ((n : Int) * b)))) H1
        rw [cmp_ge]
        exact k H1 s1
theorem sc__law_box : FnScope N__law_box ["_law_script"] (defScope s__law_box) := ⟨rfl, rfl, rfl, by decide +kernel, rfl, by decide +kernel, by decide +kernel⟩
theorem ok__law_box (T : Txt K mg A) : FnOk P w K mg base CX0 1 A.f__law_box A.d__law_box ["_law_script"] (spBox K) := by
  refine T.F__law_box.ok sc__law_box (fun vs H Q E h => ?_) (fun cdv Ar outer s H vs Q E hr h => ?_)
  · obtain ⟨a, ns, rfl, _⟩ := h
    rfl
  · obtain ⟨a, ns, rfl, hS, hlen, k⟩ := h
    refine ⟨_, (pss_one (ps_ret (pe_lst (pa_cons (pe_lc (own := [("_law_cell", 1)]) (g := gName 1) (tt := tYes) rfl sc__law_box.nd (pi_list (pe_slice sl_list (pv 0) po_none (po_some pe_int))) (blkOk_by (own := [("_law_cell", 1)]) (N := N__law_box) (sc := defScope s__law_box) (by decide +kernel)) (fun _ _ _ _ _ => (pg_name (i := 1) sc__law_box.nd rfl (Or.inl rfl))) (fun _ _ _ _ _ => pts_nil) (fun _ _ _ _ _ => (pe_callB call_abs (by rfl) T.z_abs (by decide +kernel) (pa_cons (pe_callTy call_int1 (by rfl) T.z_int (by decide +kernel) (pa_cons (pv 1) pa_nil)) pa_nil)))) (pa_cons pe_int (pa_cons pe_int pa_nil)))))), ?_⟩
    refine ⟨_, rfl, 63, rfl, a, _, rfl, hS, fun p hp => ?_⟩
    have ecut : cutV (ns.map V.int) none (some 63) = (ns.map V.int) := by
      unfold cutV
      have e63 : ∀ n, HT.sIx n n (some (63 : Int)) = min 63 n := fun n => HT.sIx_nat n n 63
      rw [show HT.sIx (ns.map V.int).length 0 none = 0 from rfl, e63, List.length_map]
      rw [List.drop_zero, List.take_of_length_le]
      rw [List.length_map]
      omega
    rw [ecut]
    refine ⟨p, rfl, ⟨_, SqL.of upd_same⟩, fun D hD => ?_⟩
    have hDp : D ≠ p := fun e => (by rw [e, upd_same] at hD; cases hD)
    have hD0 : H D = none := by rw [upd_ne hDp] at hD; exact hD
    refine lc_list (K := K) (a := p) (xs := ns.map V.int) (fun i H' => Same H H' ∧ H' p = some (.lst (ns.map V.int)) ∧ ∃ ms : List Int, H' D = some (.lst (ms.map V.int)) ∧ ms.length = i ∧ ∀ x ∈ ms, 0 ≤ x)
      ⟨Same.trans (same_upd hp) (same_upd hD), by rw [upd_ne hDp.symm, upd_same], [], upd_same, rfl, fun x hx => (by cases hx)⟩
      (fun i H' _ h => SqL.of h.2.1) ?_ ?_
    · rintro i y H' hi ⟨s1, h1, ms, h2, hl, h3⟩
      have hi63 : i < ns.length := by
        have q := (List.getElem?_eq_some_iff.mp hi).1
        rw [List.length_map] at q
        exact q
      obtain ⟨u, rfl⟩ : ∃ u, y = V.int u := by
        rw [List.getElem?_map] at hi
        cases e : ns[i]? with
        | none =>
          rw [e] at hi
          cases hi
        | some u =>
          rw [e] at hi
          exact ⟨u, (Option.some.inj hi).symm⟩
      refine ⟨rfl, ?_⟩
      refine ⟨_, rfl, .inl ⟨u, rfl, u, rfl, ?_⟩⟩
      rw [iabs]
      refine ⟨_, h2, ?_, (fun b o e => by rw [upd_ne (ne_of_none e hD0)]; exact s1 b o e), ?_, ms ++ [((u.natAbs : Nat) : Int)], ?_, ?_, ?_⟩
      · rw [List.length_map, hl]
        exact small1000 (by omega)
      · rw [upd_ne hDp.symm]
        exact h1
      · rw [List.map_append]
        exact upd_same
      · rw [List.length_append, hl]
        rfl
      · intro x hx
        rcases List.mem_append.mp hx with hx | hx
        · exact h3 x hx
        · rw [List.mem_singleton.mp hx]
          exact Int.natCast_nonneg _
    · rintro H' ⟨s1, h1, ms, h2, hl, h3⟩
      refine ⟨?_, fun b hb => ?_⟩
      · show 3 ≤ sizeLine
        decide
      · have hbD : b ≠ D := fun e => (by rw [e, h2] at hb; cases hb)
        refine k b D _ (Same.trans s1 (same_upd hb)) (s1.free hb) hD0 ⟨ms, 0, 1, upd_same, ?_, ?_, h3, by omega, by omega, by omega⟩
        · rw [upd_ne hbD.symm]
          exact h2
        · rw [hl, List.length_map]
          omega
theorem sc__law_take : FnScope N__law_take ["_law_box_here", "_law_size"] (defScope s__law_take) := ⟨rfl, rfl, rfl, by decide +kernel, rfl, by decide +kernel, by decide +kernel⟩
theorem ok__law_take (T : Txt K mg A) : FnOk P w K mg base CX0 1 A.f__law_take A.d__law_take ["_law_box_here", "_law_size"] spTake := by
  refine T.F__law_take.ok sc__law_take (fun vs H Q E h => ?_) (fun cdv Ar outer s H vs Q E hr h => ?_)
  · obtain ⟨b, c, n, rfl, _⟩ := h
    rfl
  · obtain ⟨b, c, n, rfl, hB, hn, hlog, k⟩ := h
    refine ⟨_, (pss_cons (ps_set (i := 2) sc__law_take.nd rfl (Or.inl rfl) (pe_ix ix_list (pv 0) pe_int (fun _ _ => rfl)))
      (pss_cons (ps_set (i := 3) sc__law_take.nd rfl (Or.inl rfl) pe_int)
      (Evl.pss_cut (ps_if (pt_cmpR op_gt (pe_callB call_len_seq (by rfl) T.z_len (by decide +kernel) (pa_cons (pv 2) pa_nil)) pe_int (nomark _)) (pss_cons (ps_set (i := 4) sc__law_take.nd rfl (Or.inl rfl) (pe_op op_mod (pe_callTy call_int1 (by rfl) T.z_int (by decide +kernel) (pa_cons (pe_ix ix_list (pv 0) pe_int (fun _ _ => rfl)) pa_nil)) (pe_callB call_len_seq (by rfl) T.z_len (by decide +kernel) (pa_cons (pv 2) pa_nil))))
      (pss_cons (ps_if (pt_cmpR op_ge (pe_ix ix_list (pv 2) (pv 4) (fun _ _ => rfl)) (pe_op op_pow pe_int pe_int) (nomark _)) (pss_cons (ps_set (i := 5) sc__law_take.nd rfl (Or.inl rfl) (pe_op op_mod (pe_callTy call_int1 (by rfl) T.z_int (by decide +kernel) (pa_cons (pe_ix ix_list (pv 2) (pv 4) (fun _ _ => rfl)) pa_nil)) (pv 1)))
      (pss_cons (ps_asg (pe_op op_fdivW (pe_ix ix_list (pv 2) (pv 4) (fun _ _ => rfl)) (pv 1)) (pg_sub (pv 2) (pv 4) set_list))
      (pss_one (ps_ret (pv 5))))) pss_nil)
      (pss_cons (ps_asg (pe_op op_add (pe_ix ix_list (pv 0) pe_int (fun _ _ => rfl)) pe_int) (pg_sub (pv 0) pe_int set_list))
      (pss_one (ps_set (i := 3) sc__law_take.nd rfl (Or.inl rfl) (pe_op op_add (pe_op op_mulW (pe_ix ix_list (pv 2) (pv 4) (fun _ _ => rfl)) pe_int) pe_int)))))) pss_nil)
      (pss_cons (ps_asg (pe_op op_mod (pe_callTy call_int1 (by rfl) T.z_int (by decide +kernel) (pa_cons (pe_op op_add (pe_op op_mulW (pe_ix ix_list (pv 0) pe_int (fun _ _ => rfl)) pe_int) (pv 3)) pa_nil)) pe_int) (pg_sub (pv 0) pe_int set_list))
      (pss_cons (ps_set (i := 6) sc__law_take.nd rfl (Or.inl rfl) (pe_op op_mod (pe_callTy call_int1 (by rfl) T.z_int (by decide +kernel) (pa_cons (pe_op op_add (pe_op op_mulW (pe_ix ix_list (pv 0) pe_int (fun _ _ => rfl)) pe_int) (pe_op op_fdivW (pe_ix ix_list (pv 0) pe_int (fun _ _ => rfl)) pe_int)) pa_nil)) pe_int))
      (pss_one (ps_ret (pe_op op_mod (pe_callTy call_int1 (by rfl) T.z_int (by decide +kernel) (pa_cons (pe_op op_fdivW (pv 6) pe_int) pa_nil)) (pv 1))))))))), ?_⟩
    have hbc := hB.ne
    obtain ⟨ns, kk, s, h1, h2, hl, h0, k0, s0, s1⟩ := hB
    have hlen : (ns.map V.int).length = ns.length := List.length_map ..
    refine qS ⟨_, rfl, b, _, _, _, rfl, rfl, SqL.of h1, rfl, ?_⟩
    apply q_set
    case h => (repeat' (first | exact val_var rfl | exact val_c | exact va_nil | with_reducible apply va_cons | with_reducible apply val_op0 | with_reducible apply val_un | with_reducible apply val_abs | with_reducible apply val_int| with_reducible apply val_gcd | with_reducible apply val_gcdc | with_reducible apply val_isB | with_reducible apply val_notB | with_reducible apply val_chain | with_reducible apply val_eq | with_reducible apply val_ne | with_reducible apply val_andV | with_reducible apply val_orV | with_reducible apply val_notV | with_reducible apply val_opC | with_reducible apply ans_of | with_reducible apply ans_B | with_reducible apply ans_not | with_reducible apply ans_and' | with_reducible apply ans_or' | with_reducible intro _ | (show scal _ _ = true; rfl) | exact wide_mul (by assumption) (by assumption) (by decide) (by decide) (by decide)))
    refine ⟨fun σ' H' => ∃ (w k' : Int) (v4 v5 : Option V), σ' = [some (.ref b), some (.int n), some (.ref c), some (.int w), v4, v5, none] ∧ 0 ≤ k' ∧ H' b = some (.lst [.ref c, .int k', .int s]) ∧ H' c = some (.lst (ns.map V.int)) ∧ ∀ a, a ≠ b → a ≠ c → H' a = H a, ?_, ?_⟩
    · refine sW ⟨_, rfl, c, _, rfl, .inl (SqL.of h2), _, _, rfl, rfl, _, rfl, ite2 (fun hp => ?_) (fun hp => ?_)⟩
      · have hp' : (0 : Int) < ((ns.map V.int).length : Int) := of_decide_eq_true hp
        refine qS ⟨_, rfl, b, _, _, _, rfl, rfl, SqL.of h1, rfl, .inl ⟨_, rfl, _, rfl, c, _, rfl, .inl (SqL.of h2), _, _, rfl, rfl, hp', ?_⟩⟩
        obtain ⟨x, hx, hx0, hix⟩ := pickP ns (fun x => 0 ≤ x) h0 (d := kk % ((ns.map V.int).length : Int)) (Int.emod_nonneg _ (by omega)) (by rw [← hlen]; exact Int.emod_lt_of_pos _ hp')
        refine qW ⟨_, rfl, _, rfl, c, _, _, _, rfl, rfl, SqL.of h2, hx, _, _, rfl, rfl, ⟨by decide, by decide, by decide⟩, _, _, rfl, rfl, _, rfl, ite2 (fun hq => ?_) (fun hq => ?_)⟩
        · refine qS ⟨_, rfl, _, rfl, c, _, _, _, rfl, rfl, SqL.of h2, hx, .inl ⟨_, rfl, _, rfl, _, _, rfl, rfl, hn, ?_⟩⟩
          refine qB ⟨_, rfl, _, rfl, c, _, _, _, rfl, rfl, SqL.of h2, hx, _, rfl, _, _, rfl, rfl, ⟨hn, hlog⟩, _, rfl, _, rfl, c, _, _, _, rfl, rfl, h2, (by have q := hix; rw [← hlen] at q; exact q), ?_⟩
          refine ⟨_, rfl, ?_⟩
          refine k _ _ (Int.emod_nonneg _ (by omega)) (Int.emod_lt_of_pos _ hn) ⟨ns.set (kk % ((ns.map V.int).length : Int)).toNat (x / n), kk, s, ?_, ?_, ?_, ?_, k0, s0, s1⟩ (fun a hab hac => upd_ne hac)
          · rw [upd_ne hbc]
            exact h1
          · rw [List.map_set]
            exact upd_same
          · rw [List.length_set]
            exact hl
          · intro y hy
            rcases List.mem_or_eq_of_mem_set hy with hy | hy
            · exact h0 y hy
            · rw [hy]
              exact Int.ediv_nonneg hx0 (by omega)
        · refine qB ⟨_, rfl, b, _, _, _, rfl, rfl, SqL.of h1, rfl, _, _, rfl, rfl, _, rfl, b, _, _, 1, rfl, rfl, h1, rfl, ?_⟩
          refine sS ⟨_, rfl, _, rfl, c, _, _, _, rfl, rfl, SqL.of ((upd_ne hbc.symm).trans h2), hx, _, _, rfl, rfl, ?_, _, _, rfl, rfl, ?_⟩
          · have hx18 : ¬ (10 : Int) ^ (18 : Int).toNat ≤ x := fun z => hq (decide_eq_true z)
            have hx18' : x < 10 ^ 18 := by
              rw [show (18 : Int).toNat = 18 from rfl] at hx18
              omega
            exact wide_mul (a := 70) (b := 20) (by omega) (by decide) (by decide) (by decide) (by decide)
          · exact ⟨_, kk + 1, _, _, rfl, by omega, upd_same, (upd_ne hbc.symm).trans h2, fun a hab hac => upd_ne hab⟩
      · exact ⟨_, kk, _, _, rfl, k0, h1, h2, fun a _ _ => rfl⟩
    · rintro σ' H' ⟨w, k', v4, v5, rfl, hk', hb, hc, he⟩
      refine qB ⟨_, rfl, b, _, _, _, rfl, rfl, SqL.of hb, rfl, _, _, rfl, rfl, wide_mul (a := 40) (b := 20) (by omega) (by decide) (by decide) (by decide) (by decide), _, rfl, _, _, rfl, rfl, .inl ⟨_, rfl, _, _, rfl, rfl, (by decide : (0 : Int) < 2147483647), _, rfl, b, _, _, 2, rfl, rfl, hb, rfl, ?_⟩⟩
      dsimp only
      have e0 := Int.emod_nonneg (s * 48271 + w) (by decide : (2147483647 : Int) ≠ 0)
      have e1 := Int.emod_lt_of_pos (s * 48271 + w) (by decide : (0 : Int) < 2147483647)
      generalize (s * 48271 + w) % 2147483647 = s' at e0 e1 ⊢
      have hb' : (upd H' b (.lst ([.ref c, .int k', .int s].set 2 (.int s')))) b = some (.lst [.ref c, .int k', .int s']) := upd_same
      refine qS ⟨_, rfl, b, _, _, _, rfl, rfl, SqL.of hb', rfl, _, _, rfl, rfl, wide_mul (a := 40) (b := 20) (by omega) (by decide) (by decide) (by decide) (by decide), _, rfl, b, _, _, _, rfl, rfl, SqL.of hb', rfl, _, _, rfl, rfl, ⟨by decide, by decide⟩, _, _, rfl, rfl, .inl ⟨_, rfl, _, _, rfl, rfl, (by decide : (0 : Int) < 2147483629), ?_⟩⟩
      refine ⟨_, rfl, _, _, rfl, rfl, ⟨by decide, by decide⟩, .inl ⟨_, rfl, _, rfl, _, _, rfl, rfl, hn, ?_⟩⟩
      exact k _ _ (Int.emod_nonneg _ (by omega)) (Int.emod_lt_of_pos _ hn) ⟨ns, k', s', hb', (upd_ne hbc.symm).trans hc, hl, h0, hk', e0, e1⟩ (fun a hab hac => (upd_ne hab).trans (he a hab hac))
theorem sc__law_gcd : FnScope N__law_gcd ["_law_a", "_law_b"] (defScope s__law_gcd) := ⟨rfl, rfl, rfl, by decide +kernel, rfl, by decide +kernel, by decide +kernel⟩
theorem ok__law_gcd (T : Txt K mg A) : FnOk P w K mg base CX0 1 A.f__law_gcd A.d__law_gcd ["_law_a", "_law_b"] spGcd := by
  refine T.F__law_gcd.ok sc__law_gcd (fun vs H Q E h => ?_) (fun cdv Ar outer s H vs Q E hr h => ?_)
  · obtain ⟨m, n, rfl, _⟩ := h
    rfl
  · obtain ⟨m, n, rfl, k⟩ := h
    refine ⟨_, (pss_cons (ps_set (i := 0) sc__law_gcd.nd rfl (Or.inl rfl) (pe_callB call_abs (by rfl) T.z_abs (by decide +kernel) (pa_cons (pv 0) pa_nil)))
      (pss_cons (ps_set (i := 1) sc__law_gcd.nd rfl (Or.inl rfl) (pe_callB call_abs (by rfl) T.z_abs (by decide +kernel) (pa_cons (pv 1) pa_nil)))
      (pss_cons (ps_while PassesOwn.never (pt_cmpR op_gt (pv 1) pe_int (nomark _)) (pss_one (ps_par (i := 0) (j := 1) (by rfl) sc__law_gcd.nd rfl rfl (by decide) rfl rfl (pa_cons (pv 1) (pa_cons (pe_op op_mod (pe_callTy call_int1 (by rfl) T.z_int (by decide +kernel) (pa_cons (pv 0) pa_nil)) (pv 1)) pa_nil)) (by rfl))))
      (pss_one (ps_ret (pv 0)))))), ?_⟩
    apply q_set
    case h => (repeat' (first | exact val_var rfl | exact val_c | exact va_nil | with_reducible apply va_cons | with_reducible apply val_op0 | with_reducible apply val_un | with_reducible apply val_abs | with_reducible apply val_int| with_reducible apply val_gcd | with_reducible apply val_gcdc | with_reducible apply val_isB | with_reducible apply val_notB | with_reducible apply val_chain | with_reducible apply val_eq | with_reducible apply val_ne | with_reducible apply val_andV | with_reducible apply val_orV | with_reducible apply val_notV | with_reducible apply val_opC | with_reducible apply ans_of | with_reducible apply ans_B | with_reducible apply ans_not | with_reducible apply ans_and' | with_reducible apply ans_or' | with_reducible intro _ | (show scal _ _ = true; rfl) | exact wide_mul (by assumption) (by assumption) (by decide) (by decide) (by decide)))
    apply q_set
    case h => (repeat' (first | exact val_var rfl | exact val_c | exact va_nil | with_reducible apply va_cons | with_reducible apply val_op0 | with_reducible apply val_un | with_reducible apply val_abs | with_reducible apply val_int| with_reducible apply val_gcd | with_reducible apply val_gcdc | with_reducible apply val_isB | with_reducible apply val_notB | with_reducible apply val_chain | with_reducible apply val_eq | with_reducible apply val_ne | with_reducible apply val_andV | with_reducible apply val_orV | with_reducible apply val_notV | with_reducible apply val_opC | with_reducible apply ans_of | with_reducible apply ans_B | with_reducible apply ans_not | with_reducible apply ans_and' | with_reducible apply ans_or' | with_reducible intro _ | (show scal _ _ = true; rfl) | exact wide_mul (by assumption) (by assumption) (by decide) (by decide) (by decide)))
    refine q_whileA (fun mm σ' H' => ∃ a b : Nat, σ' = [some (.int (a : Int)), some (.int (b : Int))] ∧ H' = H ∧ mm = b ∧ Nat.gcd a b = Nat.gcd m.natAbs n.natAbs) n.natAbs ⟨_, _, rfl, rfl, rfl, rfl⟩ ?_
    rintro mm σ' H' ⟨a, b, rfl, rfl, rfl, hg⟩
    refine ⟨decide ((0 : Int) < (mm : Int)), ?_, fun hb N hN => ?_, fun hb => ?_⟩
    · (repeat' (first | exact val_var rfl | exact val_c | exact va_nil | with_reducible apply va_cons | with_reducible apply val_op0 | with_reducible apply val_un | with_reducible apply val_abs | with_reducible apply val_int| with_reducible apply val_gcd | with_reducible apply val_gcdc | with_reducible apply val_isB | with_reducible apply val_notB | with_reducible apply val_chain | with_reducible apply val_eq | with_reducible apply val_ne | with_reducible apply val_andV | with_reducible apply val_orV | with_reducible apply val_notV | with_reducible apply val_opC | with_reducible apply ans_of | with_reducible apply ans_B | with_reducible apply ans_not | with_reducible apply ans_and' | with_reducible apply ans_or' | with_reducible intro _ | (show scal _ _ = true; rfl) | exact wide_mul (by assumption) (by assumption) (by decide) (by decide) (by decide)))
    · have hb' : (0 : Int) < (mm : Int) := of_decide_eq_true hb
      apply s_par
      case h => (repeat' (first | exact val_var rfl | exact val_c | exact va_nil | with_reducible apply va_cons | with_reducible apply val_op0 | with_reducible apply val_un | with_reducible apply val_abs | with_reducible apply val_int| with_reducible apply val_gcd | with_reducible apply val_gcdc | with_reducible apply val_isB | with_reducible apply val_notB | with_reducible apply val_chain | with_reducible apply val_eq | with_reducible apply val_ne | with_reducible apply val_andV | with_reducible apply val_orV | with_reducible apply val_notV | with_reducible apply val_opC | with_reducible apply ans_of | with_reducible apply ans_B | with_reducible apply ans_not | with_reducible apply ans_and' | with_reducible apply ans_or' | with_reducible intro _ | (show scal _ _ = true; rfl) | exact wide_mul (by assumption) (by assumption) (by decide) (by decide) (by decide))); exact hb'
      refine hN _ _ (a % mm) (Nat.mod_lt _ (by omega)) ⟨mm, a % mm, ?_, rfl, rfl, ?_⟩
      · rw [Int.natCast_emod] <;> rfl
      · rw [Nat.gcd_comm mm (a % mm), ← Nat.gcd_rec, Nat.gcd_comm]
        exact hg
    · have hb' : ¬ (0 : Int) < (mm : Int) := of_decide_eq_false hb
      apply s_ret
      case h => (repeat' (first | exact val_var rfl | exact val_c | exact va_nil | with_reducible apply va_cons | with_reducible apply val_op0 | with_reducible apply val_un | with_reducible apply val_abs | with_reducible apply val_int| with_reducible apply val_gcd | with_reducible apply val_gcdc | with_reducible apply val_isB | with_reducible apply val_notB | with_reducible apply val_chain | with_reducible apply val_eq | with_reducible apply val_ne | with_reducible apply val_andV | with_reducible apply val_orV | with_reducible apply val_notV | with_reducible apply val_opC | with_reducible apply ans_of | with_reducible apply ans_B | with_reducible apply ans_not | with_reducible apply ans_and' | with_reducible apply ans_or' | with_reducible intro _ | (show scal _ _ = true; rfl) | exact wide_mul (by assumption) (by assumption) (by decide) (by decide) (by decide)))
      have hb0 : mm = 0 := by omega
      rw [hb0, Nat.gcd_zero_right] at hg
      rw [hg]
      exact k
theorem sc__law_ratio : FnScope N__law_ratio ["_law_num", "_law_den"] (defScope s__law_ratio) := ⟨rfl, rfl, rfl, by decide +kernel, rfl, by decide +kernel, by decide +kernel⟩

def spLRatio : Sp := fun vs H Q _ => ∃ (n d : Int), vs = [.int n, .int d] ∧ d.natAbs.log2 < 9000 ∧ d ≠ 0 ∧ ∀ p, H p = none → Q (.ref p) (upd H p (.tup [.int (ratN n d), .int (ratD n d)]))
theorem ok__law_ratio (T : Txt K mg A) : FnOk P w K mg base CX0 2 A.f__law_ratio A.d__law_ratio ["_law_num", "_law_den"] spLRatio := by
  have G_law_gcd := ok__law_gcd (P := P) (w := w) (base := base) T
  refine T.F__law_ratio.ok sc__law_ratio (fun vs H Q E h => ?_) (fun cdv Ar outer s H vs Q E hr h => ?_)
  · obtain ⟨n, d, rfl, _⟩ := h
    rfl
  · obtain ⟨n, d, rfl, hlog, hd, k⟩ := h
    refine ⟨_, (pss_cons (ps_set (i := 2) sc__law_ratio.nd rfl (Or.inl rfl) (pe_call G_law_gcd (hr.mono (by decide)) rfl T.g__law_gcd T.k__law_gcd T.b__law_gcd .nil pass0 (pa_cons (pv 0) (pa_cons (pv 1) pa_nil))))
      (pss_cons (ps_if (pt_cmpR op_lt (pv 1) pe_int (nomark _)) (pss_one (ps_set (i := 2) sc__law_ratio.nd rfl (Or.inl rfl) (pe_un un_neg (pv 2)))) pss_nil)
      (pss_one (ps_ret (pe_tup (pa_cons (pe_op op_fdivZ (pv 0) (pv 2)) (pa_cons (pe_op op_fdivZ (pv 1) (pv 2)) pa_nil))))))), ?_⟩
    apply q_set
    case h => (repeat' (first | exact val_var rfl | exact val_c | exact va_nil | with_reducible apply va_cons | with_reducible apply val_op0 | with_reducible apply val_un | with_reducible apply val_abs | with_reducible apply val_int| with_reducible apply val_gcd | with_reducible apply val_gcdc | with_reducible apply val_isB | with_reducible apply val_notB | with_reducible apply val_chain | with_reducible apply val_eq | with_reducible apply val_ne | with_reducible apply val_andV | with_reducible apply val_orV | with_reducible apply val_notV | with_reducible apply val_opC | with_reducible apply ans_of | with_reducible apply ans_B | with_reducible apply ans_not | with_reducible apply ans_and' | with_reducible apply ans_or' | with_reducible intro _ | (show scal _ _ = true; rfl) | exact wide_mul (by assumption) (by assumption) (by decide) (by decide) (by decide)))
    have hlast : ∀ σ' : L2.St, σ' = [some (.int n), some (.int d), some (.int (rdiv n d))] → (tRet (tTup (tCons (tOp (rI CDivZ fun i j => .int (i.fdiv j)) (tVar 0) (tVar 2)) (tCons (tOp (rI CDivZ fun i j => .int (i.fdiv j)) (tVar 1) (tVar 2)) tNil)))) { nx := fun _ H' => Q .non H', rt := Q } σ' H := by
      rintro σ' rfl
      refine sR ⟨_, rfl, _, rfl, _, _, rfl, rfl, ⟨rdiv_ne hd, rdiv_log hd hlog⟩, _, rfl, _, rfl, _, _, rfl, rfl, ⟨rdiv_ne hd, rdiv_log hd hlog⟩, (by show 2 ≤ sizeLine; decide), fun p hp => k p hp⟩
    refine qW ⟨_, rfl, _, _, rfl, rfl, _, rfl, ite2 (fun hlt => ?_) (fun hlt => ?_)⟩
    · apply s_set
      case h => (repeat' (first | exact val_var rfl | exact val_c | exact va_nil | with_reducible apply va_cons | with_reducible apply val_op0 | with_reducible apply val_un | with_reducible apply val_abs | with_reducible apply val_int| with_reducible apply val_gcd | with_reducible apply val_gcdc | with_reducible apply val_isB | with_reducible apply val_notB | with_reducible apply val_chain | with_reducible apply val_eq | with_reducible apply val_ne | with_reducible apply val_andV | with_reducible apply val_orV | with_reducible apply val_notV | with_reducible apply val_opC | with_reducible apply ans_of | with_reducible apply ans_B | with_reducible apply ans_not | with_reducible apply ans_and' | with_reducible apply ans_or' | with_reducible intro _ | (show scal _ _ = true; rfl) | exact wide_mul (by assumption) (by assumption) (by decide) (by decide) (by decide)))
      refine hlast _ ?_
      have hlt' : d < 0 := of_decide_eq_true hlt
      unfold rdiv
      rw [if_pos hlt']
      rfl
    · refine hlast _ ?_
      have hlt' : ¬ d < 0 := fun z => hlt (decide_eq_true z)
      unfold rdiv
      rw [if_neg hlt']
      rfl
theorem sc__law_share : FnScope N__law_share ["_law_box_here", "_law_most"] (defScope s__law_share) := ⟨rfl, rfl, rfl, by decide +kernel, rfl, by decide +kernel, by decide +kernel⟩

def spShare : Sp := fun vs H Q _ => ∃ b c m, vs = [.ref b, .int m] ∧ BoxAt H b c ∧ 0 < m ∧ m ≤ 10 ^ 31 ∧ ∀ p n d H', Low n d → 0 ≤ n → n ≤ d → d ≤ m → H p = none → BoxAt H' b c → Ext b c H H' → H' p = some (.tup [.int n, .int d]) → Q (.ref p) H'
theorem rat_share {n d : Int} (h0 : 0 ≤ n) (h1 : n ≤ d) (hd : 0 < d) : 0 ≤ ratN n d ∧ ratN n d ≤ ratD n d ∧ ratD n d ≤ d := by
  have hd' : d ≠ 0 := by omega
  have a := ratN_mul (n := n) hd'
  have b := ratD_mul (n := n) hd'
  have r : 0 < rdiv n d := by
    have := rdiv_ne (n := n) hd'
    unfold rdiv at *
    rw [if_neg (by omega)] at *
    omega
  refine ⟨?_, ?_, ?_⟩
  · refine Int.not_lt.mp fun q => ?_
    have := Int.mul_neg_of_neg_of_pos q r
    omega
  · exact Int.le_of_mul_le_mul_right (by rw [a, b]; exact h1) r
  · have := ratD_le (n := n) hd'
    have := (rat_low (n := n) hd').1
    omega
theorem ok__law_share (T : Txt K mg A) : FnOk P w K mg base CX0 3 A.f__law_share A.d__law_share ["_law_box_here", "_law_most"] spShare := by
  have G_law_take := ok__law_take (P := P) (w := w) (base := base) T
  have G_law_ratio := ok__law_ratio (P := P) (w := w) (base := base) T
  refine T.F__law_share.ok sc__law_share (fun vs H Q E h => ?_) (fun cdv Ar outer s H vs Q E hr h => ?_)
  · obtain ⟨b, c, n, rfl, _⟩ := h
    rfl
  · obtain ⟨b, c, m, rfl, B1, m0, m1, k⟩ := h
    refine ⟨_, (pss_cons (ps_set (i := 2) sc__law_share.nd rfl (Or.inl rfl) (pe_op op_add pe_int (pe_call G_law_take (hr.mono (by decide)) rfl T.g__law_take T.k__law_take T.b__law_take .nil pass0 (pa_cons (pv 0) (pa_cons (pv 1) pa_nil)))))
      (pss_one (ps_ret (pe_call G_law_ratio (hr.mono (by decide)) rfl T.g__law_ratio T.k__law_ratio T.b__law_ratio .nil pass0 (pa_cons (pe_call G_law_take (hr.mono (by decide)) rfl T.g__law_take T.k__law_take T.b__law_take .nil pass0 (pa_cons (pv 0) (pa_cons (pe_op op_add (pv 2) pe_int) pa_nil))) (pa_cons (pv 2) pa_nil)))))), ?_⟩
    refine qS ⟨_, rfl, _, rfl, b, c, m, rfl, B1, m0, lgp (n := 110) (by omega), fun u H2 u0 u1 B2 e2 => ⟨_, _, rfl, rfl, ?_⟩⟩
    refine sR ⟨_, rfl, _, rfl, _, _, rfl, rfl, b, c, _, rfl, B2, by omega, lgp (n := 110) (by omega), fun x H3 x0 x1 B3 e3 => ⟨_, rfl, _, _, rfl, lgp (n := 110) (by omega), by omega, fun r hr => ?_⟩⟩
    obtain ⟨z1, z2, z3⟩ := rat_share (n := x) (d := 1 + u) x0 (by omega) (by omega)
    have xx : Ext b c H H3 := fun a o ab ac h => (e3 a ab ac).trans ((e2 a ab ac).trans h)
    have hr0 : H r = none := by
      cases q : H r with
      | none => rfl
      | some o =>
        have := xx r o (B3.neb hr).1 (B3.neb hr).2 q
        rw [hr] at this
        cases this
    exact k r _ _ _ (rat_low (by omega)) z1 z2 (by omega) hr0 (B3.same (same_upd hr)) (xx.trans (.of (same_upd hr))) upd_same
theorem sc__law_less : FnScope N__law_less ["_law_a", "_law_b"] (defScope s__law_less) := ⟨rfl, rfl, rfl, by decide +kernel, rfl, by decide +kernel, by decide +kernel⟩

def spLess (K : PySem.W.Frag) : Sp := fun vs H Q _ => ∃ (p q : Addr) (a b c d : Int), vs = [.ref p, .ref q] ∧ SqT K H p [.int a, .int b] ∧ SqT K H q [.int c, .int d] ∧ a.natAbs < 2 ^ 240 ∧ b.natAbs < 2 ^ 240 ∧ c.natAbs < 2 ^ 240 ∧ d.natAbs < 2 ^ 240 ∧ Q (.bl (decide (a * d < c * b))) H
theorem ok__law_less (T : Txt K mg A) : FnOk P w K mg base CX0 1 A.f__law_less A.d__law_less ["_law_a", "_law_b"] (spLess K) := by
  refine T.F__law_less.ok sc__law_less (fun vs H Q E h => ?_) (fun cdv Ar outer s H vs Q E hr h => ?_)
  · obtain ⟨p, q, a, b, c, d, rfl, _⟩ := h
    rfl
  · obtain ⟨p, q, a, b, c, d, rfl, hA, hB, ha, hb, hc, hd, k⟩ := h
    refine ⟨_, (pss_one (ps_ret (pe_cmpR op_lt (pe_op op_mulW (pe_ix ix_tup (pv 0) pe_int (fun _ _ => rfl)) (pe_ix ix_tup (pv 1) pe_int (fun _ _ => rfl))) (pe_op op_mulW (pe_ix ix_tup (pv 1) pe_int (fun _ _ => rfl)) (pe_ix ix_tup (pv 0) pe_int (fun _ _ => rfl))) (nomark _)))), ?_⟩
    refine sR ((val_op0 (g := fun i j => V.bl (decide (i < j))) (val_opC (C := CMulW) (g := fun i j => V.int (i * j)) (val_ixT (val_var rfl) val_c hA rfl) (val_ixT (val_var rfl) val_c hB rfl) (wide_mul ha hd (by decide) (by decide) (by decide))) (val_opC (C := CMulW) (g := fun i j => V.int (i * j)) (val_ixT (val_var rfl) val_c hB rfl) (val_ixT (val_var rfl) val_c hA rfl) (wide_mul hc hb (by decide) (by decide) (by decide)))).at k)
theorem sc_law : FnScope N_law ["_law_script"] (defScope s_law) := ⟨rfl, rfl, rfl, by decide +kernel, rfl, by decide +kernel, by decide +kernel⟩

def spLaw (K : PySem.W.Frag) : Sp := fun vs H Q _ => ∃ (a : Addr) (ns : List Int), vs = [.ref a] ∧ SqL K H a (ns.map V.int) ∧ ns.length ≤ 63 ∧ ∀ H', Q (.bl true) H'
/-- a share strictly between 0 and 1 at q -/
structure ShAt (H : Hp) (q : Addr) (n d : Nat) : Prop where
  at_ : H q = some (.tup [.int ((n : Nat) : Int), .int ((d : Nat) : Int)])
  g : Nat.gcd n d = 1
  n0 : 0 < n
  nd : n < d
  d1 : d ≤ 10 ^ 20
theorem ShAt.ext {H H' : Hp} {q : Addr} {n d : Nat} {b c : Addr} (h : ShAt H q n d) (B : BoxAt H b c) (e : Ext b c H H') : ShAt H' q n d := by
  obtain ⟨ns, kk, s, h1, h2, _⟩ := id B
  have qb : q ≠ b := fun z => by have := h.at_; rw [z, h1] at this; cases this
  have qc : q ≠ c := fun z => by
    have := h.at_
    rw [z, h2] at this
    cases this
  exact ⟨e q _ qb qc h.at_, h.g, h.n0, h.nd, h.d1⟩
theorem ShAt.same {H H' : Hp} {q : Addr} {n d : Nat} (h : ShAt H q n d) (e : Same H H') : ShAt H' q n d := ⟨e _ _ h.at_, h.g, h.n0, h.nd, h.d1⟩
/-- a ratio at r -/
def RtAt (K : PySem.W.Frag) (H : Hp) (r : Addr) : Prop := ∃ a b : Int, SqT K H r [.int a, .int b] ∧ 0 < b ∧ a.natAbs < 2 ^ 240 ∧ b.natAbs < 2 ^ 240
theorem RtAt.same {K : PySem.W.Frag} {H H' : Hp} {r : Addr} (h : RtAt K H r) (e : Same H H') : RtAt K H' r := let ⟨a, b, h1, h2⟩ := h; ⟨a, b, e.tup h1, h2⟩
theorem er_isWrong {K : PySem.W.Frag} {C : Addr} {σ : L2.St} {H : Hp} {ta tb : TE} {kd : Bool} {n d : Nat} {a b : Int} (ha : EvR ta σ H (isV (.str (SX.S (wText kd n d))))) (hb : EvR tb σ H (isPrT K a b)) (hw : okW n d = true) (hg : Nat.gcd n d = 1) (b0 : 0 < b) (ba : a.natAbs < 2 ^ 240) (bb : b.natAbs < 2 ^ 240) :
    EvR (tCall (spIsWrong K C) [] E0 (tCons ta (tCons tb tNil))) σ H (isV (.bl (wrongB kd a b n d))) :=
  er_call2 ha hb fun H1 x y hx ⟨p, ey, hp⟩ Q k => by
    have hw2 := hw
    unfold okW at hw2
    simp only [Bool.and_eq_true, decide_eq_true_eq] at hw2
    refine ⟨_, p, a, b, by rw [show x = _ from hx, ey], Nat.le_trans (wText_len (b := kd) (n := n) (d := d) (by omega) (by omega)) (by decide), hp, b0, ba, bb, .inr (.inr ⟨wText_no, kd, n, d, ?_, fun H2 s2 => k _ H2 s2 rfl⟩)⟩
    rw [wText_rd hg (by omega) (by omega), if_pos hw]
theorem ok_law (T : Txt K mg A) : FnOk P w K mg base CX0 8 A.f_law A.d_law ["_law_script"] (spLaw K) := by
  have G_law_box := ok__law_box (P := P) (w := w) (base := base) T
  have G_law_take := ok__law_take (P := P) (w := w) (base := base) T
  have G_law_ratio := ok__law_ratio (P := P) (w := w) (base := base) T
  have G_law_share := ok__law_share (P := P) (w := w) (base := base) T
  have G_law_less := ok__law_less (P := P) (w := w) (base := base) T
  have Gis_wrong := ok_is_wrong (P := P) (w := w) (base := base) T
  refine T.F_law.ok sc_law (fun vs H Q E h => ?_) (fun cdv Ar outer s H vs Q E hr h => ?_)
  · obtain ⟨a, ns, rfl, _⟩ := h
    rfl
  · obtain ⟨a, ns, rfl, hS, hlen, k⟩ := h
    refine ⟨_, (pss_cons (ps_set (i := 1) sc_law.nd rfl (Or.inl rfl) (pe_call G_law_box (hr.mono (by decide)) rfl T.g__law_box T.k__law_box T.b__law_box .nil pass0 (pa_cons (pv 0) pa_nil)))
      (pss_cons (ps_set (i := 2) sc_law.nd rfl (Or.inl rfl) (pe_ix ix_list (pe_lst (pa_cons pe_int (pa_cons pe_int (pa_cons (pe_op op_pow pe_int pe_int) pa_nil)))) (pe_call G_law_take (hr.mono (by decide)) rfl T.g__law_take T.k__law_take T.b__law_take .nil pass0 (pa_cons (pv 1) (pa_cons pe_int pa_nil))) (fun _ _ => rfl)))
      (pss_cons (ps_set (i := 3) sc_law.nd rfl (Or.inl rfl) (pe_call G_law_share (hr.mono (by decide)) rfl T.g__law_share T.k__law_share T.b__law_share .nil pass0 (pa_cons (pv 1) (pa_cons (pv 2) pa_nil))))
      (Evl.pss_cut (ps_if (pt_not (pt_chain op_lt op_lt pe_int (pe_ix ix_tup (pv 3) pe_int (fun _ _ => rfl)) (pe_ix ix_tup (pv 3) pe_int (fun _ _ => rfl)))) (pss_one (ps_set (i := 3) sc_law.nd rfl (Or.inl rfl) (pe_tup (pa_cons pe_int (pa_cons pe_int pa_nil))))) pss_nil)
      (pss_cons (ps_set (i := 4) sc_law.nd rfl (Or.inl rfl) (pe_call G_law_share (hr.mono (by decide)) rfl T.g__law_share T.k__law_share T.b__law_share .nil pass0 (pa_cons (pv 1) (pa_cons (pv 2) pa_nil))))
      (pss_cons (ps_set (i := 5) sc_law.nd rfl (Or.inl rfl) (pe_call G_law_take (hr.mono (by decide)) rfl T.g__law_take T.k__law_take T.b__law_take .nil pass0 (pa_cons (pv 1) (pa_cons pe_int pa_nil))))
      (Evl.pss_cut (ps_if (pt_cmpR op_lt (pv 5) pe_int (nomark _)) (pss_one (ps_set (i := 4) sc_law.nd rfl (Or.inl rfl) (pe_ix ix_list (pe_lst (pa_cons (pv 3) (pa_cons (pe_tup (pa_cons pe_int (pa_cons pe_int pa_nil))) (pa_cons (pe_tup (pa_cons pe_int (pa_cons pe_int pa_nil))) pa_nil)))) (pv 5) (fun _ _ => rfl)))) pss_nil)
      (Evl.pss_cut (ps_if (pt_cmpR op_eq (pv 5) pe_int (nomark _)) (pss_one (ps_set (i := 4) sc_law.nd rfl (Or.inl rfl) (pe_call G_law_ratio (hr.mono (by decide)) rfl T.g__law_ratio T.k__law_ratio T.b__law_ratio .nil pass0 (pa_cons (pe_op op_sub (pe_op op_mulW (pe_ix ix_tup (pv 3) pe_int (fun _ _ => rfl)) (pe_op op_pow pe_int pe_int)) pe_int) (pa_cons (pe_op op_mulW (pe_ix ix_tup (pv 3) pe_int (fun _ _ => rfl)) (pe_op op_pow pe_int pe_int)) pa_nil))))) pss_nil)
      (Evl.pss_cut (ps_if (pt_cmpR op_eq (pv 5) pe_int (nomark _)) (pss_one (ps_set (i := 4) sc_law.nd rfl (Or.inl rfl) (pe_call G_law_ratio (hr.mono (by decide)) rfl T.g__law_ratio T.k__law_ratio T.b__law_ratio .nil pass0 (pa_cons (pe_op op_add (pe_op op_mulW (pe_ix ix_tup (pv 3) pe_int (fun _ _ => rfl)) (pe_op op_pow pe_int pe_int)) pe_int) (pa_cons (pe_op op_mulW (pe_ix ix_tup (pv 3) pe_int (fun _ _ => rfl)) (pe_op op_pow pe_int pe_int)) pa_nil))))) pss_nil)
      (pss_cons (ps_set (i := 6) sc_law.nd rfl (Or.inl rfl) (pe_op op_add_str (pe_op op_add_str (pe_callTy call_str_int (by rfl) T.z_str (by decide +kernel) (pa_cons (pe_ix ix_tup (pv 3) pe_int (fun _ _ => rfl)) pa_nil)) pe_str) (pe_callTy call_str_int (by rfl) T.z_str (by decide +kernel) (pa_cons (pe_ix ix_tup (pv 3) pe_int (fun _ _ => rfl)) pa_nil))))
      (pss_cons (ps_set (i := 7) sc_law.nd rfl (Or.inl rfl) (pe_call Gis_wrong (hr.mono (by decide)) rfl T.g_is_wrong T.k_is_wrong T.b_is_wrong .nil passL (pa_cons (pe_op op_add_str pe_str (pv 6)) (pa_cons (pv 4) pa_nil))))
      (pss_cons (ps_set (i := 8) sc_law.nd rfl (Or.inl rfl) (pe_call Gis_wrong (hr.mono (by decide)) rfl T.g_is_wrong T.k_is_wrong T.b_is_wrong .nil passL (pa_cons (pe_op op_add_str pe_str (pv 6)) (pa_cons (pv 4) pa_nil))))
      (pss_cons (ps_if (PW.pt (pw_or (PW.pt (pw_and (pt_cmpR op_notBl (pv 7) pe_bl (nomark _)) (pw_and1 (pt_cmpR op_notBl (pv 7) pe_bl (nomark _))))) (pw_or1 (PW.pt (pw_and (pt_cmpR op_notBl (pv 8) pe_bl (nomark _)) (pw_and1 (pt_cmpR op_notBl (pv 8) pe_bl (nomark _)))))))) (pss_one (ps_ret pe_bl)) pss_nil)
      (pss_one (ps_ret (pe_and (pe_cmpR op_eq (pv 7) (pe_call G_law_less (hr.mono (by decide)) rfl T.g__law_less T.k__law_less T.b__law_less .nil pass0 (pa_cons (pv 4) (pa_cons (pv 3) pa_nil))) (nomark _)) (pe_and (pe_cmpR op_ne (pv 8) (pv 7) (nomark _)) (pe_one (pe_cmpR op_isBl (pe_call Gis_wrong (hr.mono (by decide)) rfl T.g_is_wrong T.k_is_wrong T.b_is_wrong .nil passL (pa_cons pe_str (pa_cons (pv 4) pa_nil))) pe_bl (nomark _)))))))))))))))))))), ?_⟩
    refine qS ⟨_, rfl, a, ns, rfl, hS, hlen, fun b c H1 s1 hb hc B1 => ?_⟩
    refine qS ⟨_, _, rfl, rfl, ⟨by decide, by decide, by decide⟩, (by show 3 ≤ sizeLine; decide), fun p hp => ?_⟩
    refine ⟨_, rfl, b, c, 3, rfl, B1.same (same_upd hp), by decide, by decide, fun x H2 x0 x1 B2 e2 => ?_⟩
    obtain ⟨sz, hsz, z0, z1⟩ := pick [9, 9, 10 ^ 20] 9 (10 ^ 20) (by decide) x0 x1
    refine ⟨p, _, x, _, rfl, rfl, SqL.of ((e2 p (B1.neb hp).1 (B1.neb hp).2).trans upd_same), hsz, ?_⟩
    refine qS ⟨_, rfl, _, rfl, b, c, sz, rfl, B2, by omega, by omega, fun q0 n0 d0 H3 low0 n00 n01 d01 hq0 B3 x3 hq => ?_⟩
    refine ⟨fun σ' H' => ∃ (q : Addr) (n d : Nat), σ' = [some (.ref a), some (.ref b), some (.int sz), some (.ref q), none, none, none, none, none] ∧ BoxAt H' b c ∧ ShAt H' q n d, ?_, ?_⟩
    · refine s_when (b := !(decide (0 < n0) && decide (n0 < d0))) (ans_not (ans_of (val_chain val_c (val_ixT (K := K) (val_var rfl) val_c (SqT.of hq) rfl) (val_ixT (K := K) (val_var rfl) val_c (SqT.of hq) rfl)))) (fun _ => ?_) (fun z => ?_)
      · refine sS ⟨(by show 2 ≤ sizeLine; decide), fun r hr => ⟨r, 1, 3, rfl, B3.same (same_upd hr), ⟨by rw [upd_same]; rfl, by decide, by decide, by decide, by decide⟩⟩⟩
      · have z1' : (decide (0 < n0) && decide (n0 < d0)) = true := by rw [Bool.not_eq_false'] at z; exact z
        obtain ⟨w1, w2⟩ := Bool.and_eq_true_iff.mp z1'
        have w1' := of_decide_eq_true w1
        have w2' := of_decide_eq_true w2
        refine ⟨q0, n0.toNat, d0.toNat, rfl, B3, ⟨by rw [hq, show ((n0.toNat : Nat) : Int) = n0 by omega, show ((d0.toNat : Nat) : Int) = d0 by omega], ?_, by omega, by omega, by omega⟩⟩
        have := low0.2
        rw [show n0.natAbs = n0.toNat by omega, show d0.natAbs = d0.toNat by omega] at this
        exact this
    rintro σ' H4 ⟨q, n, d, rfl, B4, sh⟩
    refine qS ⟨_, rfl, _, rfl, b, c, sz, rfl, B4, by omega, by omega, fun r0 n1 d1 H5 low1 n10 n11 d11 hr0 B5 x5 hr => ?_⟩
    have sh5 := sh.ext B4 x5
    refine qS ⟨_, rfl, b, c, 6, rfl, B5, by decide, by decide, fun pk H6 pk0 pk1 B6 e6 => ?_⟩
    have sh6 := sh5.ext B5 (fun a o h1 h2 h => (e6 a h1 h2).trans h)
    have hr6 : H6 r0 = some (.tup [.int n1, .int d1]) := (e6 r0 (B4.neb hr0).1 (B4.neb hr0).2).trans hr
    have rt6 : RtAt K H6 r0 := ⟨n1, d1, SqT.of hr6, low1.1, by omega, by omega⟩
    have big : (10 : Int) ^ 25 = 10000000000000000000000000 := by decide
    -- the pick of written shares
    refine ⟨fun σ' H' => ∃ (r : Addr), σ' = [some (.ref a), some (.ref b), some (.int sz), some (.ref q), some (.ref r), some (.int pk), none, none, none] ∧ ShAt H' q n d ∧ RtAt K H' r, ?_, ?_⟩
    · refine s_when (b := decide (pk < 3)) (ans_of (val_op0 (g := fun i j => V.bl (decide (i < j))) (val_var rfl) val_c)) (fun z => ?_) (fun _ => ⟨r0, rfl, sh6, rt6⟩)
      have z' := of_decide_eq_true z
      refine sS ⟨_, rfl, (by show 2 ≤ sizeLine; decide), fun u1 hu1 => ⟨(by show 2 ≤ sizeLine; decide), fun u2 hu2 => ⟨(by show 3 ≤ sizeLine; decide), fun u3 hu3 => ⟨_, rfl, ?_⟩⟩⟩⟩
      have k1 : Same H6 (upd (upd (upd H6 u1 (.tup [.int 0, .int 1])) u2 (.tup [.int 1, .int 1])) u3 (.lst [.ref q, .ref u1, .ref u2])) := ((same_upd hu1).trans (same_upd hu2)).trans (same_upd hu3)
      have g1 : (upd (upd (upd H6 u1 (.tup [.int 0, .int 1])) u2 (.tup [.int 1, .int 1])) u3 (.lst [.ref q, .ref u1, .ref u2])) u1 = some (.tup [.int 0, .int 1]) := (same_upd hu3) _ _ ((same_upd hu2) _ _ upd_same)
      have g2 : (upd (upd (upd H6 u1 (.tup [.int 0, .int 1])) u2 (.tup [.int 1, .int 1])) u3 (.lst [.ref q, .ref u1, .ref u2])) u2 = some (.tup [.int 1, .int 1]) := (same_upd hu3) _ _ upd_same
      have g3 : (upd (upd (upd H6 u1 (.tup [.int 0, .int 1])) u2 (.tup [.int 1, .int 1])) u3 (.lst [.ref q, .ref u1, .ref u2])) u3 = some (.lst [.ref q, .ref u1, .ref u2]) := upd_same
      generalize (upd (upd (upd H6 u1 (.tup [.int 0, .int 1])) u2 (.tup [.int 1, .int 1])) u3 (.lst [.ref q, .ref u1, .ref u2])) = H7 at k1 g1 g2 g3 ⊢
      have sh7 := sh6.same k1
      have hm := sh7.d1
      have hn7 := sh7.nd
      have hn0 := sh7.n0
      obtain ⟨jj, rfl⟩ : ∃ jj : Nat, pk = (jj : Int) := ⟨pk.toNat, by omega⟩
      match jj, z' with
      | 0, _ => exact ⟨u3, _, _, _, rfl, rfl, SqL.of g3, Lk.atI_nat (j := 0) rfl, q, rfl, sh7, (n : Int), (d : Int), SqT.of sh7.at_, by omega, by omega, by omega⟩
      | 1, _ => exact ⟨u3, _, _, _, rfl, rfl, SqL.of g3, Lk.atI_nat (j := 1) rfl, u1, rfl, sh7, 0, 1, SqT.of g1, by decide, by decide, by decide⟩
      | 2, _ => exact ⟨u3, _, _, _, rfl, rfl, SqL.of g3, Lk.atI_nat (j := 2) rfl, u2, rfl, sh7, 1, 1, SqT.of g2, by decide, by decide, by decide⟩
      | jj + 3, z' => exact absurd z' (by omega)
    rintro σ' H7 ⟨r1, rfl, sh7, rt7⟩
    have hm7 := sh7.d1
    have hn7 := sh7.nd
    have hp7 := sh7.n0
    refine ⟨fun σ' H' => ∃ (r : Addr), σ' = [some (.ref a), some (.ref b), some (.int sz), some (.ref q), some (.ref r), some (.int pk), none, none, none] ∧ ShAt H' q n d ∧ RtAt K H' r, ?_, ?_⟩
    · refine s_when (b := decide (V.int pk = V.int 3)) (ans_of (val_eq (val_var rfl) val_c rfl)) (fun z => ?_) (fun _ => ⟨r1, rfl, sh7, rt7⟩)
      have qT := SqT.of (K := K) sh7.at_
      have e25 : (10 : Int) ^ (25 : Int).toNat = 10000000000000000000000000 := by decide
      refine sS ⟨_, rfl, q, _, _, _, rfl, rfl, qT, rfl, _, _, rfl, rfl, ⟨by decide, by decide, by decide⟩, _, _, rfl, rfl, wide_mul (a := 70) (b := 90) (by omega) (by decide) (by decide) (by decide) (by decide), _, _, rfl, rfl, ?_⟩
      refine ⟨_, rfl, q, _, _, _, rfl, rfl, qT, rfl, _, _, rfl, rfl, ⟨by decide, by decide, by decide⟩, _, _, rfl, rfl, wide_mul (a := 70) (b := 90) (by omega) (by decide) (by decide) (by decide) (by decide), ?_⟩
      rw [e25]
      have bp : ((n : Int) * 10000000000000000000000000).natAbs < 2 ^ 160 := wide_lt (a := 70) (b := 90) (by omega) (by decide)
      have bq : ((d : Int) * 10000000000000000000000000).natAbs < 2 ^ 160 := wide_lt (a := 70) (b := 90) (by omega) (by decide)
      have bz : (d : Int) * 10000000000000000000000000 ≠ 0 := Int.mul_ne_zero (by omega) (by decide)
      generalize (n : Int) * 10000000000000000000000000 = X at bp ⊢
      refine ⟨_, _, rfl, lgp (n := 160) bq, bz, fun p hp => ⟨p, rfl, sh7.same (same_upd hp), _, _, SqT.of upd_same, ?_, ?_, ?_⟩⟩
      · exact (rat_low bz).1
      · exact Nat.lt_of_le_of_lt (ratN_le bz) (by omega)
      · exact Nat.lt_of_le_of_lt (ratD_le bz) (Nat.lt_of_lt_of_le bq (Nat.pow_le_pow_right (by decide) (by decide)))
    rintro σ' H8 ⟨r2, rfl, sh8, rt8⟩
    have hm8 := sh8.d1
    have hn8 := sh8.nd
    have hp8 := sh8.n0
    refine ⟨fun σ' H' => ∃ (r : Addr), σ' = [some (.ref a), some (.ref b), some (.int sz), some (.ref q), some (.ref r), some (.int pk), none, none, none] ∧ ShAt H' q n d ∧ RtAt K H' r, ?_, ?_⟩
    · refine s_when (b := decide (V.int pk = V.int 4)) (ans_of (val_eq (val_var rfl) val_c rfl)) (fun z => ?_) (fun _ => ⟨r2, rfl, sh8, rt8⟩)
      have qT := SqT.of (K := K) sh8.at_
      have e25 : (10 : Int) ^ (25 : Int).toNat = 10000000000000000000000000 := by decide
      refine sS ⟨_, rfl, q, _, _, _, rfl, rfl, qT, rfl, _, _, rfl, rfl, ⟨by decide, by decide, by decide⟩, _, _, rfl, rfl, wide_mul (a := 70) (b := 90) (by omega) (by decide) (by decide) (by decide) (by decide), _, _, rfl, rfl, ?_⟩
      refine ⟨_, rfl, q, _, _, _, rfl, rfl, qT, rfl, _, _, rfl, rfl, ⟨by decide, by decide, by decide⟩, _, _, rfl, rfl, wide_mul (a := 70) (b := 90) (by omega) (by decide) (by decide) (by decide) (by decide), ?_⟩
      rw [e25]
      have bp : ((n : Int) * 10000000000000000000000000).natAbs < 2 ^ 160 := wide_lt (a := 70) (b := 90) (by omega) (by decide)
      have bq : ((d : Int) * 10000000000000000000000000).natAbs < 2 ^ 160 := wide_lt (a := 70) (b := 90) (by omega) (by decide)
      have bz : (d : Int) * 10000000000000000000000000 ≠ 0 := Int.mul_ne_zero (by omega) (by decide)
      generalize (n : Int) * 10000000000000000000000000 = X at bp ⊢
      refine ⟨_, _, rfl, lgp (n := 160) bq, bz, fun p hp => ⟨p, rfl, sh8.same (same_upd hp), _, _, SqT.of upd_same, ?_, ?_, ?_⟩⟩
      · exact (rat_low bz).1
      · exact Nat.lt_of_le_of_lt (ratN_le bz) (by omega)
      · exact Nat.lt_of_le_of_lt (ratD_le bz) (Nat.lt_of_lt_of_le bq (Nat.pow_le_pow_right (by decide) (by decide)))
    rintro σ' H9 ⟨r3, rfl, sh9, rt9⟩
    have hm9 := sh9.d1
    have hn9 := sh9.nd
    have hp9 := sh9.n0
    obtain ⟨ta_, tb_, hT9, b0, ba, bb⟩ := rt9
    have qT9 := SqT.of (K := K) sh9.at_
    have ok : okW n d = true := by
      unfold okW
      simp only [Bool.and_eq_true, decide_eq_true_eq]
      omega
    have lF := fTxt_len (n := n) (d := d) (by omega) (by omega)
    have lN := numL_long (n := n) (k := 40) (by decide) (by omega)
    have lD := numL_long (n := d) (k := 40) (by decide) (by omega)
    refine q_set (v := .str (SX.S (fTxt n d))) ?_ ?_
    · rw [← fTxt_cat]
      refine val_addS (val_addS (val_strN (val_ixT (val_var rfl) val_c qT9 rfl) (by omega)) val_c ?_) (val_strN (val_ixT (val_var rfl) val_c qT9 rfl) (by omega)) ?_
      · rw [SX.S_len, len_sl]
        show _ ≤ 2 ^ 24
        omega
      · rw [e_sl, SX.S_cat, SX.S_len, SX.S_len, List.length_append, List.length_singleton]
        show _ ≤ 2 ^ 24
        omega
    have vA : ∀ {σ : L2.St} {H : Hp}, σ[6]? = some (some (.str (SX.S (fTxt n d)))) → Val (tOp (fun x y H Q => ∃ i j, x = V.str i ∧ y = V.str j ∧ i.length + j.length ≤ sizeLine ∧ Q (V.str (i ++ j)) H) (tC (.str "at least ")) (tVar 6)) σ H (.str (SX.S (wText true n d))) := fun z => by
      rw [← wTxt_at]
      refine val_addS val_c (val_var z) ?_
      rw [len_at2, SX.S_len]
      show _ ≤ 2 ^ 24
      omega
    have vB : ∀ {σ : L2.St} {H : Hp}, σ[6]? = some (some (.str (SX.S (fTxt n d)))) → Val (tOp (fun x y H Q => ∃ i j, x = V.str i ∧ y = V.str j ∧ i.length + j.length ≤ sizeLine ∧ Q (V.str (i ++ j)) H) (tC (.str "below ")) (tVar 6)) σ H (.str (SX.S (wText false n d))) := fun z => by
      rw [← wTxt_be]
      refine val_addS val_c (val_var z) ?_
      rw [len_be2, SX.S_len]
      show _ ≤ 2 ^ 24
      omega
    have rv : ∀ {σ : L2.St} {H : Hp}, Same H9 H → σ[4]? = some (some (.ref r3)) → EvR (tVar 4) σ H (isPrT K ta_ tb_) := fun e z => er_var z ⟨r3, rfl, e.tup hT9⟩
    refine q_asgR (er_isWrong (K := K) (C := A.C_InvalidWord) (kd := true) (er_val fun _ _ => vA rfl) (rv (Same.refl _) rfl) ok sh9.g b0 ba bb) (fun v7 H10 s10 hv7 => ?_)
    cases (show v7 = _ from hv7)
    refine q_asgR (er_isWrong (K := K) (C := A.C_InvalidWord) (kd := false) (er_val fun _ _ => vB rfl) (rv s10 rfl) ok sh9.g b0 ba bb) (fun v8 H11 s11 hv8 => ?_)
    cases (show v8 = _ from hv8)
    have s911 := s10.trans s11
    have w1 : wrongB true ta_ tb_ n d = decide (ta_ * (d : Int) < (n : Int) * tb_) := rfl
    have w2 : wrongB false ta_ tb_ n d = !decide (ta_ * (d : Int) < (n : Int) * tb_) := rfl
    rw [w1, w2]
    have nn : ∀ B : Bool, ((!decide (B = true)) && (!decide (B = false))) = false := fun B => by cases B <;> rfl
    refine Evl.q_when (b := false) (Evl.et_is (Evl.et_or (Evl.et_and (Evl.et_test (er_ev (er_notB (er_var rfl rfl) er_c))) fun _ => Evl.et_test (er_ev (er_notB (er_var rfl rfl) er_c))) fun _ => Evl.et_and (Evl.et_test (er_ev (er_notB (er_var rfl rfl) er_c))) fun _ => Evl.et_test (er_ev (er_notB (er_var rfl rfl) er_c))) (by rw [nn, nn]; rfl)) (fun z => nomatch z) (fun _ H12 e12 => ?_)
    have hT12 : SqT K H12 r3 [.int ta_, .int tb_] := Same.tup e12 (s911.tup hT9)
    have q12 : SqT K H12 q [.int (n : Int), .int (d : Int)] := Same.tup e12 (s911.tup qT9)
    have eL : EvR (tCall (spLess K) [] E0 (tCons (tVar 4) (tCons (tVar 3) tNil))) [some (.ref a), some (.ref b), some (.int sz), some (.ref q), some (.ref r3), some (.int pk), some (.str (SX.S (fTxt n d))), some (.bl (decide (ta_ * (d : Int) < (n : Int) * tb_))), some (.bl (!decide (ta_ * (d : Int) < (n : Int) * tb_)))] H12 (isV (.bl (decide (ta_ * (d : Int) < (n : Int) * tb_)))) :=
      er_call2 (er_var (R := isPrT K ta_ tb_) rfl ⟨r3, rfl, hT12⟩) (er_var (R := isPrT K (n : Int) (d : Int)) rfl ⟨q, rfl, q12⟩) fun H1 x y ⟨p1, ex, hx⟩ ⟨p2, ey, hy⟩ Q k => ⟨p1, p2, ta_, tb_, (n : Int), (d : Int), by rw [ex, ey], hx, hy, ba, bb, by omega, by omega, k _ H1 (Same.refl _) rfl⟩
    have eN : EvR (tCall (spIsWrong K A.C_InvalidWord) [] E0 (tCons (tC (.str "no word")) (tCons (tVar 4) tNil))) [some (.ref a), some (.ref b), some (.int sz), some (.ref q), some (.ref r3), some (.int pk), some (.str (SX.S (fTxt n d))), some (.bl (decide (ta_ * (d : Int) < (n : Int) * tb_))), some (.bl (!decide (ta_ * (d : Int) < (n : Int) * tb_)))] H12 (isV (.bl false)) :=
      er_call2 er_c (er_var (R := isPrT K ta_ tb_) rfl ⟨r3, rfl, hT12⟩) fun H1 x y hx ⟨p1, ey, hy⟩ Q k => ⟨cNo, p1, ta_, tb_, by rw [show x = _ from hx, ey, e_no], by decide, hy, b0, ba, bb, .inl ⟨rfl, fun H2 s2 => k _ H2 s2 rfl⟩⟩
    exact Evl.s_ret (Evl.ev_is (Evl.ev_andV (er_ev (er_eq (er_var rfl rfl) eL rfl)) fun _ => Evl.ev_andV (er_ev (er_ne (er_var rfl rfl) (er_var rfl rfl) rfl)) fun _ => er_ev (er_isB eN er_c)) (by cases decide (ta_ * (d : Int) < (n : Int) * tb_) <;> rfl)) fun _ _ => k _
end
theorem all_mk {l : PySem.W.OpenLaw} {w : World} {K : PySem.W.Frag} {h : Heap} {mg : Str → Option Value} {fa : Addr} (X : K.In h) (G : h.Ns mainGlobals mg) (hfa : mg "law" = some (.ref fa))
    {C_StopError : Addr} (aC_StopError : PySem.W.nsIn K mainGlobals "StopError" = some (some (.ref C_StopError)))
    {C_InvalidWord : Addr} (aC_InvalidWord : PySem.W.nsIn K mainGlobals "InvalidWord" = some (some (.ref C_InvalidWord)))
    {f0 : Addr} {od0 an0 : Option Addr} {sl0 : Array (Option Value)} {oc0 kV0 dc0 pm0 cd0 ct0 : Value}
    (a0 : PySem.W.findIn K (.ref C_InvalidWord) "__init__" = some (some (.ref f0))) (i0 : PySem.W.isFn K (.ref f0) = true) (t0 : PySem.W.typeIn K (.ref f0) = some (.type "function"))
    (l0 : K.lookup f0 = some ⟨oc0, od0, .func (PySem.W.fnOf "__init__" "InvalidWord.__init__" (defArgs s_InvalidWord___init__) (defBody s_InvalidWord___init__) (defScope s_InvalidWord___init__) .none kV0 dc0 pm0 an0 cd0 ct0), sl0⟩) (c0 : PySem.W.codeIn K cd0 "InvalidWord.__init__" = true) (k0 : PySem.W.keepIn K (.ref f0) = true)
    {f1 : Addr} {od1 an1 : Option Addr} {sl1 : Array (Option Value)} {oc1 kV1 dc1 pm1 cd1 ct1 : Value}
    (a1 : PySem.W.nsIn K mainGlobals "compare" = some (some (.ref f1)))
    (l1 : K.lookup f1 = some ⟨oc1, od1, .func (PySem.W.fnOf "compare" "compare" (defArgs s_compare) (defBody s_compare) (defScope s_compare) .none kV1 dc1 pm1 an1 cd1 ct1), sl1⟩) (c1 : PySem.W.codeIn K cd1 "compare" = true) (k1 : PySem.W.keepIn K (.ref f1) = true)
    {f2 : Addr} {od2 an2 : Option Addr} {sl2 : Array (Option Value)} {oc2 kV2 dc2 pm2 cd2 ct2 : Value}
    (a2 : PySem.W.nsIn K mainGlobals "is_share" = some (some (.ref f2)))
    (l2 : K.lookup f2 = some ⟨oc2, od2, .func (PySem.W.fnOf "is_share" "is_share" (defArgs s_is_share) (defBody s_is_share) (defScope s_is_share) .none kV2 dc2 pm2 an2 cd2 ct2), sl2⟩) (c2 : PySem.W.codeIn K cd2 "is_share" = true) (k2 : PySem.W.keepIn K (.ref f2) = true)
    {f3 : Addr} {od3 an3 : Option Addr} {sl3 : Array (Option Value)} {oc3 kV3 dc3 pm3 cd3 ct3 : Value}
    (a3 : PySem.W.nsIn K mainGlobals "read_word" = some (some (.ref f3)))
    (l3 : K.lookup f3 = some ⟨oc3, od3, .func (PySem.W.fnOf "read_word" "read_word" (defArgs s_read_word) (defBody s_read_word) (defScope s_read_word) .none kV3 dc3 pm3 an3 cd3 ct3), sl3⟩) (c3 : PySem.W.codeIn K cd3 "read_word" = true) (k3 : PySem.W.keepIn K (.ref f3) = true)
    {f4 : Addr} {od4 an4 : Option Addr} {sl4 : Array (Option Value)} {oc4 kV4 dc4 pm4 cd4 ct4 : Value}
    (a4 : PySem.W.nsIn K mainGlobals "is_wrong" = some (some (.ref f4)))
    (l4 : K.lookup f4 = some ⟨oc4, od4, .func (PySem.W.fnOf "is_wrong" "is_wrong" (defArgs s_is_wrong) (defBody s_is_wrong) (defScope s_is_wrong) .none kV4 dc4 pm4 an4 cd4 ct4), sl4⟩) (c4 : PySem.W.codeIn K cd4 "is_wrong" = true) (k4 : PySem.W.keepIn K (.ref f4) = true)
    {f5 : Addr} {od5 an5 : Option Addr} {sl5 : Array (Option Value)} {oc5 kV5 dc5 pm5 cd5 ct5 : Value}
    (a5 : PySem.W.nsIn K mainGlobals "is_number" = some (some (.ref f5)))
    (l5 : K.lookup f5 = some ⟨oc5, od5, .func (PySem.W.fnOf "is_number" "is_number" (defArgs s_is_number) (defBody s_is_number) (defScope s_is_number) .none kV5 dc5 pm5 an5 cd5 ct5), sl5⟩) (c5 : PySem.W.codeIn K cd5 "is_number" = true) (k5 : PySem.W.keepIn K (.ref f5) = true)
    {f6 : Addr} {od6 an6 : Option Addr} {sl6 : Array (Option Value)} {oc6 kV6 dc6 pm6 cd6 ct6 : Value}
    (a6 : PySem.W.nsIn K mainGlobals "_read_share" = some (some (.ref f6)))
    (l6 : K.lookup f6 = some ⟨oc6, od6, .func (PySem.W.fnOf "_read_share" "_read_share" (defArgs s__read_share) (defBody s__read_share) (defScope s__read_share) .none kV6 dc6 pm6 an6 cd6 ct6), sl6⟩) (c6 : PySem.W.codeIn K cd6 "_read_share" = true) (k6 : PySem.W.keepIn K (.ref f6) = true)
    {f7 : Addr} {od7 an7 : Option Addr} {sl7 : Array (Option Value)} {oc7 kV7 dc7 pm7 cd7 ct7 : Value}
    (a7 : PySem.W.nsIn K mainGlobals "_law_box" = some (some (.ref f7)))
    (l7 : K.lookup f7 = some ⟨oc7, od7, .func (PySem.W.fnOf "_law_box" "_law_box" (defArgs s__law_box) (defBody s__law_box) (defScope s__law_box) .none kV7 dc7 pm7 an7 cd7 ct7), sl7⟩) (c7 : PySem.W.codeIn K cd7 "_law_box" = true) (k7 : PySem.W.keepIn K (.ref f7) = true)
    {f8 : Addr} {od8 an8 : Option Addr} {sl8 : Array (Option Value)} {oc8 kV8 dc8 pm8 cd8 ct8 : Value}
    (a8 : PySem.W.nsIn K mainGlobals "_law_take" = some (some (.ref f8)))
    (l8 : K.lookup f8 = some ⟨oc8, od8, .func (PySem.W.fnOf "_law_take" "_law_take" (defArgs s__law_take) (defBody s__law_take) (defScope s__law_take) .none kV8 dc8 pm8 an8 cd8 ct8), sl8⟩) (c8 : PySem.W.codeIn K cd8 "_law_take" = true) (k8 : PySem.W.keepIn K (.ref f8) = true)
    {f9 : Addr} {od9 an9 : Option Addr} {sl9 : Array (Option Value)} {oc9 kV9 dc9 pm9 cd9 ct9 : Value}
    (a9 : PySem.W.nsIn K mainGlobals "_law_gcd" = some (some (.ref f9)))
    (l9 : K.lookup f9 = some ⟨oc9, od9, .func (PySem.W.fnOf "_law_gcd" "_law_gcd" (defArgs s__law_gcd) (defBody s__law_gcd) (defScope s__law_gcd) .none kV9 dc9 pm9 an9 cd9 ct9), sl9⟩) (c9 : PySem.W.codeIn K cd9 "_law_gcd" = true) (k9 : PySem.W.keepIn K (.ref f9) = true)
    {f10 : Addr} {od10 an10 : Option Addr} {sl10 : Array (Option Value)} {oc10 kV10 dc10 pm10 cd10 ct10 : Value}
    (a10 : PySem.W.nsIn K mainGlobals "_law_ratio" = some (some (.ref f10)))
    (l10 : K.lookup f10 = some ⟨oc10, od10, .func (PySem.W.fnOf "_law_ratio" "_law_ratio" (defArgs s__law_ratio) (defBody s__law_ratio) (defScope s__law_ratio) .none kV10 dc10 pm10 an10 cd10 ct10), sl10⟩) (c10 : PySem.W.codeIn K cd10 "_law_ratio" = true) (k10 : PySem.W.keepIn K (.ref f10) = true)
    {f11 : Addr} {od11 an11 : Option Addr} {sl11 : Array (Option Value)} {oc11 kV11 dc11 pm11 cd11 ct11 : Value}
    (a11 : PySem.W.nsIn K mainGlobals "_law_share" = some (some (.ref f11)))
    (l11 : K.lookup f11 = some ⟨oc11, od11, .func (PySem.W.fnOf "_law_share" "_law_share" (defArgs s__law_share) (defBody s__law_share) (defScope s__law_share) .none kV11 dc11 pm11 an11 cd11 ct11), sl11⟩) (c11 : PySem.W.codeIn K cd11 "_law_share" = true) (k11 : PySem.W.keepIn K (.ref f11) = true)
    {f12 : Addr} {od12 an12 : Option Addr} {sl12 : Array (Option Value)} {oc12 kV12 dc12 pm12 cd12 ct12 : Value}
    (a12 : PySem.W.nsIn K mainGlobals "_law_less" = some (some (.ref f12)))
    (l12 : K.lookup f12 = some ⟨oc12, od12, .func (PySem.W.fnOf "_law_less" "_law_less" (defArgs s__law_less) (defBody s__law_less) (defScope s__law_less) .none kV12 dc12 pm12 an12 cd12 ct12), sl12⟩) (c12 : PySem.W.codeIn K cd12 "_law_less" = true) (k12 : PySem.W.keepIn K (.ref f12) = true)
    {f13 : Addr} {od13 an13 : Option Addr} {sl13 : Array (Option Value)} {oc13 kV13 dc13 pm13 cd13 ct13 : Value}
    (a13 : PySem.W.nsIn K mainGlobals "law" = some (some (.ref f13)))
    (l13 : K.lookup f13 = some ⟨oc13, od13, .func (PySem.W.fnOf "law" "law" (defArgs s_law) (defBody s_law) (defScope s_law) .none kV13 dc13 pm13 an13 cd13 ct13), sl13⟩) (c13 : PySem.W.codeIn K cd13 "law" = true) (k13 : PySem.W.keepIn K (.ref f13) = true)
    (z_abs : PySem.W.nsIn K mainGlobals "abs" = some none)
    (z_all : PySem.W.nsIn K mainGlobals "all" = some none)
    (z_gcd : PySem.W.nsIn K mainGlobals "gcd" = some (some (.builtin "math.gcd")))
    (z_int : PySem.W.nsIn K mainGlobals "int" = some none)
    (z_len : PySem.W.nsIn K mainGlobals "len" = some none)
    (z_str : PySem.W.nsIn K mainGlobals "str" = some none)
    {nmInvalidWord qInvalidWord : Str} {NInvalidWord : Addr} {bsInvalidWord bmInvalidWord subInvalidWord : List Value} {snInvalidWord : List Str} {abInvalidWord : Bool} {colInvalidWord : Option Bool} {ddInvalidWord : Option Addr} {m0InvalidWord m1InvalidWord m2InvalidWord m3InvalidWord m5InvalidWord : Option Value} (x_xl_InvalidWord : K.lookup C_InvalidWord = some (excClassObj nmInvalidWord qInvalidWord C_InvalidWord NInvalidWord bsInvalidWord bmInvalidWord true snInvalidWord subInvalidWord abInvalidWord colInvalidWord ddInvalidWord m0InvalidWord m1InvalidWord m2InvalidWord m3InvalidWord m5InvalidWord "ValueError.__new__"))
    (x_ve_InvalidWord : PySem.HandSPX.refsVE bmInvalidWord = true)
    (x_sa_InvalidWord : PySem.W.findIn K (.ref C_InvalidWord) "__setattr__" = some (some (.builtin "object.__setattr__")))
    (x_ga_InvalidWord : PySem.W.findIn K (.ref C_InvalidWord) "__getattribute__" = some (some (.builtin "BaseException.__getattribute__")))
    (x_gg_InvalidWord : PySem.W.findIn K (.ref C_InvalidWord) "__getattr__" = some none)
    (x_exb_InvalidWord : PySem.W.subIn K (.ref C_InvalidWord) (.type "BaseException") = some true)
    (x_ty_InvalidWord : PySem.W.typeIn K (.ref C_InvalidWord) = some (.type "type"))
    (x_kp_InvalidWord : PySem.W.keepIn K (.ref C_InvalidWord) = true)
    (x_hd_InvalidWord : PySem.W.hasDictIn K C_InvalidWord = true)
    (x_cl_InvalidWord : (PySem.W.clsIn K C_InvalidWord).isSome = true)
    (x_ha_InvalidWord : PySem.W.findIn K (.ref C_InvalidWord) "__class__" = some (some (.builtin "object.__class__")))
    (x_hn_InvalidWord : PySem.W.specialIn K (.builtin "object.__class__") "__get__" = some (some (.builtin "getset_descriptor.__get__")))
    (x_ht_InvalidWord : PySem.W.takesIn K (.builtin "object.__class__") = some true)
    (x_hm_InvalidWord : PySem.W.mroIn K C_InvalidWord (.type "object") = some true)
    (x_no_word_InvalidWord : PySem.W.findIn K (.ref C_InvalidWord) "word" = some none)
    (x_ki_InvalidWord : PySem.W.kitOne K (.ref C_InvalidWord) (.ref C_InvalidWord) = some true)
    (x_kv_InvalidWord : PySem.W.kitOne K (.ref C_InvalidWord) (.type "ValueError") = some true)
    (x_ex_self_InvalidWord : PySem.W.exmOne K (.ref C_InvalidWord) (.ref C_InvalidWord) = some true)
    (x_exm_StopError_InvalidWord : PySem.W.exmOne K (.ref C_InvalidWord) (.ref C_StopError) = some true)
    {tkNO_WORD : Tok} (x_c_NO_WORD : PySem.W.nsIn K mainGlobals "NO_WORD" = some (some (.str "no word" tkNO_WORD)))
    {tkDIGITS : Tok} (x_c_DIGITS : PySem.W.nsIn K mainGlobals "DIGITS" = some (some (.str "0123456789" tkDIGITS)))
    {tkMOST_DIGITS : Tok} (x_c_MOST_DIGITS : PySem.W.nsIn K mainGlobals "MOST_DIGITS" = some (some (.int 30 tkMOST_DIGITS)))
    {aKI : Addr} (x_c_KINDS1 : PySem.W.nsIn K mainGlobals "KINDS" = some (some (.ref aKI)))
    {dKI : Option Addr} {nKI : Nat} {sKI : Array (Option Value)} {tKI1 tKI2 : Tok} (x_c_KINDS2 : K.lookup aKI = some ⟨.type "tuple", dKI, .seq #[.str "at least" tKI1, .str "below" tKI2] nKI, sKI⟩)
    : ∃ fd : FuncData, (∀ (s : Shared) (v : Value), BindsTo s fd ⟨[v], []⟩ [("_law_script", v)]) ∧ ∀ base : Heap, K.In base → base.Ns mainGlobals mg → FnOk l.prog w K mg base CX0 8 fa fd ["_law_script"] (spLaw K) := by
  have e := hfa.symm.trans (PySem.W.mg_of X G a13)
  cases e
  have F0 := fun_mk (st := s_InvalidWord___init__) l0 c0 k0
  have F1 := fun_mk (st := s_compare) l1 c1 k1
  have F2 := fun_mk (st := s_is_share) l2 c2 k2
  have F3 := fun_mk (st := s_read_word) l3 c3 k3
  have F4 := fun_mk (st := s_is_wrong) l4 c4 k4
  have F5 := fun_mk (st := s_is_number) l5 c5 k5
  have F6 := fun_mk (st := s__read_share) l6 c6 k6
  have F7 := fun_mk (st := s__law_box) l7 c7 k7
  have F8 := fun_mk (st := s__law_take) l8 c8 k8
  have F9 := fun_mk (st := s__law_gcd) l9 c9 k9
  have F10 := fun_mk (st := s__law_ratio) l10 c10 k10
  have F11 := fun_mk (st := s__law_share) l11 c11 k11
  have F12 := fun_mk (st := s__law_less) l12 c12 k12
  have F13 := fun_mk (st := s_law) l13 c13 k13
  have T : Txt K mg ⟨f0, PySem.W.fnOf "__init__" "InvalidWord.__init__" (defArgs s_InvalidWord___init__) (defBody s_InvalidWord___init__) (defScope s_InvalidWord___init__) .none kV0 dc0 pm0 an0 cd0 ct0, f1, PySem.W.fnOf "compare" "compare" (defArgs s_compare) (defBody s_compare) (defScope s_compare) .none kV1 dc1 pm1 an1 cd1 ct1, f2, PySem.W.fnOf "is_share" "is_share" (defArgs s_is_share) (defBody s_is_share) (defScope s_is_share) .none kV2 dc2 pm2 an2 cd2 ct2, f3, PySem.W.fnOf "read_word" "read_word" (defArgs s_read_word) (defBody s_read_word) (defScope s_read_word) .none kV3 dc3 pm3 an3 cd3 ct3, f4, PySem.W.fnOf "is_wrong" "is_wrong" (defArgs s_is_wrong) (defBody s_is_wrong) (defScope s_is_wrong) .none kV4 dc4 pm4 an4 cd4 ct4, f5, PySem.W.fnOf "is_number" "is_number" (defArgs s_is_number) (defBody s_is_number) (defScope s_is_number) .none kV5 dc5 pm5 an5 cd5 ct5, f6, PySem.W.fnOf "_read_share" "_read_share" (defArgs s__read_share) (defBody s__read_share) (defScope s__read_share) .none kV6 dc6 pm6 an6 cd6 ct6, f7, PySem.W.fnOf "_law_box" "_law_box" (defArgs s__law_box) (defBody s__law_box) (defScope s__law_box) .none kV7 dc7 pm7 an7 cd7 ct7, f8, PySem.W.fnOf "_law_take" "_law_take" (defArgs s__law_take) (defBody s__law_take) (defScope s__law_take) .none kV8 dc8 pm8 an8 cd8 ct8, f9, PySem.W.fnOf "_law_gcd" "_law_gcd" (defArgs s__law_gcd) (defBody s__law_gcd) (defScope s__law_gcd) .none kV9 dc9 pm9 an9 cd9 ct9, f10, PySem.W.fnOf "_law_ratio" "_law_ratio" (defArgs s__law_ratio) (defBody s__law_ratio) (defScope s__law_ratio) .none kV10 dc10 pm10 an10 cd10 ct10, f11, PySem.W.fnOf "_law_share" "_law_share" (defArgs s__law_share) (defBody s__law_share) (defScope s__law_share) .none kV11 dc11 pm11 an11 cd11 ct11, f12, PySem.W.fnOf "_law_less" "_law_less" (defArgs s__law_less) (defBody s__law_less) (defScope s__law_less) .none kV12 dc12 pm12 an12 cd12 ct12, fa, PySem.W.fnOf "law" "law" (defArgs s_law) (defBody s_law) (defScope s_law) .none kV13 dc13 pm13 an13 cd13 ct13, C_StopError, C_InvalidWord⟩ := {
    F_InvalidWord___init__ := F0
    k_InvalidWord___init__ := k0
    b_InvalidWord___init__ := F0.binds (ps := ["self", "word"]) (fun _ _ _ _ _ _ us hl => (match us, hl with | [_, _], _ => rfl))
    m_InvalidWord___init__ := a0
    i_InvalidWord___init__ := i0
    t_InvalidWord___init__ := t0
    F_compare := F1
    k_compare := k1
    b_compare := F1.binds (ps := ["a", "b"]) (fun _ _ _ _ _ _ us hl => (match us, hl with | [_, _], _ => rfl))
    g_compare := PySem.W.mg_of X G a1
    F_is_share := F2
    k_is_share := k2
    b_is_share := F2.binds (ps := ["value"]) (fun _ _ _ _ _ _ us hl => (match us, hl with | [_], _ => rfl))
    g_is_share := PySem.W.mg_of X G a2
    F_read_word := F3
    k_read_word := k3
    b_read_word := F3.binds (ps := ["word"]) (fun _ _ _ _ _ _ us hl => (match us, hl with | [_], _ => rfl))
    g_read_word := PySem.W.mg_of X G a3
    F_is_wrong := F4
    k_is_wrong := k4
    b_is_wrong := F4.binds (ps := ["word", "share"]) (fun _ _ _ _ _ _ us hl => (match us, hl with | [_, _], _ => rfl))
    g_is_wrong := PySem.W.mg_of X G a4
    F_is_number := F5
    k_is_number := k5
    b_is_number := F5.binds (ps := ["text"]) (fun _ _ _ _ _ _ us hl => (match us, hl with | [_], _ => rfl))
    g_is_number := PySem.W.mg_of X G a5
    F__read_share := F6
    k__read_share := k6
    b__read_share := F6.binds (ps := ["word", "text"]) (fun _ _ _ _ _ _ us hl => (match us, hl with | [_, _], _ => rfl))
    g__read_share := PySem.W.mg_of X G a6
    F__law_box := F7
    k__law_box := k7
    b__law_box := F7.binds (ps := ["_law_script"]) (fun _ _ _ _ _ _ us hl => (match us, hl with | [_], _ => rfl))
    g__law_box := PySem.W.mg_of X G a7
    F__law_take := F8
    k__law_take := k8
    b__law_take := F8.binds (ps := ["_law_box_here", "_law_size"]) (fun _ _ _ _ _ _ us hl => (match us, hl with | [_, _], _ => rfl))
    g__law_take := PySem.W.mg_of X G a8
    F__law_gcd := F9
    k__law_gcd := k9
    b__law_gcd := F9.binds (ps := ["_law_a", "_law_b"]) (fun _ _ _ _ _ _ us hl => (match us, hl with | [_, _], _ => rfl))
    g__law_gcd := PySem.W.mg_of X G a9
    F__law_ratio := F10
    k__law_ratio := k10
    b__law_ratio := F10.binds (ps := ["_law_num", "_law_den"]) (fun _ _ _ _ _ _ us hl => (match us, hl with | [_, _], _ => rfl))
    g__law_ratio := PySem.W.mg_of X G a10
    F__law_share := F11
    k__law_share := k11
    b__law_share := F11.binds (ps := ["_law_box_here", "_law_most"]) (fun _ _ _ _ _ _ us hl => (match us, hl with | [_, _], _ => rfl))
    g__law_share := PySem.W.mg_of X G a11
    F__law_less := F12
    k__law_less := k12
    b__law_less := F12.binds (ps := ["_law_a", "_law_b"]) (fun _ _ _ _ _ _ us hl => (match us, hl with | [_, _], _ => rfl))
    g__law_less := PySem.W.mg_of X G a12
    F_law := F13
    k_law := k13
    b_law := F13.binds (ps := ["_law_script"]) (fun _ _ _ _ _ _ us hl => (match us, hl with | [_], _ => rfl))
    g_law := PySem.W.mg_of X G a13
    z_abs := PySem.W.mg_none_of X G z_abs
    z_all := PySem.W.mg_none_of X G z_all
    g_gcd := PySem.W.mg_of X G z_gcd
    z_int := PySem.W.mg_none_of X G z_int
    z_len := PySem.W.mg_none_of X G z_len
    z_str := PySem.W.mg_none_of X G z_str
    g_StopError := PySem.W.mg_of X G aC_StopError
    g_InvalidWord := PySem.W.mg_of X G aC_InvalidWord
    sa_InvalidWord := x_sa_InvalidWord
    ga_InvalidWord := x_ga_InvalidWord
    gg_InvalidWord := x_gg_InvalidWord
    exb_InvalidWord := x_exb_InvalidWord
    ty_InvalidWord := x_ty_InvalidWord
    kp_InvalidWord := x_kp_InvalidWord
    hd_InvalidWord := x_hd_InvalidWord
    cl_InvalidWord := x_cl_InvalidWord
    ha_InvalidWord := x_ha_InvalidWord
    hn_InvalidWord := x_hn_InvalidWord
    ht_InvalidWord := x_ht_InvalidWord
    hm_InvalidWord := x_hm_InvalidWord
    no_word_InvalidWord := x_no_word_InvalidWord
    ki_InvalidWord := x_ki_InvalidWord
    kv_InvalidWord := x_kv_InvalidWord
    oex_InvalidWord := ⟨⟨_, _, _, _, _, _, _, _, _, _, _, _, _, _, _, x_xl_InvalidWord, x_ve_InvalidWord⟩, x_sa_InvalidWord, x_exb_InvalidWord, x_ty_InvalidWord, x_kp_InvalidWord⟩
    exk_InvalidWord := ⟨x_cl_InvalidWord, x_ga_InvalidWord, x_gg_InvalidWord, x_exb_InvalidWord, x_ha_InvalidWord, x_hn_InvalidWord, x_ht_InvalidWord, x_hm_InvalidWord⟩
    xf_InvalidWord := ⟨x_ga_InvalidWord, x_gg_InvalidWord, x_exb_InvalidWord, x_hd_InvalidWord⟩
    ex_self_InvalidWord := x_ex_self_InvalidWord
    exm_StopError_InvalidWord := x_exm_StopError_InvalidWord
    c_NO_WORD := ⟨_, PySem.W.mg_of X G x_c_NO_WORD⟩
    c_DIGITS := ⟨_, PySem.W.mg_of X G x_c_DIGITS⟩
    c_MOST_DIGITS := ⟨_, PySem.W.mg_of X G x_c_MOST_DIGITS⟩
    c_KINDS := ⟨aKI, PySem.W.mg_of X G x_c_KINDS1, fun _ => .inr ⟨_, _, _, x_c_KINDS2, rfl, rfl, (by show 2 ≤ sizeLine; decide), .cons ⟨tKI1, by rw [← e_at]⟩ (.cons ⟨tKI2, by rw [← e_be]⟩ .nil)⟩⟩ }
  exact ⟨_, fun s v => .of_eq rfl, fun base _ _ => ok_law T⟩
theorem walk {l : PySem.W.OpenLaw} {q : Program} {loose : List Str} {XP : (Str → Option Value) → Heap → Prop} {YP : World → Heap → Prop} {d : DefRec} {K : Params → PySem.W.Frag} (hn : l.most = some 63) (hdf : d.params.defaults = [])
    (hY : ∀ (w : World) (h : Heap), YP w h → (K w.params).In h)
    (F : ∀ (w : World) (mg : Str → Option Value) (fa : Addr) (h : Heap), (K w.params).In h → h.Ns mainGlobals mg → mg d.name = some (.ref fa) →
      ∃ fd : FuncData, (∀ (s : Shared) (u : Value), BindsTo s fd ⟨[u], []⟩ [("_law_script", u)]) ∧ ∀ base : Heap, (K w.params).In base → base.Ns mainGlobals mg → FnOk l.prog w (K w.params) mg base CX0 8 fa fd ["_law_script"] (spLaw (K w.params))) :
    PySem.W.WalkO q loose XP YP l.row.toRowW d [] (fun f vs => PySem.call f vs) :=
  L2.walk_of (n := 63) (k := 8) (x := "_law_script") (CX := fun _ => CX0) (sp := fun w => spLaw (K w.params)) hn (by decide) hdf ⟨rfl, by decide, by decide⟩ hY F (fun _ _ a ns hl _ hS => ⟨a, ns, rfl, hS, hl, fun _ => rfl⟩) fun _ _ _ _ _ z => z
end Pf

open PySem PySem.W PyProof.Rows in
set_option maxRecDepth 100000 in
set_option maxHeartbeats 0 in
theorem PySem.Challenge.cw_lookstop_k25_wrong_words_holds : PySem.Challenge.rw_lookstop_k25_wrong_words.Holds := by
  w_on; o_law; k_head; (case hw => w_witness2)
  k_fill
  refine Pf.walk (l := PySem.Challenge.rw_lookstop_k25_wrong_words) rfl rfl (fun w h Y => PySem.W.kIn_of Y) ?F
  case F =>
    intro w mg fa h KX G hmg
    refine' Pf.all_mk KX G hmg (aC_StopError := ?aC_StopError) (aC_InvalidWord := ?aC_InvalidWord) (a0 := ?a0) (i0 := ?i0) (t0 := ?t0) (l0 := ?l0) (c0 := ?c0) (k0 := ?k0) (a1 := ?a1) (l1 := ?l1) (c1 := ?c1) (k1 := ?k1) (a2 := ?a2) (l2 := ?l2) (c2 := ?c2) (k2 := ?k2) (a3 := ?a3) (l3 := ?l3) (c3 := ?c3) (k3 := ?k3) (a4 := ?a4) (l4 := ?l4) (c4 := ?c4) (k4 := ?k4) (a5 := ?a5) (l5 := ?l5) (c5 := ?c5) (k5 := ?k5) (a6 := ?a6) (l6 := ?l6) (c6 := ?c6) (k6 := ?k6) (a7 := ?a7) (l7 := ?l7) (c7 := ?c7) (k7 := ?k7) (a8 := ?a8) (l8 := ?l8) (c8 := ?c8) (k8 := ?k8) (a9 := ?a9) (l9 := ?l9) (c9 := ?c9) (k9 := ?k9) (a10 := ?a10) (l10 := ?l10) (c10 := ?c10) (k10 := ?k10) (a11 := ?a11) (l11 := ?l11) (c11 := ?c11) (k11 := ?k11) (a12 := ?a12) (l12 := ?l12) (c12 := ?c12) (k12 := ?k12) (a13 := ?a13) (l13 := ?l13) (c13 := ?c13) (k13 := ?k13) (z_abs := ?z_abs) (z_all := ?z_all) (z_gcd := ?z_gcd) (z_int := ?z_int) (z_len := ?z_len) (z_str := ?z_str) (x_xl_InvalidWord := ?x_xl_InvalidWord) (x_ve_InvalidWord := ?x_ve_InvalidWord) (x_sa_InvalidWord := ?x_sa_InvalidWord) (x_ga_InvalidWord := ?x_ga_InvalidWord) (x_gg_InvalidWord := ?x_gg_InvalidWord) (x_exb_InvalidWord := ?x_exb_InvalidWord) (x_ty_InvalidWord := ?x_ty_InvalidWord) (x_kp_InvalidWord := ?x_kp_InvalidWord) (x_hd_InvalidWord := ?x_hd_InvalidWord) (x_cl_InvalidWord := ?x_cl_InvalidWord) (x_ha_InvalidWord := ?x_ha_InvalidWord) (x_hn_InvalidWord := ?x_hn_InvalidWord) (x_ht_InvalidWord := ?x_ht_InvalidWord) (x_hm_InvalidWord := ?x_hm_InvalidWord) (x_no_word_InvalidWord := ?x_no_word_InvalidWord) (x_ki_InvalidWord := ?x_ki_InvalidWord) (x_kv_InvalidWord := ?x_kv_InvalidWord) (x_ex_self_InvalidWord := ?x_ex_self_InvalidWord) (x_exm_StopError_InvalidWord := ?x_exm_StopError_InvalidWord) (x_c_NO_WORD := ?x_c_NO_WORD) (x_c_DIGITS := ?x_c_DIGITS) (x_c_MOST_DIGITS := ?x_c_MOST_DIGITS) (x_c_KINDS1 := ?x_c_KINDS1) (x_c_KINDS2 := ?x_c_KINDS2)
    (case aC_StopError => k_is)
    (case aC_InvalidWord => k_is)
    (case a0 => k_is)
    (case i0 => k_is)
    (case t0 => k_is)
    (case l0 => k_is)
    (case c0 => k_is)
    (case k0 => k_is)
    (case a1 => k_is)
    (case l1 => k_is)
    (case c1 => k_is)
    (case k1 => k_is)
    (case a2 => k_is)
    (case l2 => k_is)
    (case c2 => k_is)
    (case k2 => k_is)
    (case a3 => k_is)
    (case l3 => k_is)
    (case c3 => k_is)
    (case k3 => k_is)
    (case a4 => k_is)
    (case l4 => k_is)
    (case c4 => k_is)
    (case k4 => k_is)
    (case a5 => k_is)
    (case l5 => k_is)
    (case c5 => k_is)
    (case k5 => k_is)
    (case a6 => k_is)
    (case l6 => k_is)
    (case c6 => k_is)
    (case k6 => k_is)
    (case a7 => k_is)
    (case l7 => k_is)
    (case c7 => k_is)
    (case k7 => k_is)
    (case a8 => k_is)
    (case l8 => k_is)
    (case c8 => k_is)
    (case k8 => k_is)
    (case a9 => k_is)
    (case l9 => k_is)
    (case c9 => k_is)
    (case k9 => k_is)
    (case a10 => k_is)
    (case l10 => k_is)
    (case c10 => k_is)
    (case k10 => k_is)
    (case a11 => k_is)
    (case l11 => k_is)
    (case c11 => k_is)
    (case k11 => k_is)
    (case a12 => k_is)
    (case l12 => k_is)
    (case c12 => k_is)
    (case k12 => k_is)
    (case a13 => k_is)
    (case l13 => k_is)
    (case c13 => k_is)
    (case k13 => k_is)
    (case z_abs => k_is)
    (case z_all => k_is)
    (case z_gcd => k_is)
    (case z_int => k_is)
    (case z_len => k_is)
    (case z_str => k_is)
    (case x_xl_InvalidWord => first | k_is | kit_is | rfl)
    (case x_ve_InvalidWord => first | rfl | decide +kernel)
    (case x_sa_InvalidWord => first | k_is | kit_is | rfl)
    (case x_ga_InvalidWord => first | k_is | kit_is | rfl)
    (case x_gg_InvalidWord => first | k_is | kit_is | rfl)
    (case x_exb_InvalidWord => first | k_is | kit_is | rfl)
    (case x_ty_InvalidWord => first | k_is | kit_is | rfl)
    (case x_kp_InvalidWord => first | k_is | kit_is | rfl)
    (case x_hd_InvalidWord => first | k_is | kit_is | rfl)
    (case x_cl_InvalidWord => first | k_is | rfl | decide +kernel)
    (case x_ha_InvalidWord => first | k_is | kit_is | rfl)
    (case x_hn_InvalidWord => first | k_is | kit_is | rfl)
    (case x_ht_InvalidWord => first | k_is | kit_is | rfl)
    (case x_hm_InvalidWord => first | k_is | kit_is | rfl)
    (case x_no_word_InvalidWord => first | k_is | kit_is | rfl)
    (case x_ki_InvalidWord => first | k_is | kit_is | rfl)
    (case x_kv_InvalidWord => first | k_is | kit_is | rfl)
    (case x_ex_self_InvalidWord => first | k_is | kit_is | rfl)
    (case x_exm_StopError_InvalidWord => first | k_is | kit_is | rfl)
    (case x_c_NO_WORD => first | k_is | kit_is | rfl)
    (case x_c_DIGITS => first | k_is | kit_is | rfl)
    (case x_c_MOST_DIGITS => first | k_is | kit_is | rfl)
    (case x_c_KINDS1 => first | k_is | kit_is | rfl)
    (case x_c_KINDS2 => first | k_is | kit_is | rfl)
