/- What comes of a model: a step; what holds, and what is bad. -/
import Derived.Test.YtlpflmnijhfkfaaEg
namespace Go.Proofs.Ytlpflmnijhfkfaa
open Go.RowKit

theorem ready_zero {ns : List Nd} {is xs : List (Int × Int)} {bs hs sts ins : List Int} (h : readyE ns is xs bs hs sts ins = 0) : checkE ns is xs bs hs = 0 ∧ wordsE ns 3 sts = 0 ∧ wordsE ns 2 ins = 0 := by
  unfold readyE at h
  by_cases h1 : checkE ns is xs bs hs = 0
  · rw [if_neg (by simp [h1])] at h
    by_cases h2 : wordsE ns 3 sts = 0
    · rw [if_neg (by simp [h2])] at h
      exact ⟨h1, h2, h⟩
    · rw [if_pos h2] at h; exact absurd h h2
  · rw [if_pos h1] at h; exact absurd h h1

theorem marks_in {ns : List Nd} {xs : List (Int × Int)} {bs hs : List Int} (h : marksE ns xs bs hs = 0) : (∀ x ∈ bs, 0 ≤ x ∧ x < ns.length) ∧ (∀ x ∈ hs, 0 ≤ x ∧ x < ns.length) := by
  unfold marksE at h
  split at h
  · omega
  · split at h
    · omega
    · rename_i h2
      simp only [Bool.or_eq_true, not_or, Bool.not_eq_true] at h2
      refine ⟨fun x hx => isN_true.1 ?_, fun x hx => isN_true.1 ?_⟩
      · have := List.any_eq_false.1 h2.1 x hx; simpa using this
      · have := List.any_eq_false.1 h2.2 x hx; simpa using this

def nextI (ns : List Nd) (xs : List (Int × Int)) (e : Int) (sts ins : List Int) : List Int := if e = 0 then followL ns xs (vals ns sts ins ns.length) else []

set_option maxRecDepth 100000 in
set_option maxHeartbeats 4000000 in
theorem step_any (a0 a1 a2 a3 a4 : Option Addr) (c0 c1 c2 c3 c4 : Nat) (ns : List Nd) (is xs : List (Int × Int)) (bs hs : List Int) (hln : ns.length ≤ maxLen) (hli : is.length ≤ 8796093022208) (hlx : xs.length ≤ 8796093022208) (hlb : bs.length ≤ maxLen) (hlh : hs.length ≤ maxLen)
    (sts ins : List Int) (hls : sts.length ≤ maxLen) (hlq : ins.length ≤ maxLen) (v4 v5 : Value) (w : World)
    (hN : NodesAt w a0 ns) (hI : PairsAt w a1 is) (hX : PairsAt w a2 xs) (hBs : IntsAt w a3 bs) (hHs : IntsAt w a4 hs) (hS : SL w v4 sts) (hT : SL w v5 ins) :
    Calls Try.prog 31 #[Mv.val ⟨a0, c0, a1, is.length, c1, a2, xs.length, c2, a3, bs.length, c3, a4, hs.length, c4⟩ ns.length, v4, v5] w fun e w' =>
      ∃ p cap l, e = .returned (.tuple #[.slice p l.length cap, .int .i64 (readyE ns is xs bs hs sts ins)]) ∧ l = nextI ns xs (readyE ns is xs bs hs sts ins) sts ins ∧ IntsAt w' p l ∧ Below w.heap.size w w' := by
  have HB0 : Hid (Below w.heap.size w (w.alloc (.cells (Mv.cells ⟨a0, c0, a1, is.length, c1, a2, xs.length, c2, a3, bs.length, c3, a4, hs.length, c4⟩ ns.length) 40))) := bal (Below.refl _ _) _
  have HBx := hide (Box.new w ⟨a0, c0, a1, is.length, c1, a2, xs.length, c2, a3, bs.length, c3, a4, hs.length, c4⟩ ns.length)
  have HK := hide (fun _ : Unit => values_any a0 a1 a2 a3 a4 c0 c1 c2 c3 c4 ns is xs bs hs hln hli hlx hlb hlh sts ins hls hlq v4 v5 _ (hN.later HB0.out) (hI.later HB0.out) (hX.later HB0.out) (hBs.later HB0.out) (hHs.later HB0.out) (hS.later HB0.out) (hT.later HB0.out))
  have HRZ := hide (@ready_zero ns is xs bs hs sts ins)
  have HN := hide hN
  have HX := hide hX
  have HBs := hide hBs
  have HHs := hide hHs
  have HFO := hide (fun (hl : ns.length ≤ 80) (hin : ∀ p ∈ xs, 0 ≤ p.2 ∧ p.2 < (ns.length : Int)) (vs : List Int) (hvs : vs.length = ns.length) (pv : Option Addr) (cv : Nat) (w1 : World) (hb : Below w.heap.size w w1) (hV : IntsAt w1 pv vs) => follow_any ⟨a0, c0, a1, is.length, c1, a2, xs.length, c2, a3, bs.length, c3, a4, hs.length, c4⟩ ns hl xs hlx hin vs hvs a2 pv c2 cv w1 (hN.later hb) (hX.later hb) hV)
  have HV0 : Hid (valsI ns 0 sts ins = vals ns sts ins ns.length) := by unfold valsI; rw [if_pos rfl]; rfl
  have HN0 : Hid (nextI ns xs 0 sts ins = followL ns xs (vals ns sts ins ns.length)) := by unfold nextI; rw [if_pos rfl]; rfl
  have HNE : Hid (∀ e : Int, e ≠ 0 → nextI ns xs e sts ins = []) := fun e h => by unfold nextI; rw [if_neg h]
  clear hN hI hX hBs hHs hS hT
  generalize readyE ns is xs bs hs sts ins = re at *
  go_enter Try.func31, Try.ntmps31
  go_wp2_with fail
  refine (HK.out ()).mono ?_
  rintro e w1 ⟨p1, k1, l, rfl, hl1, hJ1, hb1⟩
  have HB1 := hide (bthen HB0.out hb1)
  have HX1 := hide (HBx.out.later hb1)
  have HJ1 := hide hJ1
  have HL1 := hide hl1
  have hbox := HX1.out
  simp only [Box] at hbox
  obtain ⟨q0, q1, q2, q3, q4⟩ := hbox
  clear hb1 HB0 HBx hJ1 HK hl1
  by_cases hre : re = 0
  · subst hre
    obtain ⟨hck, _, _⟩ := HRZ.out rfl
    obtain ⟨⟨hl, _, _⟩, _, hps, _⟩ := check_zero hck
    have HPX := hide (pairs_zero hps).2.1
    have HLV : Hid (l = vals ns sts ins ns.length) := HL1.out.trans HV0.out
    have HLen : Hid (l.length = ns.length) := by rw [HLV.out, vals_len]; rfl
    rw [← HLV.out] at HN0
    have HF := hide (fun _ : Unit => HFO.out hl (fun p hp => (pairE_zero (HPX.out p hp)).2.1) l HLen.out p1 k1 w1 HB1.out HJ1.out)
    clear HRZ hck hps HFO
    go_wp2_with fail
    refine (HF.out ()).mono ?_
    rintro e w2 ⟨p2, k2, rfl, hJ2, hb2⟩
    go_wp2
    go_ret2
    exact ⟨p2, k2, followL ns xs l, rfl, HN0.out.symm, hJ2, bthen HB1.out hb2⟩
  · have hne : (re != 0) = true := by simp [hre]
    have HE := hide (HNE.out re hre)
    clear hre HRZ HFO
    go_wp2
    go_ret2
    exact ⟨none, 0, [], rfl, HE.out.symm, fun h => by simp at h, HB1.out⟩

theorem enter75' (args : Array Value) (w : World) : (callFunc 75 args).run Try.prog w = .ok (.enter 75 args) w := by kernel_rfl
theorem enter76' (args : Array Value) (w : World) : (callFunc 76 args).run Try.prog w = .ok (.enter 76 args) w := by kernel_rfl

set_option maxHeartbeats 400000 in
theorem look75_any (x : Int) (B : Nat) (vs : List Int) (pv : Option Addr) (cv : Nat) (hl : vs.length ≤ 80) (h0 : 0 ≤ x) (h1 : x < vs.length) (w : World) (hB : w.cell? ⟨B, 0, none⟩ = some (.slice pv vs.length cv)) (hV : IntsAt w pv vs) :
    Calls Try.prog 75 #[.int .i64 x, .pointer (some ⟨B, 0, none⟩)] w fun e w' => e = .returned (.bool (vs.getD x.toNat 0 == 0)) ∧ Below w.heap.size w w' := by
  obtain ⟨b, off, rfl, hc⟩ := hV (by omega)
  have d0 := hc x.toNat (by omega)
  rw [← getD_at] at d0
  clear hc hV
  generalize vs.getD x.toNat 0 = y at *
  go_enter Try.func75, Try.ntmps75
  go_wp2
  go_ret
  exact ⟨rfl, Below.refl _ _⟩

theorem lookL75_any (l : List Int) (hll : l.length ≤ maxLen) (p : Option Addr) (cap : Nat) (B : Nat) (vs : List Int) (pv : Option Addr) (cv : Nat) (hl : vs.length ≤ 80) (hin : ∀ x ∈ l, 0 ≤ x ∧ x < vs.length) (w : World) (hI : IntsAt w p l) (hB : w.cell? ⟨B, 0, none⟩ = some (.slice pv vs.length cv)) (hV : IntsAt w pv vs) :
    Calls Try.prog 64 #[.slice p l.length cap, .func (.func 75) #[] #[.pointer (some ⟨B, 0, none⟩)]] w fun e w' => e = .returned (.bool (l.any (fun x => vs.getD x.toNat 0 == 0))) ∧ Below w.heap.size w w' :=
  containsFunc_any 75 _ _ l p cap w hll hI enter75' fun _ hb i hi => look75_any l[i] B vs pv cv hl (hin _ (List.getElem_mem hi)).1 (hin _ (List.getElem_mem hi)).2 _ (cell_later hb hB) (hV.later hb)

set_option maxHeartbeats 400000 in
theorem look76_any (x : Int) (B : Nat) (vs : List Int) (pv : Option Addr) (cv : Nat) (hl : vs.length ≤ 80) (h0 : 0 ≤ x) (h1 : x < vs.length) (w : World) (hB : w.cell? ⟨B, 0, none⟩ = some (.slice pv vs.length cv)) (hV : IntsAt w pv vs) :
    Calls Try.prog 76 #[.int .i64 x, .pointer (some ⟨B, 0, none⟩)] w fun e w' => e = .returned (.bool (vs.getD x.toNat 0 == 1)) ∧ Below w.heap.size w w' := by
  obtain ⟨b, off, rfl, hc⟩ := hV (by omega)
  have d0 := hc x.toNat (by omega)
  rw [← getD_at] at d0
  clear hc hV
  generalize vs.getD x.toNat 0 = y at *
  go_enter Try.func76, Try.ntmps76
  go_wp2
  go_ret
  exact ⟨rfl, Below.refl _ _⟩

theorem lookL76_any (l : List Int) (hll : l.length ≤ maxLen) (p : Option Addr) (cap : Nat) (B : Nat) (vs : List Int) (pv : Option Addr) (cv : Nat) (hl : vs.length ≤ 80) (hin : ∀ x ∈ l, 0 ≤ x ∧ x < vs.length) (w : World) (hI : IntsAt w p l) (hB : w.cell? ⟨B, 0, none⟩ = some (.slice pv vs.length cv)) (hV : IntsAt w pv vs) :
    Calls Try.prog 64 #[.slice p l.length cap, .func (.func 76) #[] #[.pointer (some ⟨B, 0, none⟩)]] w fun e w' => e = .returned (.bool (l.any (fun x => vs.getD x.toNat 0 == 1))) ∧ Below w.heap.size w w' :=
  containsFunc_any 76 _ _ l p cap w hll hI enter76' fun _ hb i hi => look76_any l[i] B vs pv cv hl (hin _ (List.getElem_mem hi)).1 (hin _ (List.getElem_mem hi)).2 _ (cell_later hb hB) (hV.later hb)

/-- Do all hold? -/
def holdsI (hs : List Int) (e : Int) (vs : List Int) : Bool := if e = 0 then !hs.any (fun x => vs.getD x.toNat 0 == 0) else false
/-- Is one bad? -/
def badI (bs : List Int) (e : Int) (vs : List Int) : Bool := if e = 0 then bs.any (fun x => vs.getD x.toNat 0 == 1) else false

set_option maxRecDepth 100000 in
set_option maxHeartbeats 4000000 in
theorem look_any (a0 a1 a2 a3 a4 : Option Addr) (c0 c1 c2 c3 c4 : Nat) (ns : List Nd) (is xs : List (Int × Int)) (bs hs : List Int) (hln : ns.length ≤ maxLen) (hli : is.length ≤ 8796093022208) (hlx : xs.length ≤ 8796093022208) (hlb : bs.length ≤ maxLen) (hlh : hs.length ≤ maxLen)
    (sts ins : List Int) (hls : sts.length ≤ maxLen) (hlq : ins.length ≤ maxLen) (v4 v5 : Value) (w : World)
    (hN : NodesAt w a0 ns) (hI : PairsAt w a1 is) (hX : PairsAt w a2 xs) (hBs : IntsAt w a3 bs) (hHs : IntsAt w a4 hs) (hS : SL w v4 sts) (hT : SL w v5 ins) :
    Calls Try.prog 32 #[Mv.val ⟨a0, c0, a1, is.length, c1, a2, xs.length, c2, a3, bs.length, c3, a4, hs.length, c4⟩ ns.length, v4, v5] w fun e w' =>
      e = .returned (.tuple #[.bool (holdsI hs (readyE ns is xs bs hs sts ins) (vals ns sts ins ns.length)), .bool (badI bs (readyE ns is xs bs hs sts ins) (vals ns sts ins ns.length)), .int .i64 (readyE ns is xs bs hs sts ins)]) ∧ Below w.heap.size w w' := by
  have hmf : ∀ (fn : Fn) (first cap : Array Value) (w : World), (Instr.makeFunc fn first cap).run Try.prog w = .ok (.func fn first cap) w := fun _ _ _ _ => rfl
  have HB0 : Hid (Below w.heap.size w (w.alloc (.cells (Mv.cells ⟨a0, c0, a1, is.length, c1, a2, xs.length, c2, a3, bs.length, c3, a4, hs.length, c4⟩ ns.length) 40))) := bal (Below.refl _ _) _
  have HBx := hide (Box.new w ⟨a0, c0, a1, is.length, c1, a2, xs.length, c2, a3, bs.length, c3, a4, hs.length, c4⟩ ns.length)
  have HK := hide (fun _ : Unit => values_any a0 a1 a2 a3 a4 c0 c1 c2 c3 c4 ns is xs bs hs hln hli hlx hlb hlh sts ins hls hlq v4 v5 _ (hN.later HB0.out) (hI.later HB0.out) (hX.later HB0.out) (hBs.later HB0.out) (hHs.later HB0.out) (hS.later HB0.out) (hT.later HB0.out))
  have HRZ := hide (@ready_zero ns is xs bs hs sts ins)
  have HN := hide hN
  have HX := hide hX
  have HBs := hide hBs
  have HHs := hide hHs
  have HV0 : Hid (valsI ns 0 sts ins = vals ns sts ins ns.length) := by unfold valsI; rw [if_pos rfl]; rfl
  have HH1 : Hid (readyE ns is xs bs hs sts ins = 0 → holdsI hs (readyE ns is xs bs hs sts ins) (vals ns sts ins ns.length) = !hs.any (fun x => (vals ns sts ins ns.length).getD x.toNat 0 == 0)) := fun h => by unfold holdsI; rw [if_pos h]
  have HH2 : Hid (readyE ns is xs bs hs sts ins = 0 → badI bs (readyE ns is xs bs hs sts ins) (vals ns sts ins ns.length) = bs.any (fun x => (vals ns sts ins ns.length).getD x.toNat 0 == 1)) := fun h => by unfold badI; rw [if_pos h]
  have HHE : Hid (readyE ns is xs bs hs sts ins ≠ 0 → holdsI hs (readyE ns is xs bs hs sts ins) (vals ns sts ins ns.length) = false ∧ badI bs (readyE ns is xs bs hs sts ins) (vals ns sts ins ns.length) = false) := fun h => by unfold holdsI badI; rw [if_neg h, if_neg h]; exact ⟨rfl, rfl⟩
  clear hN hI hX hBs hHs hS hT
  generalize holdsI hs (readyE ns is xs bs hs sts ins) (vals ns sts ins ns.length) = hB at *
  generalize badI bs (readyE ns is xs bs hs sts ins) (vals ns sts ins ns.length) = bB at *
  generalize readyE ns is xs bs hs sts ins = re at *
  go_enter Try.func32, Try.ntmps32
  go_wp2_with fail
  refine (HK.out ()).mono ?_
  rintro e w1 ⟨p1, k1, l, rfl, hl1, hJ1, hb1⟩
  have HB1 := hide (bthen HB0.out hb1)
  have HX1 := hide (HBx.out.later hb1)
  have hba : Below w1.heap.size w1 (w1.alloc (.cells #[.slice p1 l.length k1] 31)) := bal (Below.refl _ _) _
  have b9 : (w1.alloc (.cells #[.slice p1 l.length k1] 31)).cell? ⟨w1.heap.size, 0, none⟩ = some (.slice p1 l.length k1) := by simp [go_sem]
  have HB2 := hide (bthen HB1.out hba)
  have HX2 := hide (HX1.out.later hba)
  have HJ2 := hide (hJ1.later hba)
  have HL1 := hide hl1
  have hbox := HX2.out
  simp only [Box] at hbox
  obtain ⟨q0, q1, q2, q3, q4⟩ := hbox
  clear hb1 HB0 HBx hJ1 HK hl1 hba HB1 HX1
  by_cases hre : re = 0
  · subst hre
    obtain ⟨hck, _, _⟩ := HRZ.out rfl
    obtain ⟨⟨hl, _, _⟩, _, _, hmk⟩ := check_zero hck
    have HMI := hide (marks_in hmk)
    have HLV : Hid (l = vals ns sts ins ns.length) := HL1.out.trans HV0.out
    have HLen : Hid (l.length = ns.length) := by rw [HLV.out, vals_len]; rfl
    have HhB := hide (HH1.out rfl)
    have HbB := hide (HH2.out rfl)
    rw [← HLV.out] at HhB HbB
    have HCH := hide (fun (w2 : World) (hb : Below (w1.alloc (.cells #[.slice p1 l.length k1] 31)).heap.size (w1.alloc (.cells #[.slice p1 l.length k1] 31)) w2) => lookL75_any hs hlh a4 c4 w1.heap.size l p1 k1 (by rw [HLen.out]; exact hl) (fun x hx => by rw [HLen.out]; exact HMI.out.2 x hx) w2 (HHs.out.later (bthen HB2.out hb)) (cell_later hb b9) (HJ2.out.later hb))
    have HCB := hide (fun (w2 : World) (hb : Below (w1.alloc (.cells #[.slice p1 l.length k1] 31)).heap.size (w1.alloc (.cells #[.slice p1 l.length k1] 31)) w2) => lookL76_any bs hlb a3 c3 w1.heap.size l p1 k1 (by rw [HLen.out]; exact hl) (fun x hx => by rw [HLen.out]; exact HMI.out.1 x hx) w2 (HBs.out.later (bthen HB2.out hb)) (cell_later hb b9) (HJ2.out.later hb))
    clear HRZ hck hmk HHE HH1 HH2
    generalize hs.any (fun x => l.getD x.toNat 0 == 0) = rH at *
    generalize bs.any (fun x => l.getD x.toNat 0 == 1) = rB at *
    go_wp2
    generalize w1.alloc (.cells #[.slice p1 l.length k1] 31) = w9 at *
    go_region_held3 (fun w' => w'.cell? ⟨w.heap.size, 3, none⟩ = some (.slice a3 bs.length c3) ∧ w'.cell? ⟨w.heap.size, 4, none⟩ = some (.slice a4 hs.length c4))
      (first | exact ⟨q3, q4⟩ | exact ⟨cell_later hbH q3, cell_later hbH q4⟩ | exact ⟨cell_later hbB q3, cell_later hbB q4⟩ | exact ⟨cell_later hbB (cell_later hbH q3), cell_later hbB (cell_later hbH q4)⟩ | exact ⟨cell_later hbH (cell_later hbB q3), cell_later hbH (cell_later hbB q4)⟩ | go_keep)
      (first | (go_at_call_of 64 (Value.slice a4 hs.length c4); refine (HCH.out _ (by first | exact (Below.refl _ _).drew | exact (Below.refl _ _).drew.trans hbB)).mono ?_; rintro e wH ⟨rfl, hbH⟩) | (go_at_call_of 64 (Value.slice a3 bs.length c3); refine (HCB.out _ (by first | exact (Below.refl _ _).drew | exact (Below.refl _ _).drew.trans hbH)).mono ?_; rintro e wB ⟨rfl, hbB⟩))
    all_goals
      go_wp2
      go_ret3
      refine ⟨by rw [HhB.out, HbB.out]; rfl, ?_⟩
      first
        | exact bthen HB2.out (bthen ((Below.refl _ _).drew.trans hbH) hbB)
        | exact bthen HB2.out (bthen ((Below.refl _ _).drew.trans hbB) hbH)
  · have hne : (re != 0) = true := by simp [hre]
    have HZ := hide (HHE.out hre)
    clear hre HRZ HHE HH1 HH2
    go_wp2
    go_ret3
    exact ⟨by rw [HZ.out.1, HZ.out.2]; rfl, HB2.out⟩

end Go.Proofs.Ytlpflmnijhfkfaa
