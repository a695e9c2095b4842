/- The plain text's Cut. -/
import Derived.Test.YtagaemlgompggaaGreatDoorHiM
namespace Go.Proofs.YtagaemlgompggaaGreatDoor
open Go.RowKit
set_option maxRecDepth 100000

/-- Where the piece that holds the byte i begins; the pieces that end ahead of i. -/
def fromN (s : ByteArray) (c : Int) : Nat → Nat
  | 0 => 0
  | k + 1 => if byt s k = c then k + 1 else fromN s c k
def cutN (s : ByteArray) (c : Int) : Nat → List ByteArray
  | 0 => []
  | k + 1 => if byt s k = c then cutN s c k ++ [s.extract (fromN s c k) k] else cutN s c k
def cutAll (s : ByteArray) (c : Int) : List ByteArray := cutN s c s.size ++ [s.extract (fromN s c s.size) s.size]
theorem fromN_le (s : ByteArray) (c : Int) (k : Nat) : fromN s c k ≤ k := by
  induction k with
  | zero => exact Nat.le_refl _
  | succ k ih => unfold fromN; split <;> omega
theorem cutN_len (s : ByteArray) (c : Int) (k : Nat) : (cutN s c k).length ≤ k := by
  induction k with
  | zero => exact Nat.le_refl _
  | succ k ih =>
    unfold cutN
    split
    · simp; omega
    · omega

theorem appendStr {w : World} {ops : Array Oper} {rest : List Oper} {o : Oper} {a : Act} {Q : Exit → Act → World → Prop} (hgd : o.guard = none) (x y : Operand)
    (ho : o.op = .call { callee := .builtin .append, args := #[x, y], argTypes := #[56, 56] })
    (base : Nat) (v : Value) (l : List ByteArray) (hv : a.eval x = v) (hown : w.ownsRow base 9 1 v l.length (l.map Value.string)) (s : ByteArray) (hy : a.eval y = .slice (some ⟨w.heap.size, 0, none⟩) 1 1)
    (hb : l.length ≤ 1000000000000) (hbase : base ≤ w.heap.size)
    (hK : ∀ v' w', w'.ownsRow base 9 1 v' (l ++ [s]).length ((l ++ [s]).map Value.string) → Below base w w' → wpList Tryz.prog ops Q rest (a.put o.dst v') w') : wpList Tryz.prog ops Q (o :: rest) a (w.alloc (.cells #[.string s] 9)) := by
  obtain ⟨i0, hi, hz0, hz1, hz2⟩ := info_parts info9
  refine wpList_append_own _ hgd x y 56 ho base 9 i0 (.string ⟨#[]⟩) 1 16 Tryz.underlying56 hi hz0 hz1 hz2 rfl (by decide) v l.length _ hv (hown.alloc _) ⟨w.heap.size, 0, none⟩ 1 1 [.string s] hy rfl ?_ ?_ (by unfold maxLen; omega) (by omega) (by simp; omega) ?_
  · intro j u hj
    match j, hj with
    | 0, hj => simp at hj; subst hj; simp [Addr.add]
  · intro u hu; simp at hu; subst hu; rfl
  · intro v' w' h1 h2 _
    exact hK v' w' (by simpa using h1) (((Below.refl base w).alloc hbase _).grown h2 (by simp; omega) (fun j hj => (hown.lt j hj).1))

set_option maxHeartbeats 2000000 in
set_option maxRecDepth 100000 in
theorem cut_any (s : ByteArray) (c : Int) (hs : s.size ≤ 100000000000) (w : World) :
    Calls Tryz.prog 20 #[.string s, .int .u8 c] w fun e w' => ∃ v, e = .returned v ∧ w'.ownsRow w.heap.size 9 1 v (cutAll s c).length ((cutAll s c).map Value.string) ∧ Below w.heap.size w w' := by
  go_enter Tryz.func20, Tryz.ntmps20
  go_wp2
  go_loopw [5, 6, 7] (fun v f i wr => ∃ k : Nat, k ≤ s.size ∧ i = .int .i64 k ∧ f = .int .i64 (fromN s c k : Nat) ∧ Hid (wr.ownsRow w.heap.size 9 1 v (cutN s c k).length ((cutN s c k).map Value.string) ∧ Below w.heap.size w wr)) (fun _ _ i _ => s.size - (intOf i).toNat)
  case atStart => exact ⟨0, Nat.zero_le _, rfl, rfl, ⟨rfl, .inl ⟨rfl, rfl⟩⟩, Below.refl _ _⟩
  case round =>
    obtain ⟨k, hk, rfl, rfl, HR⟩ := hrel
    have hf := fromN_le s c k
    have HN := hide (cutN_len s c k)
    by_cases hlt : k < s.size
    · have hg := byt_get hlt
      by_cases hc : byt s k = c
      · have HF := hide (show fromN s c (k + 1) = k + 1 by simp [fromN, hc])
        have HC := hide (show cutN s c (k + 1) = cutN s c k ++ [s.extract (fromN s c k) k] by simp [cutN, hc])
        subst hc
        generalize fromN s (byt s k) k = f at *
        go_wp2_with (at_builtin; refine appendStr rfl _ _ rfl w.heap.size _ _ rfl HR.out.1 _ rfl (by have := HN.out; omega) HR.out.2.size ?_)
        intro v' w3 hown hb3
        have HV := hide (show w3.ownsRow w.heap.size 9 1 v' (cutN s (byt s k) (k + 1)).length ((cutN s (byt s k) (k + 1)).map Value.string) ∧ Below w.heap.size w w3 from ⟨by rw [HC.out]; simpa using hown, HR.out.2.trans hb3⟩)
        clear hown hb3 HR HC
        go_wp2
        go_roundw
        case rel => exact ⟨k + 1, by omega, by go_num, by rw [HF.out]; go_num, HV⟩
        case measure => simp [intOf]; omega
      · have HF := hide (show fromN s c (k + 1) = fromN s c k by simp [fromN, hc])
        have HC := hide (show cutN s c (k + 1) = cutN s c k by simp [cutN, hc])
        go_wp2
        go_roundw
        case rel => exact ⟨k + 1, by omega, by go_num, by rw [HF.out], by rw [HC.out]; exact HR⟩
        case measure => simp [intOf]; omega
    · obtain rfl : k = s.size := by omega
      go_wp2_with (at_builtin; refine appendStr rfl _ _ rfl w.heap.size _ _ rfl HR.out.1 _ rfl (by have := HN.out; omega) HR.out.2.size ?_)
      intro v' w3 hown hb3
      have HV := hide (show w3.ownsRow w.heap.size 9 1 v' (cutAll s c).length ((cutAll s c).map Value.string) ∧ Below w.heap.size w w3 from ⟨by unfold cutAll; simpa using hown, HR.out.2.trans hb3⟩)
      clear hown hb3 HR
      go_wp2
      go_ret
      exact ⟨_, rfl, HV.out.1, HV.out.2⟩
end Go.Proofs.YtagaemlgompggaaGreatDoor
