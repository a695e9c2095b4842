/- The plain text's words and lines. -/
import Derived.Test.YtabnimgpednhjaaGreatDoorJh
namespace Go.Proofs.YtabnimgpednhjaaGreatDoor
open Go.RowKit
set_option maxRecDepth 100000

def bsT (l : List UInt8) : ByteArray := ⟨l.toArray⟩
theorem bsT_app (l : List UInt8) (b : ByteArray) : bsT l ++ b = bsT (l ++ b.data.toList) := by unfold bsT; simp [ByteArray.ext_iff]
theorem bsT_size (l : List UInt8) : (bsT l).size = l.length := by simp [bsT, ByteArray.size]
theorem app_list (a b : ByteArray) : (a ++ b).data.toList = a.data.toList ++ b.data.toList := by simp

/-- A node's line so far. -/
def lineP (num : Int) (d : Nd6) (j : Nat) : List UInt8 := lineN (wordsD num d j) (j + 2)
theorem lineN_pre (ws vs : List ByteArray) (k : Nat) (h : k ≤ ws.length) : lineN (ws ++ vs) k = lineN ws k := by
  induction k with
  | zero => rfl
  | succ k ih =>
    rw [lineN_succ (by rw [List.length_append]; omega), lineN_succ (by omega), ih (by omega), List.getElem_append_left (by omega)]
theorem lineP_succ (num : Int) (d : Nd6) (j : Nat) : lineP num d (j + 1) = lineP num d j ++ ([32] ++ (itoaB (d.at' (offN d.k j))).data.toList) := by
  unfold lineP
  have h : (wordsD num d (j + 1))[j + 2]? = some (itoaB (d.at' (offN d.k j))) := by
    rw [wordsD_succ, List.getElem?_append_right (by rw [wordsD_len]; omega), wordsD_len]
    simp
  have e : lineN (wordsD num d (j + 1)) (j + 1 + 2) = (lineN (wordsD num d (j + 1)) (j + 2) ++ if j + 2 = 0 then [] else [32]) ++ match (wordsD num d (j + 1))[j + 2]? with | some x => x.data.toList | none => [] := rfl
  rw [e, h, if_neg (by omega), List.append_assoc, wordsD_succ, lineN_pre _ _ _ (by rw [wordsD_len]; omega)]
theorem lineP_zero (num : Int) (d : Nd6) : lineP num d 0 = (itoaB num ++ ⟨#[32]⟩ ++ kindB d.k).data.toList := by
  unfold lineP wordsD
  simp [lineN]
theorem lineP_len {num : Int} (h0 : -9223372036854775808 ≤ num) (h1 : num ≤ 9223372036854775807) {d : Nd6} (hd : d.ok) (j : Nat) : (lineP num d j).length ≤ 22 * (j + 2) :=
  lineN_len (words_size h0 h1 hd j) (j + 2) (by rw [wordsD_len]; exact Nat.le_refl _)
theorem nodeT_line (i : Nat) (x : Ev.Nd) : nodeT i x = lineP (i : Int) (toD x) (manyN (toD x).k) ++ [10] := by
  unfold nodeT lineP
  rw [wordsD_len]
/-- The head of a node's line, as the plain text adds it. -/
theorem head_line (T : List UInt8) (num : Int) (d : Nd6) : bsT T ++ (itoaB num ++ ⟨#[32]⟩ ++ kindB d.k ++ ⟨#[32]⟩ ++ itoaB d.wd) = bsT (T ++ lineP num d 1) := by
  rw [bsT_app, lineP_succ, lineP_zero, app_list, app_list]
  unfold offN
  rw [if_pos (Nat.zero_le _)]
  simp [Nd6.at']
theorem step_line (T : List UInt8) (num : Int) (d : Nd6) (j : Nat) : bsT (T ++ lineP num d j) ++ (⟨#[32]⟩ ++ itoaB (d.at' (offN d.k j))) = bsT (T ++ lineP num d (j + 1)) := by
  rw [bsT_app, lineP_succ, app_list, List.append_assoc]
theorem pair_line (T : List UInt8) (s : ByteArray) (x y : Int) : bsT T ++ (s ++ ⟨#[32]⟩ ++ itoaB x ++ ⟨#[32]⟩ ++ itoaB y ++ ⟨#[10]⟩) = bsT (T ++ lineT s [x, y]) := by
  rw [bsT_app]
  simp [lineT, lineN]
theorem mark_line (T : List UInt8) (s : ByteArray) (x : Int) : bsT T ++ (s ++ ⟨#[32]⟩ ++ itoaB x ++ ⟨#[10]⟩) = bsT (T ++ lineT s [x]) := by
  rw [bsT_app]
  simp [lineT, lineN]

def kindA : Array Value := #[.string ⟨#[99, 111, 110, 115, 116]⟩, .string ⟨#[105, 110, 112, 117, 116]⟩, .string ⟨#[115, 116, 97, 116, 101]⟩, .string ⟨#[110, 111, 116]⟩, .string ⟨#[110, 101, 103]⟩, .string ⟨#[97, 110, 100]⟩, .string ⟨#[111, 114]⟩, .string ⟨#[120, 111, 114]⟩, .string ⟨#[97, 100, 100]⟩, .string ⟨#[115, 117, 98]⟩, .string ⟨#[109, 117, 108]⟩, .string ⟨#[100, 105, 118]⟩, .string ⟨#[114, 101, 109]⟩, .string ⟨#[115, 104, 108]⟩, .string ⟨#[115, 104, 114]⟩, .string ⟨#[101, 113]⟩, .string ⟨#[108, 101, 115, 115]⟩, .string ⟨#[115, 105, 103, 110, 101, 100]⟩, .string ⟨#[105, 102]⟩, .string ⟨#[106, 111, 105, 110]⟩, .string ⟨#[99, 117, 116]⟩, .string ⟨#[119, 105, 100, 101]⟩, .string ⟨#[115, 112, 114, 101, 97, 100]⟩]
theorem kindA_at (j : Nat) (h : j < 23) : kindA[j]? = some (.string (kindB (j + 1))) := by
  have : ∀ j, j < 23 → kindA[j]? = some (.string (kindB (j + 1))) := by
    intro j hj
    have : j = 0 ∨ j = 1 ∨ j = 2 ∨ j = 3 ∨ j = 4 ∨ j = 5 ∨ j = 6 ∨ j = 7 ∨ j = 8 ∨ j = 9 ∨ j = 10 ∨ j = 11 ∨ j = 12 ∨ j = 13 ∨ j = 14 ∨ j = 15 ∨ j = 16 ∨ j = 17 ∨ j = 18 ∨ j = 19 ∨ j = 20 ∨ j = 21 ∨ j = 22 := by omega
    rcases this with rfl | rfl | rfl | rfl | rfl | rfl | rfl | rfl | rfl | rfl | rfl | rfl | rfl | rfl | rfl | rfl | rfl | rfl | rfl | rfl | rfl | rfl | rfl <;> rfl
  exact this j h
set_option maxHeartbeats 4000000 in
theorem kindWord_any (k : Nat) (h0 : 1 ≤ k) (h1 : k ≤ 23) (w : World) :
    Calls Tryz.prog 23 #[.int .i64 k] w fun e w' => e = .returned (.string (kindB k)) ∧ Below w.heap.size w w' := by
  obtain ⟨j, rfl⟩ : ∃ j, k = j + 1 := ⟨k - 1, by omega⟩
  have hi : ((j + 1 : Nat) : Int) - 1 = (j : Int) := by omega
  have hc : (w.alloc (.cells kindA 9)).cell? ⟨w.heap.size, j, none⟩ = some (.string (kindB (j + 1))) := by
    rw [Lib.cell_of_heap (heap_alloc_new w _)]
    exact kindA_at j (by omega)
  have HB := hide (show Below w.heap.size w (w.alloc (.cells kindA 9)) from bal (Below.refl _ _) _)
  unfold kindA at hc HB
  generalize kindB (j + 1) = R at *
  go_enter Tryz.func23, Tryz.ntmps23
  go_wp2
  go_ret
  exact ⟨rfl, HB.out⟩
end Go.Proofs.YtabnimgpednhjaaGreatDoor
