/- The plain text's words and lines. -/
import Derived.Test.YtabnimgpednhjaaDoorJh
namespace Go.Proofs.YtabnimgpednhjaaDoor
open Go.RowKit
set_option maxRecDepth 100000

def bsT (l : List UInt8) : ByteArray := ⟨l.toArray⟩
theorem bsT_app (l : List UInt8) (b : ByteArray) : bsT l ++ b = bsT (l ++ b.data.toList) := by unfold bsT; simp [ByteArray.ext_iff]
theorem bsT_size (l : List UInt8) : (bsT l).size = l.length := by simp [bsT, ByteArray.size]
theorem app_list (a b : ByteArray) : (a ++ b).data.toList = a.data.toList ++ b.data.toList := by simp

/-- A node's line so far. -/
def lineP (num : Int) (d : Nd6) (j : Nat) : List UInt8 := lineN (wordsD num d j) (j + 2)
theorem lineN_pre (ws vs : List ByteArray) (k : Nat) (h : k ≤ ws.length) : lineN (ws ++ vs) k = lineN ws k := by
  induction k with
  | zero => rfl
  | succ k ih =>
    rw [lineN_succ (by rw [List.length_append]; omega), lineN_succ (by omega), ih (by omega), List.getElem_append_left (by omega)]
theorem lineP_succ (num : Int) (d : Nd6) (j : Nat) : lineP num d (j + 1) = lineP num d j ++ ([32] ++ (itoaB (d.at' (offN d.k j))).data.toList) := by
  unfold lineP
  have h : (wordsD num d (j + 1))[j + 2]? = some (itoaB (d.at' (offN d.k j))) := by
    rw [wordsD_succ, List.getElem?_append_right (by rw [wordsD_len]; omega), wordsD_len]
    simp
  have e : lineN (wordsD num d (j + 1)) (j + 1 + 2) = (lineN (wordsD num d (j + 1)) (j + 2) ++ if j + 2 = 0 then [] else [32]) ++ match (wordsD num d (j + 1))[j + 2]? with | some x => x.data.toList | none => [] := rfl
  rw [e, h, if_neg (by omega), List.append_assoc, wordsD_succ, lineN_pre _ _ _ (by rw [wordsD_len]; omega)]
theorem lineP_zero (num : Int) (d : Nd6) : lineP num d 0 = (itoaB num ++ ⟨#[32]⟩ ++ kindB d.k).data.toList := by
  unfold lineP wordsD
  simp [lineN]
theorem lineP_len {num : Int} (h0 : -9223372036854775808 ≤ num) (h1 : num ≤ 9223372036854775807) {d : Nd6} (hd : d.ok) (j : Nat) : (lineP num d j).length ≤ 22 * (j + 2) :=
  lineN_len (words_size h0 h1 hd j) (j + 2) (by rw [wordsD_len]; exact Nat.le_refl _)
theorem nodeT_line (i : Nat) (x : Ev.Nd) : nodeT i x = lineP (i : Int) (toD x) (manyN (toD x).k) ++ [10] := by
  unfold nodeT lineP
  rw [wordsD_len]
/-- The head of a node's line, as the plain text adds it. -/
theorem head_line (T : List UInt8) (num : Int) (d : Nd6) : bsT T ++ (itoaB num ++ ⟨#[32]⟩ ++ kindB d.k ++ ⟨#[32]⟩ ++ itoaB d.wd) = bsT (T ++ lineP num d 1) := by
  rw [bsT_app, lineP_succ, lineP_zero, app_list, app_list]
  unfold offN
  rw [if_pos (Nat.zero_le _)]
  simp [Nd6.at']
theorem step_line (T : List UInt8) (num : Int) (d : Nd6) (j : Nat) : bsT (T ++ lineP num d j) ++ (⟨#[32]⟩ ++ itoaB (d.at' (offN d.k j))) = bsT (T ++ lineP num d (j + 1)) := by
  rw [bsT_app, lineP_succ, app_list, List.append_assoc]
theorem pair_line (T : List UInt8) (s : ByteArray) (x y : Int) : bsT T ++ (s ++ ⟨#[32]⟩ ++ itoaB x ++ ⟨#[32]⟩ ++ itoaB y ++ ⟨#[10]⟩) = bsT (T ++ lineT s [x, y]) := by
  rw [bsT_app]
  simp [lineT, lineN]
theorem mark_line (T : List UInt8) (s : ByteArray) (x : Int) : bsT T ++ (s ++ ⟨#[32]⟩ ++ itoaB x ++ ⟨#[10]⟩) = bsT (T ++ lineT s [x]) := by
  rw [bsT_app]
  simp [lineT, lineN]

def kindA : Array Value := #[.string ⟨#[99, 111, 110, 115, 116]⟩, .string ⟨#[105, 110, 112, 117, 116]⟩, .string ⟨#[115, 116, 97, 116, 101]⟩, .string ⟨#[110, 111, 116]⟩, .string ⟨#[110, 101, 103]⟩, .string ⟨#[97, 110, 100]⟩, .string ⟨#[111, 114]⟩, .string ⟨#[120, 111, 114]⟩, .string ⟨#[97, 100, 100]⟩, .string ⟨#[115, 117, 98]⟩, .string ⟨#[109, 117, 108]⟩, .string ⟨#[100, 105, 118]⟩, .string ⟨#[114, 101, 109]⟩, .string ⟨#[115, 104, 108]⟩, .string ⟨#[115, 104, 114]⟩, .string ⟨#[101, 113]⟩, .string ⟨#[108, 101, 115, 115]⟩, .string ⟨#[115, 105, 103, 110, 101, 100]⟩, .string ⟨#[105, 102]⟩, .string ⟨#[106, 111, 105, 110]⟩, .string ⟨#[99, 117, 116]⟩, .string ⟨#[119, 105, 100, 101]⟩, .string ⟨#[115, 112, 114, 101, 97, 100]⟩]
theorem kindA_at (j : Nat) (h : j < 23) : kindA[j]? = some (.string (kindB (j + 1))) := by
  have : ∀ j, j < 23 → kindA[j]? = some (.string (kindB (j + 1))) := by
    intro j hj
    have : j = 0 ∨ j = 1 ∨ j = 2 ∨ j = 3 ∨ j = 4 ∨ j = 5 ∨ j = 6 ∨ j = 7 ∨ j = 8 ∨ j = 9 ∨ j = 10 ∨ j = 11 ∨ j = 12 ∨ j = 13 ∨ j = 14 ∨ j = 15 ∨ j = 16 ∨ j = 17 ∨ j = 18 ∨ j = 19 ∨ j = 20 ∨ j = 21 ∨ j = 22 := by omega
    rcases this with rfl | rfl | rfl | rfl | rfl | rfl | rfl | rfl | rfl | rfl | rfl | rfl | rfl | rfl | rfl | rfl | rfl | rfl | rfl | rfl | rfl | rfl | rfl <;> rfl
  exact this j h
end Go.Proofs.YtabnimgpednhjaaDoor

namespace Go.Proofs.YtabnimgpednhjaaDoor
open Go.RowKit
set_option maxRecDepth 100000

theorem init_bs (T : List UInt8) (x y : Int) : bsT T ++ ((⟨#[105, 110, 105, 116, 32]⟩ : ByteArray) ++ itoaB x ++ ⟨#[32]⟩ ++ itoaB y ++ ⟨#[10]⟩) = bsT (T ++ lineT (sortB 1) [x, y]) := by
  rw [← pair_line, show sortB 1 ++ ⟨#[32]⟩ = (⟨#[105, 110, 105, 116, 32]⟩ : ByteArray) from by decide]
theorem next_bs (T : List UInt8) (x y : Int) : bsT T ++ ((⟨#[110, 101, 120, 116, 32]⟩ : ByteArray) ++ itoaB x ++ ⟨#[32]⟩ ++ itoaB y ++ ⟨#[10]⟩) = bsT (T ++ lineT (sortB 2) [x, y]) := by
  rw [← pair_line, show sortB 2 ++ ⟨#[32]⟩ = (⟨#[110, 101, 120, 116, 32]⟩ : ByteArray) from by decide]
theorem bad_bs (T : List UInt8) (x : Int) : bsT T ++ ((⟨#[98, 97, 100, 32]⟩ : ByteArray) ++ itoaB x ++ ⟨#[10]⟩) = bsT (T ++ lineT (sortB 3) [x]) := by
  rw [← mark_line, show sortB 3 ++ ⟨#[32]⟩ = (⟨#[98, 97, 100, 32]⟩ : ByteArray) from by decide]
theorem hold_bs (T : List UInt8) (x : Int) : bsT T ++ ((⟨#[104, 111, 108, 100, 32]⟩ : ByteArray) ++ itoaB x ++ ⟨#[10]⟩) = bsT (T ++ lineT (sortB 4) [x]) := by
  rw [← mark_line, show sortB 4 ++ ⟨#[32]⟩ = (⟨#[104, 111, 108, 100, 32]⟩ : ByteArray) from by decide]

/-- What a node's line is made of, step by step. -/
structure LineIs (T : List UInt8) (k : Nat) (d : Nd6) (tk : Nat) (P : Nat → List UInt8) (F : List UInt8) : Prop where
  tk3 : tk ≤ 3
  head : bsT T ++ (itoaB (k : Int) ++ ⟨#[32]⟩ ++ kindB d.k ++ ⟨#[32]⟩ ++ itoaB d.wd) = bsT (T ++ P 1)
  step : ∀ j, j < tk → bsT (T ++ P (j + 1)) ++ (⟨#[32]⟩ ++ itoaB (d.at' (j + 2))) = bsT (T ++ P (j + 2))
  num : bsT (T ++ P (tk + 1)) ++ (⟨#[32]⟩ ++ itoaB d.n) = bsT (T ++ P (tk + 2))
  endN : hasN d.k = true → bsT (T ++ P (tk + 2)) ++ ⟨#[10]⟩ = bsT F
  end0 : hasN d.k = false → bsT (T ++ P (tk + 1)) ++ ⟨#[10]⟩ = bsT F
  len : ∀ j, (P j).length ≤ 22 * (j + 2)
theorem line_is (T : List UInt8) (k : Nat) (hk : k ≤ 1000) (x : Ev.Nd) (hx : (toD x).ok) : ∃ tk : Nat, Ev.takes (toD x).k = (tk : Int) ∧ LineIs T k (toD x) tk (lineP k (toD x)) (T ++ nodeT k x) := by
  have hb := takes_bd ((toD x).k : Int)
  obtain ⟨tk, ht⟩ : ∃ tk : Nat, Ev.takes (toD x).k = (tk : Int) := ⟨(Ev.takes (toD x).k).toNat, by omega⟩
  refine ⟨tk, ht, by omega, head_line T k (toD x), ?_, ?_, ?_, ?_, lineP_len (by omega) (by omega) hx⟩
  · intro j hj
    have h := step_line T k (toD x) (j + 1)
    rw [show offN (toD x).k (j + 1) = j + 2 by unfold offN; rw [if_pos (by omega)]] at h
    exact h
  · have h := step_line T k (toD x) (tk + 1)
    rw [show offN (toD x).k (tk + 1) = 5 by unfold offN; rw [if_neg (by omega)]] at h
    exact h
  · intro h
    rw [nodeT_line, show manyN (toD x).k = tk + 2 by unfold manyN; rw [h, if_pos rfl]; omega, bsT_app, List.append_assoc]
  · intro h
    rw [nodeT_line, show manyN (toD x).k = tk + 1 by unfold manyN; rw [h, if_neg (by decide)]; omega, bsT_app, List.append_assoc]

end Go.Proofs.YtabnimgpednhjaaDoor

namespace Go.Proofs.YtabnimgpednhjaaDoor
open Go.RowKit
set_option maxRecDepth 100000

/-- The first of some words that a word is, 0 where it is none. -/
def findW (B : Nat → ByteArray) (s : ByteArray) : Nat → Nat → Nat
  | 0, _ => 0
  | f + 1, k => if B k = s then k else findW B s f (k + 1)
theorem findW_hit {B : Nat → ByteArray} {s : ByteArray} {f k : Nat} (h : B k = s) : findW B s (f + 1) k = k := by simp [findW, h]
theorem findW_miss {B : Nat → ByteArray} {s : ByteArray} {f k : Nat} (h : ¬ B k = s) : findW B s (f + 1) k = findW B s f (k + 1) := by simp [findW, h]
def sortN (s : ByteArray) : Nat := findW sortB s 4 1
def kindN (s : ByteArray) : Nat := findW kindB s 23 1

theorem toList_ne {a b : ByteArray} (h : ¬ a = b) : (a.toList == b.toList) = false := by
  rw [beq_eq_false_iff_ne]
  intro e
  rw [ByteArray.toList_eq, ByteArray.toList_eq] at e
  apply h
  cases a; cases b
  simp_all

set_option maxHeartbeats 2000000 in
theorem sortOf_any (s : ByteArray) (w : World) (hSW : SW w) :
    Calls Tryd.prog 29 #[.string s] w fun e w' => e = .returned (.int .i64 (sortN s)) ∧ w' = w := by
  have HS := hide hSW
  have H0 : Hid (findW sortB s 4 1 = sortN s) := rfl
  generalize sortN s = R at *
  clear hSW
  go_enter Tryd.func29, Tryd.ntmps29
  go_wp2
  go_loopw [3] (fun i wr => ∃ k : Nat, (1 ≤ k ∧ k ≤ 5) ∧ i = .int .i64 k ∧ wr = w ∧ Hid (findW sortB s (5 - k) k = R)) (fun i _ => 5 - (intOf i).toNat)
  case atStart => exact ⟨1, by omega, rfl, rfl, H0⟩
  case round =>
    clear H0
    obtain ⟨k, hk, rfl, rfl, HR⟩ := hrel
    by_cases hlt : k ≤ 4
    · have hki : (k : Int) ≤ 4 := by omega
      have hk5 : (k : Int) < 5 := by omega
      have hk0 : (0 : Int) ≤ (k : Int) := by omega
      have hc := HS.out k (by omega)
      rw [show 5 - k = 4 - k + 1 by omega] at HR
      by_cases he : sortB k = s
      · rw [findW_hit he] at HR
        obtain rfl := HR.out
        subst he
        generalize sortB k = S at *
        go_wp2
        go_ret
        exact ⟨rfl, rfl⟩
      · rw [findW_miss he] at HR
        generalize sortB k = S at *
        have hd1 : decide (S = s) = false := by simpa using he
        have hd2 : (S.toList == s.toList) = false := toList_ne he
        go_wp2
        go_roundw
        case rel => exact ⟨k + 1, by omega, by go_num, trivial, by rw [show 5 - (k + 1) = 4 - k by omega]; exact HR⟩
        case measure => simp [intOf]; omega
    · obtain rfl : k = 5 := by omega
      obtain rfl : 0 = R := HR.out
      go_wp2
      go_ret
      exact ⟨rfl, rfl⟩

set_option maxHeartbeats 2000000 in
theorem kindOf_any (s : ByteArray) (w : World) (hKW : KW w) :
    Calls Tryd.prog 56 #[.string s] w fun e w' => e = .returned (.int .i64 (kindN s)) ∧ w' = w := by
  have HS := hide hKW
  have H0 : Hid (findW kindB s 23 1 = kindN s) := rfl
  generalize kindN s = R at *
  clear hKW
  go_enter Tryd.func56, Tryd.ntmps56
  go_wp2
  go_loopw [3] (fun i wr => ∃ k : Nat, (1 ≤ k ∧ k ≤ 24) ∧ i = .int .i64 k ∧ wr = w ∧ Hid (findW kindB s (24 - k) k = R)) (fun i _ => 24 - (intOf i).toNat)
  case atStart => exact ⟨1, by omega, rfl, rfl, H0⟩
  case round =>
    clear H0
    obtain ⟨k, hk, rfl, rfl, HR⟩ := hrel
    by_cases hlt : k < 24
    · have hki : (k : Int) < 24 := by omega
      have hk0 : (0 : Int) ≤ (k : Int) := by omega
      have hc := HS.out k (by omega)
      rw [show 24 - k = 23 - k + 1 by omega] at HR
      by_cases he : kindB k = s
      · rw [findW_hit he] at HR
        obtain rfl := HR.out
        subst he
        generalize kindB k = S at *
        go_wp2
        go_ret
        exact ⟨rfl, rfl⟩
      · rw [findW_miss he] at HR
        generalize kindB k = S at *
        have hd1 : decide (S = s) = false := by simpa using he
        have hd2 : (S.toList == s.toList) = false := toList_ne he
        go_wp2
        go_roundw
        case rel => exact ⟨k + 1, by omega, by go_num, trivial, by rw [show 24 - (k + 1) = 23 - k by omega]; exact HR⟩
        case measure => simp [intOf]; omega
    · obtain rfl : k = 24 := by omega
      obtain rfl : 0 = R := HR.out
      go_wp2
      go_ret
      exact ⟨rfl, rfl⟩
end Go.Proofs.YtabnimgpednhjaaDoor
