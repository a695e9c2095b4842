/- TextBack's walk. -/
import Derived.Test.YtabnimgpednhjaaDoorLa
import Derived.Test.YtabnimgpednhjaaDoorKfM
namespace Go.Proofs.YtabnimgpednhjaaDoor
open Go.RowKit Go.Deep
set_option maxRecDepth 100000

theorem parse_all (s : ByteArray) (mx : Int) (w : World) (hm : w.cell? ⟨2, 0, none⟩ = some (.int .i64 mx)) (hSW : SW w) (hKW : KW w) : Calls Tryd.prog 6 #[.string s] w (ParseOut s w) := by
  by_cases h : 10000 < s.size
  · exact parse_long s h w
  · exact parse_any s (by omega) mx w hm hSW hKW
theorem parse_few (s : ByteArray) : (parseR s).1.few := by
  unfold parseR
  split
  · exact ⟨Nat.zero_le _, Nat.zero_le _, Nat.zero_le _, Nat.zero_le _, Nat.zero_le _⟩
  · rename_i h
    have key : ∀ (n : Nat) (m m' : Md) (s : ByteArray) (k : Nat), s.size ≤ n → m.within (k - 1) → 1 ≤ k → readM m s k = .ok m' → m'.within (k - 1 + n) := by
      intro n
      induction n with
      | zero =>
        intro m m' s k hn hw hk hr
        rw [readM_nil (by omega)] at hr
        cases hr
        exact hw
      | succ n ih =>
        intro m m' s k hn hw hk hr
        by_cases h0 : s.size = 0
        · rw [readM_nil h0] at hr
          cases hr
          obtain ⟨h1, h2, h3, h4, h5⟩ := hw
          exact ⟨by omega, by omega, by omega, by omega, by omega⟩
        · cases he : endsOf s with
          | false => rw [readM_no h0 he] at hr; cases hr
          | true =>
            cases hl : m.line (wordsOf (lineOf s)) with
            | none => rw [readM_none h0 he hl] at hr; cases hr
            | some m2 =>
              rw [readM_some h0 he hl] at hr
              have := ih m2 m' (restOf s) (k + 1) (by have := rest_size he; omega) (by have h := Md.line_within hl hw; rw [show k - 1 + 1 = k + 1 - 1 by omega] at h; exact h) (by omega) hr
              rw [show k - 1 + (n + 1) = k + 1 - 1 + n by omega]
              exact this
    split
    · exact ⟨Nat.zero_le _, Nat.zero_le _, Nat.zero_le _, Nat.zero_le _, Nat.zero_le _⟩
    · rename_i m hm
      have hw := key s.size Md0 m s 1 (Nat.le_refl _) ⟨Nat.zero_le _, Nat.zero_le _, Nat.zero_le _, Nat.zero_le _, Nat.zero_le _⟩ (Nat.le_refl _) hm
      split
      · exact hw.few (by omega)
      · exact ⟨Nat.zero_le _, Nat.zero_le _, Nat.zero_le _, Nat.zero_le _, Nat.zero_le _⟩
theorem same_all {m : Md} (hf : m.few) (u v : Value) (w : World) (hu : IsModel w u m) (hv : IsModel w v m) : Calls Tryd.prog 7 #[u, v] w fun e w' => e = .returned (.bool true) ∧ Below w.heap.size w w' := by
  obtain ⟨a0, a1, a2, a3, a4, c0, c1, c2, c3, c4, rfl, h0, h1, h2, h3, h4⟩ := hu
  obtain ⟨b0, b1, b2, b3, b4, e0, e1, e2, e3, e4, rfl, g0, g1, g2, g3, g4⟩ := hv
  obtain ⟨f0, f1, f2, f3, f4⟩ := hf
  exact Ev.sameModel_eq a0 a1 a2 a3 a4 b0 b1 b2 b3 b4 c0 c1 c2 c3 c4 e0 e1 e2 e3 e4 m.ns m.is m.xs m.bs m.hs (by unfold maxLen; omega) (by omega) (by omega) (by unfold maxLen; omega) (by unfold maxLen; omega) w h0 h1 h2 h3 h4 g0 g1 g2 g3 g4
/-- What is read without an error passes Check, and is written as it stood. -/
theorem parse_ok {s : ByteArray} {m : Md} {k : Nat} (h : parseR s = (m, k, 0)) : Ev.checkE m.ns m.is m.xs m.bs m.hs = 0 ∧ modelT m.ns m.is m.xs m.bs m.hs = bl s := by
  unfold parseR at h
  split at h
  · cases h
  · split at h
    · cases h
    · rename_i m' hm
      split at h
      · rename_i hc
        cases h
        exact ⟨hc, read_back hm⟩
      · rename_i hc
        exact absurd (congrArg (fun x => x.2.2) h) hc
theorem back_parse {ns : List Ev.Nd} {is xs : List (Int × Int)} {bs hs : List Int} (h : Ev.checkE ns is xs bs hs = 0) {s : ByteArray} (hs' : bl s = modelT ns is xs bs hs) (hz : s.size ≤ 10000) : ∃ l, parseR s = (⟨ns, is, xs, bs, hs, l⟩, 0, 0) := by
  obtain ⟨l, hl⟩ := back_read (model_facts h) s hs' 1
  refine ⟨l, ?_⟩
  unfold parseR
  rw [if_neg (by omega), hl]
  exact if_pos h
end Go.Proofs.YtabnimgpednhjaaDoor
