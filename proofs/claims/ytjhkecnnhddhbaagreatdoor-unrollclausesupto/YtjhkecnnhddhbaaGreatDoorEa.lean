/- What comes of a model: an operation's word is one of its width; the plain Made, whatever it is handed beside what it takes. -/
import Derived.Test.YtjhkecnnhddhbaaGreatDoorAb
import Derived.Test.YtjhkecnnhddhbaaGreatDoorYl
namespace Go.Proofs.YtjhkecnnhddhbaaGreatDoor.Ev
open Go.RowKit
set_option maxRecDepth 100000
set_option maxRecDepth 100000

theorem one_kinds {k : Int} (h : takes k = 1) (h4 : 4 ≤ k ∧ k ≤ 23) : k = 4 ∨ k = 5 ∨ k = 21 ∨ k = 22 ∨ k = 23 := by
  rcases kinds20 h4 with rfl | rfl | rfl | rfl | rfl | rfl | rfl | rfl | rfl | rfl | rfl | rfl | rfl | rfl | rfl | rfl | rfl | rfl | rfl | rfl
  all_goals first | (simp; done) | (exfalso; revert h; decide)

theorem nat_lt_two {x : Nat} {v : Int} (h : x < 2 ^ v.toNat) : isW (x : Int) v = true := isW_iff.2 ⟨by omega, by rw [two_nat]; exact_mod_cast h⟩
theorem lt_nat {a v : Int} (h : isW a v = true) : a.toNat < 2 ^ v.toNat := by
  have := isW_iff.1 h
  rw [two_nat] at this
  omega
theorem emod_isW (x v : Int) : isW (x % two v) v = true := isW_iff.2 ⟨Int.emod_nonneg _ (by have := two_pos v; omega), Int.emod_lt_of_pos _ (two_pos v)⟩

/-- What an operation makes is a word of its width. -/
theorem made_isW {k v a b c n wa wb wc : Int} (hfit : fitE k v n wa wb wc = 0) (ha : isW a wa = true) (hb : isW b wb = true) (hc : isW c wc = true) : isW (madeE k v a b c n wa wb) v = true := by
  obtain ⟨hv, hr, hok, hn, hk⟩ := fit_zero hfit
  have h0 := isW_iff.1 ha
  have h1 := isW_iff.1 hb
  have tv := two_pos v
  rcases kinds20 hk with rfl | rfl | rfl | rfl | rfl | rfl | rfl | rfl | rfl | rfl | rfl | rfl | rfl | rfl | rfl | rfl | rfl | rfl | rfl | rfl
  all_goals simp only [okOf] at hok
  all_goals simp only [madeE]
  · obtain rfl : wa = v := by simpa using hok
    refine isW_iff.2 ?_
    simp only [if_pos]
    omega
  · exact emod_isW _ _
  · obtain ⟨rfl, rfl⟩ : wa = v ∧ wb = wa := by simp at hok; omega
    exact nat_lt_two (Nat.lt_of_le_of_lt Nat.and_le_left (lt_nat ha))
  · obtain ⟨rfl, rfl⟩ : wa = v ∧ wb = wa := by simp at hok; omega
    exact nat_lt_two (Nat.or_lt_two_pow (lt_nat ha) (lt_nat hb))
  · obtain ⟨rfl, rfl⟩ : wa = v ∧ wb = wa := by simp at hok; omega
    exact nat_lt_two (Nat.xor_lt_two_pow (lt_nat ha) (lt_nat hb))
  · exact emod_isW _ _
  · exact emod_isW _ _
  · exact emod_isW _ _
  · obtain ⟨rfl, rfl⟩ : wa = v ∧ wb = wa := by simp at hok; omega
    have e1 := Int.ediv_nonneg h0.1 h1.1
    have e2 := Int.ediv_le_self b h0.1
    refine isW_iff.2 ?_
    simp
    split <;> omega
  · obtain ⟨rfl, rfl⟩ : wa = v ∧ wb = wa := by simp at hok; omega
    refine isW_iff.2 ?_
    simp
    split
    · omega
    · have e1 := Int.emod_nonneg a (show b ≠ 0 from by assumption)
      have e2 := Int.emod_lt_of_pos a (show 0 < b from by omega)
      omega
  · simp
    split
    · exact isW_iff.2 ⟨by omega, tv⟩
    · exact emod_isW _ _
  · obtain ⟨rfl, rfl⟩ : wa = v ∧ wb = wa := by simp at hok; omega
    have tb := two_pos b
    have e1 := Int.ediv_nonneg h0.1 (show 0 ≤ two b from by omega)
    have e2 := Int.ediv_le_self (two b) h0.1
    refine isW_iff.2 ?_
    simp
    split <;> omega
  · obtain ⟨_, rfl⟩ : wa = wb ∧ v = 1 := by simpa using hok
    simp [yesOf]
    split <;> decide
  · obtain ⟨_, rfl⟩ : wa = wb ∧ v = 1 := by simpa using hok
    simp [yesOf]
    split <;> decide
  · obtain ⟨_, rfl⟩ : wa = wb ∧ v = 1 := by simpa using hok
    simp [yesOf]
    split <;> decide
  · obtain ⟨⟨_, rfl⟩, rfl⟩ : (wa = 1 ∧ wb = v) ∧ wc = wb := by simp at hok; omega
    simp
    split
    · exact hb
    · exact hc
  · obtain rfl : wa + wb = v := by simpa using hok
    obtain ⟨wa0, wb0, _⟩ := rng_bd hr
    have e : two (wa + wb) = two wa * two wb := by
      unfold two
      rw [Int.toNat_add (by omega) (by omega), Int.pow_add]
    have hm := Int.mul_le_mul_of_nonneg_right (show a ≤ two wa - 1 from by omega) (show 0 ≤ two wb from by omega)
    have hp := Int.mul_nonneg h0.1 (show 0 ≤ two wb from by omega)
    refine isW_iff.2 ?_
    simp
    rw [e]
    rw [Int.sub_mul] at hm
    omega
  · exact emod_isW _ _
  · have hle : wa ≤ v := by simpa using hok
    obtain ⟨wa0, _, _⟩ := rng_bd hr
    have := two_mono wa v (by omega) hle
    refine isW_iff.2 ?_
    simp
    omega
  · exact emod_isW _ _

/-- How many nodes of a kind stand ahead. -/
def ahead (ns : List Nd) (kind : Int) (k : Nat) : Nat := (sel (isK ns kind) k).length
/-- The word of an operand; 0 where none is taken. -/
def opv (vs : List Int) (t i x : Int) : Int := if i < t then vs.getD x.toNat 0 else 0
/-- The word of a node, by those ahead of it. -/
def valAt (ns : List Nd) (sts ins vs : List Int) (k : Nat) : Int :=
  match ns[k]? with
  | none => 0
  | some x => if x.kind = 1 then x.n else if x.kind = 2 then ins.getD (ahead ns 2 k) 0 else if x.kind = 3 then sts.getD (ahead ns 3 k) 0
    else madeE x.kind x.width (opv vs (takes x.kind) 0 x.a) (opv vs (takes x.kind) 1 x.b) (opv vs (takes x.kind) 2 x.c) x.n (wds ns (takes x.kind) 0 x.a) (wds ns (takes x.kind) 1 x.b)
/-- The words of the first k nodes. -/
def vals (ns : List Nd) (sts ins : List Int) : Nat → List Int
  | 0 => []
  | k + 1 => vals ns sts ins k ++ [valAt ns sts ins (vals ns sts ins k) k]
theorem vals_len (ns : List Nd) (sts ins : List Int) (k : Nat) : (vals ns sts ins k).length = k := by
  induction k with
  | zero => rfl
  | succ k ih => simp [vals, ih]

/-- May these be the words of the nodes of a kind? -/
def wordsE (ns : List Nd) (kind : Int) (l : List Int) : Int :=
  if l.length ≠ (sel (isK ns kind) ns.length).length then 2
  else if (List.range l.length).any (fun i => !isW (l.getD i 0) (wdOf ns ((sel (isK ns kind) ns.length).getD i 0))) then 3 else 0

theorem sel_prefix (f : Nat → Bool) {k n : Nat} (h : k ≤ n) : (sel f k) <+: (sel f n) := by
  induction n with
  | zero => obtain rfl : k = 0 := by omega
            exact List.prefix_refl _
  | succ n ih =>
    rcases Nat.lt_or_ge k (n + 1) with h1 | h1
    · refine List.IsPrefix.trans (ih (by omega)) ?_
      cases hf : f n
      · rw [sel_no hf]; exact List.prefix_refl _
      · rw [sel_yes hf]; exact List.prefix_append _ _
    · obtain rfl : k = n + 1 := by omega
      exact List.prefix_refl _

/-- The node k, of a kind, is the one at its place among them. -/
theorem sel_place {f : Nat → Bool} {k n : Nat} (hk : k < n) (hf : f k = true) : (sel f k).length < (sel f n).length ∧ (sel f n).getD (sel f k).length 0 = (k : Int) := by
  have h := sel_prefix f (show k + 1 ≤ n from hk)
  rw [sel_yes hf] at h
  obtain ⟨t, ht⟩ := h
  rw [← ht]
  constructor
  · simp
  · simp [List.getD]

theorem words_zero {ns : List Nd} {kind : Int} {l : List Int} (h : wordsE ns kind l = 0) : l.length = (sel (isK ns kind) ns.length).length ∧ ∀ k, k < ns.length → isK ns kind k = true → ahead ns kind k < l.length ∧ isW (l.getD (ahead ns kind k) 0) (wdOf ns k) = true := by
  unfold wordsE at h
  by_cases h1 : l.length = (sel (isK ns kind) ns.length).length
  · rw [if_neg (by simp [h1])] at h
    refine ⟨h1, fun k hk hf => ?_⟩
    obtain ⟨p1, p2⟩ := sel_place hk hf
    have hlt : ahead ns kind k < l.length := by unfold ahead; omega
    refine ⟨hlt, ?_⟩
    by_cases h2 : (List.range l.length).any (fun i => !isW (l.getD i 0) (wdOf ns ((sel (isK ns kind) ns.length).getD i 0))) = true
    · rw [if_pos h2] at h; omega
    · have := List.any_eq_false.1 ((Bool.not_eq_true _).mp h2) (ahead ns kind k) (List.mem_range.2 hlt)
      rw [show (sel (isK ns kind) ns.length).getD (ahead ns kind k) 0 = (k : Int) from p2] at this
      simpa using this
  · rw [if_pos h1] at h; omega

end Go.Proofs.YtjhkecnnhddhbaaGreatDoor.Ev
