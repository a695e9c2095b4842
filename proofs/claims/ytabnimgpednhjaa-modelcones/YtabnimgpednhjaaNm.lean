/- The plain cone: what holds as it goes round. -/
import Derived.Test.YtabnimgpednhjaaNl
namespace Go.Proofs.Ytabnimgpednhjaa
open Go.RowKit

/-- Met so far in a round that began with b0; ch: has something changed in it? -/
structure Turn (ns : List Nd) (is xs : List (Int × Int)) (rs : List Int) (b0 b : List Bool) (ch : Bool) : Prop where
  len : b.length = ns.length
  root : ∀ r ∈ rs, b.getD r.toNat false = true
  least : ∀ T, Roots rs T → Closed ns is xs T → ∀ i, i < ns.length → b.getD i false = true → T i = true
  same : ch = false → b = b0
  cnt : b.count false + (if ch then 1 else 0) ≤ b0.count false

theorem set_same (b : List Bool) (y : Nat) (h : b.getD y false = true) : b.set y true = b := by
  refine List.ext_getElem (by simp) (fun i h1 h2 => ?_)
  rw [List.getElem_set]
  by_cases hi : y = i
  · subst hi
    rw [if_pos rfl]
    have : b.getD y false = b[y] := by simp [List.getD, List.getElem?_eq_getElem h2]
    rw [← this, h]
  · rw [if_neg hi]

theorem Turn.put {ns : List Nd} {is xs : List (Int × Int)} {rs : List Int} {b0 b : List Bool} {ch : Bool} (h : Turn ns is xs rs b0 b ch) {y : Int} {i : Nat} (hi : i < ns.length) (hb : b.getD i false = true) (hy : y ∈ leanL ns is xs i) (hr : 0 ≤ y ∧ y < ns.length) :
    Turn ns is xs rs b0 (b.set y.toNat true) (ch || !b.getD y.toNat false) := by
  cases hby : b.getD y.toNat false
  · have hlt : y.toNat < b.length := by have := h.len; omega
    have hc := count_set b y.toNat hlt hby
    refine ⟨by simpa using h.len, ?_, ?_, by simp, ?_⟩
    · intro r hr'
      rw [getD_set _ _ _ hlt]
      split
      · rfl
      · exact h.root r hr'
    · intro T h1 h2 j hj hbj
      rw [getD_set _ _ _ hlt] at hbj
      by_cases he : j = y.toNat
      · subst he
        exact h2 i hi (h.least T h1 h2 i hi hb) y hy
      · rw [if_neg he] at hbj
        exact h.least T h1 h2 j hj hbj
    · have := h.cnt
      simp only [Bool.not_false, Bool.or_true, if_true]
      omega
  · rw [set_same b y.toNat hby]
    simpa using h

theorem Turn.keeps {ns : List Nd} {is xs : List (Int × Int)} {rs : List Int} {b0 b : List Bool} {ch : Bool} (h : Turn ns is xs rs b0 b ch) {y : Int} {i : Nat} (hb : b.getD i false = true) (hr : 0 ≤ y ∧ y < ns.length) :
    (b.set y.toNat true).getD i false = true := by
  have hlt : y.toNat < b.length := by have := h.len; omega
  rw [getD_set _ _ _ hlt]
  split
  · rfl
  · exact hb

theorem Turn.quiet {b : List Bool} {ch : Bool} {y : Int} (h : (ch || !b.getD y.toNat false) = false) : ch = false ∧ b.getD y.toNat false = true := by
  cases ch <;> cases hb : b.getD y.toNat false <;> simp_all

/-- A round begins. -/
theorem Turn.begin {ns : List Nd} {is xs : List (Int × Int)} {rs : List Int} {b0 b : List Bool} {ch : Bool} (h : Turn ns is xs rs b0 b ch) : Turn ns is xs rs b b false :=
  ⟨h.len, h.root, h.least, fun _ => rfl, by simp⟩

/-- What has been gone through in a round leans on nothing more, where nothing has changed. -/
def Gone (l : List (Int × Int)) (b : List Bool) (ch : Bool) (k : Nat) : Prop := ch = false → ∀ i (hi : i < l.length), i < k → b.getD l[i].1.toNat false = true → b.getD l[i].2.toNat false = true
def GoneN (ns : List Nd) (b : List Bool) (ch : Bool) (k : Nat) : Prop := ch = false → ∀ i, i < k → b.getD i false = true → ∀ y ∈ opsAt ns i, b.getD y.toNat false = true

theorem cone_closed {ns : List Nd} {is xs : List (Int × Int)} {b : List Bool} (hn : GoneN ns b false ns.length) (hi : Gone is b false is.length) (hx : Gone xs b false xs.length) : Closed ns is xs (fun i => b.getD i false) := by
  intro i hlt hb y hy
  unfold leanL at hy
  cases hk : isK ns 3 i
  · rw [if_neg (by simp [hk])] at hy
    exact hn rfl i hlt hb y hy
  · rw [if_pos hk] at hy
    have key : ∀ l : List (Int × Int), Gone l b false l.length → y ∈ ofSt i l → b.getD y.toNat false = true := by
      intro l hl hm
      unfold ofSt at hm
      obtain ⟨p, hp, rfl⟩ := List.mem_map.1 hm
      obtain ⟨hp1, hp2⟩ := List.mem_filter.1 hp
      obtain ⟨q, hq, rfl⟩ := List.getElem_of_mem hp1
      have e : l[q].1 = i := by simpa using hp2
      exact hl rfl q hq hq (by rw [e]; simpa using hb)
    rcases List.mem_append.1 hy with h | h
    · exact key is hi h
    · exact key xs hx h

theorem Turn.done {ns : List Nd} {is xs : List (Int × Int)} {rs : List Int} {b0 b : List Bool} {ch : Bool} (h : Turn ns is xs rs b0 b ch) (hn : GoneN ns b false ns.length) (hi : Gone is b false is.length) (hx : Gone xs b false xs.length) : IsCone ns is xs rs (fun i => b.getD i false) :=
  ⟨h.root, cone_closed hn hi hx, h.least⟩

end Go.Proofs.Ytabnimgpednhjaa
