/- What plays to a bad state was to be found: lists alone. -/
import Derived.Test.YtfobcnhibhbbaaaGreatDoorYw
import Derived.Test.YtfobcnhibhbbaaaGreatDoorEjM
import Derived.Deep.RegionHeld3
namespace Go.Proofs.YtfobcnhibhbbaaaGreatDoor.Ev.Xp

section
variable {ns : List Nd} {is xs : List (Int × Int)} {bs hs : List Int}
/-- One that is found is no farther than the farthest. -/
theorem fd_deep (hb : (fdK ns is xs bs hs).bad = true) : (fdK ns is xs bs hs).bdd ≤ (fdK ns is xs bs hs).dp := by
  have hk := found_fk (layK ns is xs bs hs) (bdK ns xs bs hs) (cntK ns 3)
  obtain ⟨⟨s, h1, h2, _⟩, _⟩ := hk.yes hb
  have := hk.up s h1
  unfold fdK
  omega
/-- What can be by n steps, and is bad there, was found, by no more steps. -/
theorem fd_finds (hck : checkE ns is xs bs hs = 0) {n : Nat} {s : Sg} (hr : Reach (iniL ns is) (mvL ns xs bs hs) n s) (hm : ∃ t, (true, true, t) ∈ mvL ns xs bs hs s) : (fdK ns is xs bs hs).bad = true ∧ (fdK ns is xs bs hs).bdd ≤ n := by
  have hT := tellsK hck
  have hk := found_fk (layK ns is xs bs hs) (bdK ns xs bs hs) (cntK ns 3)
  obtain ⟨x, hx, rfl⟩ := hT.num hr
  have hbx : true ∈ bdK ns xs bs hs x := (bad_tells x).2 hm
  obtain ⟨d, hd, hD⟩ := reach_dist n hr
  have hlay : (layK ns is xs bs hs).getD x 0 = d := by
    rcases lay_all hT hx with ⟨_, h2⟩ | ⟨k, h1, h2⟩
    · exact absurd hr (h2 n)
    · unfold layK
      rw [h1, h2.uniq hD]
  have hb : (fdK ns is xs bs hs).bad = true := by
    cases hf : (fdK ns is xs bs hs).bad
    · exact absurd hbx ((hk.no hf).2 x hx (by omega))
    · rfl
  refine ⟨hb, ?_⟩
  have := (hk.yes hb).2 x hx (by omega) hbx
  unfold fdK
  omega
/-- What can be by some steps can be. -/
theorem can_reach (hck : checkE ns is xs bs hs = 0) {n : Nat} {s : Sg} (hr : Reach (iniL ns is) (mvL ns xs bs hs) n s) : canK ns is xs bs hs s = true := by
  obtain ⟨x, hx, rfl⟩ := (tellsK hck).num hr
  unfold canK layK
  rw [num_wrd hx, Int.toNat_natCast]
  rcases lay_all (tellsK hck) hx with ⟨_, h2⟩ | ⟨k, h1, _⟩
  · exact absurd hr (h2 n)
  · rw [h1, decide_eq_true (by omega)]
/-- The states of a trace, one behind another. -/
def stN (ns : List Nd) (xs : List (Int × Int)) (L : List (List Int)) (s0 : Sg) : Nat → Sg
  | 0 => s0
  | k + 1 => followL ns xs (vals ns (stN ns xs L s0 k) (L.getD k []) ns.length)
/-- Do all hold at the first k of its Inputs? -/
def heldN (ns : List Nd) (xs : List (Int × Int)) (bs hs : List Int) (L : List (List Int)) (s0 : Sg) : Nat → Bool
  | 0 => true
  | k + 1 => heldN ns xs bs hs L s0 k && (mvOf ns xs bs hs (stN ns xs L s0 k) (L.getD k [])).1
theorem ini_mem {w : List Int} (hw : wordsE ns 3 w = 0) : followL ns is (vals ns w (zeroI ns) ns.length) ∈ iniL ns is := by
  obtain ⟨h1, h2, _⟩ := wrd_num hw
  refine List.mem_map.2 ⟨_, List.mem_range.2 h1, ?_⟩
  unfold beL
  rw [h2]
theorem mv_mem {s i : Sg} (hi : wordsE ns 2 i = 0) : mvOf ns xs bs hs s i ∈ mvL ns xs bs hs s := by
  obtain ⟨h1, h2, _⟩ := wrd_num hi
  exact List.mem_map.2 ⟨_, List.mem_range.2 h1, by rw [h2]⟩
theorem play_reach {L : List (List Int)} {s0 : Sg} (h0 : s0 ∈ iniL ns is) (hL : ∀ k, k < L.length → wordsE ns 2 (L.getD k []) = 0) : ∀ k, k ≤ L.length → heldN ns xs bs hs L s0 k = true → Reach (iniL ns is) (mvL ns xs bs hs) k (stN ns xs L s0 k) := by
  intro k
  induction k with
  | zero => intro _ _; exact .zero h0
  | succ k ih =>
    intro hk hh
    rw [heldN, Bool.and_eq_true] at hh
    have hm := mv_mem (xs := xs) (bs := bs) (hs := hs) (s := stN ns xs L s0 k) (hL k (by omega))
    refine .step (b := (mvOf ns xs bs hs (stN ns xs L s0 k) (L.getD k [])).2.1) (ih (by omega) hh.1) ?_
    have e : mvOf ns xs bs hs (stN ns xs L s0 k) (L.getD k []) = (true, (mvOf ns xs bs hs (stN ns xs L s0 k) (L.getD k [])).2.1, stN ns xs L s0 (k + 1)) := by
      rw [← hh.2]
      rfl
    rw [← e]
    exact hm
/-- A trace that is bad was to be found; and where it comes to can be. -/
theorem bad_found (hck : checkE ns is xs bs hs = 0) {L : List (List Int)} {s0 : Sg} (h0 : s0 ∈ iniL ns is) (hL : ∀ k, k < L.length → wordsE ns 2 (L.getD k []) = 0) {n : Nat} (hn : L.length = n + 1) (hh : heldN ns xs bs hs L s0 (n + 1) = true) (hb : (mvOf ns xs bs hs (stN ns xs L s0 n) (L.getD n [])).2.1 = true) :
    ((fdK ns is xs bs hs).bad = true ∧ (fdK ns is xs bs hs).bdd ≤ n) ∧ canK ns is xs bs hs (stN ns xs L s0 n) = true := by
  rw [heldN, Bool.and_eq_true] at hh
  have hr := play_reach (xs := xs) (bs := bs) (hs := hs) h0 hL n (by omega) hh.1
  refine ⟨fd_finds hck hr ?_, can_reach hck hr⟩
  have hm := mv_mem (xs := xs) (bs := bs) (hs := hs) (s := stN ns xs L s0 n) (hL n (by omega))
  refine ⟨(mvOf ns xs bs hs (stN ns xs L s0 n) (L.getD n [])).2.2, ?_⟩
  have e : mvOf ns xs bs hs (stN ns xs L s0 n) (L.getD n []) = (true, true, (mvOf ns xs bs hs (stN ns xs L s0 n) (L.getD n [])).2.2) := Prod.ext hh.2 (Prod.ext hb rfl)
  rw [← e]
  exact hm
theorem st_words (hck : checkE ns is xs bs hs = 0) {L : List (List Int)} {s0 : Sg} (h0 : wordsE ns 3 s0 = 0) : ∀ k, (∀ j, j < k → wordsE ns 2 (L.getD j []) = 0) → wordsE ns 3 (stN ns xs L s0 k) = 0 := by
  intro k
  induction k with
  | zero => intro _; exact h0
  | succ k ih =>
    intro hL
    exact follow_words (check_zero hck).2.1 (pairs_zero (check_zero hck).2.2.1).2.1 (ih fun j hj => hL j (by omega)) (hL k (by omega))
end
end Go.Proofs.YtfobcnhibhbbaaaGreatDoor.Ev.Xp

namespace Go.Proofs.YtfobcnhibhbbaaaGreatDoor.Ev.Xp
open Go.RowKit Go.Maps
set_option maxRecDepth 100000

theorem tg_fd : fdK tgN [(1, 0)] [(1, 2)] [1] [] = ⟨2, 1, true, 1⟩ := by rfl
theorem tg_fi : fdI tgN [(1, 0)] [(1, 2)] [1] [] 0 = ⟨2, 1, true, 1⟩ := by unfold fdI; rw [if_pos rfl, tg_fd]
set_option maxHeartbeats 2000000 in
theorem exploreBegun_any (w : World) : Calls Tryz.prog 4 #[] w fun e w' => e = .returned (.bool true) ∧ Below w.heap.size w w' := by
  have HTG := hide (toggle_any w)
  have HEX := hide (fun (B0 B1 B2 B3 : Nat) (W : World) (h : MdAt ⟨some ⟨B0, 0, none⟩, 3, some ⟨B1, 0, none⟩, 1, 1, some ⟨B2, 0, none⟩, 1, 1, some ⟨B3, 0, none⟩, 1, 1, none, 0, 0⟩ tgN [(1, 0)] [(1, 2)] [1] [] W) => explore_any (some ⟨B0, 0, none⟩) (some ⟨B1, 0, none⟩) (some ⟨B2, 0, none⟩) (some ⟨B3, 0, none⟩) none 3 1 1 1 0 tgN [(1, 0)] [(1, 2)] [1] [] (by decide) (by decide) (by decide) (by decide) (by decide) W h)
  rw [tg_check, tg_fi] at HEX
  go_enter Tryz.func4, Tryz.ntmps4
  go_wp2_with fail
  refine HTG.out.mono ?_
  rintro e w1 ⟨B0, B1, B2, B3, rfl, hN, hI, hX, hB, hb1⟩
  have HE1 := hide (HEX.out B0 B1 B2 B3 w1 ⟨hN, hI, hX, hB, fun h => by simp at h⟩)
  have HB1 := hide hb1
  clear hN hI hX hB hb1 HTG HEX
  go_wp2_with fail
  refine (show Calls Tryz.prog 6 #[Mv.val ⟨some ⟨B0, 0, none⟩, 3, some ⟨B1, 0, none⟩, 1, 1, some ⟨B2, 0, none⟩, 1, 1, some ⟨B3, 0, none⟩, 1, 1, none, 0, 0⟩ 3] w1 _ from HE1.out).mono ?_
  rintro e w2 ⟨rfl, hb2⟩
  have HB2 := hide (bthen HB1.out hb2)
  clear hb2 HE1 HB1
  unfold fdV
  simp only
  go_wp2
  go_ret
  exact ⟨rfl, bal HB2.out _⟩
end Go.Proofs.YtfobcnhibhbbaaaGreatDoor.Ev.Xp

namespace Go.Proofs.YtfobcnhibhbbaaaGreatDoor.Ev.Xp
open Go.RowKit
set_option maxRecDepth 100000

/-- Rows of words, where they lie. -/
def RowsS (w : World) (p : Option Addr) (L : List (List Int)) : Prop := 0 < L.length → ∃ b off, p = some ⟨b, off, none⟩ ∧ ∀ i (h : i < L.length), ∃ q c, w.cell? ⟨b, off + i, none⟩ = some (.slice q L[i].length c) ∧ SL w (.slice q L[i].length c) L[i]
/-- What a trace is refused by, and where. -/
def rdE (ns : List Nd) (is xs : List (Int × Int)) (bs hs : List Int) (L : List (List Int)) (s0 : Sg) (k : Nat) : Int := readyE ns is xs bs hs (stN ns xs L s0 k) (L.getD k [])
def wkE (ns : List Nd) (is xs : List (Int × Int)) (bs hs : List Int) (st : List Int) (L : List (List Int)) : Int :=
  if L.length = 0 ∨ 41 < L.length then 2 else if beginE ns is xs bs hs st ≠ 0 then beginE ns is xs bs hs st else firstN (rdE ns is xs bs hs L (beginI ns is 0 st)) L.length
/-- Who looks is told each state, and what is so there. -/
structure LooksG (fn : FuncId) (caps : Array Value) (w0 w : World) (n : Nat) (S : Nat → Sg) (hd bd : Nat → Bool) (J : Nat → World → Prop) : Prop where
  st : ∀ k w1 w2, J k w1 → Below w1.heap.size w1 w2 → J k w2
  cl : ∀ k wr v, k < n → w.heap.size ≤ wr.heap.size → Below w0.heap.size w0 wr → J k wr → SL wr v (S k) → Calls Tryz.prog fn (#[v, .bool (hd k), .bool (bd k)] ++ caps) wr fun e w' => e = .returned (.tuple #[]) ∧ J (k + 1) w' ∧ Below w0.heap.size wr w' ∧ (∀ g cs T fr, w.heap.size ≤ g → wr.heap[g]? = some (.cells cs T fr) → T ≠ 24 → w'.heap[g]? = wr.heap[g]?) ∧ ∀ a n, wr.cell? a = some (.int .i64 n) → w'.cell? a = some (.int .i64 n)
theorem SL_kept {w w' : World} {v : Value} {l : List Int} (h : SL w v l) (hk : ∀ a n, w.cell? a = some (.int .i64 n) → w'.cell? a = some (.int .i64 n)) : SL w' v l := by
  obtain ⟨p, cap, hv, hI, h1, h2⟩ := h
  refine ⟨p, cap, hv, fun h0 => ?_, h1, h2⟩
  obtain ⟨b, off, hp, hc⟩ := hI h0
  exact ⟨b, off, hp, fun i hi => hk _ _ (hc i hi)⟩
theorem RowsS.later {w w' : World} {p : Option Addr} {L : List (List Int)} (h : RowsS w p L) (hb : Below w.heap.size w w') : RowsS w' p L := fun h0 => by
  obtain ⟨b, off, e, hc⟩ := h h0
  exact ⟨b, off, e, fun i hi => by obtain ⟨q, c, h1, h2⟩ := hc i hi; exact ⟨q, c, cell_later hb h1, h2.later hb⟩⟩
/-- The two boxes of a walk. -/
structure BoxW (wr : World) (B : Nat) (m t : Array Value) : Prop where
  m : wr.heap[B]? = some (.cells m 26 (0, 0))
  t : wr.heap[B + 1]? = some (.cells t 29 (0, 0))
theorem BoxW.call {wr w' : World} {B : Nat} {m t : Array Value} (h : BoxW wr B m t) (hb : Below wr.heap.size wr w') : BoxW w' B m t :=
  ⟨(hb.block _ (Array.getElem?_eq_some_iff.1 h.m).1).trans h.m, (hb.block _ (Array.getElem?_eq_some_iff.1 h.t).1).trans h.t⟩
theorem RowsS.at {w : World} {rb ro : Nat} {L : List (List Int)} (h : RowsS w (some ⟨rb, ro, none⟩) L) {i : Nat} (hi : i < L.length) : ∃ q n c, w.cell? ⟨rb, ro + i, none⟩ = some (.slice q n c) ∧ SL w (.slice q n c) (L.getD i []) := by
  obtain ⟨b, off, e, hc⟩ := h (by omega)
  cases e
  obtain ⟨q, c, h1, h2⟩ := hc i hi
  refine ⟨q, L[i].length, c, h1, ?_⟩
  rw [List.getD_eq_getElem?_getD, List.getElem?_eq_getElem hi]
  exact h2
theorem BoxW.look {wr w' : World} {B : Nat} {m t : Array Value} (h : BoxW wr B m t) (hk : ∀ g cs T fr, B ≤ g → wr.heap[g]? = some (.cells cs T fr) → T ≠ 24 → w'.heap[g]? = wr.heap[g]?) : BoxW w' B m t :=
  ⟨(hk _ _ _ _ (Nat.le_refl _) h.m (by decide)).trans h.m, (hk _ _ _ _ (by omega) h.t (by decide)).trans h.t⟩
theorem SL_le {w : World} {v : Value} {l : List Int} (h : SL w v l) : l.length ≤ maxLen := by obtain ⟨p, cap, e, _, h1, h2⟩ := h; exact Nat.le_trans h1 h2
theorem lookG (a0 a1 a2 a3 a4 : Option Addr) (c0 c1 c2 c3 c4 : Nat) (ns : List Nd) (is xs : List (Int × Int)) (bs hs : List Int) (hln : ns.length ≤ maxLen) (hli : is.length ≤ 8796093022208) (hlx : xs.length ≤ 8796093022208) (hlb : bs.length ≤ maxLen) (hlh : hs.length ≤ maxLen) (s i : List Int) (v u : Value) (w : World) (hM : MdAt ⟨a0, c0, a1, is.length, c1, a2, xs.length, c2, a3, bs.length, c3, a4, hs.length, c4⟩ ns is xs bs hs w) (hv : SL w v s) (hu : SL w u i) :
    ∃ hb bb, (readyE ns is xs bs hs s i = 0 → hb = (mvOf ns xs bs hs s i).1 ∧ bb = (mvOf ns xs bs hs s i).2.1) ∧ Calls Tryz.prog 34 #[Mv.val ⟨a0, c0, a1, is.length, c1, a2, xs.length, c2, a3, bs.length, c3, a4, hs.length, c4⟩ ns.length, v, u] w fun e w' => e = .returned (.tuple #[.bool hb, .bool bb, .int .i64 (readyE ns is xs bs hs s i)]) ∧ Below w.heap.size w w' :=
  ⟨_, _, fun h => ⟨(by unfold holdsI; rw [if_pos h]; rfl), (by unfold badI; rw [if_pos h]; rfl)⟩, look_any a0 a1 a2 a3 a4 c0 c1 c2 c3 c4 ns is xs bs hs hln hli hlx hlb hlh s i (SL_le hv) (SL_le hu) v u w hM.nd hM.pi hM.px hM.ib hM.ih hv hu⟩
theorem stepG (a0 a1 a2 a3 a4 : Option Addr) (c0 c1 c2 c3 c4 : Nat) (ns : List Nd) (is xs : List (Int × Int)) (bs hs : List Int) (hln : ns.length ≤ maxLen) (hli : is.length ≤ 8796093022208) (hlx : xs.length ≤ 8796093022208) (hlb : bs.length ≤ maxLen) (hlh : hs.length ≤ maxLen) (s i : List Int) (v u : Value) (w : World) (hM : MdAt ⟨a0, c0, a1, is.length, c1, a2, xs.length, c2, a3, bs.length, c3, a4, hs.length, c4⟩ ns is xs bs hs w) (hv : SL w v s) (hu : SL w u i) (hr : readyE ns is xs bs hs s i = 0) :
    Calls Tryz.prog 33 #[Mv.val ⟨a0, c0, a1, is.length, c1, a2, xs.length, c2, a3, bs.length, c3, a4, hs.length, c4⟩ ns.length, v, u] w fun e w' => ∃ p n c, e = .returned (.tuple #[.slice p n c, .int .i64 0]) ∧ SL w' (.slice p n c) (followL ns xs (vals ns s i ns.length)) ∧ Below w.heap.size w w' := by
  have H := step_any a0 a1 a2 a3 a4 c0 c1 c2 c3 c4 ns is xs bs hs hln hli hlx hlb hlh s i (SL_le hv) (SL_le hu) v u w hM.nd hM.pi hM.px hM.ib hM.ih hv hu
  rw [hr] at H
  refine H.mono ?_
  rintro e w' ⟨p, cap, l, rfl, hl, h1, h2⟩
  unfold nextI at hl
  rw [if_pos rfl] at hl
  rw [← hl]
  exact ⟨p, l.length, cap, rfl, ⟨p, cap, rfl, h1⟩, h2⟩
theorem row_facts (j n : Nat) (h : j + 1 < n) (hn : n ≤ 41) : (0 : Int) ≤ (j : Int) ∧ (j : Int) < (n : Int) ∧ (j : Int) + 1 < (n : Int) ∧ (0 : Int) < (j : Int) + 1 ∧ (0 : Int) ≤ (j : Int) + 1 ∧ ((j : Int) + 1).toNat = j + 1 ∧ wrap64 ((j : Int) + 1 - 1) = (j : Int) ∧ wrap64 (j : Int) = (j : Int) ∧ IntKind.i64.wrap (j : Int) = (j : Int) ∧ IntKind.i64.wrap ((j : Int) + 1 - 1) = (j : Int) ∧ (wrap64 ((j : Int) + 1 + 1) = (j : Int) + 1 + 1 ∧ IntKind.i64.wrap ((j : Int) + 1 + 1) = (j : Int) + 1 + 1) := by
  have h1 := wrap_small j (by omega)
  have h2 := wrap_small (j + 2) (by omega)
  have e2 : ((j + 2 : Nat) : Int) = (j : Int) + 1 + 1 := by omega
  rw [e2] at h2
  have h3 : wrap64 (j : Int) = (j : Int) := by unfold wrap64; omega
  have h4 : wrap64 ((j : Int) + 1 + 1) = (j : Int) + 1 + 1 := by unfold wrap64; omega
  refine ⟨by omega, by omega, by omega, by omega, by omega, by omega, ?_, h3, h1, ?_, h4, h2⟩
  · rw [Int.add_sub_cancel]; exact h3
  · rw [Int.add_sub_cancel]; exact h1
end Go.Proofs.YtfobcnhibhbbaaaGreatDoor.Ev.Xp
