/- The cone: what it calls, and its memory. -/
import Derived.Test.YtabnimgpednhjaaNj
import Derived.Lib.SliceRun
namespace Go.Proofs.Ytabnimgpednhjaa
open Go.RowKit

set_option maxHeartbeats 1000000 in
theorem clone_any (p : Option Addr) (cap : Nat) (l : List Int) (hl : l.length ≤ 17592186044416) (w : World) (hI : IntsAt w p l) :
    Calls Try.prog 67 #[.slice p l.length cap] w fun e w' => ∃ v, e = .returned v ∧ w'.ownsRow w.heap.size 3 1 v l.length (l.map (Value.int .i64)) ∧ Below w.heap.size w w' := by
  obtain ⟨i0, hi, hz0, hz1, hz2⟩ := info_parts info3
  have q31 : ∀ (w : World) (a : Option Addr) (n c n' c' : Nat), (binOp .eql 31 (.slice a n c) (.slice none n' c')).run Try.prog w = .ok (.bool a.isNone) w := fun w a n c n' c' => Lib.run_eql_slice_nil w _ _ a n c n' c' Try.underlying31
  cases p with
  | none =>
    have h0 : l = [] := by
      cases l with
      | nil => rfl
      | cons a t => obtain ⟨b, off, h, _⟩ := hI (by simp); cases h
    subst h0
    go_enter Try.func67, Try.ntmps67
    go_wp2
    go_ret
    exact ⟨_, rfl, World.ownsRow_nil _ _ _ _, Below.refl _ _⟩
  | some ad =>
    have HC : Hid (∀ j u, (l.map (Value.int .i64))[j]? = some u → w.cell? (ad.add j) = some u) := by
      intro j u hj
      obtain ⟨hjl, hju⟩ := List.getElem?_eq_some_iff.1 hj
      have hjl' : j < l.length := by simpa using hjl
      obtain ⟨b, off, h, hc⟩ := hI (by omega)
      cases h
      rw [Addr.add_lit, hc j hjl', ← hju]
      simp
    clear hI
    go_enter Try.func67, Try.ntmps67
    go_wp2_with (at_builtin; refine wpList_append_own _ rfl _ _ 31 rfl w.heap.size 3 i0 (.int .i64 0) 1 8 Try.underlying31 hi hz0 hz1 hz2 rfl (by decide) _ _ _ rfl (World.ownsRow_made w #[] 0 (Nat.le_refl _) (Nat.zero_le _) rfl) ad l.length cap (l.map (Value.int .i64)) rfl ?qc1 ?qc2 ?qc3 ?qc4 ?qc5 ?qc6 ?_)
    case qc1 => simp
    case qc2 => intro j u hj; exact Lib.cell?_alloc_some _ (HC.out j u hj)
    case qc3 => intro u hu; obtain ⟨x, _, rfl⟩ := List.mem_map.1 hu; rfl
    case qc4 => unfold maxLen; omega
    case qc5 => omega
    case qc6 => simp
    intro v' w1 hown hgrow _
    go_wp2
    go_ret
    exact ⟨v', rfl, by simpa using hown, ((Below.refl _ w).alloc (Nat.le_refl _) _).grown hgrow (by simp) (by intro k hk; simp [Value.ownBlock] at hk; omega)⟩

theorem enter65 (args : Array Value) (w : World) : (callFunc 65 args).run Try.prog w = .ok (.enter 65 args) w := by kernel_rfl

theorem cone1_any (m : Mv) (len : Nat) (hl : len ≤ 80) (x : Int) (B : Nat) (w : World) (hB : Box w B m len) :
    Calls Try.prog 65 #[.int .i64 x, .pointer (some ⟨B, 0, none⟩)] w fun e w' => e = .returned (.bool (!isN len x)) ∧ Below w.heap.size w w' := by
  obtain ⟨q0, q1, q2, q3, q4⟩ := hB
  go_enter Try.func65, Try.ntmps65
  go_wp2_with fail
  refine (isNode_below m len (by unfold maxLen; omega) x _).mono ?_
  rintro e w1 ⟨rfl, hb1⟩
  go_wp2
  go_ret
  exact ⟨rfl, hb1⟩

theorem coneRoots_any (m : Mv) (len : Nat) (hl : len ≤ 80) (l : List Int) (hll : l.length ≤ maxLen) (p : Option Addr) (cap B : Nat) (w : World) (hI : IntsAt w p l) (hB : Box w B m len) :
    Calls Try.prog 64 #[.slice p l.length cap, .func (.func 65) #[] #[.pointer (some ⟨B, 0, none⟩)]] w fun e w' => e = .returned (.bool (l.any (fun x => !isN len x))) ∧ Below w.heap.size w w' :=
  containsFunc_any 65 _ _ l p cap w hll hI enter65 fun _ hb i _ => cone1_any m len hl l[i] B _ (hB.later hb)

set_option maxHeartbeats 400000 in
theorem cone2_any (i : Nat) (B g len : Nat) (bs : List Bool) (w : World) (hl : bs.length = len) (_hl2 : len ≤ 80) (h1 : i < len) (hB : w.cell? ⟨B, 0, none⟩ = some (.slice (some ⟨g, 0, none⟩) len len)) (hR : BRow w g bs) :
    Calls Try.prog 70 #[.int .i64 i, .pointer (some ⟨B, 0, none⟩)] w fun e w' => e = .returned (.bool (bs.getD i false)) ∧ w' = w := by
  have hc := (hR i (by omega)).1
  have HE : Hid (bs.getD i false = bs[i]) := by simp [List.getD, List.getElem?_eq_getElem (show i < bs.length from by omega), Hid]
  have hil : (i : Int) < (len : Int) := by omega
  generalize bs[i] = y at *
  have HL := hide hl
  clear hR hl
  go_enter Try.func70, Try.ntmps70
  go_wp2
  go_ret
  exact ⟨ret_bool HE.out.symm, rfl⟩

set_option maxRecDepth 100000 in
set_option maxHeartbeats 2000000 in
theorem numbersC_any (m : Mv) (len : Nat) (hl : len ≤ 80) (bs : List Bool) (hn : bs.length = len) (B g : Nat) (w : World)
    (hB : w.cell? ⟨B, 0, none⟩ = some (.slice (some ⟨g, 0, none⟩) len len)) (hR : BRow w g bs) :
    Calls Try.prog 69 #[m.val len, .func (.func 70) #[] #[.pointer (some ⟨B, 0, none⟩)]] w fun e w' =>
      ∃ p cap, e = .returned (.slice p (sel (fun i => bs.getD i false) len).length cap) ∧ IntsAt w' p (sel (fun i => bs.getD i false) len) ∧ Below w.heap.size w w' := by
  obtain ⟨i0, hi, hz0, hz1, hz2⟩ := info_parts info3
  have HBB := hide hB
  have HR := hide hR
  have HN := hide hn
  clear hB hR hn
  go_enter Try.func69, Try.ntmps69
  go_wp2
  go_loopw [5, 10] (fun v i wr => ∃ k : Nat, k ≤ len ∧ i = .int .i64 k ∧ wr.ownsRow (w.heap.size + 1) 3 1 v (sel (fun i => bs.getD i false) k).length ((sel (fun i => bs.getD i false) k).map (Value.int .i64)) ∧ Below (w.heap.size + 1) (w.alloc (.cells (m.cells len) 40)) wr) (fun _ i _ => len - (intOf i).toNat)
  case atStart => exact ⟨0, Nat.zero_le _, rfl, World.ownsRow_nil _ _ _ _, Below.refl _ _⟩
  case round =>
    obtain ⟨k, hk, rfl, hown, hnx⟩ := hrel
    have hbw : Below w.heap.size w wr := (bal (Below.refl _ _) _).trans (hnx.mono (by omega))
    have hsz := hnx.size
    by_cases hlt : k < len
    · have hcall := cone2_any k B g len bs wr HN.out hl hlt (cell_later hbw HBB.out) (HR.out.later hbw)
      cases hf : bs.getD k false
      · rw [hf] at hcall
        have HC := hide (fun _ : Unit => hcall)
        have HS : Hid (sel (fun i => bs.getD i false) (k + 1) = sel (fun i => bs.getD i false) k) := sel_no hf
        clear hcall hf
        go_wp2_with fail
        refine (HC.out ()).mono ?_
        rintro e w' ⟨rfl, rfl⟩
        go_wp2
        go_roundw
        case rel => exact ⟨k + 1, by omega, by go_num, by rw [HS.out]; exact hown, hnx⟩
        case measure => simp [intOf]; omega
      · rw [hf] at hcall
        have HC := hide (fun _ : Unit => hcall)
        have HS : Hid (sel (fun i => bs.getD i false) (k + 1) = sel (fun i => bs.getD i false) k ++ [(k : Int)]) := sel_yes hf
        have hsl := sel_len (fun i => bs.getD i false) k
        clear hcall hf
        generalize sel (fun i => bs.getD i false) k = l at *
        go_wp2_with fail
        refine (HC.out ()).mono ?_
        rintro e w' ⟨rfl, rfl⟩
        go_wp2_with (at_builtin; refine wpList_append_own _ rfl _ _ 31 rfl (w.heap.size + 1) 3 i0 (.int .i64 0) 1 8 Try.underlying31 hi hz0 hz1 hz2 rfl (by decide) _ _ _ rfl (hown.alloc _) ⟨w'.heap.size, 0, none⟩ 1 1 [.int .i64 (k : Int)] rfl rfl ?c1 ?c2 ?c3 ?c4 ?c5 ?_)
        case c1 =>
          intro j u hj
          match j, hj with
          | 0, hj => simp at hj; subst hj; simp [Addr.add]
        case c2 => intro u hu; simp at hu; subst hu; rfl
        case c3 => unfold maxLen; omega
        case c4 => omega
        case c5 => simp; simp at hsz; omega
        intro v' w1 hown' hgrow _
        have R := owns_later hown hown' hgrow hnx (by simp at hsz; omega)
        rw [← HS.out] at R
        clear hown' hgrow hown
        go_wp2
        go_roundw
        case rel => exact ⟨k + 1, by omega, by go_num, R.1, R.2⟩
        case measure => simp [intOf]; omega
    · obtain rfl : k = len := by omega
      obtain ⟨p, cap, rfl, hJ⟩ := owns_ints hown
      go_wp2
      go_ret
      exact ⟨p, cap, rfl, hJ, hbw⟩

theorem owns_below {w w1 : World} {base : Nat} {e : TypeId} {size : Nat} {v : Value} {n : Nat} {xs : List Value} (h : w.ownsRow base e size v n xs) (hb : Below w.heap.size w w1) : w1.ownsRow base e size v n xs := by
  refine ⟨h.1, ?_⟩
  rcases h.2 with h0 | ⟨g, cap, cur, hv, hg, hh, r⟩
  · exact .inl h0
  · refine .inr ⟨g, cap, cur, hv, hg, ?_, r⟩
    obtain ⟨h1, _⟩ := Array.getElem?_eq_some_iff.1 hh
    rw [hb.block g h1]
    exact hh

theorem owns_set {w : World} {base : Nat} {e : TypeId} {size : Nat} {v : Value} {n : Nat} {xs : List Value} (h : w.ownsRow base e size v n xs) (a : Addr) (u : Value) (ha : a.block < base) : (w.setCell a u).ownsRow base e size v n xs := by
  refine ⟨h.1, ?_⟩
  rcases h.2 with h0 | ⟨g, cap, cur, hv, hg, hh, r⟩
  · exact .inl h0
  · refine .inr ⟨g, cap, cur, hv, hg, ?_, r⟩
    rw [Below.heap_setCell w a u g (by omega)]
    exact hh

theorem owns_pop {w : World} {base : Nat} {g cap : Nat} {l : List Int} {x : Int} (h : w.ownsRow base 3 1 (.slice (some ⟨g, 0, none⟩) (l.length + 1) cap) (l.length + 1) ((l ++ [x]).map (Value.int .i64))) :
    w.ownsRow base 3 1 (.slice (some ⟨g, 0, none⟩) l.length cap) l.length (l.map (Value.int .i64)) := by
  obtain ⟨h1, h2⟩ := h
  rcases h2 with ⟨h0, _⟩ | ⟨g', cap', cur, hv, hg, hh, hn, hcap, hsz, htake⟩
  · cases h0
  · cases hv
    refine ⟨by simp, .inr ⟨g, cap, cur, rfl, hg, hh, by omega, hcap, hsz, ?_⟩⟩
    have h3 : (cur.toList.take ((l.length + 1) * 1)).take (l.length * 1) = ((l ++ [x]).map (Value.int .i64)).take (l.length * 1) := by rw [htake]
    rw [List.take_take, Nat.min_eq_left (by omega)] at h3
    rw [h3, List.map_append]
    simp

theorem owns_last {w : World} {base : Nat} {v : Value} {l : List Int} {x : Int} (h : w.ownsRow base 3 1 v (l ++ [x]).length ((l ++ [x]).map (Value.int .i64))) :
    ∃ g cap, v = .slice (some ⟨g, 0, none⟩) (l.length + 1) cap ∧ base ≤ g ∧ l.length + 1 ≤ cap ∧ cap ≤ maxLen ∧ w.cell? ⟨g, l.length, none⟩ = some (.int .i64 x) ∧ w.ownsRow base 3 1 (.slice (some ⟨g, 0, none⟩) l.length cap) l.length (l.map (Value.int .i64)) := by
  have e : (l ++ [x]).length = l.length + 1 := by simp
  rw [e] at h
  rcases h.2 with ⟨h0, h1⟩ | ⟨g, cap, cur, rfl, hg, hh, hn, hcap, hsz, htake⟩
  · omega
  · refine ⟨g, cap, rfl, hg, hn, hcap, ?_, owns_pop h⟩
    rw [h.cellAt l.length (by omega), List.getElem?_map]
    simp

theorem BRow_uniq {w : World} {g : Nat} {b b' : List Bool} (h : BRow w g b) (h' : BRow w g b') (hl : b.length = b'.length) : b = b' := by
  refine List.ext_getElem hl (fun i h1 h2 => ?_)
  have := (h i h1).1.symm.trans (h' i h2).1
  injection this with this
  injection this

/-- How many have not been met. -/
def isF : Option Value → Bool
 | some (.bool false) => true
 | _ => false
def cntW (w : World) (g n : Nat) : Nat := (List.range n).countP fun i => isF (w.cell? ⟨g, i, none⟩)
theorem cntW_eq {w : World} {g n : Nat} {b : List Bool} (hR : BRow w g b) (hn : b.length = n) : cntW w g n = b.count false := by
 subst hn
 have h : ∀ k, k ≤ b.length → (List.range k).countP (fun i => isF (w.cell? ⟨g, i, none⟩)) = (b.take k).count false := by
   intro k
   induction k with
   | zero => intro _; simp
   | succ k ih =>
     intro hk
     have hc := (hR k (by omega)).1
     rw [List.range_succ, List.countP_append, ih (by omega), List.take_succ_eq_append_getElem (by omega), List.count_append]
     simp only [List.countP_cons, List.countP_nil, hc]
     cases hb : b[k] <;> simp [isF]
 have := h b.length (Nat.le_refl _)
 rw [List.take_length] at this
 exact this
theorem count_set (b : List Bool) (k : Nat) (hk : k < b.length) (h : b.getD k false = false) : (b.set k true).count false + 1 = b.count false := by
  induction b generalizing k with
  | nil => simp at hk
  | cons a t ih =>
    cases k with
    | zero =>
      simp only [List.getD_cons_zero] at h
      subst h
      simp
    | succ k =>
      have := ih k (by simpa using hk) (by simpa using h)
      simp only [List.set_cons_succ, List.count_cons]
      omega

theorem BRow.grown {w w' : World} {g : Nat} {b : List Bool} {row : Option Nat} (h : BRow w g b) (hg : w.grownBy w' row) (hne : some g ≠ row) : BRow w' g b := fun j hj => by
  obtain ⟨h1, h2⟩ := h j hj
  have hlt := World.block_lt_of_cell? w _ h1
  exact ⟨hg.cell h1 hne, (World.frozen?_of_block (hg.block g hlt hne)).trans h2⟩

/-- A state that is there once has one pair. -/
theorem ofSt_one {s : Int} {l : List (Int × Int)} (h : dup (fsts l) = false) : (ofSt s l).length ≤ 1 := by
  induction l with
  | nil => simp [ofSt]
  | cons p t ih =>
    have h' : dup (p.1 :: fsts t) = false := h
    simp only [dup, Bool.or_eq_false_iff] at h'
    have ht := ih h'.2
    unfold ofSt at ht ⊢
    by_cases hp : (p.1 == s) = true
    · rw [List.filter_cons_of_pos (by simpa using hp)]
      have : t.filter (fun p => p.1 == s) = [] := by
        rw [List.filter_eq_nil_iff]
        intro q hq hqs
        have hc : (fsts t).contains p.1 = true := by
          simp only [beq_iff_eq] at hp hqs
          simp only [fsts, List.contains_iff_mem, List.mem_map]
          exact ⟨q, hq, by omega⟩
        rw [h'.1] at hc
        cases hc
      simp [this]
    · rw [List.filter_cons_of_neg (by simpa using hp)]
      exact ht

theorem leanL_len {ns : List Nd} {is xs : List (Int × Int)} (hi : dup (fsts is) = false) (hx : dup (fsts xs) = false) (i : Nat) : (leanL ns is xs i).length ≤ 3 := by
  unfold leanL
  split
  · have h1 := ofSt_one (s := i) hi
    have h2 := ofSt_one (s := i) hx
    rw [List.length_append]
    omega
  · unfold opsAt
    split
    · unfold opsL
      rw [List.length_take]
      simp
      omega
    · simp

def lenOf : Value → Nat | .slice _ n _ => n | _ => 0

end Go.Proofs.Ytabnimgpednhjaa
