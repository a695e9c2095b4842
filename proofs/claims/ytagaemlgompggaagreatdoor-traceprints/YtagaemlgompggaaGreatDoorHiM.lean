/- Lines: the numbers that words tell. -/
import Derived.Test.YtagaemlgompggaaGreatDoorHgM
namespace Go.Proofs.YtagaemlgompggaaGreatDoor
open Go.RowKit
set_option maxRecDepth 100000

/-- The numbers that the words tell, if each tells one. -/
def tellAll : List ByteArray → Option (List Int)
  | [] => some []
  | a :: l => match tellsN a, tellAll l with | some n, some ns => some (n :: ns) | _, _ => none
theorem tellAll_app {a : List ByteArray} {x : ByteArray} {ns : List Int} {n : Int} (h : tellAll a = some ns) (hx : tellsN x = some n) : tellAll (a ++ [x]) = some (ns ++ [n]) := by
  induction a generalizing ns with
  | nil => simp [tellAll] at h; subst h; simp [tellAll, hx]
  | cons b l ih =>
    cases hb : tellsN b with
    | none => simp [tellAll, hb] at h
    | some m =>
      cases hl : tellAll l with
      | none => simp [tellAll, hb, hl] at h
      | some ms =>
        simp [tellAll, hb, hl] at h
        subst h
        simp [tellAll, hb, ih hl]
theorem tellAll_none {a : List ByteArray} {k : Nat} (hk : k < a.length) (hx : tellsN a[k] = none) : tellAll a = none := by
  induction a generalizing k with
  | nil => simp at hk
  | cons b l ih =>
    cases k with
    | zero => simp at hx; simp [tellAll, hx]
    | succ k =>
      have := ih (k := k) (by simpa using hk) (by simpa using hx)
      simp only [tellAll, this]
      cases tellsN b <;> rfl
def NumsOut (ws : List ByteArray) (v : Value) (b : Bool) (base : Nat) (w : World) : Prop := match tellAll ws with | some ns => b = true ∧ w.ownsRow base 3 1 v ns.length (ns.map (Value.int .i64)) | none => b = false ∧ v = .slice none 0 0
theorem NumsOut.all {ws : List ByteArray} {ns : List Int} {v : Value} {base : Nat} {w : World} (h : tellAll ws = some ns) (h2 : w.ownsRow base 3 1 v ns.length (ns.map (Value.int .i64))) : NumsOut ws v true base w := by
  unfold NumsOut
  rw [h]
  exact ⟨rfl, h2⟩
theorem NumsOut.no {ws : List ByteArray} {base : Nat} {w : World} (h : tellAll ws = none) : NumsOut ws (.slice none 0 0) false base w := by
  unfold NumsOut
  rw [h]
  exact ⟨rfl, rfl⟩
theorem tellAll_len {ws : List ByteArray} {ns : List Int} (h : tellAll ws = some ns) : ns.length = ws.length := by
  induction ws generalizing ns with
  | nil => simp [tellAll] at h; subst h; rfl
  | cons b l ih =>
    cases hb : tellsN b with
    | none => simp [tellAll, hb] at h
    | some m =>
      cases hl : tellAll l with
      | none => simp [tellAll, hb, hl] at h
      | some ms =>
        simp [tellAll, hb, hl] at h
        subst h
        simp [ih hl]
theorem strs_below {w w' : World} {p : Option Addr} {l : List ByteArray} (h : StrsAt w p l) (hb : Below w.heap.size w w') : StrsAt w' p l := fun h0 => by
  obtain ⟨b, off, c, fz, h1, h2, h3⟩ := h h0
  exact ⟨b, off, c, fz, h1, (hb.block b (Array.getElem?_eq_some_iff.1 h2).1).trans h2, h3⟩
theorem info3 : (Tryz.prog.info? 3).map (fun i => (i.zero, i.size, i.bytes)) = some (some (.int .i64 0), 1, 8) := by kernel_rfl

set_option maxHeartbeats 2000000 in
set_option maxRecDepth 100000 in
theorem nums_any (p : Option Addr) (cap : Nat) (ws : List ByteArray) (hws : ws.length ≤ 1000000) (w : World) (hS : StrsAt w p ws) :
    Calls Tryz.prog 36 #[.slice p ws.length cap] w fun e w' => ∃ v b, e = .returned (.tuple #[v, .bool b]) ∧ NumsOut ws v b w.heap.size w' ∧ Below w.heap.size w w' := by
  obtain ⟨i0, hi, hz0, hz1, hz2⟩ := info_parts info3
  have HS := hide hS
  clear hS
  go_enter Tryz.func36, Tryz.ntmps36
  go_wp2
  go_loopw [4, 6, 7, 8, 11] (fun v _ _ _ c wr => ∃ k : Nat, k ≤ ws.length ∧ c = .int .i64 k ∧ Hid (∃ ns, tellAll (ws.take k) = some ns ∧ wr.ownsRow w.heap.size 3 1 v ns.length (ns.map (Value.int .i64)) ∧ Below w.heap.size w wr)) (fun _ _ _ _ c _ => ws.length - (intOf c).toNat)
  case atStart => exact ⟨0, Nat.zero_le _, rfl, [], rfl, ⟨rfl, .inl ⟨rfl, rfl⟩⟩, Below.refl _ _⟩
  case round =>
    obtain ⟨k, hk, rfl, HR⟩ := hrel
    obtain ⟨ns, ha, hown, hb⟩ := HR.out
    clear HR
    have hlen := tellAll_len ha
    rw [List.length_take] at hlen
    have HA := hide ha
    have HO := hide hown
    have HB := hide hb
    clear ha hown hb
    by_cases hlt : k < ws.length
    · obtain ⟨g, off, rfl, hc⟩ := (strs_below HS.out HB.out).cell (by omega)
      have hck := hc k hlt
      clear hc
      have HT := hide (show ws.take (k + 1) = ws.take k ++ [ws[k]] by rw [List.take_add_one, List.getElem?_eq_getElem hlt]; rfl)
      have HN := hide (fun h => tellAll_none hlt h)
      have HK := hide (show ns.length = k by omega)
      generalize ws[k] = x at *
      go_wp2_with fail
      refine (number_any x _).mono ?_
      rintro e w1 ⟨rfl, rfl⟩
      cases hx : tellsN x with
      | none =>
        have HN2 := hide (HN.out hx)
        rw [show numR none = .tuple #[.int .i64 0, .bool false] from rfl]
        clear HN hx
        go_wp2
        go_ret2
        exact ⟨_, _, rfl, .no HN2.out, HB.out⟩
      | some n =>
        have HX := hide (tellAll_app HA.out hx)
        rw [show numR (some n) = .tuple #[.int .i64 n, .bool true] from rfl]
        clear HN hx
        go_wp2_with (at_builtin; refine wpList_append_own _ rfl _ _ 22 rfl w.heap.size 3 i0 (.int .i64 0) 1 8 Tryz.underlying22 hi hz0 hz1 hz2 rfl (by decide) _ _ _ rfl (HO.out.alloc _) ⟨w1.heap.size, 0, none⟩ 1 1 [.int .i64 n] rfl rfl ?c1 ?c2 ?c3 ?c4 ?c5 ?_)
        case c1 =>
          intro j u hj
          match j, hj with
          | 0, hj => simp at hj; subst hj; simp [Addr.add]
        case c2 => intro u hu; simp at hu; subst hu; rfl
        case c3 => unfold maxLen; omega
        case c4 => omega
        case c5 => have := HB.out.size; simp; omega
        intro v' w3 hown hgrow _
        have HV := hide (show ∃ ms, tellAll (ws.take (k + 1)) = some ms ∧ w3.ownsRow w.heap.size 3 1 v' ms.length (ms.map (Value.int .i64)) ∧ Below w.heap.size w w3 from ⟨ns ++ [n], by rw [HT.out, HX.out], (by have e : ns.length = k := HK.out; simpa [e] using hown), (HB.out.alloc HB.out.size _).grown hgrow (by have := HB.out.size; simp; omega) (fun j hj => (HO.out.lt j hj).1)⟩)
        clear hown hgrow HO HB HX HA HT
        go_wp2
        go_roundw
        case rel => exact ⟨k + 1, by omega, by go_num, HV⟩
        case measure => simp [intOf]; omega
    · obtain rfl : k = ws.length := by omega
      have HA2 := hide (show tellAll ws = some ns by have := HA.out; rwa [List.take_length] at this)
      go_wp2
      go_ret2
      exact ⟨_, _, rfl, .all HA2.out HO.out, HB.out⟩
end Go.Proofs.YtagaemlgompggaaGreatDoor

namespace Go.Proofs.YtagaemlgompggaaGreatDoor
open Go.RowKit
set_option maxRecDepth 100000

/-- The numbers of a text's first line, if it is ended and begins with a word. -/
def readN (s f : ByteArray) : Option (List Int) := match wordsOf (lineOf s) with | a :: l => if endsOf s = true ∧ a.toList = f.toList then tellAll l else none | [] => none
def ReadOut (s f : ByteArray) (v : Value) (r : ByteArray) (b : Bool) (base : Nat) (w : World) : Prop := match readN s f with | some ns => b = true ∧ r = restOf s ∧ w.ownsRow base 3 1 v ns.length (ns.map (Value.int .i64)) | none => b = false ∧ v = .slice none 0 0
theorem own_mono {w : World} {base base' : Nat} {e : TypeId} {v : Value} {n : Nat} {xs : List Value} (h : w.ownsRow base' e 1 v n xs) (hb : base ≤ base') : w.ownsRow base e 1 v n xs := by
  refine ⟨h.1, ?_⟩
  rcases h.2 with hn | ⟨g, cap, cur, hv, hbg, rest⟩
  · exact .inl hn
  · exact .inr ⟨g, cap, cur, hv, by omega, rest⟩
theorem readOut_no {s f a : ByteArray} {l : List ByteArray} {r : ByteArray} {base : Nat} {w : World} (hw : wordsOf (lineOf s) = a :: l) (h : ¬ (endsOf s = true ∧ a.toList = f.toList)) : ReadOut s f (.slice none 0 0) r false base w := by
  have e : readN s f = none := by unfold readN; rw [hw]; exact if_neg h
  unfold ReadOut
  rw [e]
  exact ⟨rfl, rfl⟩
theorem readOut_yes {s f a : ByteArray} {l : List ByteArray} {v : Value} {b : Bool} {base base' : Nat} {w : World} (hw : wordsOf (lineOf s) = a :: l) (h : endsOf s = true ∧ a.toList = f.toList) (hn : NumsOut l v b base' w) (hb : base ≤ base') : ReadOut s f v (restOf s) b base w := by
  have e : readN s f = tellAll l := by unfold readN; rw [hw]; exact if_pos h
  unfold ReadOut
  rw [e]
  unfold NumsOut at hn
  cases h2 : tellAll l with
  | none => rw [h2] at hn; exact hn
  | some ns => rw [h2] at hn; exact ⟨hn.1, rfl, own_mono hn.2 hb⟩
theorem StrsAt.tail {w : World} {b off : Nat} {a : ByteArray} {l : List ByteArray} (h : StrsAt w (some ⟨b, off, none⟩) (a :: l)) : StrsAt w (some ⟨b, off + 1, none⟩) l := fun _ => by
  obtain ⟨g, o, c, fz, h1, h2, h3⟩ := h (by simp)
  cases h1
  exact ⟨b, off + 1, c, fz, rfl, h2, fun i hi => by have := h3 (i + 1) (by simpa using hi); rw [show off + 1 + i = off + (i + 1) by omega, this]; rfl⟩

set_option maxHeartbeats 2000000 in
set_option maxRecDepth 100000 in
theorem readLine_any (s f : ByteArray) (hs : s.size ≤ 100000) (m : Int) (w : World) (hm : w.cell? ⟨1, 0, none⟩ = some (.int .i64 m)) :
    Calls Tryz.prog 19 #[.string s, .string f] w fun e w' => ∃ v r b, e = .returned (.tuple #[v, .string r, .bool b]) ∧ ReadOut s f v r b w.heap.size w' ∧ Below w.heap.size w w' := by
  go_enter Tryz.func19, Tryz.ntmps19
  go_wp2_with fail
  refine (next_any s (by omega) m _ hm).mono ?_
  rintro e w1 ⟨p, rfl, hS, hb⟩
  have hl := wordsOf_len (lineOf s)
  obtain ⟨a, l, hw⟩ : ∃ a l, wordsOf (lineOf s) = a :: l := by
    cases h : wordsOf (lineOf s) with
    | nil => rw [h] at hl; simp at hl
    | cons a l => exact ⟨a, l, rfl⟩
  have hn : l.length ≤ 1000000 := by
    have h1 := Lib.countB_le ⟨#[32]⟩ (by decide) _ (lineOf s) (Nat.le_refl _)
    have h2 := lineOf_size s
    rw [hw, List.length_cons] at hl
    omega
  rw [hw] at hS ⊢
  obtain ⟨g, off, rfl, hc⟩ := hS.cell (by simp)
  have c0 : w1.cell? ⟨g, off, none⟩ = some (.string a) := hc 0 (by simp)
  have HT := hide hS.tail
  have HB := hide hb
  have HW := hide hw
  clear hS hb hw hc hl
  simp only [List.length_cons]
  cases he : endsOf s with
  | false =>
    go_wp2
    go_ret3
    exact ⟨_, _, _, rfl, readOut_no HW.out (by rw [he]; simp), HB.out⟩
  | true =>
    by_cases hf : a.toList = f.toList
    · have hq : (a.toList == f.toList) = true := by simp [hf]
      have HY := hide (fun v b w2 (h : NumsOut l v b w1.heap.size w2) => readOut_yes HW.out ⟨he, hf⟩ h HB.out.size)
      have HH := hide hn
      clear hf he hn
      go_wp2_with fail
      · refine (nums_any (some ⟨g, off, none⟩) 0 [] (by simp) _ (fun h => by simp at h)).mono ?_
        rintro e w2 ⟨v, b, rfl, h1, h2⟩
        have h0 : l = [] := by assumption
        have H1 := hide (HY.out v b w2 (by rw [h0]; exact h1))
        have H2 := hide (HB.out.trans (h2.mono HB.out.size))
        clear h1 h2
        go_wp2
        go_ret3
        exact ⟨_, _, _, rfl, H1.out, H2.out⟩
      · refine (nums_any _ _ l HH.out _ HT.out).mono ?_
        rintro e w2 ⟨v, b, rfl, h1, h2⟩
        have H1 := hide (HY.out _ _ _ h1)
        have H2 := hide (HB.out.trans (h2.mono HB.out.size))
        clear h1 h2
        go_wp2
        go_ret3
        exact ⟨_, _, _, rfl, H1.out, H2.out⟩
    · have hq : (a.toList == f.toList) = false := by simp [hf]
      have HY := hide hf
      clear hf
      go_wp2
      go_ret3
      exact ⟨_, _, _, rfl, readOut_no HW.out (fun h => HY.out h.2), HB.out⟩
end Go.Proofs.YtagaemlgompggaaGreatDoor
