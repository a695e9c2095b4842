/- For every model and every list of wishes, eval.Begin answers just what the document's plain text answers, errors too: the law latchworklaw.EvalBegins returns true, and leaves what it is handed as it was. No condition. -/
import Derived.Test.YtfobcnhibhbbaaaRows
import Derived.Test.YtfobcnhibhbbaaaYcM
import Derived.Test.YtfobcnhibhbbaaaElM
namespace Go.Proofs.Ytfobcnhibhbbaaa
open Go.RowKit
set_option maxRecDepth 100000

theorem hgs_pre (ns : List Nd) {i k n : Nat} (h : i < k) (hk : k ≤ n) : (hgs ns n).getD i false = (hgs ns k).getD i false := by
  induction n with
  | zero => omega
  | succ n ih =>
    rcases Nat.lt_or_ge k (n + 1) with h1 | h1
    · rw [← ih (by omega)]
      have hl := hgs_len ns n
      simp only [hgs, List.getD]
      rw [List.getElem?_append_left (by omega)]
    · obtain rfl : k = n + 1 := by omega
      rfl
theorem hgs_get (ns : List Nd) {i : Nat} (h : i < ns.length) : (hgs ns ns.length).getD i false = (ns[i].kind == 2 || ns[i].kind == 3 || (opsL ns[i]).any (fun y => (hgs ns i).getD y.toNat false)) := by
  rw [hgs_pre ns (show i < i + 1 by omega) h, hgs_at ns i h]
  have hl := hgs_len ns i
  simp only [List.getD]
  rw [List.getElem?_append_right (by omega), hl]
  simp

/-- What hangs on no input and no state has one word, whatever those are. -/
theorem vals_free {ns : List Nd} (hn : firstN (nodeAtE ns) ns.length = 0) (s1 i1 s2 i2 : List Int) : ∀ i, i < ns.length → (hgs ns ns.length).getD i false = false → valAt ns s1 i1 (vals ns s1 i1 i) i = valAt ns s2 i2 (vals ns s2 i2 i) i := by
  intro i
  induction i using Nat.strongRecOn with
  | ind i ih =>
    intro hi hf
    rw [hgs_get ns hi] at hf
    simp only [Bool.or_eq_false_iff] at hf
    obtain ⟨⟨f2, f3⟩, fo⟩ := hf
    have hnode := firstN_zero.1 hn i hi
    rw [nodeAtE_at hi] at hnode
    obtain ⟨_, hkd, hops, h4, _⟩ := node_zero hnode
    have k2 : ¬ ns[i].kind = 2 := by simpa using f2
    have k3 : ¬ ns[i].kind = 3 := by simpa using f3
    unfold valAt
    rw [List.getElem?_eq_getElem hi]
    simp only
    by_cases k1 : ns[i].kind = 1
    · rw [if_pos k1, if_pos k1]
    · rw [if_neg k1, if_neg k1, if_neg k2, if_neg k2, if_neg k3, if_neg k3]
      have key : ∀ y ∈ opsL ns[i], (vals ns s1 i1 i).getD y.toNat 0 = (vals ns s2 i2 i).getD y.toNat 0 := by
        intro y hy
        have hr := hops y hy
        have hfy := List.any_eq_false.1 fo y hy
        rw [vals_at ns s1 i1 (show y.toNat < i by omega), vals_at ns s2 i2 (show y.toNat < i by omega)]
        refine ih y.toNat (by omega) (by omega) ?_
        rw [hgs_pre ns (show y.toNat < i by omega) (by omega)]
        simpa using hfy
      have e : ∀ (j : Int) (y : Int), (j < takes ns[i].kind → y ∈ opsL ns[i]) → opv (vals ns s1 i1 i) (takes ns[i].kind) j y = opv (vals ns s2 i2 i) (takes ns[i].kind) j y := by
        intro j y hm
        unfold opv
        by_cases hj : j < takes ns[i].kind
        · rw [if_pos hj, if_pos hj, key y (hm hj)]
        · rw [if_neg hj, if_neg hj]
      have t4 := takes_four ns[i].kind
      rw [e 0 ns[i].a (fun h => by unfold opsL; rcases t4 with h' | h' | h' | h' <;> rw [h'] at h ⊢ <;> simp at h ⊢), e 1 ns[i].b (fun h => by unfold opsL; rcases t4 with h' | h' | h' | h' <;> rw [h'] at h ⊢ <;> simp at h ⊢), e 2 ns[i].c (fun h => by unfold opsL; rcases t4 with h' | h' | h' | h' <;> rw [h'] at h ⊢ <;> simp at h ⊢)]

/-- What the plain text begins with. -/
def beginRL (ns : List Nd) (is : List (Int × Int)) (wish vz : List Int) : List Int :=
  (List.range (sel (isK ns 3) ns.length).length).map (fun j => if 0 ≤ pairOf ((sel (isK ns 3) ns.length).getD j 0) is then vz.getD (pairOf ((sel (isK ns 3) ns.length).getD j 0) is).toNat 0 else wish.getD j 0)
/-- No states' words. -/
def zeroS (ns : List Nd) : List Int := List.replicate (sel (isK ns 3) ns.length).length 0

theorem ahead_at {f : Nat → Bool} {n j : Nat} (hj : j < (sel f n).length) : ∃ i, i < n ∧ f i = true ∧ (sel f n)[j] = (i : Int) ∧ (sel f i).length = j := by
  obtain ⟨i, hi, hf, he⟩ := mem_sel.1 (List.getElem_mem hj)
  obtain ⟨p1, p2⟩ := sel_place hi hf
  refine ⟨i, hi, hf, he, ?_⟩
  rw [getD_at p1, ← he] at p2
  exact (List.getElem_inj (sel_nodup f n)).1 p2

theorem begin_same {ns : List Nd} {is xs : List (Int × Int)} {bs hs wish : List Int} (hck : checkE ns is xs bs hs = 0) :
    followL ns is (vals ns wish (zeroI ns) ns.length) = beginRL ns is wish (vals ns (zeroS ns) (zeroI ns) ns.length) := by
  obtain ⟨_, hn, hp, _⟩ := check_zero hck
  obtain ⟨hpi, _, hd, _⟩ := pairs_zero hp
  unfold followL beginRL
  refine List.ext_getElem (by simp) (fun j h1 h2 => ?_)
  have hj : j < (sel (isK ns 3) ns.length).length := by simpa using h1
  rw [List.getElem_map, List.getElem_map, List.getElem_range, getD_at hj, from_find hd]
  obtain ⟨i, hi, hf, he, ha⟩ := ahead_at hj
  rw [he]
  unfold pairOf
  cases hfd : is.find? (fun p => p.1 == (i : Int)) with
  | some p =>
    have hm := List.mem_of_find?_eq_some hfd
    have h0 := hpi p hm
    have hr := (pairE_zero (init_zero h0)).2.1
    have hh : (hgs ns ns.length).getD p.2.toNat false = false := by
      unfold initE at h0
      rw [if_neg (by simp [init_zero (hpi p hm)])] at h0
      by_cases hg : (hgs ns ns.length).getD p.2.toNat false = true
      · rw [if_pos hg] at h0; omega
      · simpa using hg
    simp only
    rw [if_pos hr.1, vals_at ns wish (zeroI ns) (show p.2.toNat < ns.length by omega), vals_at ns (zeroS ns) (zeroI ns) (show p.2.toNat < ns.length by omega)]
    exact vals_free hn _ _ _ _ _ (by omega) hh
  | none =>
    simp only
    rw [if_neg (by omega), Int.toNat_natCast, vals_at ns wish (zeroI ns) hi]
    unfold valAt
    rw [List.getElem?_eq_getElem hi]
    simp only
    have k3 : ns[i].kind = 3 := by rw [isK_at hi] at hf; simpa using hf
    rw [if_neg (by omega), if_neg (by omega), if_pos k3]
    unfold ahead
    rw [ha]
end Go.Proofs.Ytfobcnhibhbbaaa

namespace Go.Proofs.Ytfobcnhibhbbaaa
open Go.RowKit

theorem irow_ints' {w : World} {A B : Obj} {l : List Int} (h : IRow ((w.alloc A).alloc B) (w.alloc A).heap.size l) : IntsAt ((w.alloc A).alloc B) (some ⟨w.heap.size + 1, 0, none⟩) l := by
  have e : (w.alloc A).heap.size = w.heap.size + 1 := by simp
  rw [e] at h
  exact irow_ints h

set_option maxRecDepth 100000 in
set_option maxHeartbeats 8000000 in
theorem beginOf_any (a0 a1 a2 a3 a4 : Option Addr) (c0 c1 c2 c3 c4 l2 l3 l4 : Nat) (ns : List Nd) (is : List (Int × Int)) (hl : ns.length ≤ 80) (hn : firstN (nodeAtE ns) ns.length = 0) (hli : is.length ≤ 8796093022208) (hpi : ∀ p ∈ is, 0 ≤ p.2 ∧ p.2 < ns.length) (wish : List Int) (hwl : wish.length = (sel (isK ns 3) ns.length).length) (p4 : Option Addr) (kc4 : Nat) (w : World) (hN : NodesAt w a0 ns) (hI : PairsAt w a1 is) (hS : IntsAt w p4 wish) :
    Calls Try.prog 25 #[Mv.val ⟨a0, c0, a1, is.length, c1, a2, l2, c2, a3, l3, c3, a4, l4, c4⟩ ns.length, .slice p4 wish.length kc4] w fun e w' =>
      ∃ p cap, e = .returned (.slice p (beginRL ns is wish (vals ns (zeroS ns) (zeroI ns) ns.length)).length cap) ∧ IntsAt w' p (beginRL ns is wish (vals ns (zeroS ns) (zeroI ns) ns.length)) ∧ Below w.heap.size w w' := by
  obtain ⟨i0, hi, hz0, hz1, hz2⟩ := info_parts info3
  have HB0 : Hid (Below w.heap.size w (w.alloc (.cells (Mv.cells ⟨a0, c0, a1, is.length, c1, a2, l2, c2, a3, l3, c3, a4, l4, c4⟩ ns.length) 26))) := bal (Below.refl _ _) _
  have HBx := hide (Box.new w ⟨a0, c0, a1, is.length, c1, a2, l2, c2, a3, l3, c3, a4, l4, c4⟩ ns.length)
  have HK := hide (fun _ : Unit => nodesR_any ⟨a0, c0, a1, is.length, c1, a2, l2, c2, a3, l3, c3, a4, l4, c4⟩ ns (by omega) 3 _ (hN.later HB0.out))
  have HN2 := hide (fun (w1 : World) (hb : Below w.heap.size w w1) => nodesR_any ⟨a0, c0, a1, is.length, c1, a2, l2, c2, a3, l3, c3, a4, l4, c4⟩ ns (by omega) 2 w1 (hN.later hb))
  have HV0 := fun (ps pi : Option Addr) (w1 : World) (hb : Below w.heap.size w w1) (hs : IntsAt w1 ps (zeroS ns)) (hi : IntsAt w1 pi (zeroI ns)) => valuesOf_any ⟨a0, c0, a1, is.length, c1, a2, l2, c2, a3, l3, c3, a4, l4, c4⟩ ns hl hn (zeroS ns) (zeroI ns) (zeros_fit 3) (zeros_fit 2) ps pi (zeroS ns).length (zeroI ns).length w1 (hN.later hb) hs hi
  have HPO := hide (fun (s : Int) (w1 : World) (hb : Below w.heap.size w w1) => pairOf_any s is hli a1 c1 w1 (hI.later hb))
  have HVL := hide (vals_len ns (zeroS ns) (zeroI ns) ns.length)
  have HBR : Hid (beginRL ns is wish (vals ns (zeroS ns) (zeroI ns) ns.length) = (List.range (sel (isK ns 3) ns.length).length).map (fun j => if 0 ≤ pairOf ((sel (isK ns 3) ns.length).getD j 0) is then (vals ns (zeroS ns) (zeroI ns) ns.length).getD (pairOf ((sel (isK ns 3) ns.length).getD j 0) is).toNat 0 else wish.getD j 0)) := rfl
  have HPB : Hid (∀ s, 0 ≤ pairOf s is → pairOf s is < ns.length) := fun s h => by
    unfold pairOf at h ⊢
    cases hf : is.find? (fun p => p.1 == s) with
    | some p => exact (hpi p (List.mem_of_find?_eq_some hf)).2
    | none => rw [hf] at h; simp at h
  have hs3 := sel_len (isK ns 3) ns.length
  have hs2 := sel_len (isK ns 2) ns.length
  have HS := hide hS
  have HWL := hide hwl
  clear hN hI hS hn hpi hwl
  generalize beginRL ns is wish (vals ns (zeroS ns) (zeroI ns) ns.length) = F at *
  generalize vals ns (zeroS ns) (zeroI ns) ns.length = vz at *
  simp only [zeroS, zeroI, List.length_replicate, Mv.val] at HV0
  have HVO := hide HV0
  clear HV0
  generalize sel (isK ns 3) ns.length = S at *
  generalize sel (isK ns 2) ns.length = T at *
  obtain ⟨CZ3, hC3, hmk3⟩ := make_ints S.length (by omega)
  obtain ⟨CZ2, hC2, hmk2⟩ := make_ints T.length (by omega)
  go_enter Try.func25, Try.ntmps25
  go_wp2_with fail
  refine (HK.out ()).mono ?_
  rintro e w1 ⟨q, qc, rfl, hQ, hb1⟩
  have HB1 := hide (bthen HB0.out hb1)
  have HX1 := hide (HBx.out.later hb1)
  have HQ := hide hQ
  have hbox := HX1.out
  simp only [Box] at hbox
  obtain ⟨q0, q1, q2, q3, q4⟩ := hbox
  have HC3 := hide hC3
  have HC2 := hide hC2
  clear hb1 hQ HB0 HK HBx hC3 hC2
  go_wp2
  go_region_held3 (fun w' => w'.cell? ⟨w.heap.size, 0, none⟩ = some (.slice a0 ns.length c0) ∧ w'.cell? ⟨w.heap.size, 1, none⟩ = some (.slice a1 is.length c1) ∧ w'.cell? ⟨w.heap.size, 2, none⟩ = some (.slice a2 l2 c2) ∧ w'.cell? ⟨w.heap.size, 3, none⟩ = some (.slice a3 l3 c3) ∧ w'.cell? ⟨w.heap.size, 4, none⟩ = some (.slice a4 l4 c4))
    (first | exact ⟨q0, q1, q2, q3, q4⟩ | exact ⟨past1 q0 _, past1 q1 _, past1 q2 _, past1 q3 _, past1 q4 _⟩ | exact ⟨k0, k1, k2, k3, k4⟩ | exact ⟨past1 k0 _, past1 k1 _, past1 k2 _, past1 k3 _, past1 k4 _⟩ | exact ⟨past1 (past1 k0 _) _, past1 (past1 k1 _) _, past1 (past1 k2 _) _, past1 (past1 k3 _) _, past1 (past1 k4 _) _⟩ | exact ⟨cell_later hbV (past1 k0 _), cell_later hbV (past1 k1 _), cell_later hbV (past1 k2 _), cell_later hbV (past1 k3 _), cell_later hbV (past1 k4 _)⟩ | exact ⟨cell_later hbV (past1 (past1 k0 _) _), cell_later hbV (past1 (past1 k1 _) _), cell_later hbV (past1 (past1 k2 _) _), cell_later hbV (past1 (past1 k3 _) _), cell_later hbV (past1 (past1 k4 _) _)⟩ | go_keep)
    (first | (go_at_call 22; refine (HN2.out _ (by first | exact (bal HB1.out _).drew | exact HB1.out.drew)).mono ?_; rintro e w5 ⟨p5, c5, rfl, _, hb5⟩; (first | have k0 := cell_later hb5 (show (w1.alloc (.cells CZ3 3)).drew.cell? _ = _ from past1 q0 _) | have k0 := cell_later hb5 (show w1.drew.cell? _ = _ from q0)); (first | have k1 := cell_later hb5 (show (w1.alloc (.cells CZ3 3)).drew.cell? _ = _ from past1 q1 _) | have k1 := cell_later hb5 (show w1.drew.cell? _ = _ from q1)); (first | have k2 := cell_later hb5 (show (w1.alloc (.cells CZ3 3)).drew.cell? _ = _ from past1 q2 _) | have k2 := cell_later hb5 (show w1.drew.cell? _ = _ from q2)); (first | have k3 := cell_later hb5 (show (w1.alloc (.cells CZ3 3)).drew.cell? _ = _ from past1 q3 _) | have k3 := cell_later hb5 (show w1.drew.cell? _ = _ from q3)); (first | have k4 := cell_later hb5 (show (w1.alloc (.cells CZ3 3)).drew.cell? _ = _ from past1 q4 _) | have k4 := cell_later hb5 (show w1.drew.cell? _ = _ from q4)); (first | have HQ5 := hide (bthen (show Below w1.heap.size w1 (w1.alloc (.cells CZ3 3)).drew from (bal (Below.refl _ _) _).drew) hb5) | have HQ5 := hide (bthen (show Below w1.heap.size w1 w1.drew from (Below.refl _ _).drew) hb5)); (first | have HB5 := hide (bthen (show Below w.heap.size w (w1.alloc (.cells CZ3 3)).drew from (bal HB1.out _).drew) hb5) | have HB5 := hide (bthen (show Below w.heap.size w w1.drew from HB1.out.drew) hb5))) | (go_at_call 27; refine (HVO.out _ _ _ (by first | exact bal HB5.out _ | exact bal (bal HB5.out _) _) (by first | exact irow_ints' (HC3.out (w5.alloc _)) | exact (irow_ints (HC3.out w5)).later (bal (Below.refl _ _) _) | exact (irow_ints (HC3.out w1)).later (bthen (show Below (w1.alloc (.cells CZ3 3)).heap.size (w1.alloc (.cells CZ3 3)) w5 from (Below.refl _ _).drew.trans hb5) (bal (Below.refl _ _) _))) (by first | exact irow_ints' (HC2.out (w5.alloc _)) | exact irow_ints (HC2.out w5) | exact (irow_ints (HC2.out w5)).later (bal (Below.refl _ _) _))).mono ?_; rintro e wV ⟨g, rfl, hRV, hbV⟩; have HRV := hide hRV; have HBV := hide (bthen (by first | exact bal HB5.out _ | exact bal (bal HB5.out _) _) hbV); have HBQ := hide (bthen (by first | exact bal HQ5.out _ | exact bal (bal HQ5.out _) _) hbV); have hq1 : wV.cell? ⟨w.heap.size, 1, none⟩ = some (.slice a1 is.length c1) := (by first | exact cell_later hbV (past1 k1 _) | exact cell_later hbV (past1 (past1 k1 _) _)); clear hRV))
  all_goals
    have HQV := hide (HQ.out.later HBQ.out)
    have HWV := hide (HS.out.later HBV.out)
    clear q0 q1 q2 q3 q4 k0 k1 k2 k3 k4 hb5 hbV HB5 HQ5 HBQ HVO HN2 HB1 HX1 HQ HS HC3 HC2 hmk3 hmk2
    obtain ⟨G, hG, hGv⟩ : ∃ G : Nat → Int, F = (List.range S.length).map G ∧ ∀ j, G j = if 0 ≤ pairOf (S.getD j 0) is then vz.getD (pairOf (S.getD j 0) is).toNat 0 else wish.getD j 0 := ⟨_, HBR.out, fun _ => rfl⟩
    have HG := hide hG
    have HGV := hide hGv
    clear hG hGv HBR
    go_wp2
    go_loopw [7, 8] (fun v i wr => ∃ k : Nat, k ≤ S.length ∧ i = .int .i64 k ∧ wr.ownsRow wV.heap.size 3 1 v ((List.range k).map G).length (((List.range k).map G).map (Value.int .i64)) ∧ Below wV.heap.size wV wr) (fun _ i _ => S.length - (intOf i).toNat)
    case atStart => exact ⟨0, Nat.zero_le _, rfl, World.ownsRow_nil _ _ _ _, Below.refl _ _⟩
    case round =>
    obtain ⟨k, hk, rfl, hown, hbw⟩ := hrel
    by_cases hlt : k < S.length
    · obtain ⟨b, off, rfl, hc⟩ := HQV.out (by omega)
      have d0w := hc k hlt
      have d0 := cell_later hbw d0w
      have hkl : (k : Int) < (S.length : Int) := by omega
      have HT : Hid ((List.range (k + 1)).map G = (List.range k).map G ++ [G k]) := by
        rw [List.range_succ, List.map_append]; rfl
      have hlen : ((List.range k).map G).length ≤ 80 := by simp; omega
      have hq1' := cell_later hbw hq1
      have HGk := hide (HGV.out k)
      rw [getD_at hlt] at HGk
      have HPk := hide (HPB.out S[k])
      have HPC := hide (fun _ : Unit => HPO.out S[k] wr.drew (bthen HBV.out hbw.drew))
      have hsz := hbw.size
      clear hc
      generalize pairOf S[k] is = po at *
      generalize S[k] = s at *
      generalize (List.range k).map G = F0 at *
      by_cases hpo : 0 ≤ po
      · have hpn := HPk.out hpo
        have hvl := HVL.out
        have e3w := (HRV.out po.toNat (by omega)).1
        rw [← getD_at (l := vz) (k := po.toNat) (by omega)] at e3w
        have e3 := cell_later hbw e3w
        rw [if_pos hpo] at HGk
        have hpv : po < (vz.length : Int) := by omega
        clear hvl
        generalize vz.getD po.toNat 0 = wv at *
        go_wp2
        go_region_held3 (fun w' => w'.cell? ⟨w.heap.size, 1, none⟩ = some (.slice a1 is.length c1) ∧ w'.cell? ⟨b, off + k, none⟩ = some (.int .i64 s))
          (first | exact ⟨hq1', d0⟩ | go_keep)
          (first | (go_at_call 43; refine (HPC.out ()).mono ?_; rintro e w' ⟨rfl, rfl⟩))
        have hown2 := hown.drew
        have hbw2 := hbw.drew
        clear hown hbw hsz hq1' d0 e3 HPC
        generalize wr.drew = wx at *
        have hsz := hbw2.size
        have e3 := cell_later hbw2 e3w
        have HT2 : Hid ((List.range (k + 1)).map G = F0 ++ [wv]) := by rw [HT.out, HGk.out]; rfl
        clear HT HGk
        go_wp2_with (at_builtin; refine wpList_append_own _ rfl _ _ 24 rfl wV.heap.size 3 i0 (.int .i64 0) 1 8 Try.underlying24 hi hz0 hz1 hz2 rfl (by decide) _ _ _ rfl (hown2.alloc _) ⟨wx.heap.size, 0, none⟩ 1 1 [.int .i64 wv] rfl rfl ?c1 ?c2 ?c3 ?c4 ?c5 ?_)
        case c1 =>
          intro j u hj
          match j, hj with
          | 0, hj => simp at hj; subst hj; simp [Addr.add]
        case c2 => intro u hu; simp at hu; subst hu; rfl
        case c3 => unfold maxLen; omega
        case c4 => omega
        case c5 => simp; omega
        intro v' w2 hown' hgrow _
        have R := owns_later hown2 hown' hgrow hbw2 hsz
        rw [← HT2.out] at R
        clear hown' hgrow hown2
        go_wp2
        go_roundw
        case rel => first | exact ⟨k + 1, by omega, by go_num, R.1, R.2⟩ | ((repeat apply Exists.intro); exact ⟨⟨k + 1, by omega, by go_num, R.1, R.2⟩, rfl⟩)
        case measure => simp [intOf]; omega
      · rw [if_neg hpo] at HGk
        have hwl := HWL.out
        have hkw : (k : Int) < (wish.length : Int) := by omega
        obtain ⟨b3, off3, rfl, hc3⟩ := HWV.out (by omega)
        have e3w := hc3 k (by omega)
        rw [← getD_at (l := wish) (k := k) (by omega)] at e3w
        have e3 := cell_later hbw e3w
        clear hc3 hwl
        generalize wish.getD k 0 = wv at *
        go_wp2
        go_region_held3 (fun w' => w'.cell? ⟨w.heap.size, 1, none⟩ = some (.slice a1 is.length c1) ∧ w'.cell? ⟨b, off + k, none⟩ = some (.int .i64 s))
          (first | exact ⟨hq1', d0⟩ | go_keep)
          (first | (go_at_call 43; refine (HPC.out ()).mono ?_; rintro e w' ⟨rfl, rfl⟩))
        have hown2 := hown.drew
        have hbw2 := hbw.drew
        clear hown hbw hsz hq1' d0 e3 HPC
        generalize wr.drew = wx at *
        have hsz := hbw2.size
        have e3 := cell_later hbw2 e3w
        have HT2 : Hid ((List.range (k + 1)).map G = F0 ++ [wv]) := by rw [HT.out, HGk.out]; rfl
        clear HT HGk
        go_wp2_with (at_builtin; refine wpList_append_own _ rfl _ _ 24 rfl wV.heap.size 3 i0 (.int .i64 0) 1 8 Try.underlying24 hi hz0 hz1 hz2 rfl (by decide) _ _ _ rfl (hown2.alloc _) ⟨wx.heap.size, 0, none⟩ 1 1 [.int .i64 wv] rfl rfl ?c1 ?c2 ?c3 ?c4 ?c5 ?_)
        case c1 =>
          intro j u hj
          match j, hj with
          | 0, hj => simp at hj; subst hj; simp [Addr.add]
        case c2 => intro u hu; simp at hu; subst hu; rfl
        case c3 => unfold maxLen; omega
        case c4 => omega
        case c5 => simp; omega
        intro v' w2 hown' hgrow _
        have R := owns_later hown2 hown' hgrow hbw2 hsz
        rw [← HT2.out] at R
        clear hown' hgrow hown2
        go_wp2
        go_roundw
        case rel => first | exact ⟨k + 1, by omega, by go_num, R.1, R.2⟩ | ((repeat apply Exists.intro); exact ⟨⟨k + 1, by omega, by go_num, R.1, R.2⟩, rfl⟩)
        case measure => simp [intOf]; omega
    · obtain rfl : k = S.length := by omega
      rw [← HG.out] at hown
      obtain ⟨p, cap, rfl, hJ⟩ := owns_ints hown
      go_wp2
      go_ret
      exact ⟨p, cap, rfl, hJ, bthen HBV.out hbw⟩

end Go.Proofs.Ytfobcnhibhbbaaa

namespace Go.Proofs.Ytfobcnhibhbbaaa
open Go.RowKit

theorem words_len {ns : List Nd} {kind : Int} {l : List Int} (h : wordsE ns kind l = 0) : l.length = (sel (isK ns kind) ns.length).length := by
  unfold wordsE at h
  split at h
  · omega
  · omega

theorem beginRL_len (ns : List Nd) (is : List (Int × Int)) (wish vz : List Int) : (beginRL ns is wish vz).length ≤ ns.length := by
  unfold beginRL; rw [List.length_map, List.length_range]; exact sel_len _ _

end Go.Proofs.Ytfobcnhibhbbaaa

namespace Go.Proofs.Ytfobcnhibhbbaaa
open Go.ChangeShapes Go.WideShapes Go.ChangeAt Go.RowKit

end Go.Proofs.Ytfobcnhibhbbaaa
