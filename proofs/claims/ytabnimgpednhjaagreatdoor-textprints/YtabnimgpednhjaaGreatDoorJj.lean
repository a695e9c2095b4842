/- The plain PrintModel. -/
import Derived.Test.YtabnimgpednhjaaGreatDoorJi
namespace Go.Proofs.YtabnimgpednhjaaGreatDoor
open Go.RowKit
set_option maxRecDepth 100000

theorem init_bs (T : List UInt8) (x y : Int) : bsT T ++ ((⟨#[105, 110, 105, 116, 32]⟩ : ByteArray) ++ itoaB x ++ ⟨#[32]⟩ ++ itoaB y ++ ⟨#[10]⟩) = bsT (T ++ lineT (sortB 1) [x, y]) := by
  rw [← pair_line, show sortB 1 ++ ⟨#[32]⟩ = (⟨#[105, 110, 105, 116, 32]⟩ : ByteArray) from by decide]
theorem next_bs (T : List UInt8) (x y : Int) : bsT T ++ ((⟨#[110, 101, 120, 116, 32]⟩ : ByteArray) ++ itoaB x ++ ⟨#[32]⟩ ++ itoaB y ++ ⟨#[10]⟩) = bsT (T ++ lineT (sortB 2) [x, y]) := by
  rw [← pair_line, show sortB 2 ++ ⟨#[32]⟩ = (⟨#[110, 101, 120, 116, 32]⟩ : ByteArray) from by decide]
theorem bad_bs (T : List UInt8) (x : Int) : bsT T ++ ((⟨#[98, 97, 100, 32]⟩ : ByteArray) ++ itoaB x ++ ⟨#[10]⟩) = bsT (T ++ lineT (sortB 3) [x]) := by
  rw [← mark_line, show sortB 3 ++ ⟨#[32]⟩ = (⟨#[98, 97, 100, 32]⟩ : ByteArray) from by decide]
theorem hold_bs (T : List UInt8) (x : Int) : bsT T ++ ((⟨#[104, 111, 108, 100, 32]⟩ : ByteArray) ++ itoaB x ++ ⟨#[10]⟩) = bsT (T ++ lineT (sortB 4) [x]) := by
  rw [← mark_line, show sortB 4 ++ ⟨#[32]⟩ = (⟨#[104, 111, 108, 100, 32]⟩ : ByteArray) from by decide]

/-- What a node's line is made of, step by step. -/
structure LineIs (T : List UInt8) (k : Nat) (d : Nd6) (tk : Nat) (P : Nat → List UInt8) (F : List UInt8) : Prop where
  tk3 : tk ≤ 3
  head : bsT T ++ (itoaB (k : Int) ++ ⟨#[32]⟩ ++ kindB d.k ++ ⟨#[32]⟩ ++ itoaB d.wd) = bsT (T ++ P 1)
  step : ∀ j, j < tk → bsT (T ++ P (j + 1)) ++ (⟨#[32]⟩ ++ itoaB (d.at' (j + 2))) = bsT (T ++ P (j + 2))
  num : bsT (T ++ P (tk + 1)) ++ (⟨#[32]⟩ ++ itoaB d.n) = bsT (T ++ P (tk + 2))
  endN : hasN d.k = true → bsT (T ++ P (tk + 2)) ++ ⟨#[10]⟩ = bsT F
  end0 : hasN d.k = false → bsT (T ++ P (tk + 1)) ++ ⟨#[10]⟩ = bsT F
  len : ∀ j, (P j).length ≤ 22 * (j + 2)
theorem line_is (T : List UInt8) (k : Nat) (hk : k ≤ 1000) (x : Ev.Nd) (hx : (toD x).ok) : ∃ tk : Nat, Ev.takes (toD x).k = (tk : Int) ∧ LineIs T k (toD x) tk (lineP k (toD x)) (T ++ nodeT k x) := by
  have hb := takes_bd ((toD x).k : Int)
  obtain ⟨tk, ht⟩ : ∃ tk : Nat, Ev.takes (toD x).k = (tk : Int) := ⟨(Ev.takes (toD x).k).toNat, by omega⟩
  refine ⟨tk, ht, by omega, head_line T k (toD x), ?_, ?_, ?_, ?_, lineP_len (by omega) (by omega) hx⟩
  · intro j hj
    have h := step_line T k (toD x) (j + 1)
    rw [show offN (toD x).k (j + 1) = j + 2 by unfold offN; rw [if_pos (by omega)]] at h
    exact h
  · have h := step_line T k (toD x) (tk + 1)
    rw [show offN (toD x).k (tk + 1) = 5 by unfold offN; rw [if_neg (by omega)]] at h
    exact h
  · intro h
    rw [nodeT_line, show manyN (toD x).k = tk + 2 by unfold manyN; rw [h, if_pos rfl]; omega, bsT_app, List.append_assoc]
  · intro h
    rw [nodeT_line, show manyN (toD x).k = tk + 1 by unfold manyN; rw [h, if_neg (by decide)]; omega, bsT_app, List.append_assoc]

set_option maxHeartbeats 16000000 in
theorem plainPrint_any (a0 a1 a2 a3 a4 : Option Addr) (c0 c1 c2 c3 c4 : Nat) (ns : List Ev.Nd) (is xs : List (Int × Int)) (bs hs : List Int) (hc : Ev.checkE ns is xs bs hs = 0)
    (hok : ∀ x ∈ ns, (toD x).ok) (hbb : ∀ n ∈ bs, -9223372036854775808 ≤ n ∧ n ≤ 9223372036854775807) (hbh : ∀ n ∈ hs, -9223372036854775808 ≤ n ∧ n ≤ 9223372036854775807) (w : World)
    (hN : Ev.NodesAt w a0 ns) (hI : Ev.PairsAt w a1 is) (hX : Ev.PairsAt w a2 xs) (hBs : Ev.IntsAt w a3 bs) (hHs : Ev.IntsAt w a4 hs) :
    Calls Tryz.prog 7 #[Ev.Mv.val ⟨a0, c0, a1, is.length, c1, a2, xs.length, c2, a3, bs.length, c3, a4, hs.length, c4⟩ ns.length] w fun e w' => e = .returned (.string (bsT (modelT ns is xs bs hs))) ∧ Below w.heap.size w w' := by
  obtain ⟨m1, m2, m3, m4, m5, m6, m7, m8⟩ := model_ok hc
  have hB0 : Below w.heap.size w (w.alloc (.cells (Ev.Mv.cells ⟨a0, c0, a1, is.length, c1, a2, xs.length, c2, a3, bs.length, c3, a4, hs.length, c4⟩ ns.length) 26)) := bal (Below.refl _ _) _
  have hbox := Ev.Box.new w ⟨a0, c0, a1, is.length, c1, a2, xs.length, c2, a3, bs.length, c3, a4, hs.length, c4⟩ ns.length
  simp only [Ev.Box] at hbox
  obtain ⟨q0, q1, q2, q3, q4⟩ := hbox
  have HOK : Hid (∀ x ∈ ns, okD x) := fun x hx => ⟨m6 x hx, hok x hx⟩
  have HN := hide hN
  have HI := hide hI
  have HX := hide hX
  have HBS := hide hBs
  have HHS := hide hHs
  have HB0 := hide hB0
  have HNL := hide (nodesT_len m1 hok)
  have HPL := hide m7
  have HQL := hide m8
  have HBB := hide hbb
  have HBH := hide hbh
  have HMT : Hid (modelT ns is xs bs hs = nodesT ns ns.length ++ linesT (sortB 1) (pairL is) is.length ++ linesT (sortB 2) (pairL xs) xs.length ++ linesT (sortB 3) (markL bs) bs.length ++ linesT (sortB 4) (markL hs) hs.length) := rfl
  generalize modelT ns is xs bs hs = MT at *
  have z1 : (ByteArray.mk #[32]).size = 1 := rfl
  have z2 : (ByteArray.mk #[10]).size = 1 := rfl
  clear hc hok hbb hbh hN hI hX hBs hHs m6 m7 m8 hB0
  go_enter Tryz.func7, Tryz.ntmps7
  go_wp2
  generalize w.alloc (.cells (Ev.Mv.cells ⟨a0, c0, a1, is.length, c1, a2, xs.length, c2, a3, bs.length, c3, a4, hs.length, c4⟩ ns.length) 26) = W0 at *
  go_loopw [3, 4] (fun s i wr => ∃ k : Nat, k ≤ ns.length ∧ i = .int .i64 k ∧ s = .string (bsT (nodesT ns k)) ∧ Hid (Below W0.heap.size W0 wr)) (fun _ i _ => ns.length - (intOf i).toNat)
  case atStart => exact ⟨0, Nat.zero_le _, rfl, rfl, Below.refl _ _⟩
  case round =>
    obtain ⟨k, hk, rfl, rfl, HR⟩ := hrel
    have p0 := cell_later HR.out q0
    have HBW := hide (belowAl HB0.out HR.out)
    have HTL := hide (HNL.out k hk)
    by_cases hlt : k < ns.length
    · clear q1 q2 q3 q4 HI HX HBS HHS HMT HPL HQL HBB HBH
      obtain ⟨b, off, rfl, hic⟩ := (HN.out.later HBW.out) (by omega)
      obtain ⟨x0, x1, x2, x3, x4, x5⟩ := hic k hlt
      have hki : (k : Int) < (ns.length : Int) := by omega
      have hxo := HOK.out ns[k] (List.getElem_mem hlt)
      obtain ⟨tk, htk, HL⟩ := line_is (nodesT ns k) k (by omega) ns[k] hxo.2
      rw [← nodesT_succ hlt] at HL
      have hkd : ns[k].kind = ((toD ns[k]).k : Int) := by have := hxo.1.1; show _ = ((ns[k].kind.toNat : Nat) : Int); omega
      rw [hkd] at x0
      change wr.cell? ⟨b, off + k * 6 + 1, none⟩ = some (.int .i64 (toD ns[k]).wd) at x1
      change wr.cell? ⟨b, off + k * 6 + 2, none⟩ = some (.int .i64 (toD ns[k]).a) at x2
      change wr.cell? ⟨b, off + k * 6 + 3, none⟩ = some (.int .i64 (toD ns[k]).b) at x3
      change wr.cell? ⟨b, off + k * 6 + 4, none⟩ = some (.int .i64 (toD ns[k]).c) at x4
      change wr.cell? ⟨b, off + k * 6 + 5, none⟩ = some (.int .i64 (toD ns[k]).n) at x5
      have hk1 : 1 ≤ (toD ns[k]).k ∧ (toD ns[k]).k ≤ 23 := by have h1 := hxo.1.1; have h2 := hxo.1.2; omega
      have hdo : (toD ns[k]).ok := hxo.2
      clear hic hkd hxo
      generalize toD ns[k] = d at *
      generalize lineP (k : Int) d = P at *
      have HFF : Hid (nodesT ns (k + 1) = nodesT ns (k + 1)) := rfl
      generalize hF : nodesT ns (k + 1) = F at *
      generalize hT : nodesT ns k = T at *
      clear hT HFF
      have HL' := hide HL
      have htz : T.length ≤ 16000 := by have := HTL.out; omega
      have htk3 := HL.tk3
      have hsT := bsT_size T
      have s1 := itoaB_size (n := (k : Int)) (by omega) (by omega)
      have s2 := itoaB_size (n := d.wd) (hdo 1).1 (hdo 1).2
      have s3 := kind_size d.k
      have HDO := hide hdo
      have hb5 : Below wr.heap.size wr (wr.alloc (.cells #[.int .i64 d.k, .int .i64 d.wd, .int .i64 d.a, .int .i64 d.b, .int .i64 d.c, .int .i64 d.n] 47)) := bal (Below.refl _ _) _
      have n1 : ¬ 9223372036854775807 < (itoaB (k : Int)).size + 1 := by omega
      have n2 : ¬ 9223372036854775807 < (itoaB (k : Int)).size + 1 + (kindB d.k).size := by omega
      have n3 : ¬ 9223372036854775807 < (itoaB (k : Int)).size + 1 + (kindB d.k).size + 1 := by omega
      have n4 : ¬ 9223372036854775807 < (itoaB (k : Int)).size + 1 + (kindB d.k).size + 1 + (itoaB d.wd).size := by omega
      have n5 : ¬ 9223372036854775807 < T.length + ((itoaB (k : Int)).size + 1 + (kindB d.k).size + 1 + (itoaB d.wd).size) := by omega
      have n6 : ¬ 9223372036854775807 < (bsT T).size + ((itoaB (k : Int)).size + 1 + (kindB d.k).size + 1 + (itoaB d.wd).size) := by omega
      clear HL hdo
      have g0 : (wr.alloc (.cells #[.int .i64 d.k, .int .i64 d.wd, .int .i64 d.a, .int .i64 d.b, .int .i64 d.c, .int .i64 d.n] 47)).cell? ⟨wr.heap.size, 0, none⟩ = some (.int .i64 d.k) := by simp [go_sem]
      have g1 : (wr.alloc (.cells #[.int .i64 d.k, .int .i64 d.wd, .int .i64 d.a, .int .i64 d.b, .int .i64 d.c, .int .i64 d.n] 47)).cell? ⟨wr.heap.size, 1, none⟩ = some (.int .i64 d.wd) := by simp [go_sem]
      have g2 : (wr.alloc (.cells #[.int .i64 d.k, .int .i64 d.wd, .int .i64 d.a, .int .i64 d.b, .int .i64 d.c, .int .i64 d.n] 47)).cell? ⟨wr.heap.size, 2, none⟩ = some (.int .i64 d.a) := by simp [go_sem]
      have g3 : (wr.alloc (.cells #[.int .i64 d.k, .int .i64 d.wd, .int .i64 d.a, .int .i64 d.b, .int .i64 d.c, .int .i64 d.n] 47)).cell? ⟨wr.heap.size, 3, none⟩ = some (.int .i64 d.b) := by simp [go_sem]
      have g4 : (wr.alloc (.cells #[.int .i64 d.k, .int .i64 d.wd, .int .i64 d.a, .int .i64 d.b, .int .i64 d.c, .int .i64 d.n] 47)).cell? ⟨wr.heap.size, 4, none⟩ = some (.int .i64 d.c) := by simp [go_sem]
      have g5 : (wr.alloc (.cells #[.int .i64 d.k, .int .i64 d.wd, .int .i64 d.a, .int .i64 d.b, .int .i64 d.c, .int .i64 d.n] 47)).cell? ⟨wr.heap.size, 5, none⟩ = some (.int .i64 d.n) := by simp [go_sem]
      go_wp2
      generalize wr.alloc (.cells #[.int .i64 d.k, .int .i64 d.wd, .int .i64 d.a, .int .i64 d.b, .int .i64 d.c, .int .i64 d.n] 47) = W5 at *
      have h00 : Below W5.heap.size W5 W5.drew := (Below.refl _ _).drew
      have d0 : W5.drew.cell? ⟨wr.heap.size, 0, none⟩ = some (.int .i64 d.k) := g0
      have d1 : W5.drew.cell? ⟨wr.heap.size, 1, none⟩ = some (.int .i64 d.wd) := g1
      go_region_held3 (fun w' => w'.cell? ⟨wr.heap.size, 0, none⟩ = some (.int .i64 d.k) ∧ w'.cell? ⟨wr.heap.size, 1, none⟩ = some (.int .i64 d.wd))
        (first | exact ⟨d0, d1⟩ | exact ⟨by assumption, by assumption⟩ | go_keep)
        (first
          | (go_at_call 22; refine (digits_any _ (by omega) (by omega) _).mono ?_; rintro e wN ⟨rfl, hbN⟩; have e0 := cell_later hbN (a := ⟨wr.heap.size, 0, none⟩) (v := .int .i64 d.k) (by assumption); have e1 := cell_later hbN (a := ⟨wr.heap.size, 1, none⟩) (v := .int .i64 d.wd) (by assumption); have hbX := belowAl (show Below W5.heap.size W5 _ by assumption) hbN; clear hbN)
          | (go_at_call 22; refine (digits_any d.wd (HDO.out 1).1 (HDO.out 1).2 _).mono ?_; rintro e wN ⟨rfl, hbN⟩; have e0 := cell_later hbN (a := ⟨wr.heap.size, 0, none⟩) (v := .int .i64 d.k) (by assumption); have e1 := cell_later hbN (a := ⟨wr.heap.size, 1, none⟩) (v := .int .i64 d.wd) (by assumption); have hbX := belowAl (show Below W5.heap.size W5 _ by assumption) hbN; clear hbN)
          | (go_at_call 23; refine (kindWord_any _ (by omega) (by omega) _).mono ?_; rintro e wN ⟨rfl, hbN⟩; have e0 := cell_later hbN (a := ⟨wr.heap.size, 0, none⟩) (v := .int .i64 d.k) (by assumption); have e1 := cell_later hbN (a := ⟨wr.heap.size, 1, none⟩) (v := .int .i64 d.wd) (by assumption); have hbX := belowAl (show Below W5.heap.size W5 _ by assumption) hbN; clear hbN))
      rw [HL'.out.head]
      rename_i hHeld
      have HBX := hide (show Below W5.heap.size W5 wN from hbX)
      have g2 := cell_later hbX g2
      have g3 := cell_later hbX g3
      have g4 := cell_later hbX g4
      have g5 := cell_later hbX g5
      clear hHeld g0 g1 d0 d1 n1 n2 n3 n4 n5 n6 h00 hbX s1 s2 s3
      have v0 : (wN.alloc (.cells #[.int .i64 d.a, .int .i64 d.b, .int .i64 d.c] 3)).cell? ⟨wN.heap.size, 0, none⟩ = some (.int .i64 d.a) := by simp [go_sem]
      have v1 : (wN.alloc (.cells #[.int .i64 d.a, .int .i64 d.b, .int .i64 d.c] 3)).cell? ⟨wN.heap.size, 1, none⟩ = some (.int .i64 d.b) := by simp [go_sem]
      have v2 : (wN.alloc (.cells #[.int .i64 d.a, .int .i64 d.b, .int .i64 d.c] 3)).cell? ⟨wN.heap.size, 2, none⟩ = some (.int .i64 d.c) := by simp [go_sem]
      have HV : Hid (∀ j, j < 3 → (wN.alloc (.cells #[.int .i64 d.a, .int .i64 d.b, .int .i64 d.c] 3)).cell? ⟨wN.heap.size, j, none⟩ = some (.int .i64 (d.at' (j + 2)))) := fun j hj => by
        have : j = 0 ∨ j = 1 ∨ j = 2 := by omega
        rcases this with rfl | rfl | rfl
        · exact v0
        · exact v1
        · exact v2
      have hbV : Below wN.heap.size wN (wN.alloc (.cells #[.int .i64 d.a, .int .i64 d.b, .int .i64 d.c] 3)) := bal (Below.refl _ _) _
      have f0 := cell_later hbV e0
      have f5 := cell_later hbV g5
      have HBV := hide (belowAl hb5 (belowAl HBX.out hbV))
      clear v0 v1 v2 hbV e1
      go_wp2
      generalize wN.alloc (.cells #[.int .i64 d.a, .int .i64 d.b, .int .i64 d.c] 3) = WV at *
      generalize wN.heap.size = G at *
      go_loopw [3, 7] (fun s i wr2 => ∃ j : Nat, j ≤ tk ∧ i = .int .i64 j ∧ s = .string (bsT (T ++ P (j + 1))) ∧ Hid (Below WV.heap.size WV wr2)) (fun _ i _ => tk - (intOf i).toNat)
      case atStart => exact ⟨0, Nat.zero_le _, rfl, rfl, Below.refl _ _⟩
      case round =>
        clear g2 g3 g4 g5 e0
        obtain ⟨j, hj, rfl, rfl, HR2⟩ := hrel
        have k0 := cell_later HR2.out f0
        have k5 := cell_later HR2.out f5
        have HTK := hide (Ev.takes_any (d.k : Int) wr)
        rw [htk] at HTK
        have hz : (bsT (T ++ P (j + 1))).size ≤ 100000 := by rw [bsT_size, List.length_append]; have := HL'.out.len (j + 1); omega
        by_cases hlt2 : j < tk
        · have hji : (j : Int) < (tk : Int) := by omega
          have hj3 : (j : Int) < 3 := by omega
          have kv := cell_later HR2.out (HV.out j (by omega))
          have hvo := HDO.out (j + 2)
          have HWQ := hide (HL'.out.step j hlt2)
          generalize d.at' (j + 2) = x at *
          have s1 := itoaB_size (n := x) hvo.1 hvo.2
          have s2 : ((⟨#[32]⟩ : ByteArray) ++ itoaB x).size ≤ 22 := by rw [ByteArray.size_append]; omega
          generalize bsT (T ++ P (j + 1)) = S at *
          go_wp2_with fail
          refine HTK.out.mono ?_
          rintro e w6 ⟨rfl, rfl⟩
          go_wp2_with fail
          refine (digits_any x (by omega) (by omega) _).mono ?_
          rintro e w7 ⟨rfl, hb7⟩
          have HR7 := hide (belowAl HR2.out hb7)
          clear hb7
          go_wp2
          go_roundw
          case rel => exact ⟨j + 1, by omega, by go_num, by rw [HWQ.out], HR7⟩
          case measure => simp [intOf]; omega
        · obtain rfl : j = tk := by omega
          have hji : ¬ (j : Int) < (j : Int) := by omega
          have HRF := hide (belowAl HR.out (belowAl HBV.out HR2.out))
          have hdn := HDO.out 5
          change -9223372036854775808 ≤ d.n ∧ d.n ≤ 9223372036854775807 at hdn
          have s1 := itoaB_size (n := d.n) hdn.1 hdn.2
          have s2 : ((⟨#[32]⟩ : ByteArray) ++ itoaB d.n).size ≤ 22 := by rw [ByteArray.size_append]; omega
          have hz2 : (bsT (T ++ P (j + 2))).size ≤ 100000 := by rw [bsT_size, List.length_append]; have := HL'.out.len (j + 2); omega
          have HNM := hide HL'.out.num
          have HE1 := hide HL'.out.endN
          have HE0 := hide HL'.out.end0
          unfold hasN at HE1 HE0
          generalize bsT (T ++ P (j + 1)) = S at *
          generalize bsT (T ++ P (j + 2)) = S2 at *
          clear HL' HV f0 f5
          by_cases hk1a : d.k = 1
          · have hkn : (d.k : Int) = 1 := by omega
            have HE := hide (HE1.out (by simp [hkn]))
            rw [hkn] at k0 HTK
            rw [← HNM.out] at hz2 HE
            clear HE1 HE0 hkn HNM
            go_wp2_with fail
            refine HTK.out.mono ?_
            rintro e w6 ⟨rfl, rfl⟩
            go_wp2_with fail
            refine (digits_any d.n hdn.1 hdn.2 _).mono ?_
            rintro e w7 ⟨rfl, hb7⟩
            have HR7 := hide (belowAl HRF.out hb7)
            clear hb7 HRF
            go_wp2_with fail
            go_roundw
            case rel => exact ⟨k + 1, by omega, by go_num, by rw [HE.out, hF], HR7⟩
            case measure => simp [intOf]; omega
          by_cases hk1b : d.k = 21
          · have hkn : (d.k : Int) = 21 := by omega
            have HE := hide (HE1.out (by simp [hkn]))
            rw [hkn] at k0 HTK
            rw [← HNM.out] at hz2 HE
            clear HE1 HE0 hkn HNM
            go_wp2_with fail
            refine HTK.out.mono ?_
            rintro e w6 ⟨rfl, rfl⟩
            go_wp2_with fail
            refine (digits_any d.n hdn.1 hdn.2 _).mono ?_
            rintro e w7 ⟨rfl, hb7⟩
            have HR7 := hide (belowAl HRF.out hb7)
            clear hb7 HRF
            go_wp2_with fail
            go_roundw
            case rel => exact ⟨k + 1, by omega, by go_num, by rw [HE.out, hF], HR7⟩
            case measure => simp [intOf]; omega
          · have hkn : ¬ (d.k : Int) = 1 := by omega
            have hkm : ¬ (d.k : Int) = 21 := by omega
            have HE := hide (HE0.out (by simp [hkn, hkm]))
            have hd1 : decide ((d.k : Int) = 1) = false := by simp [hkn]
            have hd2 : decide ((d.k : Int) = 21) = false := by simp [hkm]
            have hd3 : ((d.k : Int) == 1) = false := by simpa using hkn
            have hd4 : ((d.k : Int) == 21) = false := by simpa using hkm
            clear HE1 HE0
            generalize (d.k : Int) = K at *
            go_wp2_with fail
            refine HTK.out.mono ?_
            rintro e w6 ⟨rfl, rfl⟩
            go_wp2_with fail
            go_roundw
            case rel => exact ⟨k + 1, by omega, by go_num, by rw [HE.out, hF], HRF⟩
            case measure => simp [intOf]; omega
    · obtain rfl : k = ns.length := by omega
      have hki : ¬ (ns.length : Int) < (ns.length : Int) := by omega
      have htl : (nodesT ns ns.length).length ≤ 16000 := by have := HTL.out; omega
      generalize nodesT ns ns.length = T0 at *
      have q1 := cell_later HR.out q1
      have q2 := cell_later HR.out q2
      have q3 := cell_later HR.out q3
      have q4 := cell_later HR.out q4
      clear HR HNL HTL HN HOK q0 HB0
      go_wp2_with fail
      go_loopw [3, 8] (fun s i wv => ∃ k : Nat, k ≤ is.length ∧ i = .int .i64 k ∧ s = .string (bsT (T0 ++ linesT (sortB 1) (pairL is) k)) ∧ Hid (Below wr.heap.size wr wv)) (fun _ i _ => is.length - (intOf i).toNat)
      case atStart => exact ⟨0, Nat.zero_le _, rfl, by simp [linesT], Below.refl _ _⟩
      case round =>
        obtain ⟨k, hk, rfl, rfl, HR⟩ := hrel
        have q1 := cell_later HR.out q1
        have q2 := cell_later HR.out q2
        have q3 := cell_later HR.out q3
        have q4 := cell_later HR.out q4
        have HBW := hide (belowAl HBW.out HR.out)
        have HSM : Hid (Small (pairL is)) := fun v hv => by
          obtain ⟨p, hp, rfl⟩ := List.mem_map.1 hv
          exact ⟨by simp, fun n hn => by have := HPL.out p hp; simp at hn; rcases hn with rfl | rfl <;> omega⟩
        have hll : (pairL is).length = is.length := by simp [pairL]
        have hz : (bsT (T0 ++ linesT (sortB 1) (pairL is) k)).size ≤ 20000 := by rw [bsT_size, List.length_append]; have := linesT_len (s := sortB 1) (L := pairL is) (sort_size _) HSM.out k (by omega); omega
        by_cases hlt : k < is.length
        · obtain ⟨b, off, rfl, hic⟩ := (HI.out.later HBW.out) (by omega)
          have hki : (k : Int) < (is.length : Int) := by omega
          have hLk : k < (pairL is).length := by omega
          obtain ⟨x0, x1⟩ := hic k hlt
          have hxb := HPL.out is[k] (List.getElem_mem hlt)
          have HTS := hide (linesT_succ (s := sortB 1) hLk)
          rw [show (pairL is)[k] = [is[k].1, is[k].2] by simp [pairL]] at HTS
          clear hic
          generalize is[k] = xy at *
          obtain ⟨x, y⟩ := xy
          simp only at *
          have s1 := itoaB_size (n := x) (by omega) (by omega)
          have s2 := itoaB_size (n := y) (by omega) (by omega)
          have z5 : (ByteArray.mk #[105, 110, 105, 116, 32]).size = 5 := rfl
          have HWQ : Hid (bsT (T0 ++ linesT (sortB 1) (pairL is) k) ++ ((⟨#[105, 110, 105, 116, 32]⟩ : ByteArray) ++ itoaB x ++ ⟨#[32]⟩ ++ itoaB y ++ ⟨#[10]⟩) = bsT (T0 ++ linesT (sortB 1) (pairL is) (k + 1))) := by rw [HTS.out, ← List.append_assoc]; exact init_bs _ x y
          generalize bsT (T0 ++ linesT (sortB 1) (pairL is) k) = S at *
          have n1 : ¬ 9223372036854775807 < 5 + (itoaB x).size := by omega
          have n2 : ¬ 9223372036854775807 < 5 + (itoaB x).size + 1 := by omega
          have n3 : ¬ 9223372036854775807 < 5 + (itoaB x).size + 1 + (itoaB y).size := by omega
          have n4 : ¬ 9223372036854775807 < 5 + (itoaB x).size + 1 + (itoaB y).size + 1 := by omega
          have n5 : ¬ 9223372036854775807 < S.size + (5 + (itoaB x).size + 1 + (itoaB y).size + 1) := by omega
          have h00 : Below wr.heap.size wr wr.drew := (Below.refl _ _).drew
          have d0 : wr.drew.cell? ⟨w.heap.size, 1, none⟩ = _ := q1
          have d1 : wr.drew.cell? _ = _ := x0
          have d2 : wr.drew.cell? _ = _ := x1
          go_wp2_with fail
          go_region_held3 (fun w' => w'.cell? ⟨w.heap.size, 1, none⟩ = some (.slice (some ⟨b, off, none⟩) is.length c1) ∧ w'.cell? ⟨b, off + k * 2, none⟩ = some (.int .i64 x) ∧ w'.cell? ⟨b, off + k * 2 + 1, none⟩ = some (.int .i64 y))
            (first | exact ⟨d0, d1, d2⟩ | exact ⟨by assumption, by assumption, by assumption⟩ | go_keep)
            ((go_at_call 22; refine (digits_any _ (by omega) (by omega) _).mono ?_; rintro e wN ⟨rfl, hbN⟩; have e0 := cell_later hbN (a := ⟨w.heap.size, 1, none⟩) (v := .slice (some ⟨b, off, none⟩) is.length c1) (by assumption); have e1 := cell_later hbN (a := ⟨b, off + k * 2, none⟩) (v := .int .i64 x) (by assumption); have e2 := cell_later hbN (a := ⟨b, off + k * 2 + 1, none⟩) (v := .int .i64 y) (by assumption); have hbX := belowAl (show Below wr.heap.size wr _ by assumption) hbN; clear hbN))
          have HR5 := hide (belowAl HR.out (show Below wr.heap.size wr wN from hbX))
          rename_i hHeld
          clear hHeld hbX h00 e0 e1 e2 d0 d1 d2 n1 n2 n3 n4 n5
          go_wp2_with fail
          go_roundw
          case rel => exact ⟨k + 1, by omega, by go_num, by rw [HWQ.out], HR5⟩
          case measure => simp [intOf]; omega
        · obtain rfl : k = is.length := by omega
          have hki : ¬ (is.length : Int) < (is.length : Int) := by omega
          clear HR HSM hll
          rw [bsT_size] at hz
          generalize hT1 : T0 ++ linesT (sortB 1) (pairL is) is.length = T1 at *
          go_wp2_with fail
          go_loopw [3, 9] (fun s i wv => ∃ k : Nat, k ≤ xs.length ∧ i = .int .i64 k ∧ s = .string (bsT (T1 ++ linesT (sortB 2) (pairL xs) k)) ∧ Hid (Below wr.heap.size wr wv)) (fun _ i _ => xs.length - (intOf i).toNat)
          case atStart => exact ⟨0, Nat.zero_le _, rfl, by simp [linesT], Below.refl _ _⟩
          case round =>
            obtain ⟨k, hk, rfl, rfl, HR⟩ := hrel
            have q2 := cell_later HR.out q2
            have q3 := cell_later HR.out q3
            have q4 := cell_later HR.out q4
            have HBW := hide (belowAl HBW.out HR.out)
            have HSM : Hid (Small (pairL xs)) := fun v hv => by
              obtain ⟨p, hp, rfl⟩ := List.mem_map.1 hv
              exact ⟨by simp, fun n hn => by have := HQL.out p hp; simp at hn; rcases hn with rfl | rfl <;> omega⟩
            have hll : (pairL xs).length = xs.length := by simp [pairL]
            have hz : (bsT (T1 ++ linesT (sortB 2) (pairL xs) k)).size ≤ 24000 := by rw [bsT_size, List.length_append]; have := linesT_len (s := sortB 2) (L := pairL xs) (sort_size _) HSM.out k (by omega); omega
            by_cases hlt : k < xs.length
            · obtain ⟨b, off, rfl, hic⟩ := (HX.out.later HBW.out) (by omega)
              have hki : (k : Int) < (xs.length : Int) := by omega
              have hLk : k < (pairL xs).length := by omega
              obtain ⟨x0, x1⟩ := hic k hlt
              have hxb := HQL.out xs[k] (List.getElem_mem hlt)
              have HTS := hide (linesT_succ (s := sortB 2) hLk)
              rw [show (pairL xs)[k] = [xs[k].1, xs[k].2] by simp [pairL]] at HTS
              clear hic
              generalize xs[k] = xy at *
              obtain ⟨x, y⟩ := xy
              simp only at *
              have s1 := itoaB_size (n := x) (by omega) (by omega)
              have s2 := itoaB_size (n := y) (by omega) (by omega)
              have z5 : (ByteArray.mk #[110, 101, 120, 116, 32]).size = 5 := rfl
              have HWQ : Hid (bsT (T1 ++ linesT (sortB 2) (pairL xs) k) ++ ((⟨#[110, 101, 120, 116, 32]⟩ : ByteArray) ++ itoaB x ++ ⟨#[32]⟩ ++ itoaB y ++ ⟨#[10]⟩) = bsT (T1 ++ linesT (sortB 2) (pairL xs) (k + 1))) := by rw [HTS.out, ← List.append_assoc]; exact next_bs _ x y
              generalize bsT (T1 ++ linesT (sortB 2) (pairL xs) k) = S at *
              have n1 : ¬ 9223372036854775807 < 5 + (itoaB x).size := by omega
              have n2 : ¬ 9223372036854775807 < 5 + (itoaB x).size + 1 := by omega
              have n3 : ¬ 9223372036854775807 < 5 + (itoaB x).size + 1 + (itoaB y).size := by omega
              have n4 : ¬ 9223372036854775807 < 5 + (itoaB x).size + 1 + (itoaB y).size + 1 := by omega
              have n5 : ¬ 9223372036854775807 < S.size + (5 + (itoaB x).size + 1 + (itoaB y).size + 1) := by omega
              have h00 : Below wr.heap.size wr wr.drew := (Below.refl _ _).drew
              have d0 : wr.drew.cell? ⟨w.heap.size, 2, none⟩ = _ := q2
              have d1 : wr.drew.cell? _ = _ := x0
              have d2 : wr.drew.cell? _ = _ := x1
              go_wp2_with fail
              go_region_held3 (fun w' => w'.cell? ⟨w.heap.size, 2, none⟩ = some (.slice (some ⟨b, off, none⟩) xs.length c2) ∧ w'.cell? ⟨b, off + k * 2, none⟩ = some (.int .i64 x) ∧ w'.cell? ⟨b, off + k * 2 + 1, none⟩ = some (.int .i64 y))
                (first | exact ⟨d0, d1, d2⟩ | exact ⟨by assumption, by assumption, by assumption⟩ | go_keep)
                ((go_at_call 22; refine (digits_any _ (by omega) (by omega) _).mono ?_; rintro e wN ⟨rfl, hbN⟩; have e0 := cell_later hbN (a := ⟨w.heap.size, 2, none⟩) (v := .slice (some ⟨b, off, none⟩) xs.length c2) (by assumption); have e1 := cell_later hbN (a := ⟨b, off + k * 2, none⟩) (v := .int .i64 x) (by assumption); have e2 := cell_later hbN (a := ⟨b, off + k * 2 + 1, none⟩) (v := .int .i64 y) (by assumption); have hbX := belowAl (show Below wr.heap.size wr _ by assumption) hbN; clear hbN))
              have HR5 := hide (belowAl HR.out (show Below wr.heap.size wr wN from hbX))
              rename_i hHeld
              clear hHeld hbX h00 e0 e1 e2 d0 d1 d2 n1 n2 n3 n4 n5
              go_wp2_with fail
              go_roundw
              case rel => exact ⟨k + 1, by omega, by go_num, by rw [HWQ.out], HR5⟩
              case measure => simp [intOf]; omega
            · obtain rfl : k = xs.length := by omega
              have hki : ¬ (xs.length : Int) < (xs.length : Int) := by omega
              clear HR HSM hll
              rw [bsT_size] at hz
              generalize hT2 : T1 ++ linesT (sortB 2) (pairL xs) xs.length = T2 at *
              go_wp2_with fail
              go_loopw [3, 10] (fun s i wv => ∃ k : Nat, k ≤ bs.length ∧ i = .int .i64 k ∧ s = .string (bsT (T2 ++ linesT (sortB 3) (markL bs) k)) ∧ Hid (Below wr.heap.size wr wv)) (fun _ i _ => bs.length - (intOf i).toNat)
              case atStart => exact ⟨0, Nat.zero_le _, rfl, by simp [linesT], Below.refl _ _⟩
              case round =>
                obtain ⟨k, hk, rfl, rfl, HR⟩ := hrel
                have q3 := cell_later HR.out q3
                have q4 := cell_later HR.out q4
                have HBW := hide (belowAl HBW.out HR.out)
                have HSM : Hid (Small (markL bs)) := fun v hv => by
                  obtain ⟨p, hp, rfl⟩ := List.mem_map.1 hv
                  exact ⟨by simp, fun n hn => by simp at hn; subst hn; exact HBB.out n hp⟩
                have hll : (markL bs).length = bs.length := by simp [markL]
                have hz : (bsT (T2 ++ linesT (sortB 3) (markL bs) k)).size ≤ 28000 := by rw [bsT_size, List.length_append]; have := linesT_len (s := sortB 3) (L := markL bs) (sort_size _) HSM.out k (by omega); omega
                by_cases hlt : k < bs.length
                · obtain ⟨b, off, rfl, hic⟩ := (HBS.out.later HBW.out) (by omega)
                  have hki : (k : Int) < (bs.length : Int) := by omega
                  have hLk : k < (markL bs).length := by omega
                  have x0 := hic k hlt
                  have hxb := HBB.out bs[k] (List.getElem_mem hlt)
                  have HTS := hide (linesT_succ (s := sortB 3) hLk)
                  rw [show (markL bs)[k] = [bs[k]] by simp [markL]] at HTS
                  clear hic
                  generalize bs[k] = x at *
                  have s1 := itoaB_size (n := x) hxb.1 hxb.2
                  have z5 : (ByteArray.mk #[98, 97, 100, 32]).size = 4 := rfl
                  have s2 : ((⟨#[98, 97, 100, 32]⟩ : ByteArray) ++ itoaB x).size ≤ 30 := by rw [ByteArray.size_append]; omega
                  have s3 : ((⟨#[98, 97, 100, 32]⟩ : ByteArray) ++ itoaB x ++ ⟨#[10]⟩).size ≤ 31 := by rw [ByteArray.size_append]; omega
                  have HWQ : Hid (bsT (T2 ++ linesT (sortB 3) (markL bs) k) ++ ((⟨#[98, 97, 100, 32]⟩ : ByteArray) ++ itoaB x ++ ⟨#[10]⟩) = bsT (T2 ++ linesT (sortB 3) (markL bs) (k + 1))) := by rw [HTS.out, ← List.append_assoc]; exact bad_bs _ x
                  generalize bsT (T2 ++ linesT (sortB 3) (markL bs) k) = S at *
                  go_wp2_with fail
                  refine (digits_any x (by omega) (by omega) _).mono ?_
                  rintro e wN ⟨rfl, hbN⟩
                  have HR5 := hide (belowAl HR.out hbN)
                  clear hbN
                  go_wp2_with fail
                  go_roundw
                  case rel => exact ⟨k + 1, by omega, by go_num, by rw [HWQ.out], HR5⟩
                  case measure => simp [intOf]; omega
                · obtain rfl : k = bs.length := by omega
                  have hki : ¬ (bs.length : Int) < (bs.length : Int) := by omega
                  clear HR HSM hll
                  rw [bsT_size] at hz
                  generalize hT3 : T2 ++ linesT (sortB 3) (markL bs) bs.length = T3 at *
                  go_wp2_with fail
                  go_loopw [3, 11] (fun s i wv => ∃ k : Nat, k ≤ hs.length ∧ i = .int .i64 k ∧ s = .string (bsT (T3 ++ linesT (sortB 4) (markL hs) k)) ∧ Hid (Below wr.heap.size wr wv)) (fun _ i _ => hs.length - (intOf i).toNat)
                  case atStart => exact ⟨0, Nat.zero_le _, rfl, by simp [linesT], Below.refl _ _⟩
                  case round =>
                    obtain ⟨k, hk, rfl, rfl, HR⟩ := hrel
                    have q4 := cell_later HR.out q4
                    have HBW := hide (belowAl HBW.out HR.out)
                    have HSM : Hid (Small (markL hs)) := fun v hv => by
                      obtain ⟨p, hp, rfl⟩ := List.mem_map.1 hv
                      exact ⟨by simp, fun n hn => by simp at hn; subst hn; exact HBH.out n hp⟩
                    have hll : (markL hs).length = hs.length := by simp [markL]
                    have hz : (bsT (T3 ++ linesT (sortB 4) (markL hs) k)).size ≤ 32000 := by rw [bsT_size, List.length_append]; have := linesT_len (s := sortB 4) (L := markL hs) (sort_size _) HSM.out k (by omega); omega
                    by_cases hlt : k < hs.length
                    · obtain ⟨b, off, rfl, hic⟩ := (HHS.out.later HBW.out) (by omega)
                      have hki : (k : Int) < (hs.length : Int) := by omega
                      have hLk : k < (markL hs).length := by omega
                      have x0 := hic k hlt
                      have hxb := HBH.out hs[k] (List.getElem_mem hlt)
                      have HTS := hide (linesT_succ (s := sortB 4) hLk)
                      rw [show (markL hs)[k] = [hs[k]] by simp [markL]] at HTS
                      clear hic
                      generalize hs[k] = x at *
                      have s1 := itoaB_size (n := x) hxb.1 hxb.2
                      have z5 : (ByteArray.mk #[104, 111, 108, 100, 32]).size = 5 := rfl
                      have s2 : ((⟨#[104, 111, 108, 100, 32]⟩ : ByteArray) ++ itoaB x).size ≤ 30 := by rw [ByteArray.size_append]; omega
                      have s3 : ((⟨#[104, 111, 108, 100, 32]⟩ : ByteArray) ++ itoaB x ++ ⟨#[10]⟩).size ≤ 31 := by rw [ByteArray.size_append]; omega
                      have HWQ : Hid (bsT (T3 ++ linesT (sortB 4) (markL hs) k) ++ ((⟨#[104, 111, 108, 100, 32]⟩ : ByteArray) ++ itoaB x ++ ⟨#[10]⟩) = bsT (T3 ++ linesT (sortB 4) (markL hs) (k + 1))) := by rw [HTS.out, ← List.append_assoc]; exact hold_bs _ x
                      generalize bsT (T3 ++ linesT (sortB 4) (markL hs) k) = S at *
                      go_wp2_with fail
                      refine (digits_any x (by omega) (by omega) _).mono ?_
                      rintro e wN ⟨rfl, hbN⟩
                      have HR5 := hide (belowAl HR.out hbN)
                      clear hbN
                      go_wp2_with fail
                      go_roundw
                      case rel => exact ⟨k + 1, by omega, by go_num, by rw [HWQ.out], HR5⟩
                      case measure => simp [intOf]; omega
                    · obtain rfl : k = hs.length := by omega
                      have hki : ¬ (hs.length : Int) < (hs.length : Int) := by omega
                      clear HR HSM hll
                      go_wp2_with fail
                      go_ret
                      exact ⟨by rw [HMT.out]; rfl, HBW.out⟩
end Go.Proofs.YtabnimgpednhjaaGreatDoor
