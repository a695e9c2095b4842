/- All states are gone through: the walk. -/
import Derived.Test.YtfobcnhibhbbaaaGreatDoorYs
namespace Go.Proofs.YtfobcnhibhbbaaaGreatDoor.Ev.Xp
open Go.RowKit Go.Maps Go.WideMaps Go.WideShapes Go.Shelf
set_option maxRecDepth 100000
attribute [local go_sem] Oper.semAt_some

/-- What was met of those that it begins with. -/
def ini0 (l : List Sg) : List (Sg × Nat) := l.foldl (fun m s => meetE m s 0) []
theorem ini0_snoc (l : List Sg) (s : Sg) : ini0 (l ++ [s]) = meetE (ini0 l) s 0 := by simp [ini0, List.foldl_append]
theorem ini0_more {ini : List Sg} {mv : Sg → List (Bool × Bool × Sg)} (l : List Sg) : ∀ (done : List Sg) (m : List (Sg × Nat)), J0 ini mv done m → (∀ s ∈ l, s ∈ ini) → J0 ini mv (done ++ l) (l.foldl (fun m s => meetE m s 0) m) := by
  induction l with
  | nil => intro done m h _; simpa using h
  | cons s l ih =>
    intro done m h hl
    have := ih (done ++ [s]) (meetE m s 0) (h.more (hl s List.mem_cons_self)) fun t ht => hl t (List.mem_cons_of_mem _ ht)
    simpa using this
theorem ini0_jb (ini : List Sg) (mv : Sg → List (Bool × Bool × Sg)) : Jb ini mv (ini0 ini) 0 := by
  have := ini0_more (mv := mv) ini [] [] (J0.zero ini mv) fun _ h => h
  rw [List.nil_append] at this
  exact this.done
theorem ini0_len (l : List Sg) : (ini0 l).length ≤ l.length := by
  have : ∀ (l : List Sg) (m : List (Sg × Nat)), (l.foldl (fun m s => meetE m s 0) m).length ≤ m.length + l.length := by
    intro l
    induction l with
    | nil => intro m; exact Nat.le_refl _
    | cons s l ih =>
      intro m
      have h1 := ih (meetE m s 0)
      have h2 := meet_len m s 0
      rw [List.foldl_cons, List.length_cons]
      omega
  unfold ini0
  simpa using this l []
/-- What is so while those are met that it begins with. -/
def BgOut (w : World) (X : Nat → Prop) (B S : Nat) (v0 v1 v2 v3 v4 : Value) (n : Nat) (l : List Sg) (w' : World) : Prop :=
  ∃ X' va' rows', Ex w' X' B S l.length v0 v1 v2 v3 v4 va' n (ini0 l) rows' (foundE (ini0 l) none) ∧ Fz X w w' X' ∧ rows'.map Rw.ns = (ini0 l).map (·.1) ∧ ∀ r ∈ rows', r.ns.length ≤ r.cap ∧ r.cap ≤ maxLen
theorem BgOut.own {w : World} {X : Nat → Prop} {B S : Nat} {v0 v1 v2 v3 v4 : Value} {n : Nat} {L : Nat → List Sg} (hS : S < w.heap.size) : OwnFrom w.heap.size (fun j W => BgOut w X B S v0 v1 v2 v3 v4 n (L j) W) := fun j U V row hI hg hr => by
  obtain ⟨X1, va1, rows1, h1, h2, h3⟩ := hI
  exact ⟨X1, va1, rows1, h1.grown hg hr hS, h2.grown hg fun r e => (hr r e).1, h3⟩
theorem Ex.new {w : World} {v0 v1 v2 v3 v4 : Value} {n : Nat} (hn : n ≤ 10) {o : Obj} :
    Ex (((w.alloc o).alloc (.map #[] 0)).alloc (.cells #[v0, v1, v2, v3, v4, .map (some (w.heap.size + 1)), .slice none 0 0, .int .i64 0, .int .i64 0, .bool false, .int .i64 0] 51)) (fun g => g = w.heap.size + 1 ∨ g = w.heap.size + 1 + 1) (w.heap.size + 1 + 1) (w.heap.size + 1) 0 v0 v1 v2 v3 v4 (.slice none 0 0) n [] [] (foundE [] none) := by
  have e1 : ((w.alloc o).alloc (.map #[] 0)).heap.size = w.heap.size + 1 + 1 := by simp
  have e0 : (w.alloc o).heap.size = w.heap.size + 1 := by simp
  refine ⟨?_, ⟨.map [], ?_, mtIs_zero n⟩, .inl ⟨rfl, rfl⟩, fun r hr => by simp at hr, fun x hx => by simp at hx, hn, .inr rfl, .inl rfl, fun g hg => ?_⟩
  · have := (MapKept.heap_alloc ((w.alloc o).alloc (.map #[] 0)) (.cells #[v0, v1, v2, v3, v4, .map (some (w.heap.size + 1)), .slice none 0 0, .int .i64 0, .int .i64 0, .bool false, .int .i64 0] 51)).1
    rw [e1] at this
    exact this
  · have h := World.ownsMap_made (H := Unit) (w.alloc o) Tryz.prog 59 (plainElem Tryz.prog 3)
    rw [e0] at h
    exact map_same h ((bal (Below.refl _ ((w.alloc o).alloc (.map #[] 0))) _).block _ (by rw [e1]; omega))
  · simp; omega
theorem sel_few {ns : List Nd} (hW : Wok ns) (kind : Int) : ((sel (isK ns kind) ns.length).length : Int) ≤ sumW ns (sel (isK ns kind) ns.length) := by
  have : ∀ S : List Int, (∀ x ∈ S, 0 ≤ x ∧ x < ns.length) → (S.length : Int) ≤ sumW ns S := by
    intro S
    induction S with
    | nil => intro _; exact Int.le_refl _
    | cons a S ih =>
      intro h
      have h1 := ih fun x hx => h x (List.mem_cons_of_mem _ hx)
      obtain ⟨h2, h3⟩ := h a List.mem_cons_self
      have e : sumW ns (a :: S) = wdOf ns a + sumW ns S := by unfold sumW; rw [List.map_cons, List.sum_cons]
      have hk : a.toNat < ns.length := by omega
      have h4 : 1 ≤ wdOf ns a := by
        unfold wdOf
        rw [List.getElem?_eq_getElem hk]
        exact (hW _ hk).1
      rw [e, List.length_cons]
      omega
  refine this _ fun x hx => ?_
  obtain ⟨k, hk, rfl⟩ := List.getElem_of_mem hx
  exact sel_bd hk
/-- What is so while states are left. -/
def ExpI (w : World) (X : Nat → Prop) (B S : Nat) (v0 v1 v2 v3 v4 : Value) (n : Nat) (ini : List Sg) (mv : Sg → List (Bool × Bool × Sg)) (w' : World) : Prop :=
  ∃ X' va rows M q bad, Ex w' X' B S (1024 + 64 * q) v0 v1 v2 v3 v4 va n M rows (foundE M bad) ∧ Jb ini mv M q ∧ Bb mv M q bad ∧ rows.map Rw.ns = (M.map (·.1)).drop q ∧ (∀ r ∈ rows, r.ns.length ≤ r.cap ∧ r.cap ≤ maxLen) ∧ Fz X w w' X'
/-- How many states may still be left. -/
def mea (B : Nat) (w : World) : Nat := 1025 + ((w.cell? ⟨B, 6, none⟩).elim 0 lenOf : Nat) - ((w.cell? ⟨B, 7, none⟩).elim 0 intOf : Int).toNat
theorem mea_is {w : World} {X : Nat → Prop} {B S nM : Nat} {v0 v1 v2 v3 v4 va : Value} {n : Nat} {m : List (Sg × Nat)} {rows : List Rw} {bad : Option Nat} (h : Ex w X B S nM v0 v1 v2 v3 v4 va n m rows (foundE m bad)) : mea B w = 1025 + rows.length - m.length := by
  have c6 : w.cell? ⟨B, 6, none⟩ = some va := by rw [Lib.cell_of_heap h.bd]; rfl
  have c7 : w.cell? ⟨B, 7, none⟩ = some (.int .i64 (m.length : Nat)) := by rw [Lib.cell_of_heap h.bd]; rfl
  have hl : lenOf va = rows.length := by
    rcases h.ah with ⟨rfl, rfl⟩ | ⟨g, off, cap, cur, rfl, _⟩ <;> rfl
  unfold mea
  rw [c6, c7]
  simp [hl, intOf]
theorem Ex.pop {w : World} {X : Nat → Prop} {B S nM : Nat} {v0 v1 v2 v3 v4 va va' : Value} {n : Nat} {m : List (Sg × Nat)} {r : Rw} {rows : List Rw} {f : Fd} (h : Ex w X B S nM v0 v1 v2 v3 v4 va n m (r :: rows) f) (ha : AhAt X w va' rows) :
    Ex (w.setCell ⟨B, 6, none⟩ va') X B S nM v0 v1 v2 v3 v4 va' n m rows f := by
  have hs' : ∀ g, g ≠ B → (w.setCell ⟨B, 6, none⟩ va').heap[g]? = w.heap[g]? := fun g hg => Below.heap_setCell _ _ _ _ hg
  refine ⟨?_, ?_, ha.same (fun _ e => e) (fun g hg => hs' g fun e => ?_), fun r' hr => ?_, h.ft, h.n10, h.xe, h.xs, fun g hg => by simpa using h.xb g hg⟩
  · rw [heap_setCell_same _ _ _ _ _ _ h.bd]; rfl
  · obtain ⟨D, h1, h2⟩ := h.mt
    exact ⟨D, map_same h1 (hs' S h.ne), h2⟩
  · obtain ⟨_, cur, h2⟩ := ah_block ha hg
    rw [e, h.bd] at h2
    simp at h2
  · have hr' := h.rin r' (List.mem_cons_of_mem _ hr)
    exact ⟨ints_same hr'.1 fun a h0 e => hs' a.block fun e2 => hr'.2 a h0 e (e2 ▸ h.xe), hr'.2⟩
theorem sets11 {w : World} {b : Nat} {c0 c1 c2 c3 c4 c5 c6 c7 c8 c9 c10 : Value} {T : TypeId} (h : w.heap[b]? = some (.cells #[c0, c1, c2, c3, c4, c5, c6, c7, c8, c9, c10] T (0, 0))) (v0 v1 v2 v3 v4 v5 v6 v7 v8 v9 v10 : Value) :
    (((((((((((w.setCell ⟨b, 0, none⟩ v0).setCell ⟨b, 1, none⟩ v1).setCell ⟨b, 2, none⟩ v2).setCell ⟨b, 3, none⟩ v3).setCell ⟨b, 4, none⟩ v4).setCell ⟨b, 5, none⟩ v5).setCell ⟨b, 6, none⟩ v6).setCell ⟨b, 7, none⟩ v7).setCell ⟨b, 8, none⟩ v8).setCell ⟨b, 9, none⟩ v9).setCell ⟨b, 10, none⟩ v10).heap[b]? = some (.cells #[v0, v1, v2, v3, v4, v5, v6, v7, v8, v9, v10] T (0, 0)) ∧ (∀ g, g ≠ b → (((((((((((w.setCell ⟨b, 0, none⟩ v0).setCell ⟨b, 1, none⟩ v1).setCell ⟨b, 2, none⟩ v2).setCell ⟨b, 3, none⟩ v3).setCell ⟨b, 4, none⟩ v4).setCell ⟨b, 5, none⟩ v5).setCell ⟨b, 6, none⟩ v6).setCell ⟨b, 7, none⟩ v7).setCell ⟨b, 8, none⟩ v8).setCell ⟨b, 9, none⟩ v9).setCell ⟨b, 10, none⟩ v10).heap[g]? = w.heap[g]?) ∧ Below b w (((((((((((w.setCell ⟨b, 0, none⟩ v0).setCell ⟨b, 1, none⟩ v1).setCell ⟨b, 2, none⟩ v2).setCell ⟨b, 3, none⟩ v3).setCell ⟨b, 4, none⟩ v4).setCell ⟨b, 5, none⟩ v5).setCell ⟨b, 6, none⟩ v6).setCell ⟨b, 7, none⟩ v7).setCell ⟨b, 8, none⟩ v8).setCell ⟨b, 9, none⟩ v9).setCell ⟨b, 10, none⟩ v10) := by
  refine ⟨?_, fun g hg => ?_, ?_⟩
  · have h0 := heap_setCell_same _ b 0 _ _ v0 h
    simp only [List.setIfInBounds_toArray, List.set_cons_zero] at h0
    have h1 := heap_setCell_same _ b 1 _ _ v1 h0
    simp only [List.setIfInBounds_toArray, List.set_cons_zero, List.set_cons_succ] at h1
    have h2 := heap_setCell_same _ b 2 _ _ v2 h1
    simp only [List.setIfInBounds_toArray, List.set_cons_zero, List.set_cons_succ] at h2
    have h3 := heap_setCell_same _ b 3 _ _ v3 h2
    simp only [List.setIfInBounds_toArray, List.set_cons_zero, List.set_cons_succ] at h3
    have h4 := heap_setCell_same _ b 4 _ _ v4 h3
    simp only [List.setIfInBounds_toArray, List.set_cons_zero, List.set_cons_succ] at h4
    have h5 := heap_setCell_same _ b 5 _ _ v5 h4
    simp only [List.setIfInBounds_toArray, List.set_cons_zero, List.set_cons_succ] at h5
    have h6 := heap_setCell_same _ b 6 _ _ v6 h5
    simp only [List.setIfInBounds_toArray, List.set_cons_zero, List.set_cons_succ] at h6
    have h7 := heap_setCell_same _ b 7 _ _ v7 h6
    simp only [List.setIfInBounds_toArray, List.set_cons_zero, List.set_cons_succ] at h7
    have h8 := heap_setCell_same _ b 8 _ _ v8 h7
    simp only [List.setIfInBounds_toArray, List.set_cons_zero, List.set_cons_succ] at h8
    have h9 := heap_setCell_same _ b 9 _ _ v9 h8
    simp only [List.setIfInBounds_toArray, List.set_cons_zero, List.set_cons_succ] at h9
    have h10 := heap_setCell_same _ b 10 _ _ v10 h9
    simp only [List.setIfInBounds_toArray, List.set_cons_zero, List.set_cons_succ] at h10
    exact h10
  · exact (Below.heap_setCell _ _ _ _ hg).trans ((Below.heap_setCell _ _ _ _ hg).trans ((Below.heap_setCell _ _ _ _ hg).trans ((Below.heap_setCell _ _ _ _ hg).trans ((Below.heap_setCell _ _ _ _ hg).trans ((Below.heap_setCell _ _ _ _ hg).trans ((Below.heap_setCell _ _ _ _ hg).trans ((Below.heap_setCell _ _ _ _ hg).trans ((Below.heap_setCell _ _ _ _ hg).trans ((Below.heap_setCell _ _ _ _ hg).trans (Below.heap_setCell _ _ _ _ hg))))))))))
  · exact ((((((((((((Below.refl b w).setCell (p := ⟨b, 0, none⟩) (Nat.le_refl _) _).setCell (p := ⟨b, 1, none⟩) (Nat.le_refl _) _).setCell (p := ⟨b, 2, none⟩) (Nat.le_refl _) _).setCell (p := ⟨b, 3, none⟩) (Nat.le_refl _) _).setCell (p := ⟨b, 4, none⟩) (Nat.le_refl _) _).setCell (p := ⟨b, 5, none⟩) (Nat.le_refl _) _).setCell (p := ⟨b, 6, none⟩) (Nat.le_refl _) _).setCell (p := ⟨b, 7, none⟩) (Nat.le_refl _) _).setCell (p := ⟨b, 8, none⟩) (Nat.le_refl _) _).setCell (p := ⟨b, 9, none⟩) (Nat.le_refl _) _).setCell (p := ⟨b, 10, none⟩) (Nat.le_refl _) _)

/-- What explored answers. -/
def ExpOut (w : World) (v0 v1 v2 v3 v4 : Value) (n : Nat) (ini : List Sg) (mv : Sg → List (Bool × Bool × Sg)) (e : Ending) (w' : World) : Prop :=
  ∃ S va M bad, e = .returned (.agg #[v0, v1, v2, v3, v4, .map (some S), va, .int .i64 (foundE M bad).r, .int .i64 (foundE M bad).dp, .bool (foundE M bad).bad, .int .i64 (foundE M bad).bdd]) ∧ (∃ (nM : Nat) (D : DataW Unit), w'.ownsMap Tryz.prog 59 (plainElem Tryz.prog 3) S nM D ∧ MtIs n M D) ∧ Jb ini mv M M.length ∧ Bb mv M M.length bad ∧ Below w.heap.size w w'
set_option maxHeartbeats 4000000 in
theorem explored_any (a0 a1 a2 a3 a4 : Option Addr) (c0 c1 c2 c3 c4 : Nat) (ns : List Nd) (is xs : List (Int × Int)) (bs hs : List Int) (hck : checkE ns is xs bs hs = 0) (hli : is.length ≤ 8796093022208) (hlx : xs.length ≤ 8796093022208)
    (w : World) (hMd : MdAt ⟨a0, c0, a1, is.length, c1, a2, xs.length, c2, a3, bs.length, c3, a4, hs.length, c4⟩ ns is xs bs hs w) :
    Calls Tryz.prog 15 #[Mv.val ⟨a0, c0, a1, is.length, c1, a2, xs.length, c2, a3, bs.length, c3, a4, hs.length, c4⟩ ns.length] w (ExpOut w (.slice a0 ns.length c0) (.slice a1 is.length c1) (.slice a2 xs.length c2) (.slice a3 bs.length c3) (.slice a4 hs.length c4) (sel (isK ns 3) ns.length).length (iniL ns is) (mvL ns xs bs hs)) := by
  have hmm := @run_makeMap Tryz.prog
  have hW := (nodes_ok (check_zero hck).2.1).1
  have hl80 := (check_zero hck).1.1
  have HBT := hide (check_bits hck)
  have hn10 : (sel (isK ns 3) ns.length).length ≤ 10 := by
    have h1 := HBT.out.2.1
    have h2 := sel_few hW 3
    omega
  have HEX := hide (Ex.new (w := w.alloc (.cells (Mv.cells ⟨a0, c0, a1, is.length, c1, a2, xs.length, c2, a3, bs.length, c3, a4, hs.length, c4⟩ ns.length) 26)) (v0 := .slice a0 ns.length c0) (v1 := .slice a1 is.length c1) (v2 := .slice a2 xs.length c2) (v3 := .slice a3 bs.length c3) (v4 := .slice a4 hs.length c4) hn10 (o := .cells #[.slice none 0 0, .slice none 0 0, .slice none 0 0, .slice none 0 0, .slice none 0 0, .map none, .slice none 0 0, .int .i64 0, .int .i64 0, .bool false, .int .i64 0] 51))
  rw [show (w.alloc (.cells (Mv.cells ⟨a0, c0, a1, is.length, c1, a2, xs.length, c2, a3, bs.length, c3, a4, hs.length, c4⟩ ns.length) 26)).heap.size = w.heap.size + 1 from by simp] at HEX
  have HBX : Hid (Box ((((w.alloc (.cells (Mv.cells ⟨a0, c0, a1, is.length, c1, a2, xs.length, c2, a3, bs.length, c3, a4, hs.length, c4⟩ ns.length) 26)).alloc (.cells #[.slice none 0 0, .slice none 0 0, .slice none 0 0, .slice none 0 0, .slice none 0 0, .map none, .slice none 0 0, .int .i64 0, .int .i64 0, .bool false, .int .i64 0] 51)).alloc (.map #[] 0)).alloc (.cells #[.slice a0 ns.length c0, .slice a1 is.length c1, .slice a2 xs.length c2, .slice a3 bs.length c3, .slice a4 hs.length c4, .map (some (w.heap.size + 1 + 1)), .slice none 0 0, .int .i64 0, .int .i64 0, .bool false, .int .i64 0] 51)) w.heap.size ⟨a0, c0, a1, is.length, c1, a2, xs.length, c2, a3, bs.length, c3, a4, hs.length, c4⟩ ns.length) := (Box.new w ⟨a0, c0, a1, is.length, c1, a2, xs.length, c2, a3, bs.length, c3, a4, hs.length, c4⟩ ns.length).later (bal (bal (bal (Below.refl _ _) _) _) _)
  have HRB : Hid (((((w.alloc (.cells (Mv.cells ⟨a0, c0, a1, is.length, c1, a2, xs.length, c2, a3, bs.length, c3, a4, hs.length, c4⟩ ns.length) 26)).alloc (.cells #[.slice none 0 0, .slice none 0 0, .slice none 0 0, .slice none 0 0, .slice none 0 0, .map none, .slice none 0 0, .int .i64 0, .int .i64 0, .bool false, .int .i64 0] 51)).alloc (.map #[] 0)).alloc (.cells #[.slice a0 ns.length c0, .slice a1 is.length c1, .slice a2 xs.length c2, .slice a3 bs.length c3, .slice a4 hs.length c4, .map (some (w.heap.size + 1 + 1)), .slice none 0 0, .int .i64 0, .int .i64 0, .bool false, .int .i64 0] 51)).heap[w.heap.size + 1]? = some (.cells #[.slice none 0 0, .slice none 0 0, .slice none 0 0, .slice none 0 0, .slice none 0 0, .map none, .slice none 0 0, .int .i64 0, .int .i64 0, .bool false, .int .i64 0] 51)) := by
    have h1 := (MapKept.heap_alloc (w.alloc (.cells (Mv.cells ⟨a0, c0, a1, is.length, c1, a2, xs.length, c2, a3, bs.length, c3, a4, hs.length, c4⟩ ns.length) 26)) (.cells #[.slice none 0 0, .slice none 0 0, .slice none 0 0, .slice none 0 0, .slice none 0 0, .map none, .slice none 0 0, .int .i64 0, .int .i64 0, .bool false, .int .i64 0] 51)).1
    rw [show (w.alloc (.cells (Mv.cells ⟨a0, c0, a1, is.length, c1, a2, xs.length, c2, a3, bs.length, c3, a4, hs.length, c4⟩ ns.length) 26)).heap.size = w.heap.size + 1 from by simp] at h1
    exact ((bal (bal (Below.refl _ _) _) _).block _ (by simp)).trans h1
  have HB1 : Hid (Below w.heap.size w ((((w.alloc (.cells (Mv.cells ⟨a0, c0, a1, is.length, c1, a2, xs.length, c2, a3, bs.length, c3, a4, hs.length, c4⟩ ns.length) 26)).alloc (.cells #[.slice none 0 0, .slice none 0 0, .slice none 0 0, .slice none 0 0, .slice none 0 0, .map none, .slice none 0 0, .int .i64 0, .int .i64 0, .bool false, .int .i64 0] 51)).alloc (.map #[] 0)).alloc (.cells #[.slice a0 ns.length c0, .slice a1 is.length c1, .slice a2 xs.length c2, .slice a3 bs.length c3, .slice a4 hs.length c4, .map (some (w.heap.size + 1 + 1)), .slice none 0 0, .int .i64 0, .int .i64 0, .bool false, .int .i64 0] 51))) := bal (bal (bal (bal (Below.refl _ _) _) _) _) _
  have HMD := hide hMd
  have HCK := hide hck
  clear hMd hck
  refine (callsIn_wide (n := 3)).1 (callsIn_of_wp_marks Tryz.func15 rfl trivial ?_ rfl)
  simp only [Tryz.ntmps15, List.size_toArray, List.length_cons, List.length_nil, Nat.reduceAdd, Nat.reduceSub, Array.replicate_succ, Array.replicate_zero, List.push_toArray, List.append_toArray, List.nil_append, List.cons_append]
  refine wpIn_wide.2 ?_
  go_upto_region 2 with fail
  clear hmm
  generalize (((w.alloc (.cells (Mv.cells ⟨a0, c0, a1, is.length, c1, a2, xs.length, c2, a3, bs.length, c3, a4, hs.length, c4⟩ ns.length) 26)).alloc (.cells #[.slice none 0 0, .slice none 0 0, .slice none 0 0, .slice none 0 0, .slice none 0 0, .map none, .slice none 0 0, .int .i64 0, .int .i64 0, .bool false, .int .i64 0] 51)).alloc (.map #[] 0)).alloc (.cells #[.slice a0 ns.length c0, .slice a1 is.length c1, .slice a2 xs.length c2, .slice a3 bs.length c3, .slice a4 hs.length c4, .map (some (w.heap.size + 1 + 1)), .slice none 0 0, .int .i64 0, .int .i64 0, .bool false, .int .i64 0] 51) = w1 at *
  have HEN := hide (Env.of_new (X := fun g => g = w.heap.size + 1 + 1 ∨ g = w.heap.size + 1 + 1 + 1) HMD.out HB1.out (fun g hg => by omega))
  obtain ⟨q0, q1, q2, q3, q4⟩ := HBX.out
  have HAW := hide (allWords_any ⟨a0, c0, a1, is.length, c1, a2, xs.length, c2, a3, bs.length, c3, a4, hs.length, c4⟩ ns hl80 3 w1 HEN.out.now.nd)
  go_wp2_with fail
  refine HAW.out.mono ?_
  rintro e w3 ⟨f2, f3, f5, rfl, hA, hb3⟩
  have HA3 := hide hA
  have HB3 := hide hb3
  clear hA hb3 HAW
  go_wp2_with fail
  have HX4 := hide (HEX.out.later HB3.out)
  have HE4 := hide (HEN.out.go (Fz.quiet HB3.out))
  have HBX4 := hide (HBX.out.later HB3.out)
  have HRB4 := hide ((HB3.out.block _ (Array.getElem?_eq_some_iff.1 HRB.out).1).trans HRB.out)
  have HXB := hide HEX.out.xb
  have HSEQ := hide (words_seq ⟨a0, c0, a1, is.length, c1, a2, xs.length, c2, a3, bs.length, c3, a4, hs.length, c4⟩ ns hl80 hW 3 2 f2 f3 f5 w3 (fun g => g = w.heap.size + 1 + 1 ∨ g = w.heap.size + 1 + 1 + 1) (fun W hk' => ⟨HA3.out W fun g h1 h2 => hk'.far g h2 fun e => (by have := HXB.out g e; omega), (HE4.out W hk').nd⟩) (cntK ns 3) (cnt_two hW 3) ⟨(allL_sum ns hW _).1, HBT.out.2.1⟩ HBT.out.2.2.2)
  have HSS : Hid (w.heap.size + 1 + 1 < w3.heap.size) := Nat.lt_of_lt_of_le (HXB.out _ HEX.out.xs) HB3.out.size
  clear q0 q1 q2 q3 q4 HBX HRB HA3
  refine (wpIn_wide (n := 3)).1 ?_
  refine wp_rangeM (F := Fence.wide) (n := 3) rfl (by decide) (gf := 61) (lb := #[.pointer (some ⟨f2, 0, none⟩), .pointer (some ⟨f3, 0, none⟩), .pointer (some ⟨f5, 0, none⟩)]) rfl trivial (enters_of Tryz.func61 (by kernel_rfl) rfl) (M := Mq w3.heap.size) (Kp := Kq w3.heap.size (fun g => g = w.heap.size + 1 + 1 ∨ g = w.heap.size + 1 + 1 + 1)) (N := cntK ns 3) (vals := fun k => wordsL ((sel (isK ns 3) ns.length).map (wdOf ns)) k) (w0 := w3) HSEQ.out (fun h1 h2 => h1.trans h2) (fun W l o o' hl _ _ _ => Kq.put hl) (Below.refl _ _) (fun x W l o o' _ ho hc hm => Mq.put ho hc hm)
    (fun j W => BgOut w3 (fun g => g = w.heap.size + 1 + 1 ∨ g = w.heap.size + 1 + 1 + 1) (w.heap.size + 1 + 1 + 1) (w.heap.size + 1 + 1) (.slice a0 ns.length c0) (.slice a1 is.length c1) (.slice a2 xs.length c2) (.slice a3 bs.length c3) (.slice a4 hs.length c4) (sel (isK ns 3) ns.length).length ((iniL ns is).take j) W) (BgOut.own HSS.out) ⟨_, _, _, HX4.out, Fz.refl _ _, rfl, fun r hr => by simp at hr⟩
    (fun x => { tmps := #[Mv.val ⟨a0, c0, a1, is.length, c1, a2, xs.length, c2, a3, bs.length, c3, a4, hs.length, c4⟩ ns.length, .pointer (some ⟨w.heap.size, 0, none⟩), .pointer (some ⟨w.heap.size + 1, 0, none⟩), .pointer (some ⟨w.heap.size + 1 + 1 + 1, 0, none⟩), x.v, undef, undef, undef, .agg #[.slice a0 ns.length c0, .slice a1 is.length c1, .slice a2 xs.length c2, .slice a3 bs.length c3, .slice a4 hs.length c4], .map (some (w.heap.size + 1 + 1)), .agg #[.slice a0 ns.length c0, .slice a1 is.length c1, .slice a2 xs.length c2, .slice a3 bs.length c3, .slice a4 hs.length c4, .map (some (w.heap.size + 1 + 1)), .slice none 0 0, .int .i64 0, .int .i64 0, .bool false, .int .i64 0], .agg #[.slice a0 ns.length c0, .slice a1 is.length c1, .slice a2 xs.length c2, .slice a3 bs.length c3, .slice a4 hs.length c4], .func (.func 61) #[] #[.pointer (some ⟨f2, 0, none⟩), .pointer (some ⟨f3, 0, none⟩), .pointer (some ⟨f5, 0, none⟩)], x.v, undef, undef, undef, undef, undef, undef, undef, undef, undef, undef, undef, undef, undef, undef, undef, undef, undef, undef, undef, undef, undef, undef, undef], defers := [] }) ?assign ?body ?done
  case assign =>
    intro l x W K hK
    gi_wp2
    exact hK
  case body =>
    rintro l j x W ⟨X1, va1, rows1, hEx, hFz, hrw, hcp⟩ hj hx hM
    have hlj : ((iniL ns is).take j).length = j := by unfold iniL; simp; omega
    rw [hlj] at hEx
    have HEXW := hide hEx.only
    have HFZ := hide (hFz.less (Y' := onlyC X1 (w.heap.size + 1 + 1) W) fun g e => e.1)
    have HMDW := hide (HE4.out.go hFz).now
    have hbx := HBX4.out
    obtain ⟨q0, q1, q2, q3, q4⟩ := hbx
    have hnx : ¬ (w.heap.size = w.heap.size + 1 + 1 ∨ w.heap.size = w.heap.size + 1 + 1 + 1) := by omega
    have p0 := hFz.cell q0 hnx
    have p1 := hFz.cell q1 hnx
    have p2 := hFz.cell q2 hnx
    have p3 := hFz.cell q3 hnx
    have p4 := hFz.cell q4 hnx
    have HRW := hide hrw
    have HCP := hide hcp
    have HMM := hide hM
    have HHX : Hid (x.ns = wrdK ns 3 j) := hx
    have hxl : x.ns.length ≤ maxLen := Nat.le_trans hM.2.2.1 hM.2.2.2
    have HBG := hide (begin_new a0 a1 a2 a3 a4 c0 c1 c2 c3 c4 ns is xs bs hs (by omega) hli hlx (by have := (check_zero HCK.out).1.2.1; unfold maxLen; omega) (by have := (check_zero HCK.out).1.2.2; unfold maxLen; omega) x.ns hxl x.v W HMDW.out.nd HMDW.out.pi HMDW.out.px HMDW.out.ib HMDW.out.ih ⟨x.at', x.cap, rfl, hM.1, hM.2.2.1, hM.2.2.2⟩)
    have HLJ := hide hlj
    have HML : Hid ((ini0 ((iniL ns is).take j)).length ≤ 1024) := by have h1 := ini0_len ((iniL ns is).take j); have h2 := HBT.out.2.2.2; unfold Hid; omega
    have HRL : Hid (rows1.length ≤ 1024) := by have h1 := congrArg List.length hrw; rw [List.length_map, List.length_map] at h1; have h2 := HML.out; unfold Hid; omega
    clear hEx hFz hrw hcp hx q0 q1 q2 q3 q4 hnx hlj hM hxl
    gi_wp2
    refine ⟨trivial, (CallsIn.inRound l (callsIn_wide.2 HBG.out)).mono ?_⟩
    rintro e wG ⟨pG, kG, lG, rfl, hlG, hNL, hbG⟩
    have hlG' : lG = beL ns is j := by
      have hw : wordsE ns 3 x.ns = 0 := by rw [HHX.out]; exact wrd_ok _ _ _
      have hb0 : beginE ns is xs bs hs x.ns = 0 := by unfold beginE; rw [if_neg (by rw [HCK.out]; simp)]; exact hw
      rw [hlG, hb0]
      unfold beginI beL
      rw [if_pos rfl, HHX.out]
    have HEG := hide (HEXW.out.later hbG)
    have HFTT : Hid (Fits (sel (isK ns 3) ns.length).length lG) := by rw [hlG']; exact words_fits hW (be_words HCK.out j)
    have HME := hide (meet_any wG (onlyC X1 (w.heap.size + 1 + 1) W) (w.heap.size + 1 + 1 + 1) (w.heap.size + 1 + 1) j _ _ _ _ _ va1 _ _ rows1 _ HEG.out ⟨pG, lG, kG⟩ HFTT.out hNL.ints (fun a h0 e hy => by have h1 := hNL.fr a e; have h2 := HEXW.out.xb _ hy; omega) 0 (by omega) (by have := HRL.out; omega) (by have := HBT.out.2.2.2; omega) (show 0 ≤ (((ini0 ((iniL ns is).take j)).length : Nat) : Int) ∧ _ from ⟨by omega, by have := HML.out; show (((ini0 ((iniL ns is).take j)).length : Nat) : Int) ≤ _; omega⟩))
    have HNL := hide hNL
    have HBG2 := hide hbG
    have HLG := hide hlG'
    clear HBG hlG hNL hbG p0 p1 p2 p3 p4 hlG'
    gi_wp2
    refine ⟨trivial, (CallsIn.inRound l (callsIn_wide.2 HME.out)).mono ?_⟩
    rintro e W' ⟨rfl, X2, va2, hx2, hfr⟩
    rw [found_meet] at hx2
    have HX2 := hide hx2
    have HFR := hide ((Fz.quiet (X := onlyC X1 (w.heap.size + 1 + 1) W) HBG2.out).trans hfr.fz)
    clear hx2 hfr HME
    gi_wp2
    have htk : (iniL ns is).take (j + 1) = (iniL ns is).take j ++ [lG] := by
      have hjl : j < (iniL ns is).length := by unfold iniL; simpa using hj
      rw [List.take_succ_eq_append_getElem hjl, HLG.out]
      simp [iniL]
    refine ⟨HFR.out.keeps HSS.out, Fz.kq2 HFZ.out HFR.out, X2, va2, (if lG ∈ (ini0 ((iniL ns is).take j)).map (·.1) then rows1 else rows1 ++ [⟨pG, lG, kG⟩]), ?_, HFZ.out.trans HFR.out, ?_, fun r hr => ?_⟩
    · rw [htk, ini0_snoc, List.length_append, HLJ.out]
      exact HX2.out
    · rw [htk, ini0_snoc]
      have := ahead_meet (q := 0) (rows := rows1) (m := ini0 ((iniL ns is).take j)) (by rw [List.drop_zero]; exact HRW.out) (Nat.zero_le _) ⟨pG, lG, kG⟩ 0
      rw [List.drop_zero] at this
      exact this
    · split at hr
      · exact HCP.out r hr
      · rcases List.mem_append.1 hr with hr | hr
        · exact HCP.out r hr
        · obtain rfl : r = ⟨pG, lG, kG⟩ := by simpa using hr
          exact ⟨HNL.out.lc, HNL.out.cm⟩
  case done =>
    intro D W hD hI hK
    rw [List.take_of_length_le (by unfold iniL; simp)] at hI
    have HI := hide hI
    have HKD := hide hK
    clear hI hK
    go_wp2_with fail
    go_loopw [7] (fun u wr => ExpI w3 (fun g => g = w.heap.size + 1 + 1 ∨ g = w.heap.size + 1 + 1 + 1) (w.heap.size + 1 + 1 + 1) (w.heap.size + 1 + 1) (.slice a0 ns.length c0) (.slice a1 is.length c1) (.slice a2 xs.length c2) (.slice a3 bs.length c3) (.slice a4 hs.length c4) (sel (isK ns 3) ns.length).length (iniL ns is) (mvL ns xs bs hs) wr ∧ wr.heap[D]? = some (.deferred (some []))) (fun _ wr => mea (w.heap.size + 1 + 1 + 1) wr)
    case atStart =>
      refine ⟨?_, HKD.out⟩
      obtain ⟨X1, va1, rows1, h1, h2, h3, h4⟩ := HI.out
      exact ⟨X1, va1, rows1, ini0 (iniL ns is), 0, none, h1.mono (by have := HBT.out.2.2.2; unfold iniL; simp; omega), ini0_jb _ _, Bb.zero _ _, by rw [List.drop_zero]; exact h3, h4, h2⟩
    case round =>
      obtain ⟨⟨X1, va1, rows1, M, q, bad, hEx, hJ, hB, hrw, hcp, hFz⟩, hKD⟩ := hrel
      have HEXR := hide hEx.only
      have HFZ := hide (hFz.less (Y' := onlyC X1 (w.heap.size + 1 + 1) wr) fun g e => e.1)
      have HENR := hide ((HE4.out.go hFz).less (X' := onlyC X1 (w.heap.size + 1 + 1) wr) fun g e => e.1)
      have HJ := hide hJ
      have HB := hide hB
      have HRW := hide hrw
      have HCP := hide hcp
      have HKR := hide hKD
      have HMF := hide (met_few HCK.out hJ)
      clear hFz hrw hcp hJ hB hKD
      cases rows1 with
      | nil =>
        obtain ⟨pa, ca, rfl⟩ : ∃ pa ca, va1 = .slice pa 0 ca := by
          rcases HEXR.out.ah with ⟨rfl, _⟩ | ⟨g, off, cap, cur, rfl, _⟩
          · exact ⟨_, _, rfl⟩
          · exact ⟨_, _, rfl⟩
        have hq : q = M.length := by
          have h1 := congrArg List.length HRW.out
          simp at h1
          have := HJ.out.ql
          omega
        have hcB : ∀ i, wr.cell? ⟨w.heap.size + 1 + 1 + 1, i, none⟩ = _ := fun i => Lib.cell_of_heap hEx.bd i
        have b0 := hcB 0
        have b1 := hcB 1
        have b2 := hcB 2
        have b3 := hcB 3
        have b4 := hcB 4
        have b5 := hcB 5
        have b6 := hcB 6
        have b7 := hcB 7
        have b8 := hcB 8
        have b9 := hcB 9
        have b10 := hcB 10
        have hrB := (HFZ.out.far (w.heap.size + 1) (Array.getElem?_eq_some_iff.1 HRB4.out).1 (by omega)).trans HRB4.out
        have hcR : ∀ i, wr.cell? ⟨w.heap.size + 1, i, none⟩ = _ := fun i => Lib.cell_of_heap hrB i
        have hfR : ∀ i, wr.frozen? ⟨w.heap.size + 1, i, none⟩ = false := fun i => Lib.frozen_of_heap hrB i
        have r0 := hcR 0
        have r1 := hcR 1
        have r2 := hcR 2
        have r3 := hcR 3
        have r4 := hcR 4
        have r5 := hcR 5
        have r6 := hcR 6
        have r7 := hcR 7
        have r8 := hcR 8
        have r9 := hcR 9
        have r10 := hcR 10
        have g0 := hfR 0
        have g1 := hfR 1
        have g2 := hfR 2
        have g3 := hfR 3
        have g4 := hfR 4
        have g5 := hfR 5
        have g6 := hfR 6
        have g7 := hfR 7
        have g8 := hfR 8
        have g9 := hfR 9
        have g10 := hfR 10
        simp only [List.getElem?_toArray, List.getElem?_cons_zero, List.getElem?_cons_succ] at b0 b1 b2 b3 b4 b5 b6 b7 b8 b9 b10 r0 r1 r2 r3 r4 r5 r6 r7 r8 r9 r10
        obtain ⟨s1, s2, s3⟩ := sets11 hrB (.slice a0 ns.length c0) (.slice a1 is.length c1) (.slice a2 xs.length c2) (.slice a3 bs.length c3) (.slice a4 hs.length c4) (.map (some (w.heap.size + 1 + 1))) (.slice pa 0 ca) (.int .i64 (foundE M bad).r) (.int .i64 (foundE M bad).dp) (.bool (foundE M bad).bad) (.int .i64 (foundE M bad).bdd)
        have HS1 := hide s1
        have HS2 := hide s2
        have HS3 := hide s3
        clear hcB hcR hfR hrB hEx s1 s2 s3
        go_wp2_with fail
        generalize (((((((((((wr.setCell ⟨w.heap.size + 1, 0, none⟩ (.slice a0 ns.length c0)).setCell ⟨w.heap.size + 1, 1, none⟩ (.slice a1 is.length c1)).setCell ⟨w.heap.size + 1, 2, none⟩ (.slice a2 xs.length c2)).setCell ⟨w.heap.size + 1, 3, none⟩ (.slice a3 bs.length c3)).setCell ⟨w.heap.size + 1, 4, none⟩ (.slice a4 hs.length c4)).setCell ⟨w.heap.size + 1, 5, none⟩ (.map (some (w.heap.size + 1 + 1)))).setCell ⟨w.heap.size + 1, 6, none⟩ (.slice pa 0 ca)).setCell ⟨w.heap.size + 1, 7, none⟩ (.int .i64 (foundE M bad).r)).setCell ⟨w.heap.size + 1, 8, none⟩ (.int .i64 (foundE M bad).dp)).setCell ⟨w.heap.size + 1, 9, none⟩ (.bool (foundE M bad).bad)).setCell ⟨w.heap.size + 1, 10, none⟩ (.int .i64 (foundE M bad).bdd)) = wS at *
        have hDne : D ≠ w.heap.size + 1 := by have := HSS.out; omega
        have hDS := (HS2.out D hDne).trans HKR.out
        refine ⟨by simp, .inl ⟨_, _, rfl, run_takeDeferred hDS, ?_⟩⟩
        have hP : ∀ g, g ≠ D → (wS.putObj D (.deferred none)).heap[g]? = wS.heap[g]? := fun g hg => World.putObj_heap_other hg
        have hbP := (hP (w.heap.size + 1) (fun e => hDne e.symm)).trans HS1.out
        have hcc : ∀ i, (wS.putObj D (.deferred none)).cell? ⟨w.heap.size + 1, i, none⟩ = _ := fun i => Lib.cell_of_heap hbP i
        have t0 := hcc 0
        have t1 := hcc 1
        have t2 := hcc 2
        have t3 := hcc 3
        have t4 := hcc 4
        have t5 := hcc 5
        have t6 := hcc 6
        have t7 := hcc 7
        have t8 := hcc 8
        have t9 := hcc 9
        have t10 := hcc 10
        simp only [List.getElem?_toArray, List.getElem?_cons_zero, List.getElem?_cons_succ] at t0 t1 t2 t3 t4 t5 t6 t7 t8 t9 t10
        have hout : ExpOut w (.slice a0 ns.length c0) (.slice a1 is.length c1) (.slice a2 xs.length c2) (.slice a3 bs.length c3) (.slice a4 hs.length c4) (sel (isK ns 3) ns.length).length (iniL ns is) (mvL ns xs bs hs) (.returned (.agg #[.slice a0 ns.length c0, .slice a1 is.length c1, .slice a2 xs.length c2, .slice a3 bs.length c3, .slice a4 hs.length c4, .map (some (w.heap.size + 1 + 1)), .slice pa 0 ca, .int .i64 (foundE M bad).r, .int .i64 (foundE M bad).dp, .bool (foundE M bad).bad, .int .i64 (foundE M bad).bdd])) (wS.putObj D (.deferred none)) := by
          obtain ⟨DD, hD1, hD2⟩ := HEXR.out.mt
          refine ⟨_, _, M, bad, rfl, ⟨_, DD, map_same hD1 ((hP _ (by have := HSS.out; omega)).trans (HS2.out _ (by omega))), hD2⟩, ?_, ?_, ?_⟩
          · rw [← hq]; exact HJ.out
          · rw [← hq]; exact HB.out
          · have h1 : Below w.heap.size w3 wr := HFZ.out.below (Nat.le_trans (by omega) (Nat.le_of_lt HSS.out)) (fun g hg => by omega)
            have h2 : Below w.heap.size w wr := (bthen HB1.out HB3.out).trans h1
            have h3 : Below w.heap.size w wS := h2.trans (HS3.out.mono (by omega))
            have hg := grownBy_putObj' wS D (.deferred none)
            exact h3.trans ⟨hg.os, hg.tape, hg.output, hg.size, fun k hk => World.putObj_heap_other (by have := HSS.out; omega)⟩
        refine ⟨_, ?_, hout⟩
        simp [results, Tryz.results15, go_sem, t0, t1, t2, t3, t4, t5, t6, t7, t8, t9, t10]
      | cons r1 rows1 =>
        have c6 : wr.cell? ⟨w.heap.size + 1 + 1 + 1, 6, none⟩ = some va1 := by rw [Lib.cell_of_heap hEx.bd]; rfl
        have fz6 : wr.frozen? ⟨w.heap.size + 1 + 1 + 1, 6, none⟩ = false := Lib.frozen_of_heap hEx.bd 6
        rcases HEXR.out.ah with ⟨_, e0⟩ | ⟨g, off, cap, cur, rfl, hg, hXg, hcl, hcs, hcc⟩
        · cases e0
        have hc0 : wr.cell? ⟨g, off, none⟩ = some r1.v := by
          rw [Lib.cell_of_heap hg]
          exact hcc 0 (by simp)
        obtain ⟨p1, s1, k1⟩ := r1
        have HAH : Hid (∀ off' cap', (off' = off + 1 ∧ cap' = cap - 1) ∨ (off' = off ∧ cap' = 0 ∧ cap = 1) → AhAt (onlyC X1 (w.heap.size + 1 + 1) wr) wr (.slice (some ⟨g, off', none⟩) rows1.length cap') rows1) := fun off' cap' ho => by
          rw [List.length_cons] at hcl
          refine .inr ⟨g, off', cap', cur, rfl, hg, hXg, by omega, by omega, fun i hi => ?_⟩
          rcases ho with ⟨rfl, _⟩ | ⟨_, _, h1⟩
          · have := hcc (i + 1) (by simpa using hi)
            rw [show off + 1 + i = off + (i + 1) by omega, this]
            simp
          · omega
        have HCALL : Hid (∀ va', AhAt (onlyC X1 (w.heap.size + 1 + 1) wr) wr va' rows1 → Calls Tryz.prog 32 #[.pointer (some ⟨w.heap.size + 1 + 1 + 1, 0, none⟩), .slice p1 s1.length k1] (wr.setCell ⟨w.heap.size + 1 + 1 + 1, 6, none⟩ va') fun e w' => e = .returned (.tuple #[]) ∧ Hid ((ExpI w3 (fun g => g = w.heap.size + 1 + 1 ∨ g = w.heap.size + 1 + 1 + 1) (w.heap.size + 1 + 1 + 1) (w.heap.size + 1 + 1) (.slice a0 ns.length c0) (.slice a1 is.length c1) (.slice a2 xs.length c2) (.slice a3 bs.length c3) (.slice a4 hs.length c4) (sel (isK ns 3) ns.length).length (iniL ns is) (mvL ns xs bs hs) w' ∧ w'.heap[D]? = some (.deferred (some []))) ∧ mea (w.heap.size + 1 + 1 + 1) w' < mea (w.heap.size + 1 + 1 + 1) wr)) := fun va' hah => by
          have hrw := HRW.out
          have hqm : q < M.length := by
            have h1 := congrArg List.length hrw
            simp at h1
            omega
          have hMq : M[q]? = some (s1, (M[q]).2) := by
            rw [List.getElem?_eq_getElem hqm]
            have h1 := congrArg (fun l => l[0]?) hrw
            simp only [List.map_cons, List.getElem?_cons_zero, List.getElem?_drop, Nat.add_zero, List.getElem?_map, List.getElem?_eq_getElem hqm, Option.map_some, Option.some.injEq] at h1
            rw [h1]
          have hr1 : rows1.map Rw.ns = (M.map (·.1)).drop (q + 1) := by
            have h1 := congrArg List.tail hrw
            rw [List.map_cons, List.tail_cons, List.tail_drop] at h1
            exact h1
          generalize (M[q]).2 = kk at hMq
          have hmem := List.mem_of_getElem? hMq
          have hds := HJ.out.ds _ hmem
          have hkk := dist_lt (tellsK HCK.out) hds
          have hpop := HEXR.out.pop hah
          have hfp : Fz (onlyC X1 (w.heap.size + 1 + 1) wr) wr (wr.setCell ⟨w.heap.size + 1 + 1 + 1, 6, none⟩ va') (onlyC X1 (w.heap.size + 1 + 1) wr) := (Fr.set (q := ⟨w.heap.size + 1 + 1 + 1, 6, none⟩) HEXR.out.xe va').fz
          have hri := hpop.rin
          have hb1 := HBT.out
          have hmf := HMF.out
          have hin1 := HEXR.out.rin ⟨p1, s1, k1⟩ List.mem_cons_self
          have hlv := leave_any a0 a1 a2 a3 a4 c0 c1 c2 c3 c4 ns is xs bs hs HCK.out hlx _ _ _ _ _ va' (sel (isK ns 3) ns.length).length M rows1 bad (q + 1) hpop (HENR.out.go hfp) ⟨p1, s1, k1⟩ kk (reach_words HCK.out hds.1) hmem (ints_same hin1.1 fun a h0 e => hfp.far a.block (by
            obtain ⟨b, o, e2, hc⟩ := hin1.1 h0
            rw [e] at e2
            injection e2 with e2
            subst e2
            exact World.block_lt_of_cell? _ _ (hc 0 h0)) (hin1.2 a h0 e)) hin1.2 (HCP.out ⟨p1, s1, k1⟩ List.mem_cons_self) rfl (by omega) (by omega) (by omega) (by omega) hr1 (fun r hr => HCP.out r (List.mem_cons_of_mem _ hr))
          refine hlv.mono fun e w' ho => ?_
          obtain ⟨e1, X2, va2, rows2, hx2, hf2, hr2, hc2⟩ := ho
          dsimp only at hx2 hr2
          obtain ⟨hJ2, hB2⟩ := leave_all HJ.out HB.out hMq
          simp only at hJ2 hB2
          have hml : (mvL ns xs bs hs s1).length = cntK ns 2 := by unfold mvL; simp
          refine ⟨e1, ⟨⟨X2, va2, rows2, _, q + 1, _, hx2.mono (by rw [hml]; omega), hJ2, hB2, hr2, hc2, (HFZ.out.trans hfp).trans hf2⟩, ?_⟩, ?_⟩
          · refine ((hf2.far D ?_ ?_).trans (Below.heap_setCell _ _ _ _ ?_)).trans HKR.out
            · simpa using (Array.getElem?_eq_some_iff.1 HKR.out).1
            · rintro ⟨_, h1 | ⟨cs, T, fr, h1⟩⟩
              · have := HSS.out; omega
              · rw [HKR.out] at h1; cases h1
            · intro e2
              have h3 := HEXR.out.bd
              simp only at e2
              rw [← e2, HKR.out] at h3
              cases h3
          · rw [mea_is hx2, mea_is HEXR.out]
            have h1 := congrArg List.length hr2
            have h2 := congrArg List.length hr1
            have h3 := met_few HCK.out hJ2
            have h4 := hJ2.ql
            rw [List.length_map, List.length_drop, List.length_map] at h1 h2
            rw [List.length_cons]
            omega
        simp only [Rw.v] at hc0
        rw [List.length_cons] at hcl
        rw [List.length_cons] at c6
        have hn1 : (1 : Int) ≤ ((rows1.length + 1 : Nat) : Int) := by omega
        have hn0 : (0 : Int) < ((rows1.length + 1 : Nat) : Int) := by omega
        have hn2 : 0 < rows1.length + 1 := by omega
        have hn3 : ((rows1.length + 1 : Nat) : Int) ≤ (cap : Int) := by omega
        clear hEx hcc
        go_wp2_with fail
        · have hcal := HCALL.out _ (HAH.out off 0 (.inr ⟨rfl, rfl, h⟩))
          refine hcal.mono ?_
          rintro e w' ⟨rfl, hN⟩
          clear HCALL HAH hcal hc0 c6 fz6
          go_wp2_with fail
          go_roundw
          case rel => exact hN.out.1
          case measure => exact hN.out.2
        · have hcal := HCALL.out _ (HAH.out (off + 1) (cap - 1) (.inl ⟨rfl, rfl⟩))
          refine hcal.mono ?_
          rintro e w' ⟨rfl, hN⟩
          clear HCALL HAH hcal hc0 c6 fz6
          go_wp2_with fail
          go_roundw
          case rel => exact hN.out.1
          case measure => exact hN.out.2
end Go.Proofs.YtfobcnhibhbbaaaGreatDoor.Ev.Xp
