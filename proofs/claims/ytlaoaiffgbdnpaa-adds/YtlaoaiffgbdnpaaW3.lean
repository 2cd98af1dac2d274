import Derived.Test.YtlaoaiffgbdnpaaW2
import Derived.Deep.OwnRows
import Derived.Deep.RegionHeld3
namespace Go.Proofs.Ytlaoaiffgbdnpaa
open Go.RowKit

theorem info5 : (Try.prog.info? 5).map (fun i => (i.zero, i.size, i.bytes)) = some (some (.int .u8 0), 1, 1) := by kernel_rfl

/-- the bytes xs lie behind the address a -/
def Cells (w : World) (a : Option Addr) (xs : List Nat) : Prop := ∀ i x, xs[i]? = some x → ∃ b off, a = some ⟨b, off, none⟩ ∧ w.cell? ⟨b, off + i, none⟩ = some (.int .u8 (x : Nat))

theorem Cells.pos {w : World} {a : Option Addr} {xs : List Nat} (h : Cells w a xs) (hp : 0 < xs.length) : ∃ b off, a = some ⟨b, off, none⟩ ∧ b < w.heap.size ∧ ∀ i x, xs[i]? = some x → w.cell? ⟨b, off + i, none⟩ = some (.int .u8 (x : Nat)) := by
  obtain ⟨b, off, rfl, hc⟩ := h 0 _ (List.getElem?_eq_getElem hp)
  refine ⟨b, off, rfl, World.block_lt_of_cell? _ _ hc, ?_⟩
  intro i x hx
  obtain ⟨b', off', e, hc'⟩ := h i x hx
  simp only [Option.some.injEq, Addr.mk.injEq, and_true] at e
  obtain ⟨rfl, rfl⟩ := e
  exact hc'

theorem Cells.keep {w w' : World} {a : Option Addr} {xs : List Nat} (h : Cells w a xs) (hb : Below w.heap.size w w') : Cells w' a xs := by
  intro i x hx
  obtain ⟨b, off, rfl, hc⟩ := h i x hx
  exact ⟨b, off, rfl, (hb.cell (p := ⟨b, off + i, none⟩) (World.block_lt_of_cell? _ _ hc)).trans hc⟩

theorem splice_at (cur us : List Value) (off j : Nat) (hu : off + us.length ≤ cur.length) : (splice cur off us)[j]? = if j < off then cur[j]? else if j < off + us.length then us[j - off]? else cur[j]? := by
  simp only [splice, List.getElem?_append, List.length_take, List.getElem?_take, List.getElem?_drop]
  rw [show min off cur.length = off by omega]
  by_cases a : j < off
  · simp [a]
  · by_cases b : j < off + us.length
    · simp [a, b]; omega
    · have b' : ¬ j - off < us.length := by omega
      simp only [a, b, b', if_false]
      congr 1; omega
theorem mulAdd_part (ds ss : List Nat) (c k : Nat) : Gf.mulAdd ((ds.drop k).take 8) ((ss.drop k).take 8) c = ((Gf.mulAdd ds ss c).drop k).take 8 := by
  simp [Gf.mulAdd, List.take_zipWith, List.drop_zipWith]
theorem mulAdd_step (ds ss : List Nat) (c k n : Nat) (cur : List Value) (hcl : cur.length = n) (hl : ds.length = n) (hl2 : ss.length = n) (hlt : k < n)
    (hcur : ∀ i, i < k → i < n → cur[i]? = (bvs (Gf.mulAdd ds ss c))[i]?) :
    (splice cur k (bvs (Gf.mulAdd ((ds.drop k).take 8) ((ss.drop k).take 8) c))).length = n ∧
    ∀ i, i < k + 8 → i < n → (splice cur k (bvs (Gf.mulAdd ((ds.drop k).take 8) ((ss.drop k).take 8) c)))[i]? = (bvs (Gf.mulAdd ds ss c))[i]? := by
  rw [mulAdd_part]
  have hM : (Gf.mulAdd ds ss c).length = n := by rw [Gf.mulAdd_length _ _ _ (by omega), hl]
  have hb : (bvs (((Gf.mulAdd ds ss c).drop k).take 8)).length = min 8 (n - k) := by rw [bvs_length, List.length_take, List.length_drop, hM]
  refine ⟨by rw [length_splice _ _ _ (by omega), hcl], ?_⟩
  intro i hi hin
  rw [splice_at _ _ _ _ (by omega)]
  by_cases h : i < k
  · rw [if_pos h]; exact hcur i h hin
  · rw [if_neg h, if_pos (by omega)]
    simp only [bvs, List.getElem?_map, List.getElem?_take, List.getElem?_drop]
    rw [if_pos (by omega), show k + (i - k) = i by omega]

set_option maxHeartbeats 400000 in
theorem mulAdd_ne (ad sa : Option Addr) (n m cd cs c : Nat) (w : World) (h : n ≠ m) :
    Calls Try.prog 15 #[.slice ad n cd, .slice sa m cs, .int .u8 c] w fun e w' => e = .returned (.tuple #[.slice none 0 0, .int .i64 3]) ∧ w' = w := by
  have hne : ((n : Int) != (m : Int)) = true := by rw [bne_iff_ne]; omega
  go_enter Try.func15, Try.ntmps15
  go_wp2
  go_ret2
  exact ⟨rfl, rfl⟩

set_option maxHeartbeats 400000 in
theorem mulAdd_pos (bd od bs os n cd cs c : Nat) (ds ss : List Nat) (w : World) (hp : 0 < n) (hn : n ≤ 140737488355328) (hcd : n ≤ cd) (hcs : n ≤ cs) (hc : c < 256)
    (hdl : ds.length = n) (hsl : ss.length = n) (hd : ∀ x ∈ ds, x < 256) (hs : ∀ x ∈ ss, x < 256)
    (hdb : bd < w.heap.size) (hsb : bs < w.heap.size)
    (cD : ∀ i x, ds[i]? = some x → w.cell? ⟨bd, od + i, none⟩ = some (.int .u8 (x : Nat)))
    (cS : ∀ i x, ss[i]? = some x → w.cell? ⟨bs, os + i, none⟩ = some (.int .u8 (x : Nat))) :
    Calls Try.prog 15 #[.slice (some ⟨bd, od, none⟩) n cd, .slice (some ⟨bs, os, none⟩) n cs, .int .u8 c] w fun e w' => e = .returned (.tuple #[.slice (some ⟨w.heap.size, 0, none⟩) n n, .int .i64 0]) ∧
      Below w.heap.size w w' ∧ w'.heap.size = w.heap.size + 1 ∧ w'.heap[w.heap.size]? = some (.cells (bvs (Gf.mulAdd ds ss c)).toArray 5 (0, 0)) := by
  have hmk := fun w => run_make_row' (P := Try.prog) 27 5 (.int .u8 0) 1 Try.underlying27 info5 rfl .i64 .i64 n (by omega) (by omega) w
  have hne : ((n : Int) != (n : Int)) = false := by simp
  have CD : Hid (∀ i x, ds[i]? = some x → w.cell? ⟨bd, od + i, none⟩ = some (.int .u8 (x : Nat))) := cD
  have CS : Hid (∀ i x, ss[i]? = some x → w.cell? ⟨bs, os + i, none⟩ = some (.int .u8 (x : Nat))) := cS
  have HD : Hid (ds.length = n) := hdl
  have HSL : Hid (ss.length = n) := hsl
  clear cD cS hdl hsl
  go_enter Try.func15, Try.ntmps15
  go_wp2
  clear hmk hne
  go_loopw [9] (fun i w' => ∃ k : Nat, i = .int .i64 k ∧ k < n + 8 ∧ Below w.heap.size w w' ∧ w'.heap.size = w.heap.size + 1 ∧
      ∃ cur : List Value, w'.heap[w.heap.size]? = some (.cells cur.toArray 5 (0, 0)) ∧ cur.length = n ∧ ∀ i, i < k → i < n → cur[i]? = (bvs (Gf.mulAdd ds ss c))[i]?) (fun i _ => (n - intOf i).toNat)
  case atStart =>
    refine ⟨0, rfl, by omega, (Below.refl _ _).alloc (Nat.le_refl _) _, by simp, List.replicate n (.int .u8 0), ?_, by simp, fun i hi => by omega⟩
    rw [heap_alloc_new, ← toList_madeCells_one]
  case round =>
    obtain ⟨k, rfl, hk, hb, hsz, cur, hg, hcl, hcur⟩ := hrel
    by_cases hlt : k < n
    · have LD : Hid (∀ wx : World, wx.heap = wr.heap → Calls Try.prog 31 #[.slice (some ⟨bd, od + k, none⟩) (n - k) (cd - k)] wx fun e w' => e = .returned (.int .u64 (Gf.pack ((ds.drop k).take 8) : Nat)) ∧ w' = wx) := by
        intro wx hwx
        refine load_any bd (od + k) (n - k) (cd - k) (ds.drop k) wx (by rw [List.length_drop, HD.out]) (by omega) (fun x hx => hd x (List.mem_of_mem_drop hx)) ?_
        intro i x hx
        rw [List.getElem?_drop] at hx
        have h1 := CD.out _ _ hx
        rw [Nat.add_assoc]
        rw [World.cell?_of_block (w := w) (by rw [hwx]; exact hb.block _ hdb)]; exact h1
      have LS : Hid (∀ wx : World, wx.heap = wr.heap → Calls Try.prog 31 #[.slice (some ⟨bs, os + k, none⟩) (n - k) (cs - k)] wx fun e w' => e = .returned (.int .u64 (Gf.pack ((ss.drop k).take 8) : Nat)) ∧ w' = wx) := by
        intro wx hwx
        refine load_any bs (os + k) (n - k) (cs - k) (ss.drop k) wx (by rw [List.length_drop, HSL.out]) (by omega) (fun x hx => hs x (List.mem_of_mem_drop hx)) ?_
        intro i x hx
        rw [List.getElem?_drop] at hx
        have h1 := CS.out _ _ hx
        rw [Nat.add_assoc]
        rw [World.cell?_of_block (w := w) (by rw [hwx]; exact hb.block _ hsb)]; exact h1
      have ld : ((ds.drop k).take 8).length = ((ss.drop k).take 8).length := by simp [HD.out, HSL.out]
      have ld8 : ((ds.drop k).take 8).length ≤ 8 := by simp; omega
      have bd8 : ∀ x ∈ (ds.drop k).take 8, x < 256 := fun x hx => hd x (List.mem_of_mem_drop (List.mem_of_mem_take hx))
      have bs8 : ∀ x ∈ (ss.drop k).take 8, x < 256 := fun x hx => hs x (List.mem_of_mem_drop (List.mem_of_mem_take hx))
      have we := Gf.word_eq _ _ c bd8 bs8 ld ld8
      have lm := Gf.mulAdd_length _ _ c ld
      have ym := Gf.mulAdd_lt _ _ c bd8 bs8
      have p1 := Gf.pack_lt64 _ bd8 ld8
      have p2 := Gf.pack_lt64 _ bs8 (by omega)
      have hxor : bits .xor .u64 ((Gf.pack ((ds.drop k).take 8) : Nat) : Int) ((Gf.mulW (Gf.pack ((ss.drop k).take 8)) c : Nat) : Int) = ((Gf.pack (Gf.mulAdd ((ds.drop k).take 8) ((ss.drop k).take 8) c) : Nat) : Int) := by
        rw [u64_xor_nat _ _ p1 (Gf.mulW_lt64 _ _ p2), we]
      have ly : (Gf.mulAdd ((ds.drop k).take 8) ((ss.drop k).take 8) c).length = min 8 (n - k) := by rw [lm, List.length_take, List.length_drop, HD.out]
      have ST : Hid (∀ wx : World, wx.heap = wr.heap → Calls Try.prog 30 #[.slice (some ⟨w.heap.size, k, none⟩) (n - k) (n - k), .int .u64 (Gf.pack (Gf.mulAdd ((ds.drop k).take 8) ((ss.drop k).take 8) c) : Nat)] wx fun e w' => e = .returned (.tuple #[]) ∧
          Below w.heap.size wx w' ∧ w'.heap.size = wx.heap.size ∧ w'.heap[w.heap.size]? = some (.cells (splice cur k (bvs (Gf.mulAdd ((ds.drop k).take 8) ((ss.drop k).take 8) c))).toArray 5 (0, 0))) := by
        intro wx hwx
        exact store_any w.heap.size k (n - k) (n - k) cur _ wx (by omega) (by omega) (by omega) (by omega) ym (by rw [hwx]; exact hg) (by omega)
      have LY : Hid ((Gf.mulAdd ((ds.drop k).take 8) ((ss.drop k).take 8) c).length = min 8 (n - k)) := ly
      clear we lm ym p1 ly ld ld8 bd8 bs8
      have HG : Hid (wr.heap[w.heap.size]? = some (.cells cur.toArray 5 (0, 0))) := hg
      have HSZ : Hid (wr.heap.size = w.heap.size + 1) := hsz
      have HCU : Hid (∀ i, i < k → i < n → cur[i]? = (bvs (Gf.mulAdd ds ss c))[i]?) := hcur
      clear hg hsz hcur
      have j1 : ¬ cd = k := by omega
      have j2 : ¬ cs = k := by omega
      have j3 : ¬ n = k := by omega
      have i1 : (0 : Int) ≤ (k : Int) := by omega
      have i2 : (k : Int) ≤ (n : Int) := by omega
      have i3 : (k : Int) < (n : Int) := by omega
      have i4 : (n : Int) ≤ (cd : Int) := by omega
      have i5 : (n : Int) ≤ (cs : Int) := by omega
      go_wp2_with fail
      go_region_held3 (fun _ => True) (trivial) (first | (go_at_call 27; refine (mulWord_any _ _ _ p2 hc).mono ?_; rintro e w' ⟨rfl, rfl⟩) | (go_at_call 30; refine (ST.out _ ?_).mono ?_; exact rfl; rintro e w' ⟨rfl, q1, q2, q3⟩) | (go_at_call_of 31 (Value.slice (some ⟨bd, od + k, none⟩) (n - k) (cd - k)); refine (LD.out _ ?_).mono ?_; exact rfl; rintro e w' ⟨rfl, rfl⟩) | (go_at_call_of 31 (Value.slice (some ⟨bs, os + k, none⟩) (n - k) (cs - k)); refine (LS.out _ ?_).mono ?_; exact rfl; rintro e w' ⟨rfl, rfl⟩))
      all_goals
        go_wp2_with fail
        go_roundw
        case rel =>
          have st := mulAdd_step ds ss c k n cur hcl HD.out HSL.out hlt HCU.out
          exact ⟨k + 8, by go_num, by omega, hb.drew.trans q1, q2.trans HSZ.out, _, q3, st.1, st.2⟩
        case measure => simp [intOf]; omega
    · go_wp2
      go_ret2
      refine ⟨rfl, hb, hsz, ?_⟩
      rw [hg]
      have : cur = bvs (Gf.mulAdd ds ss c) := by
        apply List.ext_getElem?
        intro i
        by_cases hi : i < n
        · exact hcur i (by omega) hi
        · rw [List.getElem?_eq_none (by omega), List.getElem?_eq_none (by rw [bvs_length, Gf.mulAdd_length _ _ _ (by rw [HD.out, HSL.out]), HD.out]; omega)]
      rw [this]

set_option maxHeartbeats 400000 in
theorem mulAdd_zero (ad sa : Option Addr) (cd cs c : Nat) (w : World) :
    Calls Try.prog 15 #[.slice ad 0 cd, .slice sa 0 cs, .int .u8 c] w fun e w' => e = .returned (.tuple #[.slice (some ⟨w.heap.size, 0, none⟩) 0 0, .int .i64 0]) ∧
      Below w.heap.size w w' ∧ w'.heap.size = w.heap.size + 1 ∧ w'.heap[w.heap.size]? = some (.cells (bvs []).toArray 5 (0, 0)) := by
  have hmk := fun w => run_make_row' (P := Try.prog) 27 5 (.int .u8 0) 1 Try.underlying27 info5 rfl .i64 .i64 0 (by omega) (by omega) w
  simp only [Int.natCast_zero] at hmk
  go_enter Try.func15, Try.ntmps15
  go_wp2
  refine wp_loop_rounds 1 ?_
  rw [rounds_succ]
  go_wp2
  go_ret2
  refine ⟨rfl, (Below.refl _ _).alloc (Nat.le_refl _) _, by simp, ?_⟩
  rw [heap_alloc_new]
  have : madeCells #[Value.int IntKind.u8 0] 0 = (bvs []).toArray := by apply Array.ext'; rw [toList_madeCells_one]; rfl
  rw [this]

theorem mulAdd_same (ad sa : Option Addr) (n cd cs c : Nat) (ds ss : List Nat) (w : World) (hn : n ≤ 140737488355328) (hcd : n ≤ cd) (hcs : n ≤ cs) (hc : c < 256)
    (hdl : ds.length = n) (hsl : ss.length = n) (hd : ∀ x ∈ ds, x < 256) (hs : ∀ x ∈ ss, x < 256) (cD : Cells w ad ds) (cS : Cells w sa ss) :
    Calls Try.prog 15 #[.slice ad n cd, .slice sa n cs, .int .u8 c] w fun e w' => e = .returned (.tuple #[.slice (some ⟨w.heap.size, 0, none⟩) n n, .int .i64 0]) ∧
      Below w.heap.size w w' ∧ w'.heap.size = w.heap.size + 1 ∧ w'.heap[w.heap.size]? = some (.cells (bvs (Gf.mulAdd ds ss c)).toArray 5 (0, 0)) := by
  by_cases hp : 0 < n
  · obtain ⟨bd, od, rfl, hb1, h1⟩ := cD.pos (by omega)
    obtain ⟨bs, os, rfl, hb2, h2⟩ := cS.pos (by omega)
    exact mulAdd_pos bd od bs os n cd cs c ds ss w hp hn hcd hcs hc hdl hsl hd hs hb1 hb2 h1 h2
  · obtain rfl : n = 0 := by omega
    obtain rfl : ds = [] := List.eq_nil_of_length_eq_zero hdl
    exact mulAdd_zero ad sa cd cs c w

end Go.Proofs.Ytlaoaiffgbdnpaa
