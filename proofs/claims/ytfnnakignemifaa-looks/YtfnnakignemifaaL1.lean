import Derived.Test.YtfnnakignemifaaF1
namespace Go.Proofs.Ytfnnakignemifaa
open Go.RowKit

/-- what the bytes that end too soon are given up with -/
abbrev short : PanicEntry := { v := .iface 66 (.agg #[]), recovered := false }
/-- a string from a on -/
abbrev tl (f : ByteArray) (a : Nat) : ByteArray := f.extract a f.size
theorem tl_size (f : ByteArray) (a : Nat) : (tl f a).size = f.size - a := by simp [tl, ByteArray.size_extract]
theorem tl_tl (f : ByteArray) (a c : Nat) : (tl f a).extract c (f.size - a) = tl f (a + c) := by
  rw [ByteArray.extract_extract]
  congr 1; omega
theorem tl_cut (f : ByteArray) (a c : Nat) (h : a + c ≤ f.size) : (tl f a).extract 0 c = f.extract a (a + c) := by
  rw [ByteArray.extract_extract]
  congr 1; omega

set_option maxHeartbeats 400000 in
theorem take_short (f : ByteArray) (a c g : Nat) (w : World) (h : f.size < a + c) (ha : a ≤ f.size) (hg : w.cell? ⟨g, 0, none⟩ = some (.string (tl f a))) :
    Calls Try.prog 40 #[.pointer (some ⟨g, 0, none⟩), .int .i64 c] w fun e w' => e = .panicked [short] ∧ w' = w := by
  have hsz := tl_size f a
  have hgt : ((f.size - a : Nat) : Int) < (c : Int) := by omega
  generalize tl f a = r at *
  go_enter Try.func40, Try.ntmps40
  go_wp2
  exact ⟨rfl, rfl, rfl⟩
set_option maxHeartbeats 400000 in
theorem take_ok (f : ByteArray) (a c g : Nat) (w : World) (h : a + c ≤ f.size) (hg : w.cell? ⟨g, 0, none⟩ = some (.string (tl f a))) (hz : w.frozen? ⟨g, 0, none⟩ = false) :
    Calls Try.prog 40 #[.pointer (some ⟨g, 0, none⟩), .int .i64 c] w fun e w' => e = .returned (.string (f.extract a (a + c))) ∧ w' = w.setCell ⟨g, 0, none⟩ (.string (tl f (a + c))) := by
  have h1 := tl_tl f a c
  have h2 := tl_cut f a c h
  have hsz := tl_size f a
  have hle : ¬ (((f.size - a : Nat) : Int) < (c : Int)) := by omega
  go_enter Try.func40, Try.ntmps40
  go_wp2
  go_ret
  exact ⟨rfl, rfl⟩

/-- a number of c bytes, from a on -/
def numAt (f : ByteArray) (a : Nat) : Nat → Nat
  | 0 => 0
  | c + 1 => numAt f a c * 256 + sb f (a + c)
theorem numAt_lt (f : ByteArray) (a c : Nat) : numAt f a c < 256 ^ c := by
  induction c with
  | zero => simp [numAt]
  | succ c ih => have := sb_lt f (a + c); simp only [numAt, Nat.pow_succ]; omega
theorem numAt_le (f : ByteArray) (a c : Nat) (hc : c ≤ 4) : numAt f a c < 4294967296 := by
  have h1 := numAt_lt f a c
  have h2 : (256 : Nat) ^ c ≤ 256 ^ 4 := Nat.pow_le_pow_right (by decide) hc
  have h3 : (256 : Nat) ^ 4 = 4294967296 := by decide
  omega
theorem sb_extract (f : ByteArray) (a b j : Nat) (hb : b ≤ f.size) (hj : a + j < b) : sb (f.extract a b) j = sb f (a + j) := by
  have h1 : j < (f.extract a b).size := by rw [ByteArray.size_extract]; omega
  rw [← sb_at _ _ h1, ← sb_at f (a + j) (by omega)]
  rw [ByteArray.getElem_extract]
theorem or_byte (n x : Nat) (hn : n < 16777216) (hx : x < 256) : bits BinOp.or IntKind.i64 ((n : Int) * 256) (x : Int) = ((n * 256 + x : Nat) : Int) := by
  have e0 : (n : Int) * 256 = ((n * 256 : Nat) : Int) := by omega
  have e1 : n * 256 ||| x = n * 256 + x := by
    have := Nat.two_pow_add_eq_or_of_lt (i := 8) hx n
    rw [show 2 ^ 8 * n = n * 256 by omega] at this
    exact this.symm
  rw [e0]
  show IntKind.i64.wrap ((BitVec.ofInt 64 ((n * 256 : Nat) : Int) ||| BitVec.ofInt 64 (x : Int)).toNat : Int) = _
  rw [BitVec.toNat_or, ofInt_u64 _ (by omega), ofInt_u64 x (by omega), e1]
  simp [IntKind.wrap, IntKind.bits, IntKind.signed]; omega

set_option maxHeartbeats 400000 in
theorem number_short (f : ByteArray) (a c g : Nat) (w : World) (h : f.size < a + c) (ha : a ≤ f.size) (hg : w.cell? ⟨g, 0, none⟩ = some (.string (tl f a))) :
    Calls Try.prog 41 #[.pointer (some ⟨g, 0, none⟩), .int .i64 c] w fun e w' => e = .panicked [short] ∧ w' = w := by
  go_enter Try.func41, Try.ntmps41
  go_wp2_with fail
  refine (take_short f a c g w h ha hg).mono ?_
  rintro e w1 ⟨rfl, rfl⟩
  exact ⟨rfl, rfl, rfl⟩
set_option maxHeartbeats 400000 in
theorem number_ok (f : ByteArray) (a c g : Nat) (w : World) (hc : c ≤ 4) (h : a + c ≤ f.size) (hg : w.cell? ⟨g, 0, none⟩ = some (.string (tl f a))) (hz : w.frozen? ⟨g, 0, none⟩ = false) :
    Calls Try.prog 41 #[.pointer (some ⟨g, 0, none⟩), .int .i64 c] w fun e w' => e = .returned (.int .i64 (numAt f a c : Nat)) ∧ w' = w.setCell ⟨g, 0, none⟩ (.string (tl f (a + c))) := by
  go_enter Try.func41, Try.ntmps41
  go_wp2_with fail
  refine (take_ok f a c g w h hg hz).mono ?_
  rintro e w1 ⟨rfl, hw1⟩
  have HW : Hid (w1 = w.setCell ⟨g, 0, none⟩ (.string (tl f (a + c)))) := hw1
  clear hw1 hg hz
  have hsz : (f.extract a (a + c)).size = c := by rw [ByteArray.size_extract]; omega
  have HB : Hid (∀ j, j < c → sb (f.extract a (a + c)) j = sb f (a + j)) := fun j hj => sb_extract f a (a + c) j h (by omega)
  generalize f.extract a (a + c) = r at *
  go_wp2_with fail
  go_loopw [6, 13] (fun n j w' => ∃ m : Nat, m ≤ c ∧ n = .int .i64 ((numAt f a m : Nat) : Int) ∧ j = .int .i64 m ∧ w' = w1) (fun _ j _ => (c - intOf j).toNat)
  case atStart => exact ⟨0, by omega, rfl, rfl, rfl⟩
  case round =>
    obtain ⟨m, hm, rfl, rfl, rfl⟩ := hrel
    by_cases hlt : m < c
    · have hr : m < r.size := by omega
      have eB : r[m].toNat = sb f (a + m) := (sb_at r m hr).trans (HB.out m hlt)
      have h256 := sb_lt f (a + m)
      have hn : numAt f a m < 16777216 := by
        have h1 := numAt_lt f a m
        have h2 : (256 : Nat) ^ m ≤ 256 ^ 3 := Nat.pow_le_pow_right (by decide) (by omega)
        have h3 : (256 : Nat) ^ 3 = 16777216 := by decide
        omega
      have hor := or_byte (numAt f a m) (sb f (a + m)) hn h256
      have HN : Hid (numAt f a (m + 1) = numAt f a m * 256 + sb f (a + m)) := rfl
      generalize numAt f a m = n at *
      generalize sb f (a + m) = x at *
      go_wp2
      go_roundw
      case rel => exact ⟨m + 1, by omega, by rw [HN.out]; go_num, by go_num, trivial⟩
      case measure => simp [intOf]; omega
    · have hmc : m = c := by omega
      subst hmc
      go_wp2
      go_ret
      exact ⟨rfl, HW.out⟩
end Go.Proofs.Ytfnnakignemifaa
