/-
  The published codes, reckoned by the kernel.
-/
import Derived.Test.YtleabfmlokjllaaDoorKnA
namespace Go.Proofs.YtleabfmlokjllaaDoor

def kS1 : ByteArray := ⟨#[11, 11, 11, 11, 11, 11, 11, 11, 11, 11, 11, 11, 11, 11, 11, 11, 11, 11, 11, 11]⟩
def kT1 : ByteArray := ⟨#[72, 105, 32, 84, 104, 101, 114, 101]⟩
def kS2 : ByteArray := ⟨#[74, 101, 102, 101]⟩
def kT2 : ByteArray := ⟨#[119, 104, 97, 116, 32, 100, 111, 32, 121, 97, 32, 119, 97, 110, 116, 32, 102, 111, 114, 32, 110, 111, 116, 104, 105, 110, 103, 63]⟩
def kS3 : ByteArray := ⟨#[]⟩
def kT3 : ByteArray := ⟨#[]⟩
def kS4 : ByteArray := ⟨#[170, 170, 170, 170, 170, 170, 170, 170, 170, 170, 170, 170, 170, 170, 170, 170, 170, 170, 170, 170, 170, 170, 170, 170, 170, 170, 170, 170, 170, 170, 170, 170, 170, 170, 170, 170, 170, 170, 170, 170, 170, 170, 170, 170, 170, 170, 170, 170, 170, 170, 170, 170, 170, 170, 170, 170, 170, 170, 170, 170, 170, 170, 170, 170, 170, 170, 170, 170, 170, 170, 170, 170, 170, 170, 170, 170, 170, 170, 170, 170, 170, 170, 170, 170, 170, 170, 170, 170, 170, 170, 170, 170, 170, 170, 170, 170, 170, 170, 170, 170, 170, 170, 170, 170, 170, 170, 170, 170, 170, 170, 170, 170, 170, 170, 170, 170, 170, 170, 170, 170, 170, 170, 170, 170, 170, 170, 170, 170, 170, 170, 170]⟩
def kT4 : ByteArray := ⟨#[84, 101, 115, 116, 32, 85, 115, 105, 110, 103, 32, 76, 97, 114, 103, 101, 114, 32, 84, 104, 97, 110, 32, 66, 108, 111, 99, 107, 45, 83, 105, 122, 101, 32, 75, 101, 121, 32, 45, 32, 72, 97, 115, 104, 32, 75, 101, 121, 32, 70, 105, 114, 115, 116]⟩
def kD1 : W8 := ⟨0xb0344c61, 0xd8db3853, 0x5ca8afce, 0xaf0bf12b, 0x881dc200, 0xc9833da7, 0x26e9376c, 0x2e32cff7⟩
theorem kcode1 : hmac (blk kS1.size (byt kS1)) kT1.size (byt kT1) = kD1 := by
  have h1 : digest (64 + kT1.size) (cat 64 (msk 54 (blk kS1.size (byt kS1))) (byt kT1)) = ⟨0x92ab4d9a, 0x1f3b6152, 0xbca9dd9e, 0x69af43f4, 0xce99e42f, 0xd4e30ff9, 0x72c48025, 0xb9f9cfef⟩ := by
    rw [digest_ego]
    kernel_rfl
  have h2 : digest 96 (cat 64 (msk 92 (blk kS1.size (byt kS1))) (hb ⟨0x92ab4d9a, 0x1f3b6152, 0xbca9dd9e, 0x69af43f4, 0xce99e42f, 0xd4e30ff9, 0x72c48025, 0xb9f9cfef⟩)) = kD1 := by
    rw [digest_ego]
    kernel_rfl
  unfold hmac
  rw [h1]
  exact h2
theorem kfirst1 : be (hb kD1) 0 = 2956217441 := by kernel_rfl
theorem klast1 : hb kD1 31 = 247 := by kernel_rfl
def kD2 : W8 := ⟨0x5bdcc146, 0xbf60754e, 0x6a042426, 0x089575c7, 0x5a003f08, 0x9d273983, 0x9dec58b9, 0x64ec3843⟩
theorem kcode2 : hmac (blk kS2.size (byt kS2)) kT2.size (byt kT2) = kD2 := by
  have h1 : digest (64 + kT2.size) (cat 64 (msk 54 (blk kS2.size (byt kS2))) (byt kT2)) = ⟨0xa2e48586, 0x3d27f9d8, 0x64ac8d80, 0x2432a1ed, 0x477d8c4c, 0x6f349d16, 0xd4e7e917, 0xc629cad7⟩ := by
    rw [digest_ego]
    kernel_rfl
  have h2 : digest 96 (cat 64 (msk 92 (blk kS2.size (byt kS2))) (hb ⟨0xa2e48586, 0x3d27f9d8, 0x64ac8d80, 0x2432a1ed, 0x477d8c4c, 0x6f349d16, 0xd4e7e917, 0xc629cad7⟩)) = kD2 := by
    rw [digest_ego]
    kernel_rfl
  unfold hmac
  rw [h1]
  exact h2
theorem kfirst2 : be (hb kD2) 0 = 1541194054 := by kernel_rfl
theorem klast2 : hb kD2 31 = 67 := by kernel_rfl
def kD3 : W8 := ⟨0xb613679a, 0x0814d9ec, 0x772f95d7, 0x78c35fc5, 0xff1697c4, 0x93715653, 0xc6c71214, 0x4292c5ad⟩
theorem kcode3 : hmac (blk kS3.size (byt kS3)) kT3.size (byt kT3) = kD3 := by
  have h1 : digest (64 + kT3.size) (cat 64 (msk 54 (blk kS3.size (byt kS3))) (byt kT3)) = ⟨0xe72bbd4d, 0x429ac914, 0xa8a6c5bd, 0x49632ff6, 0xb00d4fef, 0x42afb443, 0xf0b8047d, 0xf06c85d2⟩ := by
    rw [digest_ego]
    kernel_rfl
  have h2 : digest 96 (cat 64 (msk 92 (blk kS3.size (byt kS3))) (hb ⟨0xe72bbd4d, 0x429ac914, 0xa8a6c5bd, 0x49632ff6, 0xb00d4fef, 0x42afb443, 0xf0b8047d, 0xf06c85d2⟩)) = kD3 := by
    rw [digest_ego]
    kernel_rfl
  unfold hmac
  rw [h1]
  exact h2
theorem kfirst3 : be (hb kD3) 0 = 3054725018 := by kernel_rfl
theorem klast3 : hb kD3 31 = 173 := by kernel_rfl
def kD4 : W8 := ⟨0x60e43159, 0x1ee0b67f, 0x0d8a26aa, 0xcbf5b77f, 0x8e0bc621, 0x3728c514, 0x0546040f, 0x0ee37f54⟩
def kB4 (i : Nat) : Nat := if i < 32 then hb ⟨0x45ad4b37, 0xc6e2fc0a, 0x2cfcc1b5, 0xda524132, 0xec707615, 0xc2cae1db, 0xbc43c97a, 0xa521db81⟩ i else 0
theorem kblk4 : blk kS4.size (byt kS4) = kB4 := by
  have h0 : digest kS4.size (byt kS4) = ⟨0x45ad4b37, 0xc6e2fc0a, 0x2cfcc1b5, 0xda524132, 0xec707615, 0xc2cae1db, 0xbc43c97a, 0xa521db81⟩ := by
    rw [digest_ego]
    kernel_rfl
  have hz : kS4.size = 131 := by kernel_rfl
  have hn : ¬ kS4.size ≤ 64 := by rw [hz]; decide
  funext i
  unfold blk kB4
  rw [if_neg hn, h0]
theorem kcode4 : hmac (blk kS4.size (byt kS4)) kT4.size (byt kT4) = kD4 := by
  have h1 : digest (64 + kT4.size) (cat 64 (msk 54 kB4) (byt kT4)) = ⟨0xa73038bb, 0xcc5d6f03, 0x3721558c, 0xa481f374, 0x72ca01c3, 0xb4072f32, 0x5c1072a1, 0x92bfe2c0⟩ := by
    rw [digest_ego]
    kernel_rfl
  rw [kblk4]
  have h2 : digest 96 (cat 64 (msk 92 kB4) (hb ⟨0xa73038bb, 0xcc5d6f03, 0x3721558c, 0xa481f374, 0x72ca01c3, 0xb4072f32, 0x5c1072a1, 0x92bfe2c0⟩)) = kD4 := by
    rw [digest_ego]
    kernel_rfl
  unfold hmac
  rw [h1]
  exact h2
theorem kfirst4 : be (hb kD4) 0 = 1625567577 := by kernel_rfl
theorem klast4 : hb kD4 31 = 84 := by kernel_rfl
end Go.Proofs.YtleabfmlokjllaaDoor
