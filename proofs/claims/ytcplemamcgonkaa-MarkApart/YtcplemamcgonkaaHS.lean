/-
  A sum's four bytes (at a seat that has EMath: 'import EMath' alone, filled by HSe).
-/
import Derived.Test.YtcplemamcgonkaaWMath
import Derived.Test.YtcplemamcgonkaaCMath
namespace Go.Proofs.Ytcplemamcgonkaa.Ln
/-! ### The sum's bytes -/
def sum4 (b : List Nat) : List Nat := [Crc.sum b / 16777216, Crc.sum b / 65536 % 256, Crc.sum b / 256 % 256, Crc.sum b % 256]
theorem sum4_length (b : List Nat) : (sum4 b).length = 4 := rfl
theorem sum4_lt (b : List Nat) : ∀ c ∈ sum4 b, c < 256 := by
  have h := Crc.sum_lt b
  intro c hc
  simp only [sum4, List.mem_cons, List.not_mem_nil, or_false] at hc
  omega

end Go.Proofs.Ytcplemamcgonkaa.Ln
