/-
  Contracts of the program's package crc, gathered.
-/
import Derived.Test.YtpkhbglmbdpodaaDoorCLv
import Derived.Test.YtpkhbglmbdpodaaDoorCLaw
namespace Go.Proofs.YtpkhbglmbdpodaaDoor
open Go.RowKit
namespace C
open H
theorem psum_any (A : Option Addr) (n c : Nat) (bs : List Int) (w : World) (tb : Tab w) (hl : bs.length = n) (hn : n ≤ 140737488351200) (hb : Byt bs) (hrd : RdI w w.heap.size .u8 A bs) :
    Calls Tryd.prog 14 #[.slice A n c] w fun e w' => e = .returned (.int .u32 (sum (nats bs))) ∧ Below w.heap.size w w' :=
  (psum_same A n c bs w tb hl hn hb hrd).mono fun e w' ⟨h, hw⟩ => ⟨h, by rw [hw]; exact Below.refl _ _⟩
theorem pupd_any (s : Nat) (A : Option Addr) (n c : Nat) (bs : List Int) (w : World) (tb : Tab w) (hs : s < 4294967296) (hl : bs.length = n) (hn : n ≤ 140737488351200) (hb : Byt bs) (hrd : RdI w w.heap.size .u8 A bs) :
    Calls Tryd.prog 16 #[.int .u32 s, .slice A n c] w fun e w' => e = .returned (.int .u32 (upd s (nats bs))) ∧ Below w.heap.size w w' :=
  (pupd_same s A n c bs w tb hs hl hn hb hrd).mono fun e w' ⟨h, hw⟩ => ⟨h, by rw [hw]; exact Below.refl _ _⟩
end C
end Go.Proofs.YtpkhbglmbdpodaaDoor
