import Derived.Shelf.Bits.Mul64
import Derived.Test.YtfdfgnmgpgkknaaGreatProg
open Go.Proofs.Tryz renaming prog→zf
open Go.Proofs.Tryz
namespace Go.Proofs
open Go.Shelf
def Tryz.Mi:Go.Shelf.Ren:=⟨λ|264=>141|n=>n,λ|53=>36|46=>175|n=>n,λ|n=>n⟩
theorem Tryz.EG:Go.Proofs.Lays.n264 zf Mi:={
 mixed:=by kernel_rfl
 f264:=Tryz.func141.trans (congrArg some (by kernel_rfl))
 t46:=underlying175
 a46:=isAgg175
 z46:=sizeOf175
 v46:=zeroValue175
 t53:=underlying36
 a53:=isAgg36
 z53:=sizeOf36
 v53:=zeroValue36}
open Go.RowKit Go.Lib in
theorem Tryz.bits_Mul64 (x y:Nat) (hx:x<18446744073709551616) (hy:y<18446744073709551616) (w:World):
  Calls Tryz.prog 141 #[.int .u64 x,.int .u64 y] w λ e w'=>e=.returned (.tuple #[.int .u64 ((x*y/18446744073709551616:Nat):Int),.int .u64 ((x*y%18446744073709551616:Nat):Int)])∧w'=w:=Any.bits_Mul64 Tryz.EG x y hx hy w
end Go.Proofs
