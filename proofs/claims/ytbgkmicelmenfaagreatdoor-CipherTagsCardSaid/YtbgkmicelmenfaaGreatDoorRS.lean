/- Own lemmas of the verifier on memory, numbers and the functions that the laws call; no statement is proved here. -/
import Derived.Test.YtbgkmicelmenfaaGreatDoorRG
import Derived.Deep.QuietTactic
import Derived.BigQuiet
import Derived.Laws.Rows
import Derived.Laws.Tables
import Derived.Lib.AppendZeros
import Derived.RegionTactic
import Derived.ArgAppend
import Derived.Deep.OwnRows
import Derived.OneCell
namespace Go.Proofs.YtbgkmicelmenfaaGreatDoor.S
open Go.RowKit
set_option maxRecDepth 100000
theorem Tryz.info5:(Tryz.prog.info? 5).map (fun i=>(i.zero,i.size,i.bytes))=some (some (.int .u8 0),1,1):=by kernel_rfl
theorem ret_int {k:IntKind} {a b:Int} (h:a=b):Ending.returned (.int k a)=.returned (.int k b):=by rw [h]
theorem tmod_lo (a n:Int) (hn:0 < n) : - n < a.tmod n:=by
 have h:=@Int.tmod_eq_emod a n
 have h1:=Int.emod_nonneg a (Int.ne_of_gt hn)
 have h2:=Int.emod_lt_of_pos a hn
 split at h<;>omega
theorem tmod_add_emod (a n:Int) (hn:0 < n):(a.tmod n+n) % n=a % n:=by
 have h:=@Int.tmod_eq_emod a n
 rw [Int.add_emod_right]
 split at h
 ·rw [h];simp
 ·rw [h,Int.sub_emod];
  have:(n.natAbs:Int) % n=0:=by rw [Int.natAbs_of_nonneg (by omega)];simp
  rw [this];simp
set_option maxHeartbeats 400000 in
theorem rrest_any (a n:Int) (w:World) (h0:0 < n) (h1:n≤4611686018427387903) :
  Calls Tryz.prog 178 #[.int .i64 a,.int .i64 n] w fun e w'=>e=.returned (.int .i64 (a % n))∧w=w':=by
 have b1:=Int.tmod_lt_of_pos a h0
 have b2:=tmod_lo a n h0
 have hf:=tmod_add_emod a n h0
 have HF:=hid hf;clear hf
 go_enter Tryz.func178,Tryz.ntmps178
 go_wp2
 go_ret
 exact ⟨ret_int HF.out,rfl⟩
theorem and31 (n:Int):bits .and .u64 (IntKind.u64.wrap n) 31=n % 32:=by
 rw [IntKind.wrap_u64,show (31:Int)=((31:Nat):Int) from rfl,show n % 18446744073709551616=((n % 18446744073709551616).toNat:Int) by omega,u64_and_nat _ _ (by omega) (by omega),nat_mask5]
 omega
def rol32 (a:Int) (s:Nat):Int:=bits .or .u32 (a*2 ^ s % 4294967296) (a / 2 ^ (32 - s))
set_option maxHeartbeats 400000 in
theorem rl32 (a n:Int) (w:World) :
  Calls Tryz.prog 168 #[.int .u32 a,.int .i64 n] w fun e w'=>e=.returned (.int .u32 (rol32 a (n % 32).toNat))∧w=w':=by
 have hs:=and31 n
 obtain ⟨s,hsn⟩:∃ s:Nat,n % 32=s:=⟨(n % 32).toNat,by omega⟩
 have hs1:s≤31:=by omega
 rw [hsn] at hs
 have HS:=hid (show (n % 32).toNat=s by omega)
 clear hsn
 go_enter Tryz.func168,Tryz.ntmps168
 go_wp2
 go_ret
 exact ⟨ret_int (by rw [HS.out];rfl),rfl⟩
set_option maxHeartbeats 400000 in
theorem rrl32 (a n:Int) (w:World) :
  Calls Tryz.prog 134 #[.int .u32 a,.int .i64 n] w fun e w'=>e=.returned (.int .u32 (rol32 a (n % 32).toNat))∧w=w':=by
 obtain ⟨s,hsn⟩:∃ s:Nat,n % 32=s:=⟨(n % 32).toNat,by omega⟩
 have hs1:s≤31:=by omega
 have HS:=hid (show (n % 32).toNat=s by omega)
 go_enter Tryz.func134,Tryz.ntmps134
 go_wp2_with (go_at_call 178;refine (rrest_any _ _ _ (by omega) (by omega)).mono ?_;rintro e w' ⟨rfl,rfl⟩)
 go_ret
 exact ⟨ret_int (by rw [HS.out];rfl),rfl⟩
set_option maxHeartbeats 400000 in
theorem rol_any (a n:Int) (w:World) :
  Calls Tryz.prog 111 #[.int .u32 a,.int .i64 n] w fun e w'=>e=.returned (.int .u32 (rol32 a (n % 32).toNat))∧w=w':=by
 go_enter Tryz.func111,Tryz.ntmps111
 go_wp2_with (go_at_call 168;refine (rl32 _ _ _).mono ?_;rintro e w' ⟨rfl,rfl⟩)
 go_ret
 exact ⟨rfl,rfl⟩
set_option maxHeartbeats 400000 in
theorem gather_any (A:Option Addr) (n c B:Nat) (bs:List UInt8) (w:World) (h:Rd w B A n bs) (hn:n≤140737488355328) :
  Calls Tryz.prog 198 #[.slice A n c] w fun e w'=>e=.returned (.int .u64 (be bs n))∧w=w':=by
 go_enter Tryz.func198,Tryz.ntmps198
 go_wp2
 go_loop [3,8] (fun v i=>∃ k:Nat,k≤n∧i=.int .i64 k∧v=.int .u64 (be bs k)) (fun _ i=>n - (intOf i).toNat)
 case atStart=>exact ⟨0,Nat.zero_le _,rfl,rfl⟩
 case round =>
  obtain ⟨k,hk,rfl,rfl⟩:=hrel
  by_cases hlt:k < n
  ·obtain ⟨b,o,rfl,hb,hc⟩:=h.at_ (by omega)
   have hck:=hc k hlt
   have h1:=byteAt_lo bs k
   have h2:=byteAt_hi bs k
   clear h hc
   go_wp2
   go_round
   case rel=>exact ⟨k+1,by omega,by go_num,rfl⟩
   case measure=>simp [intOf];omega
  ·go_wp2
   go_ret
   obtain rfl:k=n:=by omega
   exact ⟨rfl,rfl⟩
set_option maxHeartbeats 400000 in
theorem big_any (A:Option Addr) (n c B:Nat) (bs:List UInt8) (w:World) (h:Rd w B A n bs) (hn:n≤140737488355328) :
  Calls Tryz.prog 141 #[.slice A n c] w fun e w'=>e=.returned (.int .u64 (be bs n))∧w=w':=by
 go_enter Tryz.func141,Tryz.ntmps141
 go_wp2
 go_loop [3,4] (fun v i=>∃ k:Nat,k≤n∧i=.int .i64 k∧v=.int .u64 (be bs k)) (fun _ i=>n - (intOf i).toNat)
 case atStart=>exact ⟨0,Nat.zero_le _,rfl,rfl⟩
 case round =>
  obtain ⟨k,hk,rfl,rfl⟩:=hrel
  by_cases hlt:k < n
  ·obtain ⟨b,o,rfl,hb,hc⟩:=h.at_ (by omega)
   have hck:=hc k hlt
   have h1:=byteAt_lo bs k
   have h2:=byteAt_hi bs k
   clear h hc
   go_wp2
   go_round
   case rel=>exact ⟨k+1,by omega,by go_num,rfl⟩
   case measure=>simp [intOf];omega
  ·go_wp2
   go_ret
   obtain rfl:k=n:=by omega
   exact ⟨rfl,rfl⟩
set_option maxHeartbeats 400000 in
theorem little_any (A:Option Addr) (n c B:Nat) (bs:List UInt8) (w:World) (h:Rd w B A n bs) (hn:n≤140737488355328) :
  Calls Tryz.prog 131 #[.slice A n c] w fun e w'=>e=.returned (.int .u64 (le bs n n))∧w=w':=by
 go_enter Tryz.func131,Tryz.ntmps131
 go_wp2
 go_loop [3,4] (fun v i=>∃ k:Nat,k≤n∧i=.int .i64 ((n:Int) - k)∧v=.int .u64 (le bs n k)) (fun _ i=>(intOf i).toNat)
 case atStart=>exact ⟨0,Nat.zero_le _,by simp,rfl⟩
 case round =>
  obtain ⟨k,hk,rfl,rfl⟩:=hrel
  by_cases hlt:k < n
  ·obtain ⟨b,o,rfl,hb,hc⟩:=h.at_ (by omega)
   have hck:=hc (n - 1 - k) (by omega)
   have e:o+(n - 1 - k)=o+(n - k - 1):=by omega
   rw [e] at hck
   have h1:=byteAt_lo bs (n - 1 - k)
   have h2:=byteAt_hi bs (n - 1 - k)
   have hpos:(0:Int) < (n:Int) - k:=by omega
   clear h hc e
   go_wp2
   go_round
   case rel=>exact ⟨k+1,by omega,by go_num,rfl⟩
   case measure=>simp [intOf];omega
  ·go_wp2
   go_ret
   obtain rfl:k=n:=by omega
   exact ⟨rfl,rfl⟩
set_option maxHeartbeats 400000 in
theorem spread_any (v:Int) (n:Nat)  (w:World) (hn:n≤8) :
  Calls Tryz.prog 169 #[.int .u64 v,.int .i64 n] w (RetB w (spreadL v n)):=by
 go_enter Tryz.func169,Tryz.ntmps169
 go_wp2_with (at_make;refine wpL_make rfl (.tmp 7) (.tmp 7) 22 rfl Tryz.underlying22 Tryz.info5 .i64 n n rfl rfl rfl (by omega) w.heap.size (Nat.le_refl _) ?_;intro w1 hown1 hb1 _)
 go_loopw [11] (fun i wr=>∃ k:Nat,k≤n∧i=.int .i64 k∧Own wr w.heap.size (.slice (some ⟨w.heap.size,0,none⟩) n n) (fillTo (spreadF v n) n k)∧Below w.heap.size w wr) (fun i _=>n - (intOf i).toNat)
 case atStart=>exact ⟨0,Nat.zero_le _,rfl,by rw [fillTo_zero];exact hown1,hb1⟩
 case round =>
  obtain ⟨k,hk,rfl,hown,hb⟩:=hrel
  by_cases hlt:k < n
  ·obtain ⟨cur,hcur⟩:∃ cur,fillTo (spreadF v n) n k=cur:=⟨_,rfl⟩
   have hcl:cur.length=n:=by rw [← hcur];exact fillTo_length _ _ _
   rw [hcur] at hown
   have hown0:Own wr w.heap.size (.slice (some ⟨w.heap.size,0,none⟩) cur.length n) cur:=by rw [hcl];exact hown
   have hcell:=hown0.cell k (by omega)
   have hfree:=hown0.free k
   have hset:=hown0.set_ k (spreadF v n k)
   rw [← hcur,fillTo_set _ _ _ _ rfl,fillTo_length] at hset
   have hval:((spreadF v n k).toNat:Int)=v / 2 ^ (8*(n - 1 - k)) % 256:=by unfold spreadF;exact u8_toNat _
   rw [hval] at hset
   have HH:=hid hset
   have HB:=hid hb
   clear hset hval hown0 hown hb hcl hcur hown1 hb1
   go_wp2
   go_roundw
   case rel=>exact ⟨k+1,by omega,by go_num,HH.out,HB.out.setCell (by simp) _⟩
   case measure=>simp [intOf];omega
  ·obtain rfl:k=n:=by omega
   have HH:=hid (And.intro hown hb)
   clear hown hb hown1 hb1
   go_wp2
   go_ret
   exact ⟨_,rfl,by have:=HH.out.1;rw [fillTo_full] at this;exact this,HH.out.2⟩
set_option maxHeartbeats 400000 in
theorem putBe32_any (v:Int) (w:World) (h0:0≤v) (h1:v < 4294967296) :
  Calls Tryz.prog 112 #[.int .u32 v] w (RetB w (put32 v)):=by
 go_enter Tryz.func112,Tryz.ntmps112
 go_wp2_with (go_at_call 169;refine (spread_any _ 4 _ (by omega)).mono ?_;rintro e w' ⟨x,rfl,hx,hb⟩)
 go_ret
 exact ⟨_,rfl,by rw [← spread4];exact hx,hb⟩
set_option maxHeartbeats 400000 in
theorem rev_any (v:Int) (w:World) :
  Calls Tryz.prog 113 #[.int .u32 v] w fun e w'=>e=.returned (.int .u32 (rev32 v))∧w=w':=by
 go_enter Tryz.func113,Tryz.ntmps113
 go_wp2
 go_ret
 exact ⟨rfl,rfl⟩
theorem rev32_range (v:Int) (h0:0≤v) (h1:v < 4294967296):0≤rev32 v∧rev32 v < 4294967296:=by
 rw [rev32_eq v h0 h1];omega
set_option maxHeartbeats 400000 in
theorem putLe32_any (v:Int) (w:World) (h0:0≤v) (h1:v < 4294967296) :
  Calls Tryz.prog 61 #[.int .u32 v] w (RetB w (putL32 v)):=by
 have hr:=rev32_range v h0 h1
 go_enter Tryz.func61,Tryz.ntmps61
 go_wp2_with (first
  | (go_at_call 113;refine (rev_any _ _).mono ?_;rintro e w' ⟨rfl,rfl⟩)
  | (go_at_call 112;refine (putBe32_any _ _ hr.1 hr.2).mono ?_;rintro e w' ⟨x,rfl,hx,hb⟩))
 go_ret
 exact ⟨_,rfl,by rw [← put_rev v h0 h1];exact hx,hb⟩
def isLen (k n:Nat):Bool:=decide (n=k)
def be32N (bs:List UInt8) (n:Nat):Int:=if n=4 then be bs 4 else 0
def le32N (bs:List UInt8) (n:Nat):Int:=if n=4 then le bs 4 4 else 0
theorem ret_pair {k:IntKind} {a b:Int} {p q:Bool} (h:a=b) (hp:p=q):Ending.returned (.tuple #[.int k a,.bool p])=.returned (.tuple #[.int k b,.bool q]):=by rw [h,hp]
theorem be4_range (bs:List UInt8):0≤be bs 4∧be bs 4 < 4294967296:=by
 have h0:=byteAt_lo bs 0;have h1:=byteAt_lo bs 1;have h2:=byteAt_lo bs 2;have h3:=byteAt_lo bs 3
 have k0:=byteAt_hi bs 0;have k1:=byteAt_hi bs 1;have k2:=byteAt_hi bs 2;have k3:=byteAt_hi bs 3
 rw [be4];omega
theorem le4_range (bs:List UInt8):0≤le bs 4 4∧le bs 4 4 < 4294967296:=by
 have h0:=byteAt_lo bs 0;have h1:=byteAt_lo bs 1;have h2:=byteAt_lo bs 2;have h3:=byteAt_lo bs 3
 have k0:=byteAt_hi bs 0;have k1:=byteAt_hi bs 1;have k2:=byteAt_hi bs 2;have k3:=byteAt_hi bs 3
 rw [le4];omega
theorem rev_be32N (bs:List UInt8) (n:Nat):rev32 (be32N bs n)=le32N bs n:=by
 unfold be32N le32N
 split
 ·exact rev_be4 bs
 ·exact rev32_eq 0 (by omega) (by omega)
set_option maxHeartbeats 400000 in
theorem be32_any (A:Option Addr) (n c B:Nat) (bs:List UInt8) (w:World) (h:Rd w B A n bs) (hn:n≤140737488355328) :
  Calls Tryz.prog 158 #[.slice A n c] w fun e w'=>e=.returned (.tuple #[.int .u32 (be32N bs n),.bool (isLen 4 n)])∧w=w':=by
 by_cases h4:n=4
 ·subst h4
  go_enter Tryz.func158,Tryz.ntmps158
  go_wp2_with (go_at_call 198;refine (gather_any _ _ _ _ _ _ h hn).mono ?_;rintro e w' ⟨rfl,rfl⟩)
  go_ret2
  exact ⟨ret_pair (by have:=be4_range bs;unfold be32N;rw [if_pos rfl];omega) rfl,rfl⟩
 ·have h5:((n:Int) != 4)=true:=by simp;omega
  go_enter Tryz.func158,Tryz.ntmps158
  go_wp2_with (go_at_call 198;refine (gather_any _ _ _ _ _ _ h hn).mono ?_;rintro e w' ⟨rfl,rfl⟩)
  go_ret2
  exact ⟨ret_pair (by simp [be32N,h4]) (by simp [isLen,h4]),rfl⟩
set_option maxHeartbeats 400000 in
theorem le32_any (A:Option Addr) (n c B:Nat) (bs:List UInt8) (w:World) (h:Rd w B A n bs) (hn:n≤140737488355328) :
  Calls Tryz.prog 107 #[.slice A n c] w fun e w'=>e=.returned (.tuple #[.int .u32 (le32N bs n),.bool (isLen 4 n)])∧w=w':=by
 go_enter Tryz.func107,Tryz.ntmps107
 go_wp2_with (first
  | (go_at_call 158;refine (be32_any _ _ _ _ _ _ h hn).mono ?_;rintro e w' ⟨rfl,rfl⟩)
  | (go_at_call 113;refine (rev_any _ _).mono ?_;rintro e w' ⟨rfl,rfl⟩))
 go_ret2
 exact ⟨ret_pair (rev_be32N bs n) rfl,rfl⟩
def rolN (w a s:Nat):Nat:=a*2 ^ s % 2 ^ w ||| a / 2 ^ (w - s)
theorem rolN_bit (w a s k:Nat) (ha:a < 2 ^ w) (hs:s < w) (hk:k < w):(rolN w a s).testBit k=a.testBit ((k+w - s) % w):=by
 have big:∀ m,w≤m→a.testBit m=false:=fun m hm=>Nat.testBit_lt_two_pow (Nat.lt_of_lt_of_le ha (Nat.pow_le_pow_right (by omega) hm))
 unfold rolN
 rw [Nat.testBit_or,Nat.testBit_mod_two_pow,Nat.testBit_mul_two_pow,Nat.testBit_div_two_pow]
 by_cases h:s≤k
 ·rw [big (k+(w - s)) (by omega)]
  have e:(k+w - s) % w=k - s:=by
   rw [show k+w - s=(k - s)+w by omega,Nat.add_mod_right,Nat.mod_eq_of_lt (by omega)]
  rw [e];simp [hk,h]
 ·have e:(k+w - s) % w=k+(w - s):=by
   rw [show k+w - s=k+(w - s) by omega,Nat.mod_eq_of_lt (by omega)]
  rw [e];simp [h]
theorem rolN_lt (w a s:Nat) (ha:a < 2 ^ w):rolN w a s < 2 ^ w:=by
 unfold rolN
 exact Nat.or_lt_two_pow (Nat.mod_lt _ (Nat.two_pow_pos _)) (Nat.lt_of_le_of_lt (Nat.div_le_self _ _) ha)
theorem eq_of_bits (w a b:Nat) (ha:a < 2 ^ w) (hb:b < 2 ^ w) (h:∀ k,k < w→a.testBit k=b.testBit k):a=b:=by
 apply Nat.eq_of_testBit_eq
 intro k
 rcases Nat.lt_or_ge k w with hk | hk
 ·exact h k hk
 ·rw [Nat.testBit_lt_two_pow (Nat.lt_of_lt_of_le ha (Nat.pow_le_pow_right (by omega) hk)),Nat.testBit_lt_two_pow (Nat.lt_of_lt_of_le hb (Nat.pow_le_pow_right (by omega) hk))]
theorem rolN_rolN (w a i j:Nat) (ha:a < 2 ^ w) (hi:i < w) (hj:j < w):rolN w (rolN w a i) j=rolN w a ((i+j) % w):=by
 have hl:(i+j) % w < w:=Nat.mod_lt _ (by omega)
 refine eq_of_bits w _ _ (rolN_lt _ _ _ (rolN_lt _ _ _ ha)) (rolN_lt _ _ _ ha) fun k hk=>?_
 have hm:(k+w - j) % w < w:=Nat.mod_lt _ (by omega)
 rw [rolN_bit w _ j k (rolN_lt _ _ _ ha) hj hk,rolN_bit w a i _ ha hi hm,rolN_bit w a _ k ha hl hk]
 congr 1
 -- all are k - i - j,by w
 rcases Nat.lt_or_ge (i+j) w with h | h
 ·rw [Nat.mod_eq_of_lt h]
  rcases Nat.lt_or_ge k j with h1 | h1
  ·rw [Nat.mod_eq_of_lt (show k+w - j < w by omega),show k+w - j+w - i=k+w - (i+j)+w by omega,Nat.add_mod_right]
  ·rw [show k+w - j=(k - j)+w by omega,Nat.add_mod_right,Nat.mod_eq_of_lt (show k - j < w by omega)]
   congr 1;omega
 ·rw [show (i+j) % w=i+j - w by rw [Nat.mod_eq_sub_mod h,Nat.mod_eq_of_lt (by omega)]]
  rcases Nat.lt_or_ge k j with h1 | h1
  ·rw [Nat.mod_eq_of_lt (show k+w - j < w by omega)]
   congr 1;omega
  ·rw [show k+w - j=(k - j)+w by omega,Nat.add_mod_right,Nat.mod_eq_of_lt (show k - j < w by omega),show k+w - (i+j - w)=k - j+w - i+w by omega,Nat.add_mod_right]
theorem rolN_zero (w a:Nat) (ha:a < 2 ^ w):rolN w a 0=a:=by
 unfold rolN
 rw [Nat.pow_zero,Nat.mul_one,Nat.mod_eq_of_lt ha,Nat.sub_zero,Nat.div_eq_of_lt ha,Nat.or_zero]
theorem cast_mul (x s m:Nat):((x*2 ^ s % m:Nat):Int)=(x:Int)*2 ^ s % (m:Int):=by
 rw [Int.natCast_emod,Int.natCast_mul,Int.natCast_pow];rfl
theorem cast_div (x s:Nat):((x / 2 ^ s:Nat):Int)=(x:Int) / 2 ^ s:=by
 rw [Int.natCast_ediv,Int.natCast_pow];rfl
theorem rol32_nat (x s:Nat) (hx:x < 4294967296) (_hs:s < 32):rol32 (x:Int) s=((rolN 32 x s:Nat):Int):=by
 unfold rol32 rolN
 have h1:x*2 ^ s % 2 ^ 32 < 4294967296:=Nat.mod_lt _ (by omega)
 have h2:x / 2 ^ (32 - s) < 4294967296:=Nat.lt_of_le_of_lt (Nat.div_le_self _ _) hx
 rw [← u32_or_nat _ _ h1 h2,cast_mul,cast_div]
 rfl
end Go.Proofs.YtbgkmicelmenfaaGreatDoor.S
namespace Go.Proofs.YtbgkmicelmenfaaGreatDoor.S
open Go.RowKit
set_option maxRecDepth 100000
theorem toNat_ofNat_lt {n:Nat} (h:n < 4294967296):(UInt32.ofNat n).toNat=n:=by rw [UInt32.toNat_ofNat'];omega
theorem wlt (x:UInt32):x.toNat < 4294967296:=x.toNat_lt
def rolW (x:UInt32) (s:Nat):UInt32:=UInt32.ofNat (rolN 32 x.toNat s)
theorem rolW_toNat (x:UInt32) (s:Nat):(rolW x s).toNat=rolN 32 x.toNat s:=toNat_ofNat_lt (rolN_lt 32 _ _ (wlt x))
theorem rol32_w (x:UInt32) (s:Nat) (h:s < 32):rol32 (x.toNat:Int) s=((rolW x s).toNat:Int):=by rw [rol32_nat _ _ (wlt x) h,rolW_toNat]
theorem rolW_rolW (x:UInt32) (i j:Nat) (hi:i < 32) (hj:j < 32):rolW (rolW x i) j=rolW x ((i+j) % 32):=by
 apply UInt32.toNat_inj.1
 rw [rolW_toNat,rolW_toNat,rolW_toNat,rolN_rolN 32 _ _ _ (wlt x) hi hj]
theorem rolW_zero (x:UInt32):rolW x 0=x:=by
 apply UInt32.toNat_inj.1
 rw [rolW_toNat,rolN_zero 32 _ (wlt x)]
def rolI (x:UInt32) (n:Int):UInt32:=rolW x (n % 32).toNat
theorem rolI_rolI (x:UInt32) (m n:Int):rolI (rolI x m) n=rolI x (m+n):=by
 unfold rolI
 rw [rolW_rolW _ _ _ (by omega) (by omega)]
 congr 1;omega
theorem rolI_zero (x:UInt32):rolI x 0=x:=rolW_zero x
theorem rolI_back (x:UInt32) (n:Int):rolI (rolI x n) (-n)=x:=by rw [rolI_rolI,show n + -n=0 by omega,rolI_zero]
theorem rolI_there (x:UInt32) (n:Int):rolI (rolI x (-n)) n=x:=by rw [rolI_rolI,show -n+n=0 by omega,rolI_zero]
def mixW (w k:UInt32):UInt32:=(((w <<< 4) ^^^ (w >>> 5))+w) ^^^ k
structure RT where
 v:Nat→Nat
 lt:∀ i,v i < 18446744073709551616
def rowsN [Inhabited RT]:List Nat:=(List.range 8).map (default:RT).v
def nib [Inhabited RT] (j f:Nat):Nat:=rowsN.getD j 0 / 2 ^ (60 - 4*f) % 16
theorem nib_lt [Inhabited RT] (j f:Nat):nib j f < 16:=Nat.mod_lt _ (by omega)
theorem rows_lt [Inhabited RT]:∀ j,j < 8→rowsN.getD j 0 < 18446744073709551616:=fun j h=>by
 have e:rowsN.getD j 0=(default:RT).v j:=by simp [rowsN,h]
 rw [e]
 exact (default:RT).lt j
def gS [Inhabited RT] (s:Nat):Nat→Nat
 | 0=>0
 | i+1=>gS s i+nib i (s / 16 ^ i % 16)*16 ^ i
theorem gS_lt [Inhabited RT] (s:Nat):∀ i,gS s i < 16 ^ i
 | 0=>by simp [gS]
 | i+1=>by
  have h1:=gS_lt s i
  have h2:=nib_lt i (s / 16 ^ i % 16)
  have h3:nib i (s / 16 ^ i % 16)*16 ^ i≤15*16 ^ i:=Nat.mul_le_mul_right _ (by omega)
  rw [gS,Nat.pow_succ]
  omega
def gU [Inhabited RT] (s:UInt32):UInt32:=UInt32.ofNat (gS s.toNat 8)
theorem gU_toNat [Inhabited RT] (s:UInt32):(gU s).toNat=gS s.toNat 8:=toNat_ofNat_lt (gS_lt _ 8)
def gW [Inhabited RT] (x k:UInt32):UInt32:=rolI (gU (x+k)) 11
inductive T3 where
 | x
 | m
 | r
deriving DecidableEq
def T3.code:T3→Int
 | .x=>4
 | .m=>5
 | .r=>8
def T3.size:T3→Nat
 | .x=>16
 | .m=>32
 | .r=>16
structure W2 where
 a:UInt32
 b:UInt32
deriving DecidableEq
def madeW [Inhabited RT]:T3→UInt32→UInt32→UInt32→UInt32
 | .x,v,w,k=>v+mixW w k
 | .m,v,w,k=>v ^^^ gW w k
 | .r,v,w,k=>rolI (v ^^^ w) (w.toNat % 32:Nat)+k
def unmadeW [Inhabited RT]:T3→UInt32→UInt32→UInt32→UInt32
 | .x,v,w,k=>v - mixW w k
 | .m,v,w,k=>v ^^^ gW w k
 | .r,v,w,k=>rolI (v - k) (-((w.toNat % 32:Nat):Int)) ^^^ w
theorem xor_xor (a b:UInt32):a ^^^ b ^^^ b=a:=by rw [UInt32.xor_assoc,UInt32.xor_self,UInt32.xor_zero]
theorem unmade_made [Inhabited RT] (t:T3) (v w k:UInt32):unmadeW t (madeW t v w k) w k=v:=by
 cases t
 ·exact UInt32.add_sub_cancel _ _
 ·exact xor_xor _ _
 ·simp only [unmadeW,madeW]
  rw [UInt32.add_sub_cancel,rolI_back,xor_xor]
theorem made_unmade [Inhabited RT] (t:T3) (v w k:UInt32):madeW t (unmadeW t v w k) w k=v:=by
 cases t
 ·exact UInt32.sub_add_cancel _ _
 ·exact xor_xor _ _
 ·simp only [unmadeW,madeW]
  rw [xor_xor,rolI_there,UInt32.sub_add_cancel]
def fwd [Inhabited RT] (t:T3) (ks:List UInt32) (x:W2):Nat→W2
 | 0=>x
 | i+1=>⟨(fwd t ks x i).b,madeW t (fwd t ks x i).a (fwd t ks x i).b (ks.getD i 0)⟩
def bwd [Inhabited RT] (t:T3) (ks:List UInt32) (n:Nat) (x:W2):Nat→W2
 | 0=>x
 | i+1=>⟨unmadeW t (bwd t ks n x i).b (bwd t ks n x i).a (ks.getD (n - 1 - i) 0),(bwd t ks n x i).a⟩
theorem bwd_fwd [Inhabited RT] (t:T3) (ks:List UInt32) (n:Nat) (x:W2):∀ i,i≤n→bwd t ks n (fwd t ks x n) i=fwd t ks x (n - i)
 | 0,_=>rfl
 | i+1,h=>by
  have ih:=bwd_fwd t ks n x i (by omega)
  rw [bwd,ih]
  obtain ⟨m,hm⟩:∃ m,n - i=m+1:=⟨n - i - 1,by omega⟩
  rw [hm,show n - 1 - i=m by omega,show n - (i+1)=m by omega]
  simp only [fwd]
  rw [unmade_made]
theorem fwd_bwd [Inhabited RT] (t:T3) (ks:List UInt32) (n:Nat) (y:W2):∀ i,i≤n→fwd t ks (bwd t ks n y n) i=bwd t ks n y (n - i)
 | 0,_=>rfl
 | i+1,h=>by
  have ih:=fwd_bwd t ks n y i (by omega)
  rw [fwd,ih]
  obtain ⟨m,hm⟩:∃ m,n - i=m+1:=⟨n - i - 1,by omega⟩
  rw [hm,show n - (i+1)=m by omega]
  simp only [bwd]
  rw [show n - 1 - m=i by omega,made_unmade]
def crs:T3→W2→W2
 | .m,x=>⟨x.b,x.a⟩
 | _,x=>x
theorem crs_crs (t:T3) (x:W2):crs t (crs t x)=x:=by cases t<;>rfl
def thereW [Inhabited RT] (t:T3) (ah:W2) (ks:List UInt32) (x:W2):W2:=crs t (fwd t ks ⟨x.a+ah.a,x.b+ah.b⟩ ks.length)
def backW [Inhabited RT] (t:T3) (ah:W2) (ks:List UInt32) (x:W2):W2:=⟨(bwd t ks ks.length (crs t x) ks.length).a - ah.a,(bwd t ks ks.length (crs t x) ks.length).b - ah.b⟩
theorem back_there [Inhabited RT] (t:T3) (ah:W2) (ks:List UInt32) (x:W2):backW t ah ks (thereW t ah ks x)=x:=by
 unfold backW thereW
 rw [crs_crs,bwd_fwd t ks _ _ _ (Nat.le_refl _),Nat.sub_self,fwd]
 simp only [UInt32.add_sub_cancel]
theorem there_back [Inhabited RT] (t:T3) (ah:W2) (ks:List UInt32) (x:W2):thereW t ah ks (backW t ah ks x)=x:=by
 unfold backW thereW
 simp only [UInt32.sub_add_cancel]
 have h:=fwd_bwd t ks ks.length (crs t x) ks.length (Nat.le_refl _)
 rw [Nat.sub_self,bwd] at h
 have e:(⟨(bwd t ks ks.length (crs t x) ks.length).a,(bwd t ks ks.length (crs t x) ks.length).b⟩:W2)=bwd t ks ks.length (crs t x) ks.length:=rfl
 rw [e,h,crs_crs]
def wd (t:T3) (l:List UInt8):UInt32:=UInt32.ofNat (match t with | .r=>(le l 4 4).toNat | _=>(be l 4).toNat)
def put (t:T3) (v:UInt32):List UInt8:=match t with | .r=>putL32 v.toNat | _=>put32 v.toNat
theorem put_length (t:T3) (v:UInt32):(put t v).length=4:=by cases t<;>rfl
theorem wd_be (l:List UInt8) (t:T3) (h:t ≠ .r):((wd t l).toNat:Int)=be l 4:=by
 have hr:=be4_range l
 have e:wd t l=UInt32.ofNat (be l 4).toNat:=by
  cases t
  ·simp only [wd]
  ·simp only [wd]
  ·exact absurd rfl h
 rw [e,toNat_ofNat_lt (by omega)]
 omega
theorem wd_le (l:List UInt8):((wd .r l).toNat:Int)=le l 4 4:=by
 have hr:=le4_range l
 have e:wd .r l=UInt32.ofNat (le l 4 4).toNat:=by simp only [wd]
 rw [e,toNat_ofNat_lt (by omega)]
 omega
theorem put_be (v:UInt32) (t:T3) (h:t ≠ .r):put t v=put32 v.toNat:=by
 cases t
 ·simp only [put]
 ·simp only [put]
 ·exact absurd rfl h
theorem byte_u8 (a b c d:Int):byteAt [u8 a,u8 b,u8 c,u8 d] 0=a % 256∧byteAt [u8 a,u8 b,u8 c,u8 d] 1=b % 256∧byteAt [u8 a,u8 b,u8 c,u8 d] 2=c % 256∧byteAt [u8 a,u8 b,u8 c,u8 d] 3=d % 256 :=
 ⟨u8_toNat a,u8_toNat b,u8_toNat c,u8_toNat d⟩
theorem wd_put (t:T3) (v:UInt32):wd t (put t v)=v:=by
 have hv:=wlt v
 apply UInt32.toNat_inj.1
 have key:((wd t (put t v)).toNat:Int)=v.toNat:=by
  by_cases h:t=.r
  ·subst h
   rw [wd_le,le4]
   have e:put .r v=putL32 v.toNat:=rfl
   rw [e]
   unfold putL32
   obtain ⟨h0,h1,h2,h3⟩:=byte_u8 (v.toNat:Int) ((v.toNat:Int) / 256) ((v.toNat:Int) / 65536) ((v.toNat:Int) / 16777216)
   rw [h0,h1,h2,h3];omega
  ·rw [wd_be _ _ h,put_be _ _ h,be4]
   unfold put32
   obtain ⟨h0,h1,h2,h3⟩:=byte_u8 ((v.toNat:Int) / 16777216) ((v.toNat:Int) / 65536) ((v.toNat:Int) / 256) (v.toNat:Int)
   rw [h0,h1,h2,h3];omega
 omega
theorem u8_byte (b:UInt8) (x:Int) (h:x % 256=(b.toNat:Int)):u8 x=b:=by
 apply UInt8.toNat_inj.1
 have:=u8_toNat x
 omega
theorem put_wd (t:T3) (l:List UInt8) (hl:l.length=4):put t (wd t l)=l:=by
 match l,hl with
 | [b0,b1,b2,b3],_ =>
  have h0:=b0.toNat_lt;have h1:=b1.toNat_lt;have h2:=b2.toNat_lt;have h3:=b3.toNat_lt
  have k0:byteAt [b0,b1,b2,b3] 0=(b0.toNat:Int):=rfl
  have k1:byteAt [b0,b1,b2,b3] 1=(b1.toNat:Int):=rfl
  have k2:byteAt [b0,b1,b2,b3] 2=(b2.toNat:Int):=rfl
  have k3:byteAt [b0,b1,b2,b3] 3=(b3.toNat:Int):=rfl
  by_cases h:t=.r
  ·subst h
   have e:put .r (wd .r [b0,b1,b2,b3])=putL32 (wd .r [b0,b1,b2,b3]).toNat:=rfl
   rw [e]
   unfold putL32
   rw [wd_le,le4,k0,k1,k2,k3]
   rw [u8_byte b0 _ (by omega),u8_byte b1 _ (by omega),u8_byte b2 _ (by omega),u8_byte b3 _ (by omega)]
  ·rw [put_be _ _ h]
   unfold put32
   rw [wd_be _ _ h,be4,k0,k1,k2,k3]
   rw [u8_byte b0 _ (by omega),u8_byte b1 _ (by omega),u8_byte b2 _ (by omega),u8_byte b3 _ (by omega)]
def part (bs:List UInt8) (i:Nat):List UInt8:=(bs.drop (4*i)).take 4
def inW (t:T3) (b:List UInt8):W2:=⟨wd t (part b 0),wd t (part b 1)⟩
def outW (t:T3) (x:W2):List UInt8:=put t x.a++put t x.b
theorem outW_length (t:T3) (x:W2):(outW t x).length=8:=by simp [outW,put_length]
theorem in_out (t:T3) (x:W2):inW t (outW t x)=x:=by
 have h1:part (outW t x) 0=put t x.a:=by
  unfold part outW
  rw [show 4*0=0 from rfl,List.drop_zero,List.take_append_of_le_length (by rw [put_length];omega),List.take_of_length_le (by rw [put_length];omega)]
 have h2:part (outW t x) 1=put t x.b:=by
  unfold part outW
  rw [List.drop_append_of_le_length (by rw [put_length];omega),List.drop_eq_nil_of_le (by rw [put_length];omega),List.nil_append,List.take_of_length_le (by rw [put_length];omega)]
 unfold inW
 rw [h1,h2,wd_put,wd_put]
theorem out_in (t:T3) (b:List UInt8) (hb:b.length=8):outW t (inW t b)=b:=by
 unfold outW inW
 rw [put_wd t _ (by simp [part];omega),put_wd t _ (by simp [part];omega)]
 unfold part
 rw [show 4*0=0 from rfl,List.drop_zero,show 4*1=4 from rfl,List.take_of_length_le (l:=b.drop 4) (by simp;omega)]
 exact List.take_append_drop 4 b
def gold:UInt32:=0x9E3779B9
def sumX (i:Nat):UInt32:=UInt32.ofNat (i*2654435769)
theorem sumX_succ (i:Nat):sumX (i+1)=sumX i+gold:=by
 unfold sumX gold
 apply UInt32.toNat_inj.1
 rw [UInt32.toNat_add,UInt32.toNat_ofNat',UInt32.toNat_ofNat']
 have:(0x9E3779B9:UInt32).toNat=2654435769:=rfl
 rw [this]
 omega
def keyX (k:Nat→UInt32) (j:Nat):UInt32:=if j % 2=0 then sumX (j / 2)+k ((sumX (j / 2)).toNat % 4) else sumX (j / 2+1)+k ((sumX (j / 2+1)).toNat / 2048 % 4)
def keyM (k:Nat→UInt32) (j:Nat):UInt32:=if j < 24 then k (j % 8) else k (31 - j)
structure R5 where
 s:List UInt32
 l:List UInt32
 a:UInt32
 b:UInt32
deriving DecidableEq
def rcA (z:R5) (n:Nat):UInt32:=rolI (z.s.getD (n % 26) 0+z.a+z.b) 3
def rcB (z:R5) (n:Nat) (a:UInt32):UInt32:=rolI (z.l.getD (n % 4) 0+a+z.b) ((a+z.b).toNat % 32:Nat)
def rcStep (n:Nat) (z:R5):R5:=⟨z.s.set (n % 26) (rcA z n),z.l.set (n % 4) (rcB z n (rcA z n)),rcA z n,rcB z n (rcA z n)⟩
def rcAt (z:R5):Nat→R5
 | 0=>z
 | n+1=>rcStep n (rcAt z n)
def rc0 (i:Nat):UInt32:=0xB7E15163+UInt32.ofNat i*gold
def rcBegin (l:List UInt32):R5:=⟨(List.range 26).map rc0,l,0,0⟩
theorem rcAt_len (l:List UInt32):∀ n,(rcAt (rcBegin l) n).s.length=26∧(rcAt (rcBegin l) n).l.length=l.length
 | 0=>⟨rfl,rfl⟩
 | n+1=>by simp [rcAt,rcStep,rcAt_len l n]
def kw (t:T3) (key:List UInt8) (i:Nat):UInt32:=wd t (part key i)
def words (t:T3) (bs:List UInt8) (n:Nat):List UInt32:=(List.range n).map (kw t bs)
theorem words_length (t:T3) (bs:List UInt8) (n:Nat):(words t bs n).length=n:=by simp [words]
theorem words_get (t:T3) (bs:List UInt8) (n j:Nat) (h:j < n):(words t bs n).getD j 0=kw t bs j:=by simp [words,h]
def rc5S (key:List UInt8):List UInt32:=(rcAt (rcBegin (words .r key 4)) 78).s
theorem rc5S_length (key:List UInt8):(rc5S key).length=26:=(rcAt_len _ 78).1
def nKeys:T3→Nat
 | .x=>64
 | .m=>32
 | .r=>24
def keysOf:T3→List UInt8→List UInt32
 | .x,key=>(List.range 64).map (keyX (kw .x key))
 | .m,key=>(List.range 32).map (keyM (kw .m key))
 | .r,key=>(rc5S key).drop 2
theorem keysOf_length (t:T3) (key:List UInt8):(keysOf t key).length=nKeys t:=by
 cases t<;>simp [keysOf,nKeys,rc5S_length]
def aheadOf:T3→List UInt8→W2
 | .r,key=>⟨(rc5S key).getD 0 0,(rc5S key).getD 1 0⟩
 | _,_=>⟨0,0⟩
def turnW [Inhabited RT] (t:T3) (key:List UInt8) (back:Bool) (x:W2):W2:=if back then backW t (aheadOf t key) (keysOf t key) x else thereW t (aheadOf t key) (keysOf t key) x
def blockL [Inhabited RT] (t:T3) (key:List UInt8) (back:Bool) (b:List UInt8):List UInt8:=outW t (turnW t key back (inW t b))
theorem blockL_length [Inhabited RT] (t:T3) (key:List UInt8) (back:Bool) (b:List UInt8):(blockL t key back b).length=8:=outW_length _ _
theorem block_back [Inhabited RT] (t:T3) (key:List UInt8) (back:Bool) (b:List UInt8) (hb:b.length=8):blockL t key (!back) (blockL t key back b)=b:=by
 unfold blockL
 rw [in_out]
 have h:turnW t key (!back) (turnW t key back (inW t b))=inW t b:=by
  cases back
  ·exact back_there _ _ _ _
  ·exact there_back _ _ _ _
 rw [h,out_in t b hb]
end Go.Proofs.YtbgkmicelmenfaaGreatDoor.S
namespace Go.Proofs.YtbgkmicelmenfaaGreatDoor.S
open Go.RowKit
set_option maxRecDepth 100000
theorem w_xor (a b:UInt32):bits .xor .u32 (a.toNat:Int) (b.toNat:Int)=((a ^^^ b).toNat:Int):=by
 rw [u32_xor_nat _ _ (wlt a) (wlt b),UInt32.toNat_xor]
theorem w_add (a b:UInt32):((a.toNat:Int)+(b.toNat:Int)) % 4294967296=((a+b).toNat:Int):=by
 rw [UInt32.toNat_add];omega
theorem w_sub (a b:UInt32):((a.toNat:Int) - (b.toNat:Int)) % 4294967296=((a - b).toNat:Int):=by
 have h1:=wlt a
 have h2:=wlt b
 rw [UInt32.toNat_sub];omega
theorem w_shl4 (a:UInt32):(a.toNat:Int)*(16:Int) % (4294967296:Int)=(((a <<< 4:UInt32).toNat:Nat):Int):=by
 rw [UInt32.toNat_shiftLeft,show (4:UInt32).toNat % 32=4 from rfl,Nat.shiftLeft_eq];omega
theorem w_shr5 (a:UInt32):(a.toNat:Int) / (32:Int)=(((a >>> 5:UInt32).toNat:Nat):Int):=by
 rw [UInt32.toNat_shiftRight,show (5:UInt32).toNat % 32=5 from rfl,Nat.shiftRight_eq_div_pow];omega
theorem w_mix (v k:UInt32):bits .xor .u32 ((bits .xor .u32 ((v.toNat:Int)*16 % 4294967296) ((v.toNat:Int) / 32)+v.toNat) % 4294967296) (k.toNat:Int)=((mixW v k).toNat:Int):=by
 rw [w_shl4,w_shr5,w_xor,w_add,w_xor];rfl
theorem rol_w (x:UInt32) (n:Int) (w:World) :
  Calls Tryz.prog 111 #[.int .u32 (x.toNat:Nat),.int .i64 n] w fun e w'=>e=.returned (.int .u32 ((rolI x n).toNat:Nat))∧w=w':=by
 refine (rol_any _ _ _).mono ?_
 rintro e w' ⟨rfl,rfl⟩
 exact ⟨ret_int (rol32_w _ _ (by omega)),rfl⟩
theorem rrol_w (x:UInt32) (n:Int) (w:World) :
  Calls Tryz.prog 134 #[.int .u32 (x.toNat:Nat),.int .i64 n] w fun e w'=>e=.returned (.int .u32 ((rolI x n).toNat:Nat))∧w=w':=by
 refine (rrl32 _ _ _).mono ?_
 rintro e w' ⟨rfl,rfl⟩
 exact ⟨ret_int (rol32_w _ _ (by omega)),rfl⟩
set_option maxHeartbeats 400000 in
theorem mix_any (v k:UInt32) (w:World) :
  Calls Tryz.prog 175 #[.int .u32 (v.toNat:Nat),.int .u32 (k.toNat:Nat)] w fun e w'=>e=.returned (.int .u32 ((mixW v k).toNat:Nat))∧w=w':=by
 have h1:=wlt v
 have h2:=wlt k
 go_enter Tryz.func175,Tryz.ntmps175
 go_wp2
 go_ret
 exact ⟨ret_int (w_mix v k),rfl⟩
set_option maxHeartbeats 400000 in
theorem turnOf_any (v:UInt32) (w:World) :
  Calls Tryz.prog 123 #[.int .u32 (v.toNat:Nat)] w fun e w'=>e=.returned (.int .i64 (v.toNat % 32:Nat))∧w=w':=by
 have h1:=wlt v
 go_enter Tryz.func123,Tryz.ntmps123
 go_wp2
 go_ret
 exact ⟨ret_int (by omega),rfl⟩
def GRows [Inhabited RT] (w:World):Prop:=∀ j,j < 8→w.cell? ⟨9,j,none⟩=some (.int .u64 (rowsN.getD j 0:Nat))
theorem GRows.later [Inhabited RT] {w w':World} (h:GRows w) (hx:Ext w w'):GRows w':=fun j hj =>
 (Below.cell hx (p:=⟨9,j,none⟩) (World.block_lt_of_cell? w _ (h j hj))).trans (h j hj)
def rowsC [Inhabited RT]:List Value:=rowsN.map fun n=>.int .u64 (n:Nat)
theorem rowsC_get [Inhabited RT] (j:Nat) (h:j < 8):rowsC[j]? = some (.int .u64 (rowsN.getD j 0:Nat)):=by
 have hl:j < rowsN.length:=by simpa [rowsN] using h
 unfold rowsC
 rw [List.getElem?_map,List.getElem?_eq_getElem hl]
 simp [List.getD,hl]
theorem size72:∀ w,(sizeOf 261).run Tryz.prog w=.ok 8 w:=by intro w;kernel_rfl
theorem agg72:∀ w,(isAgg 261).run Tryz.prog w=.ok true w:=by intro w;kernel_rfl
theorem load_rows [Inhabited RT] {w:World} (h:GRows w):(loadVar 261 ⟨9,0,none⟩).run Tryz.prog w=.ok (.agg rowsC.toArray) w:=by
 have hl:(loadCells ⟨9,0,none⟩ rowsC.length).run Tryz.prog w=.ok rowsC.toArray w :=
  run_loadCells_list (P:=Tryz.prog) w ⟨9,0,none⟩ rowsC (fun j v hv=>by
   have hj:j < 8:=by
    rcases Nat.lt_or_ge j 8 with hj | hj
    ·exact hj
    ·rw [List.getElem?_eq_none (by simpa [rowsC,rowsN] using hj)] at hv;cases hv
   rw [rowsC_get j hj] at hv
   rw [add_off,Nat.zero_add,h j hj];exact hv)
 unfold loadVar
 simp only [Sem.run_bind,agg72,size72,Result.andThen_ok,if_true]
 have e:rowsC.length=8:=by simp [rowsC,rowsN]
 rw [e] at hl
 simp only [hl,Result.andThen_ok,Sem.run_pure]
theorem exec_rows [Inhabited RT] {o:Oper} {a:Act} {w:World} (ho:o.op=.load 261 (.global 9)) (h:GRows w) :
  (execOp a.eval o).run Tryz.prog w=.ok (.value (.agg rowsC.toArray)) w:=by
 have h1:=load_rows h
 unfold execOp
 simp only [ho,Act.eval,Instr.loadAt,Instr.sureAddr,Sem.run_bind,Sem.run_pure,Result.andThen_ok,h1]
theorem run_index72 [Inhabited RT] (w:World) (k:Nat) (hk:k < 8) :
  (Instr.index 261 (.agg rowsC.toArray) (.int .i64 k)).run Tryz.prog w=.ok (.int .u64 (rowsN.getD k 0:Nat)) w:=by
 have hc:=rowsC_get k hk
 simp only [Instr.index,asIntOf,Sem.run_bind,Sem.run_pure,Result.andThen_ok,run_underlying Tryz.underlying261]
 rw [if_pos ⟨by omega,by omega⟩]
 simp [Go.part,hc]
theorem wpList_rows [Inhabited RT] {ops:Array Oper} {rest:List Oper} {o:Oper} {a:Act} {w:World} {Q:Exit→Act→World→Prop} (hgd:o.guard=none) (ho:o.op=.load 261 (.global 9)) (h:GRows w)
  (hk:wpList Tryz.prog ops Q rest (a.put o.dst (.agg rowsC.toArray)) w):wpList Tryz.prog ops Q (o::rest) a w:=by
 refine wpList_plain hgd fun K hK'=>?_
 unfold Oper.wp
 rw [exec_rows ho h]
 exact hK' _ _ hk
set_option maxHeartbeats 1000000 in
theorem g_any [Inhabited RT] (x k:UInt32) (w:World) (hG:GRows w) :
  Calls Tryz.prog 176 #[.int .u32 (x.toNat:Nat),.int .u32 (k.toNat:Nat)] w fun e w'=>e=.returned (.int .u32 ((gW x k).toNat:Nat))∧w=w':=by
 have h1:=wlt x
 have h2:=wlt k
 have hs:=w_add x k
 obtain ⟨S,hS⟩:∃ S,x+k=S:=⟨_,rfl⟩
 rw [hS] at hs
 have hS2:=wlt S
 have HS:=hid hS
 clear hS
 have HG:=hid hG
 clear hG
 go_enter Tryz.func176,Tryz.ntmps176
 go_wp2_with (refine wpList_rows rfl rfl HG.out ?_)
 go_loop [6,14] (fun v i=>∃ j:Nat,j≤8∧i=.int .i64 j∧v=.int .u32 (gS S.toNat j:Nat)) (fun _ i=>8 - (intOf i).toNat)
 case atStart=>exact ⟨0,Nat.zero_le _,rfl,rfl⟩
 case round =>
  obtain ⟨j,hj,rfl,rfl⟩:=hrel
  by_cases hlt:j < 8
  ·have hI:=fun w=>run_index72 w j hlt
   have hR:=rows_lt j hlt
   obtain ⟨R,hRe⟩:∃ R,rowsN.getD j 0=R:=⟨_,rfl⟩
   have hst:gS S.toNat (j+1)=gS S.toNat j+R / 2 ^ (60 - 4*(S.toNat / 16 ^ j % 16)) % 16*16 ^ j:=by rw [← hRe];rfl
   have ho:=gS_lt S.toNat j
   have hn:=gS_lt S.toNat (j+1)
   have hd:bits .and .u32 ((S.toNat:Int) / 2 ^ (4*j)) 15=((S.toNat / 16 ^ j % 16:Nat):Int):=by
    rw [← cast_div,Nat.pow_mul,show (15:Int)=((15:Nat):Int) from rfl,u32_and_nat _ _ (Nat.lt_of_le_of_lt (Nat.div_le_self _ _) hS2) (by omega),nat_mask4]
   obtain ⟨f,hf⟩:∃ f,S.toNat / 16 ^ j % 16=f:=⟨_,rfl⟩
   have hf16:f≤15:=by omega
   rw [hf] at hd hst
   rw [hRe] at hI hR
   have hR2:(R:Int) < 18446744073709551616:=by omega
   have hq:bits .and .u32 ((R:Int) / 2 ^ (60 - 4*f) % 4294967296) 15=((R / 2 ^ (60 - 4*f) % 16:Nat):Int):=by
    have e:(R:Int) / 2 ^ (60 - 4*f) % 4294967296=((R / 2 ^ (60 - 4*f) % 4294967296:Nat):Int):=by rw [← cast_div];omega
    rw [e,show (15:Int)=((15:Nat):Int) from rfl,u32_and_nat _ _ (by omega) (by omega),nat_mask4]
    omega
   obtain ⟨q,hqe⟩:∃ q,R / 2 ^ (60 - 4*f) % 16=q:=⟨_,rfl⟩
   have hq16:q≤15:=by omega
   rw [hqe] at hq hst
   have hor:bits .or .u32 ((gS S.toNat j:Nat):Int) ((q:Int)*2 ^ (4*j) % 4294967296)=((gS S.toNat (j+1):Nat):Int):=by
    have e2:16 ^ (j+1)≤16 ^ 8:=Nat.pow_le_pow_right (by omega) (by omega)
    have e0:q*16 ^ j < 4294967296:=by omega
    have e1:(q:Int)*2 ^ (4*j) % 4294967296=((16 ^ j*q:Nat):Int):=by
     have:(q:Int)*2 ^ (4*j)=((q*16 ^ j:Nat):Int):=by
      rw [Int.natCast_mul,Int.natCast_pow,Int.pow_mul];rfl
     rw [this,Nat.mul_comm]
     rw [Nat.mul_comm] at e0
     omega
    have e3:gS S.toNat j ||| 16 ^ j*q=gS S.toNat (j+1):=by
     have h4:(16:Nat) ^ j=2 ^ (4*j):=by rw [Nat.pow_mul]
     rw [hst,Nat.mul_comm q,h4,Nat.or_comm,Nat.add_comm]
     rw [h4] at ho
     exact (Nat.two_pow_add_eq_or_of_lt ho q).symm
    rw [e1,u32_or_nat _ _ (by omega) (by rw [Nat.mul_comm];exact e0),e3]
   have HO:=hid hor
   clear hs hRe hst hf hqe hn hor hR2
   obtain ⟨g,hg⟩:∃ g,gS S.toNat j=g:=⟨_,rfl⟩
   obtain ⟨g1,hg1⟩:∃ g1,gS S.toNat (j+1)=g1:=⟨_,rfl⟩
   have HG1:=hid hg1
   rw [hg,hg1] at HO
   have e9:(16:Nat) ^ j≤16 ^ 8:=Nat.pow_le_pow_right (by omega) (by omega)
   have hgl:g < 4294967296:=by rw [← hg];omega
   rw [hg]
   clear hg hg1 ho e9
   go_wp2_with (rw [hI];simp only [Result.andThen];rw [Oper.upon_value])
   go_round
   case rel=>exact ⟨j+1,by omega,by go_num,by rw [HO.out,HG1.out]⟩
   case measure=>simp [intOf];omega
  ·obtain rfl:j=8:=by omega
   rw [← gU_toNat]
   go_wp2_with (go_at_call 111;refine (rol_w (gU S) 11 _).mono ?_;rintro e w' ⟨rfl,rfl⟩)
   go_ret
   exact ⟨ret_int (by rw [← HS.out];rfl),rfl⟩
end Go.Proofs.YtbgkmicelmenfaaGreatDoor.S
namespace Go.Proofs.YtbgkmicelmenfaaGreatDoor.S
open Go.RowKit
set_option maxRecDepth 100000
set_option maxHeartbeats 1000000 in
theorem made_any [Inhabited RT] (t:T3) (v u k:UInt32) (w:World) (hG:GRows w) :
  Calls Tryz.prog 126 #[.int .i64 t.code,.int .u32 (v.toNat:Nat),.int .u32 (u.toNat:Nat),.int .u32 (k.toNat:Nat)] w fun e w'=>e=.returned (.int .u32 ((madeW t v u k).toNat:Nat))∧w=w':=by
 have h1:=wlt v
 have h2:=wlt u
 have h3:=wlt k
 have HG:=hid hG
 clear hG
 cases t
 ·show Calls Tryz.prog 126 #[.int .i64 4,_,_,_] w _
  have hr:=w_add v (mixW u k)
  go_enter Tryz.func126,Tryz.ntmps126
  go_wp2_with (go_at_call 175;refine (mix_any u k _).mono ?_;rintro e w' ⟨rfl,rfl⟩)
  go_ret
  exact ⟨ret_int rfl,rfl⟩
 ·show Calls Tryz.prog 126 #[.int .i64 5,_,_,_] w _
  have hr:=w_xor v (gW u k)
  go_enter Tryz.func126,Tryz.ntmps126
  go_wp2_with (go_at_call 176;refine (g_any u k _ HG.out).mono ?_;rintro e w' ⟨rfl,rfl⟩)
  go_ret
  exact ⟨ret_int rfl,rfl⟩
 ·show Calls Tryz.prog 126 #[.int .i64 8,_,_,_] w _
  have hx:=w_xor v u
  have hr:=w_add (rolI (v ^^^ u) (u.toNat % 32:Nat)) k
  go_enter Tryz.func126,Tryz.ntmps126
  go_wp2_with (first
   | (go_at_call 123;refine (turnOf_any u _).mono ?_;rintro e w' ⟨rfl,rfl⟩)
   | (go_at_call 111;refine (rol_w (v ^^^ u) (u.toNat % 32:Nat) _).mono ?_;rintro e w' ⟨rfl,rfl⟩))
  go_ret
  exact ⟨ret_int rfl,rfl⟩
set_option maxHeartbeats 1000000 in
theorem unmade_any [Inhabited RT] (t:T3) (v u k:UInt32) (w:World) (hG:GRows w) :
  Calls Tryz.prog 125 #[.int .i64 t.code,.int .u32 (v.toNat:Nat),.int .u32 (u.toNat:Nat),.int .u32 (k.toNat:Nat)] w fun e w'=>e=.returned (.int .u32 ((unmadeW t v u k).toNat:Nat))∧w=w':=by
 have h1:=wlt v
 have h2:=wlt u
 have h3:=wlt k
 have HG:=hid hG
 clear hG
 cases t
 ·show Calls Tryz.prog 125 #[.int .i64 4,_,_,_] w _
  have hr:=w_sub v (mixW u k)
  go_enter Tryz.func125,Tryz.ntmps125
  go_wp2_with (go_at_call 175;refine (mix_any u k _).mono ?_;rintro e w' ⟨rfl,rfl⟩)
  go_ret
  exact ⟨ret_int hr,rfl⟩
 ·show Calls Tryz.prog 125 #[.int .i64 5,_,_,_] w _
  have hr:=w_xor v (gW u k)
  go_enter Tryz.func125,Tryz.ntmps125
  go_wp2_with (go_at_call 176;refine (g_any u k _ HG.out).mono ?_;rintro e w' ⟨rfl,rfl⟩)
  go_ret
  exact ⟨ret_int rfl,rfl⟩
 ·show Calls Tryz.prog 125 #[.int .i64 8,_,_,_] w _
  have hx:=w_sub v k
  have hr:=w_xor (rolI (v - k) (-((u.toNat % 32:Nat):Int))) u
  go_enter Tryz.func125,Tryz.ntmps125
  go_wp2_with (first
   | (go_at_call 123;refine (turnOf_any u _).mono ?_;rintro e w' ⟨rfl,rfl⟩)
   | (go_at_call 111;refine (rol_w (v - k) (-((u.toNat % 32:Nat):Int)) _).mono ?_;rintro e w' ⟨rfl,rfl⟩))
  go_ret
  exact ⟨ret_int (by rw [Int.natCast_emod] at hr;exact hr),rfl⟩
theorem cell_of_heap {w:World} {g i:Nat} {cs:Array Value} {e:TypeId} {f:Nat×Nat} (h:w.heap[g]? = some (.cells cs e f)):w.cell? ⟨g,i,none⟩=cs[i]?:=cell_of_row w g i cs e f h
theorem cell_at {w w':World} {p:Addr} {v:Value} (hx:Ext w w') (h:w.cell? p=some v):w'.cell? p=some v:=(Below.cell hx (World.block_lt_of_cell? w _ h)).trans h
def W2.cells (x:W2):Array Value:=#[.int .u32 (x.a.toNat:Nat),.int .u32 (x.b.toNat:Nat)]
theorem W2.size (x:W2):(Tryz.prog.info? 143).map (·.size)=some x.cells.size:=by
 have h:(Tryz.prog.info? 143).map (·.size)=some 2:=by kernel_rfl
 rw [h];rfl
theorem W2.all (x:W2):x.cells.all (·.oneCell')=true:=by simp [W2.cells,Value.oneCell']
def B2 (w:World) (g:Nat) (x:W2):Prop:=w.heap[g]? = some (.cells x.cells 143 (0,0))
section
variable {w w':World} {g:Nat} {x:W2}
theorem B2.lt (h:B2 w g x):g < w.heap.size:=(Array.getElem?_eq_some_iff.1 h).1
theorem B2.later (h:B2 w g x) (hx:Ext w w'):B2 w' g x:=(hx.block g h.lt).trans h
theorem B2.ca (h:B2 w g x):w.cell? ⟨g,0,none⟩=some (.int .u32 (x.a.toNat:Nat)):=by rw [cell_of_heap h];rfl
theorem B2.cb (h:B2 w g x):w.cell? ⟨g,1,none⟩=some (.int .u32 (x.b.toNat:Nat)):=by rw [cell_of_heap h];rfl
theorem B2.frozen (h:B2 w g x) (k:Nat):w.frozen? ⟨g,k,none⟩=false:=frozen_of_row w g k _ 143 h
theorem B2.setne (h:B2 w g x) (p:Addr) (v:Value) (hne:g ≠ p.block):B2 (w.setCell p v) g x:=(heap_setCell_other w p g v hne).trans h
theorem B2.put (h:B2 w g x) (y:W2):B2 (w.setRow g y.cells) g y:=setRow_heap w g _ _ 143 (0,0) h
theorem B2.putne (h:B2 w g x) (k:Nat) (cs:Array Value) (hne:g ≠ k):B2 (w.setRow k cs) g x:=(setRow_other w k g cs hne).trans h
end
theorem ret_cell {fn:Func} {R:Ending→World→Prop} {a:Act} {w:World} {p:Tmp} {ty e:TypeId} {N:Nat} (hres:fn.results=#[.cell p ty]) (hd:a.defers = []) (g:Nat) (t:TypeId) (cs:Array Value) (fr:Nat×Nat)
  (hp:a.tmps.getD p undef=.pointer (some ⟨g,0,none⟩)) (hg:w.heap[g]? = some (.cells cs t fr)) (hu:Tryz.prog.underlying ty=some (.array N e))
  (hi:(Tryz.prog.info? ty).map (·.size)=some cs.size) (h:R (.returned (.agg cs)) w) :
  bodyPost Tryz.prog fn R .ret a w:=bodyPost_ret (results_cell_row hres _ _ g t cs fr _ hp hg hu rfl hi) hd h
def Ret2 (w:World) (y:W2) (e:Ending) (w':World):Prop:=e=.returned (.agg y.cells)∧Ext w w'
set_option maxHeartbeats 1000000 in
theorem crossed_any (t:T3) (x:W2) (w:World) :
  Calls Tryz.prog 124 #[.int .i64 t.code,.agg x.cells] w (Ret2 w (crs t x)):=by
 obtain ⟨a,b⟩:=x
 have hx:∀ y:W2,Ext w ((w.alloc (.cells y.cells 143)).alloc (.cells y.cells 143)):=fun y=>(Ext.alloc w (.cells y.cells 143)).trans (Ext.alloc _ (.cells y.cells 143))
 have hh:∀ y:W2,((w.alloc (.cells y.cells 143)).alloc (.cells y.cells 143)).heap[w.heap.size+1]? = some (.cells y.cells 143 (0,0)):=fun y=>heap_alloc2_new _ _ _
 have HX:=hid hx
 have HH:=hid hh
 clear hx hh
 cases t
 ·show Calls Tryz.prog 124 #[.int .i64 4,.agg #[.int .u32 (a.toNat:Nat),.int .u32 (b.toNat:Nat)]] w _
  go_enter Tryz.func124,Tryz.ntmps124
  go_wp2_with fail
  exact ret_cell rfl rfl (w.heap.size+1) 143 _ (0,0) rfl (HH.out ⟨a,b⟩) Tryz.underlying143 (W2.size _) ⟨rfl,HX.out ⟨a,b⟩⟩
 ·show Calls Tryz.prog 124 #[.int .i64 5,.agg #[.int .u32 (a.toNat:Nat),.int .u32 (b.toNat:Nat)]] w _
  go_enter Tryz.func124,Tryz.ntmps124
  go_wp2_with fail
  exact ret_cell rfl rfl (w.heap.size+1) 143 _ (0,0) rfl (HH.out ⟨b,a⟩) Tryz.underlying143 (W2.size _) ⟨rfl,HX.out ⟨b,a⟩⟩
 ·show Calls Tryz.prog 124 #[.int .i64 8,.agg #[.int .u32 (a.toNat:Nat),.int .u32 (b.toNat:Nat)]] w _
  go_enter Tryz.func124,Tryz.ntmps124
  go_wp2_with fail
  exact ret_cell rfl rfl (w.heap.size+1) 143 _ (0,0) rfl (HH.out ⟨a,b⟩) Tryz.underlying143 (W2.size _) ⟨rfl,HX.out ⟨a,b⟩⟩
end Go.Proofs.YtbgkmicelmenfaaGreatDoor.S
namespace Go.Proofs.YtbgkmicelmenfaaGreatDoor.S
open Go.RowKit
set_option maxRecDepth 100000
def KW (w:World) (b o:Nat) (ks:List UInt32):Prop:=∀ j,j < ks.length→w.cell? ⟨b,o+j,none⟩=some (.int .u32 ((ks.getD j 0).toNat:Nat))
theorem KW.later {w w':World} {b o:Nat} {ks:List UInt32} (h:KW w b o ks) (hx:Ext w w'):KW w' b o ks:=fun j hj=>cell_at hx (h j hj)
structure Small_ (w:World) (p b o c:Nat) (t:T3) (ah:W2) (ks:List UInt32):Prop where
 tag:w.cell? ⟨p,0,none⟩=some (.int .i64 t.code)
 a0:w.cell? ⟨p,1,none⟩=some (.int .u32 (ah.a.toNat:Nat))
 a1:w.cell? ⟨p,2,none⟩=some (.int .u32 (ah.b.toNat:Nat))
 keys:w.cell? ⟨p,3,none⟩=some (.slice (some ⟨b,o,none⟩) ks.length c)
 room:ks.length≤c
 at_:KW w b o ks
theorem Small_.later {w w':World} {p b o c:Nat} {t:T3} {ah:W2} {ks:List UInt32} (h:Small_ w p b o c t ah ks) (hx:Ext w w'):Small_ w' p b o c t ah ks :=
 ⟨cell_at hx h.tag,cell_at hx h.a0,cell_at hx h.a1,cell_at hx h.keys,h.room,h.at_.later hx⟩
def IsSmall (w:World) (p:Nat) (t:T3) (ah:W2) (ks:List UInt32):Prop:=∃ b o c,Small_ w p b o c t ah ks
theorem IsSmall.later {w w':World} {p:Nat} {t:T3} {ah:W2} {ks:List UInt32} (h:IsSmall w p t ah ks) (hx:Ext w w'):IsSmall w' p t ah ks:=by
 obtain ⟨b,o,c,h⟩:=h
 exact ⟨b,o,c,h.later hx⟩
theorem quietSame {P:Program} {f:FuncId} {args:Array Value} {w:World} {n:Nat} {v:Value}
  (h:Calls P f args (w.drewN n) fun e w'=>e=.returned v∧w.drewN n=w'):Calls P f args (w.drewN n) fun e w''=>e=.returned v∧∃ m,w'' = w.drewN m :=
 h.mono fun _ _ ⟨he,hm⟩=>⟨he,n,hm.symm⟩
def iAt (k:Nat) (a:Act):Nat:=match a.tmps.getD k undef with | .int _ q=>q.toNat | _=>0
structure TurnS [Inhabited RT] (p b o c:Nat) (t:T3) (ah:W2) (ks:List UInt32) (G:Nat) (w w1:World):Prop where
 ext:Ext w w1
 sm:Small_ w1 p b o c t ah ks
 res:B2 w1 (G+1) ⟨0,0⟩
 rows:GRows w1
def TurnJ [Inhabited RT] (p b o c:Nat) (t:T3) (ah:W2) (ks:List UInt32) (x:W2) (G:Nat) (w:World) (a:Act) (w1:World):Prop :=
 ∃ (i:Nat) (y:W2) (u8 u9 u10 u11 u12 u13 u14 u15 u16 u17 u18 u19 u20 u21 u22 u23 u24 u25 u26 u27 u28 u29 u30 u31 u32 u33 u34 u35 u36 u37 u38 u39 u40 u41 u42 u43 u44 u45 u46 u47 u48 u49 u50 u51 u52 u53 u54 u55:Value),
  a = { tmps:=#[.pointer (some ⟨p,0,none⟩),.agg x.cells,undef,.pointer (some ⟨G,0,none⟩),.pointer (some ⟨G+1,0,none⟩),.int .u32 (y.a.toNat:Nat),.int .u32 (y.b.toNat:Nat),.int .i64 i,u8,u9,u10,u11,u12,u13,u14,u15,u16,u17,u18,u19,u20,u21,u22,u23,u24,u25,u26,u27,u28,u29,u30,u31,u32,u33,u34,u35,u36,u37,u38,u39,u40,u41,u42,u43,u44,u45,u46,u47,u48,u49,u50,u51,u52,u53,u54,u55],defers:=[] }∧i≤ks.length ∧
  y=fwd t ks ⟨x.a+ah.a,x.b+ah.b⟩ i∧TurnS p b o c t ah ks G w w1
set_option maxHeartbeats 4000000 in
theorem turn_any [Inhabited RT] (p b o c:Nat) (t:T3) (ah:W2) (ks:List UInt32) (x:W2) (w:World) (hs:Small_ w p b o c t ah ks) (hn:ks.length≤1000) (hG:GRows w) :
  Calls Tryz.prog 73 #[.pointer (some ⟨p,0,none⟩),.agg x.cells] w (Ret2 w (thereW t ah ks x)):=by
 have h1:=heap_alloc2_old w (.cells x.cells 143) (.cells #[.int .u32 0,.int .u32 0] 143)
 have h2:=heap_alloc2_new w (.cells x.cells 143) (.cells #[.int .u32 0,.int .u32 0] 143)
 have h3:=(Ext.alloc w (.cells x.cells 143)).trans (Ext.alloc _ (.cells #[.int .u32 0,.int .u32 0] 143))
 have HS:=hid hs
 have HGR:=hid hG
 clear hs hG
 go_enter Tryz.func73,Tryz.ntmps73
 go_wp2_with fail
 refine wp_scope_jumps2 0 (TurnJ p b o c t ah ks x w.heap.size w) (fun a _=>ks.length - iAt 7 a) rfl ?_ ?_
 ·clear h1 h2 h3 HS HGR
  obtain ⟨G,hGe⟩:∃ G,w.heap.size=G:=⟨_,rfl⟩
  rw [hGe]
  have HGE:=hid hGe
  clear hGe
  rintro a w1 ⟨i,y,u8,u9,u10,u11,u12,u13,u14,u15,u16,u17,u18,u19,u20,u21,u22,u23,u24,u25,u26,u27,u28,u29,u30,u31,u32,u33,u34,u35,u36,u37,u38,u39,u40,u41,u42,u43,u44,u45,u46,u47,u48,u49,u50,u51,u52,u53,u54,u55,rfl,hi,hy,hS⟩
  have HSM:=hid hS.sm
  have ct:=hS.sm.tag
  have ck:=hS.sm.keys
  have hroom:=hS.sm.room
  by_cases hlt:i < ks.length
  ·have hcell:=hS.sm.at_ i hlt
   obtain ⟨k,hk⟩:∃ k,ks.getD i 0=k:=⟨_,rfl⟩
   rw [hk] at hcell
   have hst:fwd t ks ⟨x.a+ah.a,x.b+ah.b⟩ (i+1)=⟨y.b,madeW t y.a y.b k⟩:=by rw [fwd,hk,← hy]
   have HST:=hid hst
   have hm:=fun n=>made_any t y.a y.b k (w1.drewN n) hS.rows
   have HR:=hid hS.res
   have HX:=hid hS.ext
   have HRO:=hid hS.rows
   have b1:=wlt y.a
   have b2:=wlt y.b
   obtain ⟨T,hT⟩:∃ T,t.code=T:=⟨_,rfl⟩
   rw [hT] at ct hm
   have hl:=hid hy
   clear hy hk hst hS
   have HM:=hid hm
   clear hm
   go_wp2_with fail
   go_quiet ((go_at_call 126;exact quietSame (HM.out _)))
   go_wp2_with fail
   go_step3
   (try simp only [Exit.jump])
   refine ⟨rfl,⟨i+1,⟨y.b,madeW t y.a y.b k⟩,_,_,_,_,_,_,_,_,_,_,_,_,_,_,_,_,_,_,_,_,_,_,_,_,_,_,_,_,_,_,_,_,_,_,_,_,_,_,_,_,_,_,_,_,_,_,_,_,rfl,by omega,HST.out.symm,⟨HX.out.drewN nq,HSM.out.later ((Ext.refl _).drewN nq),HR.out,HRO.out⟩⟩,?_⟩
   simp [iAt];omega
  ·obtain rfl:i=ks.length:=by omega
   have HX:=hid hS.ext
   have HR:=hid hS.res
   have HGE2:=hid (show w.heap.size≤G+1 by have:=HGE.out;omega)
   have HY:=hid (show crs t y=thereW t ah ks x by rw [hy];rfl)
   have hc:=fun w=>crossed_any t y w
   obtain ⟨T,hT⟩:∃ T,t.code=T:=⟨_,rfl⟩
   rw [hT] at ct hc
   obtain ⟨n,hne⟩:∃ n,ks.length=n:=⟨_,rfl⟩
   rw [hne] at ck hroom hi hn ⊢
   have HC:=hid hc
   clear hy hS hc hlt
   go_wp2_with fail
   refine (HC.out _).mono ?_
   rintro e w2 ⟨rfl,hx2⟩
   have HR2:=hid (HR.out.later hx2)
   have HR3:=hid ((HR.out.later hx2).put (crs t y))
   have HX2:=hid (Below.setRow_ (Ext.trans HX.out hx2) HGE2.out (crs t y).cells)
   clear hx2 HX
   rw [HY.out] at HR3 HX2 ⊢
   go_wp2_with (refine wpList_store_row rfl 143 (.tmp 4) (.tmp 55) rfl (G+1) (thereW t ah ks x).cells rfl rfl 143 _ HR2.out (W2.size _) rfl (W2.all _) ?_)
   (try simp only [Exit.jump])
   exact ret_cell rfl rfl (G+1) 143 _ (0,0) rfl HR3.out Tryz.underlying143 (W2.size _) ⟨rfl,HX2.out⟩
 ·intro hfirst
  obtain ⟨W1,hW1⟩:∃ W1,(w.alloc (.cells x.cells 143)).alloc (.cells #[.int .u32 0,.int .u32 0] 143)=W1:=⟨_,rfl⟩
  rw [hW1] at h1 h2 h3
  have HB:=hid (show B2 W1 w.heap.size x from h1)
  have HRes:=hid (show B2 W1 (w.heap.size+1) ⟨0,0⟩ from h2)
  have HX:=hid h3
  have HW:=hid hW1
  clear h1 h2 h3 hW1
  go_wp2_with fail
  rw [HW.out]
  clear HW
  have HSM:=hid (HS.out.later HX.out)
  have HRO:=hid (HGR.out.later HX.out)
  have c0:=HB.out.ca
  have c1:=HB.out.cb
  have p0:=HSM.out.a0
  have p1:=HSM.out.a1
  have e0:=w_add x.a ah.a
  have e1:=w_add x.b ah.b
  have l1:=wlt x.a
  have l2:=wlt x.b
  have l3:=wlt ah.a
  have l4:=wlt ah.b
  clear HS HGR
  go_quiet (fail)
  rw [e0,e1]
  go_wp2_with fail
  go_step3
  simp only [Exit.then]
  rename_i hK
  refine hK _ _ ?_
  exact hfirst.out _ _ ⟨0,⟨x.a+ah.a,x.b+ah.b⟩,_,_,_,_,_,_,_,_,_,_,_,_,_,_,_,_,_,_,_,_,_,_,_,_,_,_,_,_,_,_,_,_,_,_,_,_,_,_,_,_,_,_,_,_,_,_,_,_,rfl,by omega,rfl,⟨HX.out.drewN nq,HSM.out.later ((Ext.refl _).drewN nq),HRes.out,HRO.out⟩⟩
end Go.Proofs.YtbgkmicelmenfaaGreatDoor.S
namespace Go.Proofs.YtbgkmicelmenfaaGreatDoor.S
open Go.RowKit
set_option maxRecDepth 100000
theorem cf49 (vs:Array Value) (w:World):(callFunc 124 vs).run Tryz.prog w=.ok (.enter 124 vs) w:=by go_simp
theorem retX {w:World} {v:Value} (e:Ending) (w':World) (h:e=.returned v∧Ext w w'):∃ u,e=.returned u∧Ext w w'∧K.holds (.eq v) w' u:=by
 obtain ⟨rfl,hx⟩:=h
 exact ⟨_,rfl,hx,rfl⟩
theorem exec_load58 {o:Oper} {a:Act} {w:World} {t:Tmp} {B:Nat} {x:W2} (ho:o.op=.load 143 (.tmp t)) (ht:a.tmps.getD t undef=.pointer (some ⟨B,0,none⟩)) (hA:B2 w B x) :
  (execOp a.eval o).run Tryz.prog w=.ok (.value (.agg x.cells)) w:=by
 have h:=run_loadVar_row (P:=Tryz.prog) w B 143 143 x.cells (0,0) _ hA Tryz.underlying143 rfl (W2.size x)
 unfold execOp
 simp only [ho,Act.eval,ht,Instr.loadAt,Instr.sureAddr,Sem.run_bind,Sem.run_pure,Result.andThen_ok,h]
theorem build58 (a b:UInt32) (w:World):(Instr.build 143 #[(0,.int .u32 (a.toNat:Nat)),(1,.int .u32 (b.toNat:Nat))]).run Tryz.prog w=.ok (.agg (W2.mk a b).cells) w:=by kernel_rfl
def tb1 (p:Nat) (t:T3) (x:W2):List K:=[.eq (.pointer (some ⟨p,0,none⟩)),.eq (.pointer (some ⟨p,0,none⟩)),.eq (.pointer (some ⟨p,0,none⟩)),.eq (.int .i64 t.code),.eq (.agg x.cells),.eq (.agg (crs t x).cells),.any]
def tb7 (p:Nat) (ah y:W2):List K:=[.eq (.int .u32 (y.a.toNat:Nat)),.eq (.pointer (some ⟨p,0,none⟩)),.eq (.pointer (some ⟨p,0,none⟩)),.eq (.pointer (some ⟨p,1,none⟩)),.eq (.pointer (some ⟨p,1,none⟩)),.eq (.int .u32 (ah.a.toNat:Nat)),.eq (.int .u32 ((y.a - ah.a).toNat:Nat)),.eq (.int .u32 (y.b.toNat:Nat)),.eq (.pointer (some ⟨p,0,none⟩)),.eq (.pointer (some ⟨p,0,none⟩)),.eq (.pointer (some ⟨p,1,none⟩)),.eq (.pointer (some ⟨p,2,none⟩)),.eq (.int .u32 (ah.b.toNat:Nat)),.eq (.int .u32 ((y.b - ah.b).toNat:Nat)),.eq (.agg (W2.mk (y.a - ah.a) (y.b - ah.b)).cells),.any]
structure BackS [Inhabited RT] (p b o c:Nat) (t:T3) (ah:W2) (ks:List UInt32) (G:Nat) (w w1:World):Prop where
 ext:Ext w w1
 sm:Small_ w1 p b o c t ah ks
 res:B2 w1 (G+1) ⟨0,0⟩
 rows:GRows w1
def BackJ [Inhabited RT] (p b o c:Nat) (t:T3) (ah:W2) (ks:List UInt32) (x:W2) (G:Nat) (w:World) (a:Act) (w1:World):Prop :=
 ∃ (i:Nat) (y:W2) (u8 u9 u10 u11 u12 u13 u14 u15 u16 u17 u18 u19 u20 u21 u22 u23 u24 u25 u26 u27 u28 u29 u30 u31 u32 u33 u34 u35 u36 u37 u38 u39 u40 u41 u42 u43 u44 u45 u46 u47 u48 u49 u50 u51 u52 u53 u54 u55 u56:Value),
  a = { tmps:=#[.pointer (some ⟨p,0,none⟩),.agg x.cells,undef,.pointer (some ⟨G,0,none⟩),.pointer (some ⟨G+1,0,none⟩),.int .u32 (y.a.toNat:Nat),.int .u32 (y.b.toNat:Nat),.int .i64 ((ks.length - i:Nat):Int),u8,u9,u10,u11,u12,u13,u14,u15,u16,u17,u18,u19,u20,u21,u22,u23,u24,u25,u26,u27,u28,u29,u30,u31,u32,u33,u34,u35,u36,u37,u38,u39,u40,u41,u42,u43,u44,u45,u46,u47,u48,u49,u50,u51,u52,u53,u54,u55,u56],defers:=[] }∧i≤ks.length ∧
  y=bwd t ks ks.length (crs t x) i∧BackS p b o c t ah ks G w w1
set_option maxHeartbeats 4000000 in
theorem turnBack_any [Inhabited RT] (p b o c:Nat) (t:T3) (ah:W2) (ks:List UInt32) (x:W2) (w:World) (hs:Small_ w p b o c t ah ks) (hn:ks.length≤1000) (hG:GRows w) :
  Calls Tryz.prog 72 #[.pointer (some ⟨p,0,none⟩),.agg x.cells] w (Ret2 w (backW t ah ks x)):=by
 have h1:=heap_alloc2_old w (.cells x.cells 143) (.cells #[.int .u32 0,.int .u32 0] 143)
 have h2:=heap_alloc2_new w (.cells x.cells 143) (.cells #[.int .u32 0,.int .u32 0] 143)
 have h3:=(Ext.alloc w (.cells x.cells 143)).trans (Ext.alloc _ (.cells #[.int .u32 0,.int .u32 0] 143))
 have HS:=hid hs
 have HGR:=hid hG
 clear hs hG
 go_enter Tryz.func72,Tryz.ntmps72
 go_wp2_with fail
 refine wp_scope_jumps2 0 (BackJ p b o c t ah ks x w.heap.size w) (fun a _=>iAt 7 a) rfl ?_ ?_
 ·clear h1 h2 h3 HS HGR
  obtain ⟨G,hGe⟩:∃ G,w.heap.size=G:=⟨_,rfl⟩
  rw [hGe]
  have HGE:=hid hGe
  clear hGe
  rintro a w1 ⟨i,y,u8,u9,u10,u11,u12,u13,u14,u15,u16,u17,u18,u19,u20,u21,u22,u23,u24,u25,u26,u27,u28,u29,u30,u31,u32,u33,u34,u35,u36,u37,u38,u39,u40,u41,u42,u43,u44,u45,u46,u47,u48,u49,u50,u51,u52,u53,u54,u55,u56,rfl,hi,hy,hS⟩
  have HSM:=hid hS.sm
  have HX:=hid hS.ext
  have HR:=hid hS.res
  have HRO:=hid hS.rows
  by_cases hlt:i < ks.length
  ·have ct:=hS.sm.tag
   have ck:=hS.sm.keys
   have hroom:=hS.sm.room
   have hcell:=hS.sm.at_ (ks.length - 1 - i) (by omega)
   obtain ⟨k,hk⟩:∃ k,ks.getD (ks.length - 1 - i) 0=k:=⟨_,rfl⟩
   rw [hk] at hcell
   have hst:bwd t ks ks.length (crs t x) (i+1)=⟨unmadeW t y.b y.a k,y.a⟩:=by rw [bwd,hk,← hy]
   have HST:=hid hst
   have hm:=fun n=>unmade_any t y.b y.a k (w1.drewN n) hS.rows
   have b1:=wlt y.a
   have b2:=wlt y.b
   obtain ⟨T,hT⟩:∃ T,t.code=T:=⟨_,rfl⟩
   rw [hT] at ct hm
   have hl:=hid hy
   have HM:=hid hm
   clear hy hk hst hS hm
   obtain ⟨m,hme⟩:∃ m,ks.length - i=m+1:=⟨ks.length - i - 1,by omega⟩
   have hmm:ks.length - 1 - i=m:=by omega
   have hml:m < ks.length:=by omega
   rw [hmm] at hcell
   rw [hme]
   have HMM:=hid (show ks.length - (i+1)=m by omega)
   have e1:(((m+1:Nat):Int)) - 1=(m:Int):=by omega
   have e2:(0:Int) < ((m+1:Nat):Int):=by omega
   clear hmm hme
   go_wp2_with fail
   go_quiet ((go_at_call 125;exact quietSame (HM.out _)))
   go_wp2_with fail
   go_step3
   (try simp only [Exit.jump])
   refine ⟨rfl,⟨i+1,⟨unmadeW t y.b y.a k,y.a⟩,_,_,_,_,_,_,_,_,_,_,_,_,_,_,_,_,_,_,_,_,_,_,_,_,_,_,_,_,_,_,_,_,_,_,_,_,_,_,_,_,_,_,_,_,_,_,_,_,_,by rw [HMM.out],by omega,HST.out.symm,⟨HX.out.drewN nq,HSM.out.later ((Ext.refl _).drewN nq),HR.out,HRO.out⟩⟩,?_⟩
   simp [iAt]
  ·obtain rfl:i=ks.length:=by omega
   have HGE2:=hid (show w.heap.size≤G+1 by have:=HGE.out;omega)
   have HY:=hid (show (⟨y.a - ah.a,y.b - ah.b⟩:W2)=backW t ah ks x by rw [hy];rfl)
   rw [Nat.sub_self]
   clear hy hS
   go_wp2_with fail
   refine region_upto 15 mixed rfl (by kernel_rfl) (by kernel_rfl) (by kernel_rfl) (kV (tb7 p ah y)) (kV_keep _) (forall_ops ⟨?_,?_,?_,?_,?_,?_,?_,?_,?_,?_,?_,?_,?_,?_,?_,trivial⟩) ?_
   ·intro a w hk
    have s5:a.tmps.getD 5 undef=.int .u32 (y.a.toNat:Nat):=hk.was 5 (by kernel_rfl) rfl
    exact step_move rfl rfl s5 rfl
   ·intro a w hk
    have s0:a.tmps.getD 0 undef=.pointer (some ⟨p,0,none⟩):=hk.was 0 (by kernel_rfl) rfl
    exact step_move rfl rfl s0 rfl
   ·intro a w hk
    have s43:=hk.eq_ 1 43 (by kernel_rfl) rfl
    refine step_val (v:=.pointer (some ⟨p,0,none⟩)) (w':=w) rfl ?_ (Ext.refl w) rfl
    go_simp
   ·intro a w hk
    have s44:=hk.eq_ 2 44 (by kernel_rfl) rfl
    refine step_val (v:=.pointer (some ⟨p,1,none⟩)) (w':=w) rfl ?_ (Ext.refl w) rfl
    go_simp
   ·intro a w hk
    have s45:=hk.eq_ 3 45 (by kernel_rfl) rfl
    refine step_val (v:=.pointer (some ⟨p,1,none⟩)) (w':=w) rfl ?_ (Ext.refl w) rfl
    go_simp
   ·intro a w hk
    have s46:=hk.eq_ 4 46 (by kernel_rfl) rfl
    refine step_val (v:=.int .u32 (ah.a.toNat:Nat)) (w':=w) rfl ?_ (Ext.refl w) rfl
    have hc:=(HSM.out.later hk.ext).a0
    go_simp
   ·intro a w hk
    have s42:=hk.eq_ 0 42 (by kernel_rfl) rfl
    have s47:=hk.eq_ 5 47 (by kernel_rfl) rfl
    refine step_val (v:=.int .u32 ((y.a - ah.a).toNat:Nat)) (w':=w) rfl ?_ (Ext.refl w) rfl
    go_simp
    exact w_sub y.a ah.a
   ·intro a w hk
    have s6:a.tmps.getD 6 undef=.int .u32 (y.b.toNat:Nat):=hk.was 6 (by kernel_rfl) rfl
    exact step_move rfl rfl s6 rfl
   ·intro a w hk
    have s0:a.tmps.getD 0 undef=.pointer (some ⟨p,0,none⟩):=hk.was 0 (by kernel_rfl) rfl
    exact step_move rfl rfl s0 rfl
   ·intro a w hk
    have s50:=hk.eq_ 8 50 (by kernel_rfl) rfl
    refine step_val (v:=.pointer (some ⟨p,0,none⟩)) (w':=w) rfl ?_ (Ext.refl w) rfl
    go_simp
   ·intro a w hk
    have s51:=hk.eq_ 9 51 (by kernel_rfl) rfl
    refine step_val (v:=.pointer (some ⟨p,1,none⟩)) (w':=w) rfl ?_ (Ext.refl w) rfl
    go_simp
   ·intro a w hk
    have s52:=hk.eq_ 10 52 (by kernel_rfl) rfl
    refine step_val (v:=.pointer (some ⟨p,2,none⟩)) (w':=w) rfl ?_ (Ext.refl w) rfl
    go_simp
   ·intro a w hk
    have s53:=hk.eq_ 11 53 (by kernel_rfl) rfl
    refine step_val (v:=.int .u32 (ah.b.toNat:Nat)) (w':=w) rfl ?_ (Ext.refl w) rfl
    have hc:=(HSM.out.later hk.ext).a1
    go_simp
   ·intro a w hk
    have s49:=hk.eq_ 7 49 (by kernel_rfl) rfl
    have s54:=hk.eq_ 12 54 (by kernel_rfl) rfl
    refine step_val (v:=.int .u32 ((y.b - ah.b).toNat:Nat)) (w':=w) rfl ?_ (Ext.refl w) rfl
    go_simp
    exact w_sub y.b ah.b
   ·intro a w hk
    have s48:=hk.eq_ 6 48 (by kernel_rfl) rfl
    have s55:=hk.eq_ 13 55 (by kernel_rfl) rfl
    refine step_val (v:=.agg (W2.mk (y.a - ah.a) (y.b - ah.b)).cells) (w':=w) rfl ?_ (Ext.refl w) rfl
    have e:=build58 (y.a - ah.a) (y.b - ah.b) w
    simp only [execOp,Act.eval,List.map_toArray,List.map_cons,List.map_nil,s48,s55,Sem.run_bind,e,Sem.run_pure,Result.andThen]
   ·intro a w2 hf
    have s42:=hf.eq_ 0 42 (by kernel_rfl) rfl
    have s43:=hf.eq_ 1 43 (by kernel_rfl) rfl
    have s44:=hf.eq_ 2 44 (by kernel_rfl) rfl
    have s45:=hf.eq_ 3 45 (by kernel_rfl) rfl
    have s46:=hf.eq_ 4 46 (by kernel_rfl) rfl
    have s47:=hf.eq_ 5 47 (by kernel_rfl) rfl
    have s48:=hf.eq_ 6 48 (by kernel_rfl) rfl
    have s49:=hf.eq_ 7 49 (by kernel_rfl) rfl
    have s50:=hf.eq_ 8 50 (by kernel_rfl) rfl
    have s51:=hf.eq_ 9 51 (by kernel_rfl) rfl
    have s52:=hf.eq_ 10 52 (by kernel_rfl) rfl
    have s53:=hf.eq_ 11 53 (by kernel_rfl) rfl
    have s54:=hf.eq_ 12 54 (by kernel_rfl) rfl
    have s55:=hf.eq_ 13 55 (by kernel_rfl) rfl
    have s56:=hf.eq_ 14 56 (by kernel_rfl) rfl
    have hx:=hf.ext
    have e:=hf.frame
    clear hf
    simp only [List.take_succ_cons,List.take_zero,regFrame,Act.put,List.setIfInBounds_toArray,List.set_cons_zero,List.set_cons_succ,s42,s43,s44,s45,s46,s47,s48,s49,s50,s51,s52,s53,s54,s55,s56] at e
    clear s42 s43 s44 s45 s46 s47 s48 s49 s50 s51 s52 s53 s54 s55 s56
    subst e
    simp only [List.drop_succ_cons,List.drop_zero]
    have HR2:=hid (HR.out.later hx)
    have HR3:=hid ((HR.out.later hx).put ⟨y.a - ah.a,y.b - ah.b⟩)
    have HX2:=hid (Below.setRow_ (Ext.trans HX.out hx) HGE2.out (W2.mk (y.a - ah.a) (y.b - ah.b)).cells)
    clear hx
    rw [HY.out] at HR3 HX2
    go_wp2_with (refine wpList_store_row rfl 143 (.tmp 4) (.tmp 56) rfl (G+1) (W2.mk (y.a - ah.a) (y.b - ah.b)).cells rfl rfl 143 _ HR2.out (W2.size _) rfl (W2.all _) ?_)
    rw [HY.out]
    (try simp only [Exit.jump])
    exact ret_cell rfl rfl (G+1) 143 _ (0,0) rfl HR3.out Tryz.underlying143 (W2.size _) ⟨rfl,HX2.out⟩
 ·intro hfirst
  obtain ⟨W1,hW1⟩:∃ W1,(w.alloc (.cells x.cells 143)).alloc (.cells #[.int .u32 0,.int .u32 0] 143)=W1:=⟨_,rfl⟩
  rw [hW1] at h1 h2 h3
  obtain ⟨G,hGe⟩:∃ G,w.heap.size=G:=⟨_,rfl⟩
  have HB:=hid (show B2 W1 G x by rw [← hGe];exact h1)
  have HRes:=hid (show B2 W1 (G+1) ⟨0,0⟩ by rw [← hGe];exact h2)
  have HX:=hid h3
  have HW:=hid hW1
  have HGE:=hid hGe
  clear h1 h2 h3 hW1
  go_wp2_with fail
  rw [HW.out]
  rw [hGe] at hfirst ⊢
  clear hGe HW
  have HSM:=hid (HS.out.later HX.out)
  refine region_upto 6 mixed rfl (by kernel_rfl) (by kernel_rfl) (by kernel_rfl) (kV (tb1 p t x)) (kV_keep _) (forall_ops ⟨?_,?_,?_,?_,?_,?_,trivial⟩) ?_
  ·intro a w hk
   have s0:a.tmps.getD 0 undef=.pointer (some ⟨p,0,none⟩):=hk.was 0 (by kernel_rfl) rfl
   exact step_move rfl rfl s0 rfl
  ·intro a w hk
   have s8:=hk.eq_ 0 8 (by kernel_rfl) rfl
   refine step_val (v:=.pointer (some ⟨p,0,none⟩)) (w':=w) rfl ?_ (Ext.refl w) rfl
   go_simp
  ·intro a w hk
   have s9:=hk.eq_ 1 9 (by kernel_rfl) rfl
   refine step_val (v:=.pointer (some ⟨p,0,none⟩)) (w':=w) rfl ?_ (Ext.refl w) rfl
   go_simp
  ·intro a w hk
   have s10:=hk.eq_ 2 10 (by kernel_rfl) rfl
   refine step_val (v:=.int .i64 t.code) (w':=w) rfl ?_ (Ext.refl w) rfl
   have hc:=(HSM.out.later hk.ext).tag
   go_simp
  ·intro a w hk
   have s3:a.tmps.getD 3 undef=.pointer (some ⟨G,0,none⟩):=hk.was 3 (by kernel_rfl) rfl
   refine step_val (v:=.agg x.cells) (w':=w) rfl ?_ (Ext.refl w) rfl
   exact exec_load58 rfl s3 (HB.out.later hk.ext)
  ·intro a w hk
   have s11:=hk.eq_ 3 11 (by kernel_rfl) rfl
   have s12:=hk.eq_ 4 12 (by kernel_rfl) rfl
   exact step_call rfl rfl (by simp only [List.map_toArray,List.map_cons,List.map_nil,Act.eval,s11,s12]<;>rfl) cf49 (crossed_any t x w) (fun e w1 h=>retX e w1 h)
  ·intro a w1 hf
   have s8:=hf.eq_ 0 8 (by kernel_rfl) rfl
   have s9:=hf.eq_ 1 9 (by kernel_rfl) rfl
   have s10:=hf.eq_ 2 10 (by kernel_rfl) rfl
   have s11:=hf.eq_ 3 11 (by kernel_rfl) rfl
   have s12:=hf.eq_ 4 12 (by kernel_rfl) rfl
   have s13:=hf.eq_ 5 13 (by kernel_rfl) rfl
   have hx:=hf.ext
   have e:=hf.frame
   clear hf
   simp only [List.take_succ_cons,List.take_zero,regFrame,Act.put,List.setIfInBounds_toArray,List.set_cons_zero,List.set_cons_succ,s8,s9,s10,s11,s12,s13] at e
   clear s8 s9 s10 s11 s12 s13
   subst e
   simp only [List.drop_succ_cons,List.drop_zero]
   have HR2:=hid (HRes.out.later hx)
   have HB1:=hid (HB.out.later hx)
   have HB2:=hid ((HB.out.later hx).put (crs t x))
   have HRes2:=hid (((HRes.out.later hx)).putne G (crs t x).cells (by omega))
   have hg:=HGE.out
   have HX2:=hid (Below.setRow_ (Ext.trans HX.out hx) (by omega) (crs t x).cells:Below w.heap.size w (w1.setRow G (crs t x).cells))
   clear hg
   have HSM2:=hid (HS.out.later (show Ext w _ from HX2.out))
   have HRO2:=hid (HGR.out.later (show Ext w _ from HX2.out))
   clear hx HX HB HRes HR2 HSM HS HGR
   go_wp2_with (refine wpList_store_row rfl 143 (.tmp 3) (.tmp 13) rfl G (crs t x).cells rfl rfl 143 _ HB1.out (W2.size _) rfl (W2.all _) ?_)
   obtain ⟨W3,hW3⟩:∃ W3,w1.setRow G (crs t x).cells=W3:=⟨_,rfl⟩
   rw [hW3] at HB2 HRes2 HX2 HSM2 HRO2 ⊢
   obtain ⟨z,hz⟩:∃ z,crs t x=z:=⟨_,rfl⟩
   rw [hz] at HB2
   have HZ:=hid hz
   clear hW3 HB1 hz
   have c0:=HB2.out.ca
   have c1:=HB2.out.cb
   have l1:=wlt z.a
   have l2:=wlt z.b
   have p3:=HSM2.out.keys
   have hroom:=HSM2.out.room
   go_quiet (fail)
   go_wp2_with fail
   go_step3
   simp only [Exit.then]
   rename_i hK
   refine hK _ _ ?_
   have HGE2:=HGE.out
   subst HGE2
   exact hfirst.out _ _ ⟨0,z,_,_,_,_,_,_,_,_,_,_,_,_,_,_,_,_,_,_,_,_,_,_,_,_,_,_,_,_,_,_,_,_,_,_,_,_,_,_,_,_,_,_,_,_,_,_,_,_,_,rfl,by omega,HZ.out.symm,⟨Ext.drewN HX2.out nq,HSM2.out.later ((Ext.refl _).drewN nq),HRes2.out,HRO2.out⟩⟩
end Go.Proofs.YtbgkmicelmenfaaGreatDoor.S
namespace Go.Proofs.YtbgkmicelmenfaaGreatDoor.S
open Go.RowKit
set_option maxRecDepth 100000
theorem getD_eq {α:Type} (l:List α) (d:α) (i:Nat) (h:i < l.length):l.getD i d=l[i]:=by simp [h]
def RowsB (w:World) (b o:Nat) (ls:List (List UInt8)):Prop :=
 ∀ i,i < ls.length→∃ A c,w.cell? ⟨b,o+i,none⟩=some (.slice A (ls.getD i []).length c)∧Rd w w.heap.size A (ls.getD i []).length (ls.getD i [])
theorem RowsB.later {w w':World} {b o:Nat} {ls:List (List UInt8)} (h:RowsB w b o ls) (hx:Ext w w'):RowsB w' b o ls:=fun i hi=>by
 obtain ⟨A,c,h1,h2⟩:=h i hi
 exact ⟨A,c,(Below.cell hx (p:=⟨b,o+i,none⟩) (World.block_lt_of_cell? w _ h1)).trans h1,h2.later hx⟩
def lenTo {α:Type} (ls:List (List α)) (k:Nat):Nat:=(ls.take k).flatten.length
theorem take_more {α:Type} (ls:List (List α)) (k:Nat) (h:k < ls.length):(ls.take (k+1)).flatten=(ls.take k).flatten++ls.getD k []:=by
 rw [List.take_succ_eq_append_getElem h,List.flatten_append,getD_eq _ _ _ h];simp
theorem lenTo_succ {α:Type} (ls:List (List α)) (k:Nat) (h:k < ls.length):lenTo ls (k+1)=lenTo ls k+(ls.getD k []).length:=by
 unfold lenTo;rw [take_more ls k h,List.length_append]
theorem lenTo_le {α:Type} (ls:List (List α)) (k:Nat) (_h:k < ls.length):lenTo ls (k+1)≤ls.flatten.length:=by
 unfold lenTo
 have e:ls.flatten=(ls.take (k+1)).flatten++(ls.drop (k+1)).flatten:=by rw [← List.flatten_append,List.take_append_drop]
 rw [e,List.length_append];omega
theorem lenTo_all {α:Type} (ls:List (List α)):lenTo ls ls.length=ls.flatten.length:=by unfold lenTo;rw [List.take_length]
theorem cell_lit (w:World) (vs:List Value) (e:TypeId) (i:Nat) (v:Value) (h:vs[i]? = some v):(w.alloc (.cells vs.toArray e)).cell? ⟨w.heap.size,0+i,none⟩=some v:=by
 rw [Nat.zero_add,cell_of_heap (heap_alloc_new w (.cells vs.toArray e))]
 simpa using h
theorem RowsB.lit (w:World) (vs:List Value) (e:TypeId) (ls:List (List UInt8)) (h:∀ i,i < ls.length→∃ A c,vs[i]? = some (.slice A (ls.getD i []).length c)∧Rd w w.heap.size A (ls.getD i []).length (ls.getD i [])) :
  RowsB (w.alloc (.cells vs.toArray e)) w.heap.size 0 ls:=fun i hi=>by
 obtain ⟨A,c,h1,h2⟩:=h i hi
 exact ⟨A,c,cell_lit w vs e i _ h1,h2.later (Ext.alloc _ _)⟩
theorem RowsB.two (w:World) (A1 A2:Option Addr) (n1 n2 c1 c2:Nat) (e:TypeId) (xs ys:List UInt8) (h1:Rd w w.heap.size A1 n1 xs) (h2:Rd w w.heap.size A2 n2 ys) :
  RowsB (w.alloc (.cells #[.slice A1 n1 c1,.slice A2 n2 c2] e)) w.heap.size 0 [xs,ys]:=by
 have e1:=h1.len;have e2:=h2.len
 subst e1 e2
 refine RowsB.lit w [.slice A1 xs.length c1,.slice A2 ys.length c2] e [xs,ys] fun i hi=>?_
 match i,hi with
 | 0,_=>exact ⟨A1,c1,rfl,h1⟩
 | 1,_=>exact ⟨A2,c2,rfl,h2⟩
set_option maxHeartbeats 1000000 in
theorem growB_any (n:Nat) (w:World) (h0:0 < n) (hn:n≤1000) :
  Calls Tryz.prog 88 #[.slice none 0 0,.int .i64 n] w fun e w'=>∃ v,e=.returned v∧Own w' w.heap.size v []∧Below w.heap.size w w':=by
 obtain ⟨i0,hi0,hz0,hz1,hz2⟩:=info_parts Tryz.info5
 have hr:=fun ty=>Lib.run_append_nil_zeros (P:=Tryz.prog) w 22 3 ty 5 i0 (.int .u8 0) .i64 .i64 Tryz.underlying22 Tryz.underlying3 hi0 hz0 n h0 (by omega) (by omega) (by rw [hz2];omega)
 have hc1:=grownCap_ge w n 0 5
 have hc2:=grownCap_le_maxLen w n 0 5 (by unfold maxLen;omega)
 obtain ⟨G,hG⟩:∃ G,G=grownCap w n 0 5:=⟨_,rfl⟩
 rw [← hG] at hc1 hc2 hr
 have hown:Own (w.drew.alloc (.cells (Builtin.zeroCells (Value.int .u8 0).cells n++Builtin.zeroCells (Value.int .u8 0).cells (G - n)) 5)) w.heap.size (.slice (some ⟨w.heap.size,0,none⟩) 0 G) [] :=
  World.ownsRow_made (w:=w.drew) (e:=5) (size:=1) _ G (Nat.le_refl _) hc2 (by
   have e1:(Value.int .u8 0).cells.size=1:=rfl
   simp [Builtin.zeroCells,e1]
   omega)
 have hb:Below w.heap.size w (w.drew.alloc (.cells (Builtin.zeroCells (Value.int .u8 0).cells n++Builtin.zeroCells (Value.int .u8 0).cells (G - n)) 5)):=(Ext.drew1 w).trans (Ext.alloc _ _)
 have HO:=hid hown
 have HB:=hid hb
 unfold maxLen at hc2
 clear hown hb hG hi0 hz0 hz1 hz2
 go_enter Tryz.func88,Tryz.ntmps88
 go_wp2_with (at_builtin;refine Lib.wpList_append_run _ rfl _ _ _ _ rfl _ _ rfl rfl _ _ (hr _) ?_)
 go_ret
 exact ⟨_,rfl,HO.out,HB.out⟩
set_option maxHeartbeats 1000000 in
theorem concatB_any (b o m c:Nat) (ls:List (List UInt8)) (w:World) (hm:m=ls.length) (h:RowsB w b o ls) (h0:0 < ls.flatten.length) (hl:ls.flatten.length≤1000) (hm2:m≤1000) :
  Calls Tryz.prog 48 #[.slice (some ⟨b,o,none⟩) m c] w fun e w'=>∃ v,e=.returned v∧Own w' w.heap.size v ls.flatten∧Below w.heap.size w w':=by
 go_enter Tryz.func48,Tryz.ntmps48
 go_wp2_with fail
 go_loopw [3,11] (fun s i wr=>∃ k:Nat,k≤m∧i=.int .i64 k∧s=.int .i64 (lenTo ls k:Nat)∧Ext w wr) (fun _ i _=>m - (intOf i).toNat)
 case atStart=>exact ⟨0,Nat.zero_le _,rfl,rfl,Below.refl _ _⟩
 case round =>
  obtain ⟨k,hk,rfl,rfl,hx⟩:=hrel
  by_cases hlt:k < m
  ·obtain ⟨A,c1,hc,hrd⟩:=(h.later hx) k (by omega)
   have hs:=lenTo_succ ls k (by omega)
   have hle:=lenTo_le ls k (by omega)
   obtain ⟨S,hS⟩:∃ S,lenTo ls k=S:=⟨_,rfl⟩
   obtain ⟨L,hL⟩:∃ L,(ls.getD k []).length=L:=⟨_,rfl⟩
   obtain ⟨S2,hS2⟩:∃ S2,lenTo ls (k+1)=S2:=⟨_,rfl⟩
   rw [hL] at hc hs
   rw [hS] at hs ⊢
   rw [hS2] at hs hle
   have HX:=hid hx
   have HS2:=hid hS2
   clear hL hS hS2 hrd hx h
   go_wp2_with fail
   go_roundw
   case rel=>exact ⟨k+1,by omega,by go_num,by rw [HS2.out,hs];go_num,HX.out⟩
   case measure=>simp [intOf];omega
  ·obtain rfl:k=m:=by omega
   have hall:lenTo ls k=ls.flatten.length:=by rw [hm];exact lenTo_all ls
   rw [hall]
   obtain ⟨T,hT⟩:∃ T,ls.flatten.length=T:=⟨_,rfl⟩
   rw [hT] at h0 hl ⊢
   have HX:=hid hx
   clear hx hall
   have h1000:(T:Int)≤1000:=by omega
   go_wp2_with (go_at_call 88;refine (growB_any _ _ h0 hl).mono ?_;rintro e w1 ⟨v1,rfl,hown1,hb1⟩)
   have HX1:=hid (Ext.trans HX.out hb1)
   have hown1:Own w1 w.heap.size v1 []:=hown1.base_mono (Below.size HX.out)
   clear HX hb1
   go_wp2_with fail
   go_loopw [6,27] (fun v i wr=>∃ j:Nat,j≤k∧i=.int .i64 j∧Own wr w.heap.size v (ls.take j).flatten∧Below w.heap.size w wr) (fun _ i _=>k - (intOf i).toNat)
   case atStart=>exact ⟨0,Nat.zero_le _,rfl,by simpa using hown1,HX1.out⟩
   case round =>
    clear hown1 HX1
    obtain ⟨j,hj,rfl,hown,hb⟩:=hrel
    by_cases hjt:j < k
    ·obtain ⟨A,c1,hc,hrd⟩:=(h.later hb) j (by omega)
     have hle:=lenTo_le ls j (by omega)
     have hss:=lenTo_succ ls j (by omega)
     have ht:=take_more ls j (by omega)
     obtain ⟨L,hL⟩:∃ L,ls.getD j [] = L:=⟨_,rfl⟩
     rw [hL] at hc hrd hss ht
     have hsz:=hb.size
     have HB:=hid hb
     have HT:=hid ht
     have hxl:(ls.take j).flatten.length=lenTo ls j:=rfl
     obtain ⟨X,hX⟩:∃ X,(ls.take j).flatten=X:=⟨_,rfl⟩
     rw [hX] at hown hxl
     have HXX:=hid hX
     obtain ⟨M,hM⟩:∃ M,L.length=M:=⟨_,rfl⟩
     rw [hM] at hc hrd hss
     rw [hT] at hle
     clear hb ht hX h hL
     go_wp2_with (at_builtin;refine wpL_append _ rfl (.tmp 31) (.tmp 32) 22 rfl Tryz.underlying22 Tryz.info5 w.heap.size _ X rfl hown _ A M c1 L rfl hrd (by omega) (by omega) ?_;intro v2 w2 hown2 hb2)
     have HO2:=hid hown2
     have HB2:=hid (HB.out.trans hb2)
     clear hown2 hb2
     go_roundw
     case rel=>exact ⟨j+1,by omega,by go_num,by rw [HT.out,HXX.out];exact HO2.out,HB2.out⟩
     case measure=>simp [intOf];omega
    ·obtain rfl:j=k:=by omega
     have e:ls.take j=ls:=by rw [hm,List.take_length]
     rw [e] at hown
     have HO:=hid hown
     have HB:=hid hb
     clear hown hb e
     go_wp2_with fail
     go_ret
     exact ⟨_,rfl,HO.out,HB.out⟩
theorem Tryz.info43:(Tryz.prog.info? 118).map (fun i=>(i.zero,i.size,i.bytes))=some (some (.int .u32 0),1,4):=by kernel_rfl
def nW (ks:List UInt32):List Int:=ks.map fun x=>((x.toNat:Nat):Int)
theorem nW_length (ks:List UInt32):(nW ks).length=ks.length:=by simp [nW]
theorem nW_get (ks:List UInt32) (j:Nat) (h:j < ks.length):(nW ks).getD j 0=((ks.getD j 0).toNat:Nat):=by simp [nW,h]
theorem nW_set (ks:List UInt32) (j:Nat) (x:UInt32):(nW ks).set j (x.toNat:Nat)=nW (ks.set j x):=by simp [nW,List.map_set]
theorem nW_append (xs ys:List UInt32):nW (xs++ys)=nW xs++nW ys:=by simp [nW]
theorem nW_zero (n:Nat):nW (List.replicate n 0)=List.replicate n 0:=by simp [nW]
def OwnW (w:World) (base:Nat) (v:Value) (ks:List UInt32):Prop:=OwnN .u32 118 w base v (nW ks)
theorem OwnW.kw {w:World} {base g n c:Nat} {ks:List UInt32} (h:OwnW w base (.slice (some ⟨g,0,none⟩) n c) ks) (hn:ks.length=n):KW w g 0 ks:=fun j hj=>by
 rw [Nat.zero_add,OwnN.celln h (by rw [nW_length];exact hn) j (by omega),nW_get ks j hj]
theorem OwnW.set_ {w:World} {base g n c:Nat} {ks:List UInt32} (h:OwnW w base (.slice (some ⟨g,0,none⟩) n c) ks) (hn:ks.length=n) (j:Nat) (x:UInt32) :
  OwnW (w.setCell ⟨g,j,none⟩ (.int .u32 (x.toNat:Nat))) base (.slice (some ⟨g,0,none⟩) n c) (ks.set j x):=by
 have:=OwnN.setn h (by rw [nW_length];exact hn) j (x.toNat:Nat)
 rw [nW_set] at this
 exact this
def fillW (f:Nat→UInt32) (n k:Nat):List UInt32:=(List.range n).map fun i=>if i < k then f i else 0
theorem fillW_length (f:Nat→UInt32) (n k:Nat):(fillW f n k).length=n:=by simp [fillW]
theorem fillW_zero (f:Nat→UInt32) (n:Nat):fillW f n 0=List.replicate n 0:=by
 apply List.ext_getElem<;>simp [fillW]
theorem fillW_full (f:Nat→UInt32) (n:Nat):fillW f n n=(List.range n).map f:=by
 apply List.ext_getElem
 ·simp [fillW]
 ·intro i h1 h2
  have:i < n:=by simpa [fillW] using h1
  simp [fillW,this]
theorem fillW_set (f:Nat→UInt32) (n k:Nat):(fillW f n k).set k (f k)=fillW f n (k+1):=by
 apply List.ext_getElem
 ·simp [fillW]
 ·intro i h1 h2
  simp only [fillW,List.getElem_set,List.getElem_map,List.getElem_range]
  by_cases h:k=i
  ·subst h;simp
  ·rw [if_neg h]
   by_cases h':i < k
   ·rw [if_pos h',if_pos (by omega)]
   ·rw [if_neg h',if_neg (by omega)]
set_option maxHeartbeats 1000000 in
theorem gatherT_any (t:T3) (A:Option Addr) (c B:Nat) (l:List UInt8) (w:World) (h:Rd w B A 4 l) :
  Calls Tryz.prog 122 #[.int .i64 t.code,.slice A 4 c] w fun e w'=>e=.returned (.int .u32 ((wd t l).toNat:Nat))∧w=w':=by
 have hb:=be32_any A 4 c B l w h (by omega)
 have hl:=le32_any A 4 c B l w h (by omega)
 have e1:be32N l 4=be l 4:=rfl
 have e2:le32N l 4=le l 4 4:=rfl
 rw [e1] at hb
 rw [e2] at hl
 clear h e1 e2
 cases t
 ·show Calls Tryz.prog 122 #[.int .i64 4,_] w _
  rw [wd_be l .x (by decide)]
  have HB:=hid hb
  clear hb hl
  go_enter Tryz.func122,Tryz.ntmps122
  go_wp2_with (go_at_call 158;refine HB.out.mono ?_;rintro e w' ⟨rfl,rfl⟩)
  go_ret
  exact ⟨rfl,rfl⟩
 ·show Calls Tryz.prog 122 #[.int .i64 5,_] w _
  rw [wd_be l .m (by decide)]
  have HB:=hid hb
  clear hb hl
  go_enter Tryz.func122,Tryz.ntmps122
  go_wp2_with (go_at_call 158;refine HB.out.mono ?_;rintro e w' ⟨rfl,rfl⟩)
  go_ret
  exact ⟨rfl,rfl⟩
 ·show Calls Tryz.prog 122 #[.int .i64 8,_] w _
  rw [wd_le l]
  have HB:=hid hl
  clear hb hl
  go_enter Tryz.func122,Tryz.ntmps122
  go_wp2_with (go_at_call 107;refine HB.out.mono ?_;rintro e w' ⟨rfl,rfl⟩)
  go_ret
  exact ⟨rfl,rfl⟩
set_option maxHeartbeats 1000000 in
theorem spreadT_any (t:T3) (v:UInt32) (w:World) :
  Calls Tryz.prog 74 #[.int .i64 t.code,.int .u32 (v.toNat:Nat)] w (RetB w (put t v)):=by
 have hv:=wlt v
 have hb:=putBe32_any (v.toNat:Nat) w (by omega) (by omega)
 have hl:=putLe32_any (v.toNat:Nat) w (by omega) (by omega)
 have HB:=hid hb
 have HL:=hid hl
 clear hb hl
 cases t
 ·show Calls Tryz.prog 74 #[.int .i64 4,_] w _
  go_enter Tryz.func74,Tryz.ntmps74
  go_wp2_with (go_at_call 112;refine HB.out.mono ?_;rintro e w' ⟨v2,rfl,ho,hx⟩)
  go_ret
  exact ⟨_,rfl,ho,hx⟩
 ·show Calls Tryz.prog 74 #[.int .i64 5,_] w _
  go_enter Tryz.func74,Tryz.ntmps74
  go_wp2_with (go_at_call 112;refine HB.out.mono ?_;rintro e w' ⟨v2,rfl,ho,hx⟩)
  go_ret
  exact ⟨_,rfl,ho,hx⟩
 ·show Calls Tryz.prog 74 #[.int .i64 8,_] w _
  go_enter Tryz.func74,Tryz.ntmps74
  go_wp2_with (go_at_call 61;refine HL.out.mono ?_;rintro e w' ⟨v2,rfl,ho,hx⟩)
  go_ret
  exact ⟨_,rfl,ho,hx⟩
theorem drop_drop4 (bs:List UInt8) (k:Nat):(bs.drop (4*k)).drop 4=bs.drop (4*(k+1)):=by
 rw [List.drop_drop];congr 1
set_option maxHeartbeats 2000000 in
theorem cut_any (t:T3) (A:Option Addr) (m c:Nat) (bs:List UInt8) (w:World) (h:Rd w w.heap.size A (4*m) bs) (hm:m≤1000) (hc:4*m≤c) (hcb:c≤9223372036854775807) :
  Calls Tryz.prog 68 #[.int .i64 t.code,.slice A (4*m:Nat) c] w fun e w'=>e=.returned (.slice (some ⟨w.heap.size,0,none⟩) m m)∧OwnW w' w.heap.size (.slice (some ⟨w.heap.size,0,none⟩) m m) (words t bs m)∧Below w.heap.size w w':=by
 have h2:((4*m:Nat):Int) / 4=(m:Int):=by omega
 go_enter Tryz.func68,Tryz.ntmps68
 go_wp2_with (at_make;refine wpL_makeN rfl (.tmp 9) (.tmp 9) 115 rfl Tryz.underlying115 4 Tryz.info43 .i64 m m rfl rfl rfl (by omega) (by unfold maxLen;omega) w.heap.size (Nat.le_refl _) ?_;intro w1 hown1 hb1)
 rw [← nW_zero] at hown1
 obtain ⟨T,hT⟩:∃ T,t.code=T:=⟨_,rfl⟩
 have HT:=hid hT
 rw [hT]
 clear hT
 go_loopw [1,13] (fun b i wr=>∃ (k:Nat) (Ak:Option Addr) (ck:Nat),k≤m∧i=.int .i64 k∧b=.slice Ak (4*(m - k):Nat) ck∧4*(m - k)≤ck∧ck≤9223372036854775807∧Rd wr w.heap.size Ak (4*(m - k)) (bs.drop (4*k)) ∧
   OwnW wr w.heap.size (.slice (some ⟨w.heap.size,0,none⟩) m m) (fillW (kw t bs) m k)∧Below w.heap.size w wr) (fun _ i _=>m - (intOf i).toNat)
 case atStart=>exact ⟨0,A,c,Nat.zero_le _,rfl,rfl,hc,hcb,by simpa using h.below hb1 (Nat.le_refl _),by rw [fillW_zero];exact hown1,hb1⟩
 case round =>
  obtain ⟨k,Ak,ck,hk,rfl,rfl,hck,hck2,hrd,hown,hb⟩:=hrel
  by_cases hlt:k < m
  ·have hr4:=hrd.cuthi 4 (by omega)
   have hr5:=hrd.cutlo (c:=ck) (l:=4) (by omega) (by omega)
   rw [drop_drop4] at hr5
   have hl:=fillW_length (kw t bs) m k
   have hcell:=OwnW.kw hown hl k (by omega)
   have hfree:=OwnN.free hown k
   have hset:=OwnW.set_ hown hl k (kw t bs k)
   rw [fillW_set] at hset
   rw [Nat.zero_add] at hcell
   have hg:=fun (c:Nat)=>gatherT_any t Ak c w.heap.size _ wr hr4
   rw [HT.out] at hg
   obtain ⟨v,hv⟩:∃ v,kw t bs k=v:=⟨_,rfl⟩
   rw [show wd t ((bs.drop (4*k)).take 4)=v from hv] at hg
   rw [hv] at hset
   obtain ⟨b0,o0,rfl,hb0,_⟩:=hrd.at_ (by omega)
   have HG:=hid hg
   have HSET:=hid hset
   have hr6:=hr5.below ((Below.refl w.heap.size wr).setCell (p:=⟨w.heap.size,k,none⟩) (by simp) (.int .u32 (v.toNat:Nat))) (Nat.le_refl _)
   rw [show 4*(m - k) - 4=4*(m - (k+1)) by omega,show Option.map (fun x:Addr=>x.add (4*1)) (some ⟨b0,o0,none⟩)=some ⟨b0,o0+4,none⟩ by simp [add_off]] at hr6
   have HR5:=hid hr6
   clear hr6
   have HB:=hid hb
   obtain ⟨q,hq⟩:∃ q,4*(m - k)=q:=⟨_,rfl⟩
   rw [hq] at hck ⊢
   have hq4:4≤q:=by omega
   have HQ:=hid hq
   clear hg hset hr5 hb hown hr4 hrd h hown1 hb1 hv hq
   go_wp2_with fail
   refine (HG.out _).mono ?_
   rintro e w' ⟨rfl,rfl⟩
   have hq4c:4≤ck:=by omega
   have HQ4:=hid hq4
   go_wp2_with fail
   go_roundw
   case rel=>exact ⟨k+1,if ck=4 then some ⟨b0,o0,none⟩ else some ⟨b0,o0+4,none⟩,ck - 4,by omega,by go_num,by rw [show 4*(m - (k+1))=q - 4 by have:=HQ.out;omega],by have:=HQ.out;omega,by omega,HR5.out,HSET.out,HB.out.setCell (by simp) _⟩
   case measure=>simp [intOf];omega
  ·obtain rfl:k=m:=by omega
   rw [fillW_full] at hown
   have HH:=hid (And.intro hown hb)
   clear hown hb hown1 hb1 hrd h
   go_wp2_with fail
   go_ret
   exact ⟨rfl,HH.out.1,HH.out.2⟩
end Go.Proofs.YtbgkmicelmenfaaGreatDoor.S
namespace Go.Proofs.YtbgkmicelmenfaaGreatDoor.S
open Go.RowKit
set_option maxRecDepth 100000
theorem cf36 (vs:Array Value) (w:World):(callFunc 74 vs).run Tryz.prog w=.ok (.enter 74 vs) w:=by go_simp
theorem cf35 (vs:Array Value) (w:World):(callFunc 48 vs).run Tryz.prog w=.ok (.enter 48 vs) w:=by go_simp
def RowP (xs ys:List UInt8) (w:World) (v:Value):Prop:=∃ b,v=.slice (some ⟨b,0,none⟩) 2 2∧RowsB w b 0 [xs,ys]
theorem RowP.keep (xs ys:List UInt8):∀ w w' v,Ext w w'→RowP xs ys w v→RowP xs ys w' v:=fun _ _ _ hx ⟨b,h1,h2⟩=>⟨b,h1,h2.later hx⟩
def OwnP (base:Nat) (bs:List UInt8) (w:World) (v:Value):Prop:=∃ u,v=u∧Own w base u bs
theorem OwnP.keep (base:Nat) (bs:List UInt8):∀ w w' v,Ext w w'→OwnP base bs w v→OwnP base bs w' v:=fun _ _ _ hx ⟨u,h1,h2⟩=>⟨u,h1,h2.kept hx⟩
theorem build25 (A1 A2:Option Addr) (c1 c2:Nat) (w:World):(Instr.buildSlice 97 2 #[(0,.slice A1 4 c1),(1,.slice A2 4 c2)]).run Tryz.prog w=.ok (.slice (some ⟨w.heap.size,0,none⟩) 2 2) (w.alloc (.cells #[.slice A1 4 c1,.slice A2 4 c2] 22)):=by go_simp
theorem concat2 {w:World} {b:Nat} {xs ys:List UInt8} (h:RowsB w b 0 [xs,ys]) (hl:xs.length+ys.length=8) :
  Calls Tryz.prog 48 #[.slice (some ⟨b,0,none⟩) 2 2] w (RetB w (xs++ys)):=by
 have hf:([xs,ys]:List (List UInt8)).flatten=xs++ys:=by simp
 have h1:=concatB_any b 0 2 2 [xs,ys] w rfl h (by rw [hf,List.length_append];omega) (by rw [hf,List.length_append];omega) (by omega)
 rw [hf] at h1
 exact h1
theorem retOwn {w:World} {bs:List UInt8} {H:Nat} (hH:H≤w.heap.size) (e:Ending) (w':World) (h:RetB w bs e w'):∃ v,e=.returned v∧Ext w w'∧K.holds (.gen (OwnP H bs) (OwnP.keep _ _)) w' v:=by
 obtain ⟨v,rfl,ho,hb⟩:=h
 exact ⟨v,rfl,hb,v,rfl,ho.base_mono hH⟩
theorem ownN_heap {kd:IntKind} {e:TypeId} {w:World} {base g n:Nat} {L:List Int} (h:OwnN kd e w base (.slice (some ⟨g,0,none⟩) n n) L):w.heap[g]? = some (.cells (cN kd L).toArray e (0,0)):=by
 have hl:=h.len_eq
 rcases h.2 with ⟨h1,_⟩ | ⟨g',cap,cur,h1,_,hh,hnc,_,hcs,htake⟩
 ·cases h1
 ·simp only [Value.slice.injEq,Option.some.injEq,Addr.mk.injEq,and_true] at h1
  obtain ⟨rfl,h2,rfl⟩:=h1
  rw [hh]
  have e1:cur.toList.take (L.length*1)=cur.toList:=List.take_of_length_le (by simp;omega)
  have e2:cur.toList=cN kd L:=by rw [← e1];exact htake
  congr 2
  apply Array.ext'
  rw [e2]
def BlkRet (w:World) (bs:List UInt8) (e:Ending) (w':World):Prop:=∃ v,e=.returned (.tuple #[v,.int .i64 0])∧Own w' w.heap.size v bs∧Ext w w'
def blk7 (p G H:Nat) (t:T3) (y:W2):List K:=[.eq (.pointer (some ⟨p,0,none⟩)),.eq (.pointer (some ⟨p,0,none⟩)),.eq (.pointer (some ⟨p,0,none⟩)),.eq (.int .i64 t.code),.eq (.pointer (some ⟨G,0,none⟩)),.eq (.int .u32 (y.a.toNat:Nat)),.byt 4 (put t y.a),.eq (.pointer (some ⟨p,0,none⟩)),.eq (.pointer (some ⟨p,0,none⟩)),.eq (.pointer (some ⟨p,0,none⟩)),.eq (.int .i64 t.code),.eq (.pointer (some ⟨G,1,none⟩)),.eq (.int .u32 (y.b.toNat:Nat)),.byt 4 (put t y.b),.gen (RowP (put t y.a) (put t y.b)) (RowP.keep _ _),.gen (OwnP H (outW t y)) (OwnP.keep _ _),.gen (OwnP H (outW t y)) (OwnP.keep _ _),.eq (Value.int IntKind.i64 0)]
set_option maxHeartbeats 1000000 in
theorem block_bad (p:Nat) (A:Option Addr) (n cc:Nat) (back:Bool) (w:World) (h:n ≠ 8) :
  Calls Tryz.prog 37 #[.pointer (some ⟨p,0,none⟩),.slice A n cc,.bool back] w fun e w'=>e=.returned (.tuple #[.slice none 0 0,.int .i64 1])∧Ext w w':=by
 have g:((n:Int) != 8)=true:=by simp;omega
 go_enter Tryz.func37,Tryz.ntmps37
 go_wp2
 go_ret2
 exact ⟨rfl,Ext.refl _⟩
set_option maxHeartbeats 4000000 in
theorem blockT_any [Inhabited RT] (p b o c:Nat) (t:T3) (ah:W2) (ks:List UInt32) (A:Option Addr) (cc:Nat) (bs:List UInt8) (w:World) (hs:Small_ w p b o c t ah ks) (hn:ks.length≤1000) (hG:GRows w)
  (h:Rd w w.heap.size A 8 bs) (hc8:8≤cc) (hcb:cc≤9223372036854775807) :
  Calls Tryz.prog 37 #[.pointer (some ⟨p,0,none⟩),.slice A 8 cc,.bool false] w (BlkRet w (outW t (thereW t ah ks (inW t bs)))):=by
 have HS:=hid hs
 have hs0:=hid hs
 have HGR:=hid hG
 have ct:=hs.tag
 have hcut:=cut_any t A 2 cc bs w h (by omega) (by omega) hcb
 rw [show 4*2=8 from rfl] at hcut
 obtain ⟨T,hT⟩:∃ T,t.code=T:=⟨_,rfl⟩
 rw [hT] at ct hcut
 have HCUT:=hid hcut
 have HT:=hid hT
 clear hs hG h hcut hT
 go_enter Tryz.func37,Tryz.ntmps37
 go_wp2_with fail
 refine HCUT.out.mono ?_
 rintro e w1 ⟨rfl,ho1,hx1⟩
 have hrow:w1.heap[w.heap.size]? = some (.cells (inW t bs).cells 118 (0,0)):=ownN_heap ho1
 obtain ⟨x,hx⟩:∃ x,inW t bs=x:=⟨_,rfl⟩
 rw [hx] at hrow
 have HXX:=hid hx
 have HX1:=hid (show Ext w w1 from hx1)
 have HROW:=hid hrow
 have HAT:=hid (fun w'=>run_arrayAt (P:=Tryz.prog) w' 143 118 2 (some ⟨w.heap.size,0,none⟩) 2 2 Tryz.underlying143 (Nat.le_refl _))
 have hb2:B2 ((w1.alloc (.cells #[.int .u32 0,.int .u32 0] 143)).setRow w1.heap.size x.cells) w1.heap.size x:=B2.put (show B2 _ _ ⟨0,0⟩ from heap_alloc_new w1 _) x
 have hz1:=Below.size hx1
 have hx2:Ext w ((w1.alloc (.cells #[.int .u32 0,.int .u32 0] 143)).setRow w1.heap.size x.cells):=Below.setRow_ (Ext.trans hx1 (Ext.alloc _ _)) hz1 _
 have HB2:=hid hb2
 have HX2:=hid hx2
 have HS2:=hid (HS.out.later hx2)
 have HG2:=hid (HGR.out.later hx2)
 have HZ1:=hid hz1
 clear ho1 hx1 hrow HCUT ct hx hb2 hx2 hz1 HS HGR
 go_wp2_with (first
  | (rw [HAT.out];simp only [Result.andThen];rw [Oper.upon_value])
  | (refine wpList_load_row rfl 143 (.tmp 18) rfl w.heap.size rfl 118 x.cells (0,0) _ HROW.out Tryz.underlying143 rfl (W2.size x) ?_)
  | (refine wpList_store_row rfl 143 (.tmp 8) (.tmp 19) rfl w1.heap.size x.cells rfl rfl 143 _ (heap_alloc_new w1 _) (W2.size x) rfl (W2.all x) ?_)
  | (refine wpList_load_row rfl 143 (.tmp 8) rfl w1.heap.size rfl 143 x.cells (0,0) _ HB2.out Tryz.underlying143 rfl (W2.size x) ?_))
 refine (turn_any p b o c t ah ks x _ HS2.out hn HG2.out).mono ?_
 rintro e w3 ⟨rfl,hx3⟩
 obtain ⟨y,hy⟩:∃ y,thereW t ah ks x=y:=⟨_,rfl⟩
 have HYY:=hid hy
 rw [hy]
 have hb3:=HB2.out.later hx3
 have HB3:=hid hb3
 have HB4:=hid (hb3.put y)
 have HX4:=hid (Below.setRow_ (Ext.trans HX2.out hx3) HZ1.out y.cells:Below w.heap.size w (w3.setRow w1.heap.size y.cells))
 have HSW:=hid (hs0.out.later (show Ext w _ from HX4.out))
 clear hb3 hx3 hy HX2 HS2 HG2 HROW HAT HB2
 go_wp2_with (refine wpList_store_row rfl 143 (.tmp 8) (.tmp 26) rfl w1.heap.size y.cells rfl rfl 143 _ HB3.out (W2.size y) rfl (W2.all y) ?_)
 obtain ⟨W4,hW4⟩:∃ W4,w3.setRow w1.heap.size y.cells=W4:=⟨_,rfl⟩
 rw [hW4] at HB4 HX4 HSW ⊢
 obtain ⟨G,hGe⟩:∃ G,w1.heap.size=G:=⟨_,rfl⟩
 rw [hGe] at HB4 ⊢
 obtain ⟨H,hHe⟩:∃ H,w.heap.size=H:=⟨_,rfl⟩
 have HHE:=hid hHe
 have HB:=hid HB4.out
 have HSM:=hid HSW.out
 have HH0:=hid (show H≤W4.heap.size by rw [← hHe];exact Below.size HX4.out)
 clear hW4 hGe HB3 HZ1 HB4 HSW hHe
 refine region_inv mixed rfl (by kernel_rfl) (kV (blk7 p G H t y)) (kV_keep _) (forall_ops ⟨?_,?_,?_,?_,?_,?_,?_,?_,?_,?_,?_,?_,?_,?_,?_,?_,?_,?_,trivial⟩) ?_
 ·intro a w hk
  have s0:a.tmps.getD 0 undef=.pointer (some ⟨p,0,none⟩):=hk.was 0 (by kernel_rfl) rfl
  exact step_move rfl rfl s0 rfl
 ·intro a w hk
  have s27:=hk.eq_ 0 27 (by kernel_rfl) rfl
  refine step_val (v:=.pointer (some ⟨p,0,none⟩)) (w':=w) rfl ?_ (Ext.refl w) rfl
  go_simp
 ·intro a w hk
  have s28:=hk.eq_ 1 28 (by kernel_rfl) rfl
  refine step_val (v:=.pointer (some ⟨p,0,none⟩)) (w':=w) rfl ?_ (Ext.refl w) rfl
  go_simp
 ·intro a w hk
  have s29:=hk.eq_ 2 29 (by kernel_rfl) rfl
  refine step_val (v:=.int .i64 t.code) (w':=w) rfl ?_ (Ext.refl w) rfl
  have hc:=(HSM.out.later hk.ext).tag
  go_simp
 ·intro a w hk
  have s8:a.tmps.getD 8 undef=.pointer (some ⟨G,0,none⟩):=hk.was 8 (by kernel_rfl) rfl
  refine step_val (v:=.pointer (some ⟨G,0,none⟩)) (w':=w) rfl ?_ (Ext.refl w) rfl
  go_simp
 ·intro a w hk
  have s31:=hk.eq_ 4 31 (by kernel_rfl) rfl
  refine step_val (v:=.int .u32 (y.a.toNat:Nat)) (w':=w) rfl ?_ (Ext.refl w) rfl
  have hc:=(HB.out.later hk.ext).ca
  go_simp
 ·intro a w hk
  have s30:=hk.eq_ 3 30 (by kernel_rfl) rfl
  have s32:=hk.eq_ 5 32 (by kernel_rfl) rfl
  exact step_call rfl rfl (by simp only [List.map_toArray,List.map_cons,List.map_nil,Act.eval,s30,s32]<;>rfl) cf36 (spreadT_any t y.a w) (fun e w1 h=>RetB.k (put_length t y.a) e w1 h)
 ·intro a w hk
  have s0:a.tmps.getD 0 undef=.pointer (some ⟨p,0,none⟩):=hk.was 0 (by kernel_rfl) rfl
  exact step_move rfl rfl s0 rfl
 ·intro a w hk
  have s34:=hk.eq_ 7 34 (by kernel_rfl) rfl
  refine step_val (v:=.pointer (some ⟨p,0,none⟩)) (w':=w) rfl ?_ (Ext.refl w) rfl
  go_simp
 ·intro a w hk
  have s35:=hk.eq_ 8 35 (by kernel_rfl) rfl
  refine step_val (v:=.pointer (some ⟨p,0,none⟩)) (w':=w) rfl ?_ (Ext.refl w) rfl
  go_simp
 ·intro a w hk
  have s36:=hk.eq_ 9 36 (by kernel_rfl) rfl
  refine step_val (v:=.int .i64 t.code) (w':=w) rfl ?_ (Ext.refl w) rfl
  have hc:=(HSM.out.later hk.ext).tag
  go_simp
 ·intro a w hk
  have s8:a.tmps.getD 8 undef=.pointer (some ⟨G,0,none⟩):=hk.was 8 (by kernel_rfl) rfl
  refine step_val (v:=.pointer (some ⟨G,1,none⟩)) (w':=w) rfl ?_ (Ext.refl w) rfl
  go_simp
 ·intro a w hk
  have s38:=hk.eq_ 11 38 (by kernel_rfl) rfl
  refine step_val (v:=.int .u32 (y.b.toNat:Nat)) (w':=w) rfl ?_ (Ext.refl w) rfl
  have hc:=(HB.out.later hk.ext).cb
  go_simp
 ·intro a w hk
  have s37:=hk.eq_ 10 37 (by kernel_rfl) rfl
  have s39:=hk.eq_ 12 39 (by kernel_rfl) rfl
  exact step_call rfl rfl (by simp only [List.map_toArray,List.map_cons,List.map_nil,Act.eval,s37,s39]<;>rfl) cf36 (spreadT_any t y.b w) (fun e w1 h=>RetB.k (put_length t y.b) e w1 h)
 ·intro a w hk
  obtain ⟨A33,c33,s33,r33⟩:=hk.byt_ 6 33 (by kernel_rfl) rfl
  obtain ⟨A40,c40,s40,r40⟩:=hk.byt_ 13 40 (by kernel_rfl) rfl
  refine step_val (v:=.slice (some ⟨w.heap.size,0,none⟩) 2 2) (w':=w.alloc (.cells #[.slice A33 4 c33,.slice A40 4 c40] 22)) rfl ?_ (Ext.alloc _ _) ⟨_,rfl,RowsB.two w A33 A40 4 4 c33 c40 22 _ _ r33 r40⟩
  have e:=build25 A33 A40 c33 c40 w
  simp only [execOp,Act.eval,List.map_toArray,List.map_cons,List.map_nil,s33,s40,Sem.run_bind,e,Sem.run_pure,Result.andThen]
 ·intro a w hk
  obtain ⟨b41,s41,g41⟩:=hk.val 14 41 (by kernel_rfl) rfl
  exact step_call rfl rfl (by simp only [List.map_toArray,List.map_cons,List.map_nil,Act.eval,s41]<;>rfl) cf35 (concat2 g41 (by simp [put_length])) (fun e w1 h=>retOwn (Nat.le_trans HH0.out (Below.size hk.ext)) e w1 h)
 ·intro a w hk
  obtain ⟨u42,s42,g42⟩:=hk.val 15 42 (by kernel_rfl) rfl
  exact step_assign rfl rfl s42 ⟨_,rfl,g42⟩
 ·intro a w hk
  exact step_assign rfl rfl rfl rfl
 ·intro a w1 hf
  have s27:=hf.eq_ 0 27 (by kernel_rfl) rfl
  have s28:=hf.eq_ 1 28 (by kernel_rfl) rfl
  have s29:=hf.eq_ 2 29 (by kernel_rfl) rfl
  have s30:=hf.eq_ 3 30 (by kernel_rfl) rfl
  have s31:=hf.eq_ 4 31 (by kernel_rfl) rfl
  have s32:=hf.eq_ 5 32 (by kernel_rfl) rfl
  obtain ⟨A33,c33,s33,r33⟩:=hf.val 6 33 (by kernel_rfl) rfl
  have s34:=hf.eq_ 7 34 (by kernel_rfl) rfl
  have s35:=hf.eq_ 8 35 (by kernel_rfl) rfl
  have s36:=hf.eq_ 9 36 (by kernel_rfl) rfl
  have s37:=hf.eq_ 10 37 (by kernel_rfl) rfl
  have s38:=hf.eq_ 11 38 (by kernel_rfl) rfl
  have s39:=hf.eq_ 12 39 (by kernel_rfl) rfl
  obtain ⟨A40,c40,s40,r40⟩:=hf.val 13 40 (by kernel_rfl) rfl
  obtain ⟨b41,s41,g41⟩:=hf.val 14 41 (by kernel_rfl) rfl
  obtain ⟨u42,s42,g42⟩:=hf.val 15 42 (by kernel_rfl) rfl
  obtain ⟨u6,s6,g6⟩:=hf.val 16 6 (by kernel_rfl) rfl
  have s7:=hf.eq_ 17 7 (by kernel_rfl) rfl
  have hx:=hf.ext
  have e:=hf.frame
  clear hf
  simp only [regFrame,Act.put,List.setIfInBounds_toArray,List.set_cons_zero,List.set_cons_succ,s27,s28,s29,s30,s31,s32,s33,s34,s35,s36,s37,s38,s39,s40,s41,s42,s6,s7] at e
  clear s27 s28 s29 s30 s31 s32 s33 s34 s35 s36 s37 s38 s39 s40 s41 s42 s6 s7
  subst e
  have HO:=hid g6
  have HE:=hid (Ext.trans HX4.out hx)
  have HHE2:=HHE.out
  clear g42 g6 g41 r33 r40 hx
  subst HHE2
  go_wp2_with fail
  go_ret2
  exact ⟨u6,rfl,by rw [HXX.out,HYY.out];exact HO.out,HE.out⟩
set_option maxHeartbeats 4000000 in
theorem blockB_any [Inhabited RT] (p b o c:Nat) (t:T3) (ah:W2) (ks:List UInt32) (A:Option Addr) (cc:Nat) (bs:List UInt8) (w:World) (hs:Small_ w p b o c t ah ks) (hn:ks.length≤1000) (hG:GRows w)
  (h:Rd w w.heap.size A 8 bs) (hc8:8≤cc) (hcb:cc≤9223372036854775807) :
  Calls Tryz.prog 37 #[.pointer (some ⟨p,0,none⟩),.slice A 8 cc,.bool true] w (BlkRet w (outW t (backW t ah ks (inW t bs)))):=by
 have HS:=hid hs
 have hs0:=hid hs
 have HGR:=hid hG
 have ct:=hs.tag
 have hcut:=cut_any t A 2 cc bs w h (by omega) (by omega) hcb
 rw [show 4*2=8 from rfl] at hcut
 obtain ⟨T,hT⟩:∃ T,t.code=T:=⟨_,rfl⟩
 rw [hT] at ct hcut
 have HCUT:=hid hcut
 have HT:=hid hT
 clear hs hG h hcut hT
 go_enter Tryz.func37,Tryz.ntmps37
 go_wp2_with fail
 refine HCUT.out.mono ?_
 rintro e w1 ⟨rfl,ho1,hx1⟩
 have hrow:w1.heap[w.heap.size]? = some (.cells (inW t bs).cells 118 (0,0)):=ownN_heap ho1
 obtain ⟨x,hx⟩:∃ x,inW t bs=x:=⟨_,rfl⟩
 rw [hx] at hrow
 have HXX:=hid hx
 have HX1:=hid (show Ext w w1 from hx1)
 have HROW:=hid hrow
 have HAT:=hid (fun w'=>run_arrayAt (P:=Tryz.prog) w' 143 118 2 (some ⟨w.heap.size,0,none⟩) 2 2 Tryz.underlying143 (Nat.le_refl _))
 have hb2:B2 ((w1.alloc (.cells #[.int .u32 0,.int .u32 0] 143)).setRow w1.heap.size x.cells) w1.heap.size x:=B2.put (show B2 _ _ ⟨0,0⟩ from heap_alloc_new w1 _) x
 have hz1:=Below.size hx1
 have hx2:Ext w ((w1.alloc (.cells #[.int .u32 0,.int .u32 0] 143)).setRow w1.heap.size x.cells):=Below.setRow_ (Ext.trans hx1 (Ext.alloc _ _)) hz1 _
 have HB2:=hid hb2
 have HX2:=hid hx2
 have HS2:=hid (HS.out.later hx2)
 have HG2:=hid (HGR.out.later hx2)
 have HZ1:=hid hz1
 clear ho1 hx1 hrow HCUT ct hx hb2 hx2 hz1 HS HGR
 go_wp2_with (first
  | (rw [HAT.out];simp only [Result.andThen];rw [Oper.upon_value])
  | (refine wpList_load_row rfl 143 (.tmp 18) rfl w.heap.size rfl 118 x.cells (0,0) _ HROW.out Tryz.underlying143 rfl (W2.size x) ?_)
  | (refine wpList_store_row rfl 143 (.tmp 8) (.tmp 19) rfl w1.heap.size x.cells rfl rfl 143 _ (heap_alloc_new w1 _) (W2.size x) rfl (W2.all x) ?_)
  | (refine wpList_load_row rfl 143 (.tmp 8) rfl w1.heap.size rfl 143 x.cells (0,0) _ HB2.out Tryz.underlying143 rfl (W2.size x) ?_))
 refine (turnBack_any p b o c t ah ks x _ HS2.out hn HG2.out).mono ?_
 rintro e w3 ⟨rfl,hx3⟩
 obtain ⟨y,hy⟩:∃ y,backW t ah ks x=y:=⟨_,rfl⟩
 have HYY:=hid hy
 rw [hy]
 have hb3:=HB2.out.later hx3
 have HB3:=hid hb3
 have HB4:=hid (hb3.put y)
 have HX4:=hid (Below.setRow_ (Ext.trans HX2.out hx3) HZ1.out y.cells:Below w.heap.size w (w3.setRow w1.heap.size y.cells))
 have HSW:=hid (hs0.out.later (show Ext w _ from HX4.out))
 clear hb3 hx3 hy HX2 HS2 HG2 HROW HAT HB2
 go_wp2_with (refine wpList_store_row rfl 143 (.tmp 8) (.tmp 23) rfl w1.heap.size y.cells rfl rfl 143 _ HB3.out (W2.size y) rfl (W2.all y) ?_)
 obtain ⟨W4,hW4⟩:∃ W4,w3.setRow w1.heap.size y.cells=W4:=⟨_,rfl⟩
 rw [hW4] at HB4 HX4 HSW ⊢
 obtain ⟨G,hGe⟩:∃ G,w1.heap.size=G:=⟨_,rfl⟩
 rw [hGe] at HB4 ⊢
 obtain ⟨H,hHe⟩:∃ H,w.heap.size=H:=⟨_,rfl⟩
 have HHE:=hid hHe
 have HB:=hid HB4.out
 have HSM:=hid HSW.out
 have HH0:=hid (show H≤W4.heap.size by rw [← hHe];exact Below.size HX4.out)
 clear hW4 hGe HB3 HZ1 HB4 HSW hHe
 refine region_inv mixed rfl (by kernel_rfl) (kV (blk7 p G H t y)) (kV_keep _) (forall_ops ⟨?_,?_,?_,?_,?_,?_,?_,?_,?_,?_,?_,?_,?_,?_,?_,?_,?_,?_,trivial⟩) ?_
 ·intro a w hk
  have s0:a.tmps.getD 0 undef=.pointer (some ⟨p,0,none⟩):=hk.was 0 (by kernel_rfl) rfl
  exact step_move rfl rfl s0 rfl
 ·intro a w hk
  have s27:=hk.eq_ 0 27 (by kernel_rfl) rfl
  refine step_val (v:=.pointer (some ⟨p,0,none⟩)) (w':=w) rfl ?_ (Ext.refl w) rfl
  go_simp
 ·intro a w hk
  have s28:=hk.eq_ 1 28 (by kernel_rfl) rfl
  refine step_val (v:=.pointer (some ⟨p,0,none⟩)) (w':=w) rfl ?_ (Ext.refl w) rfl
  go_simp
 ·intro a w hk
  have s29:=hk.eq_ 2 29 (by kernel_rfl) rfl
  refine step_val (v:=.int .i64 t.code) (w':=w) rfl ?_ (Ext.refl w) rfl
  have hc:=(HSM.out.later hk.ext).tag
  go_simp
 ·intro a w hk
  have s8:a.tmps.getD 8 undef=.pointer (some ⟨G,0,none⟩):=hk.was 8 (by kernel_rfl) rfl
  refine step_val (v:=.pointer (some ⟨G,0,none⟩)) (w':=w) rfl ?_ (Ext.refl w) rfl
  go_simp
 ·intro a w hk
  have s31:=hk.eq_ 4 31 (by kernel_rfl) rfl
  refine step_val (v:=.int .u32 (y.a.toNat:Nat)) (w':=w) rfl ?_ (Ext.refl w) rfl
  have hc:=(HB.out.later hk.ext).ca
  go_simp
 ·intro a w hk
  have s30:=hk.eq_ 3 30 (by kernel_rfl) rfl
  have s32:=hk.eq_ 5 32 (by kernel_rfl) rfl
  exact step_call rfl rfl (by simp only [List.map_toArray,List.map_cons,List.map_nil,Act.eval,s30,s32]<;>rfl) cf36 (spreadT_any t y.a w) (fun e w1 h=>RetB.k (put_length t y.a) e w1 h)
 ·intro a w hk
  have s0:a.tmps.getD 0 undef=.pointer (some ⟨p,0,none⟩):=hk.was 0 (by kernel_rfl) rfl
  exact step_move rfl rfl s0 rfl
 ·intro a w hk
  have s34:=hk.eq_ 7 34 (by kernel_rfl) rfl
  refine step_val (v:=.pointer (some ⟨p,0,none⟩)) (w':=w) rfl ?_ (Ext.refl w) rfl
  go_simp
 ·intro a w hk
  have s35:=hk.eq_ 8 35 (by kernel_rfl) rfl
  refine step_val (v:=.pointer (some ⟨p,0,none⟩)) (w':=w) rfl ?_ (Ext.refl w) rfl
  go_simp
 ·intro a w hk
  have s36:=hk.eq_ 9 36 (by kernel_rfl) rfl
  refine step_val (v:=.int .i64 t.code) (w':=w) rfl ?_ (Ext.refl w) rfl
  have hc:=(HSM.out.later hk.ext).tag
  go_simp
 ·intro a w hk
  have s8:a.tmps.getD 8 undef=.pointer (some ⟨G,0,none⟩):=hk.was 8 (by kernel_rfl) rfl
  refine step_val (v:=.pointer (some ⟨G,1,none⟩)) (w':=w) rfl ?_ (Ext.refl w) rfl
  go_simp
 ·intro a w hk
  have s38:=hk.eq_ 11 38 (by kernel_rfl) rfl
  refine step_val (v:=.int .u32 (y.b.toNat:Nat)) (w':=w) rfl ?_ (Ext.refl w) rfl
  have hc:=(HB.out.later hk.ext).cb
  go_simp
 ·intro a w hk
  have s37:=hk.eq_ 10 37 (by kernel_rfl) rfl
  have s39:=hk.eq_ 12 39 (by kernel_rfl) rfl
  exact step_call rfl rfl (by simp only [List.map_toArray,List.map_cons,List.map_nil,Act.eval,s37,s39]<;>rfl) cf36 (spreadT_any t y.b w) (fun e w1 h=>RetB.k (put_length t y.b) e w1 h)
 ·intro a w hk
  obtain ⟨A33,c33,s33,r33⟩:=hk.byt_ 6 33 (by kernel_rfl) rfl
  obtain ⟨A40,c40,s40,r40⟩:=hk.byt_ 13 40 (by kernel_rfl) rfl
  refine step_val (v:=.slice (some ⟨w.heap.size,0,none⟩) 2 2) (w':=w.alloc (.cells #[.slice A33 4 c33,.slice A40 4 c40] 22)) rfl ?_ (Ext.alloc _ _) ⟨_,rfl,RowsB.two w A33 A40 4 4 c33 c40 22 _ _ r33 r40⟩
  have e:=build25 A33 A40 c33 c40 w
  simp only [execOp,Act.eval,List.map_toArray,List.map_cons,List.map_nil,s33,s40,Sem.run_bind,e,Sem.run_pure,Result.andThen]
 ·intro a w hk
  obtain ⟨b41,s41,g41⟩:=hk.val 14 41 (by kernel_rfl) rfl
  exact step_call rfl rfl (by simp only [List.map_toArray,List.map_cons,List.map_nil,Act.eval,s41]<;>rfl) cf35 (concat2 g41 (by simp [put_length])) (fun e w1 h=>retOwn (Nat.le_trans HH0.out (Below.size hk.ext)) e w1 h)
 ·intro a w hk
  obtain ⟨u42,s42,g42⟩:=hk.val 15 42 (by kernel_rfl) rfl
  exact step_assign rfl rfl s42 ⟨_,rfl,g42⟩
 ·intro a w hk
  exact step_assign rfl rfl rfl rfl
 ·intro a w1 hf
  have s27:=hf.eq_ 0 27 (by kernel_rfl) rfl
  have s28:=hf.eq_ 1 28 (by kernel_rfl) rfl
  have s29:=hf.eq_ 2 29 (by kernel_rfl) rfl
  have s30:=hf.eq_ 3 30 (by kernel_rfl) rfl
  have s31:=hf.eq_ 4 31 (by kernel_rfl) rfl
  have s32:=hf.eq_ 5 32 (by kernel_rfl) rfl
  obtain ⟨A33,c33,s33,r33⟩:=hf.val 6 33 (by kernel_rfl) rfl
  have s34:=hf.eq_ 7 34 (by kernel_rfl) rfl
  have s35:=hf.eq_ 8 35 (by kernel_rfl) rfl
  have s36:=hf.eq_ 9 36 (by kernel_rfl) rfl
  have s37:=hf.eq_ 10 37 (by kernel_rfl) rfl
  have s38:=hf.eq_ 11 38 (by kernel_rfl) rfl
  have s39:=hf.eq_ 12 39 (by kernel_rfl) rfl
  obtain ⟨A40,c40,s40,r40⟩:=hf.val 13 40 (by kernel_rfl) rfl
  obtain ⟨b41,s41,g41⟩:=hf.val 14 41 (by kernel_rfl) rfl
  obtain ⟨u42,s42,g42⟩:=hf.val 15 42 (by kernel_rfl) rfl
  obtain ⟨u6,s6,g6⟩:=hf.val 16 6 (by kernel_rfl) rfl
  have s7:=hf.eq_ 17 7 (by kernel_rfl) rfl
  have hx:=hf.ext
  have e:=hf.frame
  clear hf
  simp only [regFrame,Act.put,List.setIfInBounds_toArray,List.set_cons_zero,List.set_cons_succ,s27,s28,s29,s30,s31,s32,s33,s34,s35,s36,s37,s38,s39,s40,s41,s42,s6,s7] at e
  clear s27 s28 s29 s30 s31 s32 s33 s34 s35 s36 s37 s38 s39 s40 s41 s42 s6 s7
  subst e
  have HO:=hid g6
  have HE:=hid (Ext.trans HX4.out hx)
  have HHE2:=HHE.out
  clear g42 g6 g41 r33 r40 hx
  subst HHE2
  go_wp2_with fail
  go_ret2
  exact ⟨u6,rfl,by rw [HXX.out,HYY.out];exact HO.out,HE.out⟩
end Go.Proofs.YtbgkmicelmenfaaGreatDoor.S
namespace Go.Proofs.YtbgkmicelmenfaaGreatDoor.S
open Go.RowKit
set_option maxRecDepth 100000
theorem one_rd (w:World) (x:UInt32):RdN .u32 (w.alloc (.cells #[.int .u32 (x.toNat:Nat)] 118)) (w.heap.size+1) (some ⟨w.heap.size,0,none⟩) 1 (nW [x]) :=
 ⟨rfl,fun _=>⟨w.heap.size,0,rfl,by omega,fun j hj=>by
  obtain rfl:j=0:=by omega
  rw [Nat.add_zero,cell_of_heap (heap_alloc_new w _)];rfl⟩⟩
def KS (k:Nat→UInt32) (j:Nat):List UInt32:=(List.range j).map (keyX k)
theorem KS_length (k:Nat→UInt32) (j:Nat):(KS k j).length=j:=by simp [KS]
theorem KS_succ (k:Nat→UInt32) (j:Nat):KS k (j+1)=KS k j++[keyX k j]:=by simp [KS,List.range_succ]
theorem keyX_even (k:Nat→UInt32) (j:Nat):keyX k (2*j)=sumX j+k ((sumX j).toNat % 4):=by
 unfold keyX
 rw [if_pos (by omega),show 2*j / 2=j by omega]
theorem keyX_odd (k:Nat→UInt32) (j:Nat):keyX k (2*j+1)=sumX (j+1)+k ((sumX (j+1)).toNat / 2048 % 4):=by
 unfold keyX
 rw [if_neg (by omega),show (2*j+1) / 2=j by omega]
def lenAt (k:Nat) (a:Act):Nat:=match a.tmps.getD k undef with | .slice _ n _=>n | _=>0
def XkJ (g c:Nat) (l:List UInt32) (w:World) (a:Act) (w1:World):Prop :=
 ∃ (j:Nat) (Av:Option Addr) (cv:Nat) (u5 u6 u7 u8 u9 u10 u11 u12 u13 u14 u15 u16 u17 u18 u19 u20 u21 u22 u23 u24 u25 u26 u27 u28 u29 u30 u31 u32:Value),
  a = { tmps:=#[.slice (some ⟨g,0,none⟩) 4 c,undef,.slice none 0 0,.slice Av (2*j:Nat) cv,.int .u32 ((sumX j).toNat:Nat),u5,u6,u7,u8,u9,u10,u11,u12,u13,u14,u15,u16,u17,u18,u19,u20,u21,u22,u23,u24,u25,u26,u27,u28,u29,u30,u31,u32],defers:=[] }∧j < 32 ∧
  OwnW w1 w.heap.size (.slice Av (2*j:Nat) cv) (KS (fun i=>l.getD i 0) (2*j))∧Ext w w1
def WRet (n:Nat) (w:World) (ks:List UInt32) (e:Ending) (w':World):Prop:=∃ g c,e=.returned (.slice (some ⟨g,0,none⟩) n c)∧n≤c∧c≤9223372036854775807∧OwnW w' w.heap.size (.slice (some ⟨g,0,none⟩) n c) ks∧Ext w w'
theorem OwnW.room {w:World} {base n c:Nat} {A:Option Addr} {ks:List UInt32} (h:OwnW w base (.slice A n c) ks):c≤9223372036854775807:=by
 rcases h.2 with ⟨h1,_⟩ | ⟨g,cap,cur,h1,_,_,_,hcm,_,_⟩
 ·cases h1;omega
 ·cases h1;unfold maxLen at hcm;omega
set_option maxHeartbeats 4000000 in
theorem xkeys_any (g c:Nat) (l:List UInt32) (w:World) (hk:KW w g 0 l) (hl:l.length=4) :
  Calls Tryz.prog 69 #[.slice (some ⟨g,0,none⟩) 4 c] w (WRet 64 w (KS (fun i=>l.getD i 0) 64)):=by
 have HK:=hid hk
 have HL:=hid hl
 obtain ⟨i0,hi0,hz0,hz1,hz2⟩:=info_parts Tryz.info43
 have HI:=hid (And.intro hi0 (And.intro hz0 (And.intro hz1 hz2)))
 clear hk hl hi0 hz0 hz1 hz2
 go_enter Tryz.func69,Tryz.ntmps69
 go_wp2_with fail
 refine wp_scope_jumps2 0 (XkJ g c l w) (fun a _=>64 - lenAt 3 a) rfl ?_ ?_
 ·rintro a w1 ⟨j,Av,cv,u5,u6,u7,u8,u9,u10,u11,u12,u13,u14,u15,u16,u17,u18,u19,u20,u21,u22,u23,u24,u25,u26,u27,u28,u29,u30,u31,u32,rfl,hj,hown,hx⟩
  have hlen:=KS_length (fun i=>l.getD i 0) (2*j)
  have hlen1:=KS_length (fun i=>l.getD i 0) (2*j+1)
  have hlen2:=KS_length (fun i=>l.getD i 0) (2*(j+1))
  have HS1:=hid (show KS (fun i=>l.getD i 0) (2*j)++[sumX j+l.getD ((sumX j).toNat % 4) 0] = KS (fun i=>l.getD i 0) (2*j+1) by rw [KS_succ,keyX_even])
  have HS2:=hid (show KS (fun i=>l.getD i 0) (2*j+1)++[sumX (j+1)+l.getD ((sumX (j+1)).toNat / 2048 % 4) 0] = KS (fun i=>l.getD i 0) (2*(j+1)) by rw [show 2*(j+1)=2*j+1+1 by omega,KS_succ _ (2*j+1),keyX_odd])
  have hss:=sumX_succ j
  obtain ⟨S,hS⟩:∃ S,sumX j=S:=⟨_,rfl⟩
  obtain ⟨S2,hS2⟩:∃ S2,sumX (j+1)=S2:=⟨_,rfl⟩
  rw [hS] at HS1 hss
  rw [hS2] at HS2 hss
  have hs2:((S.toNat:Int)+2654435769) % 4294967296=(S2.toNat:Int):=by rw [hss];exact w_add S gold
  obtain ⟨i1,hi1⟩:∃ i1,S.toNat % 4=i1:=⟨_,rfl⟩
  obtain ⟨i2,hi2⟩:∃ i2,S2.toNat / 2048 % 4=i2:=⟨_,rfl⟩
  rw [hi1] at HS1
  rw [hi2] at HS2
  have e1:(S.toNat:Int) % 4=(i1:Int):=by omega
  have e2:(S2.toNat:Int) / 2048 % 4=(i2:Int):=by omega
  have l1:i1 < 4:=by omega
  have l2:i2 < 4:=by omega
  have hc1:=(HK.out.later hx) i1 (by rw [HL.out];exact l1)
  rw [Nat.zero_add] at hc1
  obtain ⟨k1,hk1⟩:∃ k1,l.getD i1 0=k1:=⟨_,rfl⟩
  obtain ⟨k2,hk2⟩:∃ k2,l.getD i2 0=k2:=⟨_,rfl⟩
  rw [hk1] at hc1 HS1
  rw [hk2] at HS2
  have hsum1:=w_add S k1
  have hsum2:=w_add S2 k2
  obtain ⟨X1,hX1⟩:∃ X1,S+k1=X1:=⟨_,rfl⟩
  obtain ⟨X2,hX2⟩:∃ X2,S2+k2=X2:=⟨_,rfl⟩
  rw [hX1] at hsum1 HS1
  rw [hX2] at hsum2 HS2
  have hal1:=Ext.alloc w1 (.cells #[.int .u32 (X1.toNat:Nat)] 118)
  have hown1:=OwnN.kept hown hal1
  have hrd1:=one_rd w1 X1
  have b1:=wlt S
  have b2:=wlt k1
  have b3:=wlt S2
  have b4:=wlt k2
  have hz1:=Below.size hx
  have HX:=hid hx
  have HS:=hid hS
  have HSS2:=hid hS2
  have HK2:=hid hk2
  clear hX1 hX2 hss hS hS2 hi1 hi2 hk1 hk2 hown hx
  have HAL2:=hid (fun (W:World)=>Ext.alloc W (.cells #[.int .u32 (X2.toNat:Nat)] 118))
  have HRD2:=hid (fun (W:World)=>one_rd W X2)
  have HCC:=hid (fun (W:World) (hW:Ext w W)=>show W.cell? ⟨g,i2,none⟩=some (.int .u32 (k2.toNat:Nat)) by
   have:=(HK.out.later hW) i2 (by rw [HL.out];exact l2)
   rw [Nat.zero_add,HK2.out] at this;exact this)
  rw [HS.out]
  by_cases hlast:j+1 < 32
  ·have h64:((2*(j+1):Nat):Int) < 64:=by omega
   go_wp2_with (first
    | (at_builtin;refine wpL_appendN _ rfl (.tmp 6) (.tmp 14) 115 rfl Tryz.underlying115 4 Tryz.info43 w.heap.size _ (nW (KS (fun i=>l.getD i 0) (2*j))) rfl hown1 _ _ 1 1 (nW [X1]) rfl hrd1 (by rw [nW_length,hlen];omega) (by rw [nW_length,hlen];unfold maxLen;omega) (by simp;omega) ?_;intro v2 w2 hown2 hb2;rw [← nW_append,HS1.out] at hown2;obtain ⟨A2,c2,rfl,hcc2,_,hown2⟩:=OwnN.rdc (n:=2*j+1) hown2 (by rw [nW_length,hlen1]);have hx2:=(show Ext w w2 from (Below.trans HX.out (Below.mono hal1 hz1)).trans hb2);have hc2:=HCC.out w2 hx2;have hown3:=OwnN.kept hown2 (HAL2.out w2);have hrd3:=HRD2.out w2;have hz2:=Below.size hx2;have HX2:=hid hx2;clear hx2 hb2 hown1 hrd1 hal1)
    | (at_builtin;refine wpL_appendN _ rfl (.tmp 18) (.tmp 27) 115 rfl Tryz.underlying115 4 Tryz.info43 w.heap.size _ (nW (KS (fun i=>l.getD i 0) (2*j+1))) rfl hown3 _ _ 1 1 (nW [X2]) rfl hrd3 (by rw [nW_length,hlen1];omega) (by rw [nW_length,hlen1];unfold maxLen;omega) (by simp;omega) ?_;intro v4 w4 hown4 hb4;rw [← nW_append,HS2.out] at hown4;obtain ⟨A4,c4,rfl,hcc4,_,hown4⟩:=OwnN.rdc (n:=2*(j+1)) hown4 (by rw [nW_length,hlen2]);have HX4:=hid (show Ext w w4 from (Below.trans HX2.out (Below.mono (HAL2.out w2) hz2)).trans hb4);have HO4:=hid hown4;clear hb4 hown4 hown3 hrd3))
   go_wp2_with fail
   go_step3
   (try simp only [Exit.jump])
   refine ⟨rfl,⟨j+1,A4,c4,_,_,_,_,_,_,_,_,_,_,_,_,_,_,_,_,_,_,_,_,_,_,_,_,_,_,_,_,by rw [HSS2.out],hlast,HO4.out,HX4.out⟩,?_⟩
   simp [lenAt];omega
  ·have h64:¬ ((2*(j+1):Nat):Int) < 64:=by omega
   go_wp2_with (first
    | (at_builtin;refine wpL_appendN _ rfl (.tmp 6) (.tmp 14) 115 rfl Tryz.underlying115 4 Tryz.info43 w.heap.size _ (nW (KS (fun i=>l.getD i 0) (2*j))) rfl hown1 _ _ 1 1 (nW [X1]) rfl hrd1 (by rw [nW_length,hlen];omega) (by rw [nW_length,hlen];unfold maxLen;omega) (by simp;omega) ?_;intro v2 w2 hown2 hb2;rw [← nW_append,HS1.out] at hown2;obtain ⟨A2,c2,rfl,hcc2,_,hown2⟩:=OwnN.rdc (n:=2*j+1) hown2 (by rw [nW_length,hlen1]);have hx2:=(show Ext w w2 from (Below.trans HX.out (Below.mono hal1 hz1)).trans hb2);have hc2:=HCC.out w2 hx2;have hown3:=OwnN.kept hown2 (HAL2.out w2);have hrd3:=HRD2.out w2;have hz2:=Below.size hx2;have HX2:=hid hx2;clear hx2 hb2 hown1 hrd1 hal1)
    | (at_builtin;refine wpL_appendN _ rfl (.tmp 18) (.tmp 27) 115 rfl Tryz.underlying115 4 Tryz.info43 w.heap.size _ (nW (KS (fun i=>l.getD i 0) (2*j+1))) rfl hown3 _ _ 1 1 (nW [X2]) rfl hrd3 (by rw [nW_length,hlen1];omega) (by rw [nW_length,hlen1];unfold maxLen;omega) (by simp;omega) ?_;intro v4 w4 hown4 hb4;rw [← nW_append,HS2.out] at hown4;obtain ⟨A4,c4,rfl,hcc4,_,hown4⟩:=OwnN.rdc (n:=2*(j+1)) hown4 (by rw [nW_length,hlen2]);have HX4:=hid (show Ext w w4 from (Below.trans HX2.out (Below.mono (HAL2.out w2) hz2)).trans hb4);have HO4:=hid hown4;clear hb4 hown4 hown3 hrd3))
   have h32:2*(j+1)=64:=by omega
   have HO:=hid HO4.out
   rw [h32] at HO
   clear HO4
   (try simp only [Exit.jump])
   go_ret
   obtain ⟨g9,c9,e9,hc9,_,_⟩:=OwnN.head HO.out (by rw [nW_length,KS_length]) (by omega)
   simp only [Value.slice.injEq] at e9
   obtain ⟨rfl,_,rfl⟩:=e9
   exact ⟨g9,c4,by rw [h32];rfl,hc9,OwnW.room HO.out,HO.out,HX4.out⟩
 ·intro hfirst
  obtain ⟨h2,h3,h4,h5⟩:=HI.out
  go_wp2_with (refine wpList_make_own _ rfl (.const (.int .i64 0)) (.const (.int .i64 64)) 115 rfl w.heap.size 118 i0 (.int .u32 0) 1 Tryz.underlying115 h2 h3 h4 .i64 .i64 64 64 rfl rfl rfl (by rw [h5];omega) (by unfold maxLen;omega) (Nat.le_refl _) ?_;intro w1 hown1 hg1)
  have HX1:=hid (show Ext w w1 from (Ext.refl w).grown hg1 (Nat.le_refl _) (by simp))
  have HO1:=hid (show OwnW w1 w.heap.size (.slice (some ⟨w.heap.size,0,none⟩) (2*0:Nat) 64) (KS (fun i=>l.getD i 0) (2*0)) from hown1)
  go_wp2_with fail
  go_step3
  simp only [Exit.then]
  rename_i hK
  refine hK _ _ ?_
  exact hfirst.out _ _ ⟨0,_,_,_,_,_,_,_,_,_,_,_,_,_,_,_,_,_,_,_,_,_,_,_,_,_,_,_,_,_,_,rfl,by omega,HO1.out,HX1.out⟩
end Go.Proofs.YtbgkmicelmenfaaGreatDoor.S
namespace Go.Proofs.YtbgkmicelmenfaaGreatDoor.S
open Go.RowKit
set_option maxRecDepth 100000
def BW (w:World) (g:Nat) (ks:List UInt32):Prop:=w.heap[g]? = some (.cells (cN .u32 (nW ks)).toArray 118 (0,0))
section
variable {w w':World} {g:Nat} {ks:List UInt32}
theorem BW.lt (h:BW w g ks):g < w.heap.size:=(Array.getElem?_eq_some_iff.1 h).1
theorem BW.later (h:BW w g ks) (hx:Ext w w'):BW w' g ks:=(hx.block g h.lt).trans h
theorem BW.cell (h:BW w g ks) (j:Nat) (hj:j < ks.length):w.cell? ⟨g,j,none⟩=some (.int .u32 ((ks.getD j 0).toNat:Nat)):=by
 rw [cell_of_heap h]
 have:=cN_get .u32 (nW ks) j (by rw [nW_length];exact hj)
 rw [nW_get ks j hj] at this
 simpa using this
theorem BW.kw (h:BW w g ks):KW w g 0 ks:=fun j hj=>by rw [Nat.zero_add];exact h.cell j hj
theorem BW.frozen (h:BW w g ks) (k:Nat):w.frozen? ⟨g,k,none⟩=false:=frozen_of_row w g k _ 118 h
theorem BW.set_ (h:BW w g ks) (k:Nat) (x:UInt32):BW (w.setCell ⟨g,k,none⟩ (.int .u32 (x.toNat:Nat))) g (ks.set k x):=by
 have:=heap_setCell_same w g k _ 118 (.int .u32 (x.toNat:Nat)) h
 unfold BW
 rw [this,← nW_set]
 simp [cN,List.map_set]
theorem BW.setne (h:BW w g ks) (p:Addr) (v:Value) (hne:g ≠ p.block):BW (w.setCell p v) g ks:=(heap_setCell_other w p g v hne).trans h
theorem bw_of_own {base n:Nat} (h:OwnW w base (.slice (some ⟨g,0,none⟩) n n) ks):BW w g ks:=ownN_heap h
theorem BW.grown {k:Nat} (h:BW w g ks) (hg:w.grownBy w' (some k)) (hne:g ≠ k):BW w' g ks:=(hg.block g h.lt (by simp [hne])).trans h
theorem BW.rd (h:BW w g ks):RdN .u32 w w.heap.size (some ⟨g,0,none⟩) ks.length (nW ks) :=
 ⟨nW_length ks,fun _=>⟨g,0,rfl,h.lt,fun j hj=>by rw [Nat.zero_add,h.cell j hj,nW_get ks j hj]⟩⟩
end
theorem grown_set (w:World) (g j:Nat) (x:Value):w.grownBy (w.setCell ⟨g,j,none⟩ x) (some g) :=
 ⟨rfl,rfl,rfl,by simp,fun k _ hk=>heap_setCell_other w ⟨g,j,none⟩ k x (fun e=>hk (by rw [e]))⟩
theorem grown_trans {a b c:World} {g:Nat} (h:a.grownBy b (some g)) (k:b.grownBy c (some g)):a.grownBy c (some g) :=
 ⟨k.os.trans h.os,k.tape.trans h.tape,k.output.trans h.output,Nat.le_trans h.size k.size,fun i hi hne=>(k.block i (Nat.lt_of_lt_of_le hi h.size) hne).trans (h.block i hi hne)⟩
theorem grown_drew {a b:World} {g:Option Nat} (h:a.grownBy b g):a.grownBy b.drew g:=⟨h.os,h.tape,h.output,h.size,h.block⟩
theorem _root_.Go.Proofs.YtbgkmicelmenfaaGreatDoor.OwnN.grownNe {kd:IntKind} {e:TypeId} {w w':World} {base g:Nat} {v:Value} {xs:List Int} (h:OwnN kd e w base v xs) (hg:w.grownBy w' (some g)) (hb:g < base):OwnN kd e w' base v xs:=by
 refine ⟨h.1,?_⟩
 rcases h.2 with hn | ⟨b,cap,cur,rfl,hbg,hh,r⟩
 ·exact .inl hn
 ·exact .inr ⟨b,cap,cur,rfl,hbg,by rw [hg.block b (Array.getElem?_eq_some_iff.1 hh).1 (by simp;omega)];exact hh,r⟩
theorem below_grown {a b c:World} {B g:Nat} (h:Below B a b) (hg:b.grownBy c (some g)) (hB:B≤g) (hz:B≤b.heap.size):Below B a c:=Below.grown h hg hz (fun k e=>by cases e;exact hB)
def revG (ks:List UInt32):Nat→List UInt32
 | 0=>ks
 | i+1=>((revG ks i).set i ((revG ks i).getD (7 - i) 0)).set (7 - i) ((revG ks i).getD i 0)
theorem revG_length (ks:List UInt32):∀ i,(revG ks i).length=ks.length
 | 0=>rfl
 | i+1=>by simp [revG,revG_length ks i]
theorem revG_four (ks:List UInt32) (h:ks.length=8):revG ks 4=ks.reverse:=by
 match ks,h with
 | [a,b,c,d,e,f,g,i],_=>rfl
set_option maxHeartbeats 2000000 in
theorem reverse_any (g c:Nat) (ks:List UInt32) (w:World) (hb:BW w g ks) (hl:ks.length=8) :
  Calls Tryz.prog 105 #[.slice (some ⟨g,0,none⟩) 8 c] w fun e w'=>e=.returned (.tuple #[])∧BW w' g ks.reverse∧w.grownBy w' (some g):=by
 have HB:=hid hb
 clear hb
 go_enter Tryz.func105,Tryz.ntmps105
 go_wp2_with fail
 go_loopw [2,3] (fun i j wr=>∃ k:Nat,k≤4∧i=.int .i64 k∧j=.int .i64 (7 - k:Nat)∧BW wr g (revG ks k)∧w.grownBy wr (some g)) (fun i _ _=>4 - (intOf i).toNat)
 case atStart=>exact ⟨0,by omega,rfl,rfl,HB.out,⟨rfl,rfl,rfl,Nat.le_refl _,fun _ _ _=>rfl⟩⟩
 case round =>
  obtain ⟨k,hk,rfl,rfl,hb,hg⟩:=hrel
  by_cases hlt:k < 4
  ·have hlen:=revG_length ks k
   rw [hl] at hlen
   have hc1:=hb.cell k (by omega)
   have hc2:=hb.cell (7 - k) (by omega)
   have hf1:=hb.frozen k
   have hf2:=hb.frozen (7 - k)
   obtain ⟨x,hx⟩:∃ x,(revG ks k).getD k 0=x:=⟨_,rfl⟩
   obtain ⟨y,hy⟩:∃ y,(revG ks k).getD (7 - k) 0=y:=⟨_,rfl⟩
   have hst:revG ks (k+1)=((revG ks k).set k y).set (7 - k) x:=by rw [revG,hx,hy]
   have hbn:=(hb.set_ k y).set_ (7 - k) x
   rw [← hst] at hbn
   rw [hx] at hc1
   rw [hy] at hc2
   have HBN:=hid hbn
   have HG:=hid hg
   obtain ⟨m,hm⟩:∃ m,7 - k=m:=⟨_,rfl⟩
   rw [hm] at hc2 hf2 HBN ⊢
   have HM:=hid hm
   have hkm:(k:Int) < (m:Int):=by omega
   have hne:¬ k=m:=by omega
   have hne2:¬ m=k:=by omega
   have hk8:k < 8:=by omega
   have hm8:m < 8:=by omega
   clear hb hg hx hy hst hbn hlen hm
   go_wp2_with fail
   go_region
   go_wp2_with fail
   go_roundw
   case rel=>exact ⟨k+1,by omega,by go_num,by have:=HM.out;go_num,HBN.out,(grown_drew (grown_trans (grown_trans HG.out (grown_set _ _ _ _)) (grown_set _ _ _ _)))⟩
   case measure=>simp [intOf];omega
  ·obtain rfl:k=4:=by omega
   rw [revG_four ks hl] at hb
   have HH:=hid (And.intro hb hg)
   clear hb hg
   go_wp2_with fail
   exact bodyPost_end (results_none rfl _ _ _) rfl ⟨rfl,HH.out.1,HH.out.2⟩
theorem magma_keys (l:List UInt32) (h:l.length=8):(List.range 32).map (keyM fun i=>l.getD i 0)=l++l++l++l.reverse:=by
 match l,h with
 | [a,b,c,d,e,f,g,i],_=>rfl
def WRetG (g n:Nat) (w:World) (ks:List UInt32) (e:Ending) (w':World):Prop:=∃ g2 c,e=.returned (.slice (some ⟨g2,0,none⟩) n c)∧n≤c∧OwnW w' w.heap.size (.slice (some ⟨g2,0,none⟩) n c) ks∧Below g w w'
set_option maxHeartbeats 2000000 in
theorem mkeys_any (g:Nat) (l:List UInt32) (w:World) (hb:BW w g l) (hl:l.length=8) :
  Calls Tryz.prog 70 #[.slice (some ⟨g,0,none⟩) 8 8] w (WRetG g 32 w (l++l++l++l.reverse)):=by
 have hlt:=hb.lt
 have HB:=hid hb
 have HL:=hid hl
 have hrd:=hb.rd
 rw [hl] at hrd
 obtain ⟨i0,hi0,hz0,hz1,hz2⟩:=info_parts Tryz.info43
 have hcl:(cN .u32 (nW l)).length=8:=by rw [cN_length,nW_length,hl]
 have hcells:∀ j u,(cN .u32 (nW l))[j]? = some u→w.cell? (Addr.add ⟨g,0,none⟩ j)=some u:=by
  intro j u hu
  have hj:j < 8:=by
   rcases Nat.lt_or_ge j 8 with hj | hj
   ·exact hj
   ·rw [List.getElem?_eq_none (by omega)] at hu;cases hu
  rw [add_at,hb.cell j (by omega)]
  rw [cN_get _ _ j (by rw [nW_length];omega),nW_get l j (by omega)] at hu
  exact hu
 have HI:=hid (And.intro hi0 (And.intro hz0 (And.intro hz1 hz2)))
 have HC:=hid hcells
 have HCL:=hid hcl
 have HRD:=hid hrd
 clear hb hl hi0 hz0 hz1 hz2 hcells hcl hrd
 have e8:(nW l++nW l).length=16:=by simp [nW_length,HL.out]
 have e16:(nW l++nW l++nW l).length=24:=by simp [nW_length,HL.out]
 go_enter Tryz.func70,Tryz.ntmps70
 go_wp2_with (first
  | (at_builtin;refine wpList_append_grows _ rfl (.tmp 9) (.tmp 10) 115 rfl 118 i0 (.int .u32 0) 1 4 Tryz.underlying115 HI.out.1 HI.out.2.1 HI.out.2.2.1 HI.out.2.2.2 rfl (by omega) (some ⟨g,0,none⟩) 8 8 (cN .u32 (nW l)) rfl (fun h=>by cases h) HCL.out (fun b hb=>by cases hb;exact HC.out) ⟨g,0,none⟩ 8 8 (cN .u32 (nW l)) rfl HCL.out HC.out (cN_one _ _) (by omega) (by unfold maxLen;omega) (by omega) ?_;intro v1 w1 hown1 hg1;have hown1:OwnN .u32 118 w1 w.heap.size v1 (nW l++nW l):=(by unfold OwnN;rw [e8,cN_append];exact hown1);have hx1:=(show Ext w w1 from (Ext.refl w).grown hg1 (Nat.le_refl _) (by simp));have hr1:=RdN.later HRD.out hx1;have hz1:=Below.size hx1;have HX1:=hid hx1;clear hg1 hx1)
  | (at_builtin;refine wpL_appendN _ rfl (.tmp 12) (.tmp 13) 115 rfl Tryz.underlying115 4 Tryz.info43 w.heap.size _ (nW l++nW l) rfl hown1 _ _ 8 8 (nW l) rfl hr1 (by rw [e8];omega) (by rw [e8];unfold maxLen;omega) (by omega) ?_;intro v2 w2 hown2 hb2;have hx2:=(show Ext w w2 from Below.trans HX1.out hb2);have HX2:=hid hx2;have HO2:=hid hown2;clear hown1 hr1 hown2 hb2 hx2 HX1))
 refine (reverse_any g 8 l _ (HB.out.later HX2.out) HL.out).mono ?_
 rintro e w3 ⟨rfl,hb3,hg3⟩
 have hown3:=OwnN.grownNe HO2.out hg3 hlt
 have hx3:Below g w w3:=below_grown (Below.mono HX2.out (Nat.le_of_lt hlt)) hg3 (Nat.le_refl _) (by have:=Below.size HX2.out;omega)
 have hr3:=hb3.rd
 rw [show l.reverse.length=8 by rw [List.length_reverse,HL.out]] at hr3
 have hz3:w.heap.size≤w3.heap.size:=Nat.le_trans (Below.size HX2.out) hg3.size
 have HX3:=hid hx3
 clear hx3 hb3 hg3 HX2 HO2
 go_wp2_with (at_builtin;refine wpL_appendN _ rfl (.tmp 17) (.tmp 18) 115 rfl Tryz.underlying115 4 Tryz.info43 w.heap.size _ (nW l++nW l++nW l) rfl hown3 _ _ 8 8 (nW l.reverse) rfl hr3 (by rw [e16];omega) (by rw [e16];unfold maxLen;omega) hz3 ?_;intro v4 w4 hown4 hb4;rw [← nW_append,← nW_append,← nW_append] at hown4;have HX4:=hid (Below.trans HX3.out (Below.mono hb4 (Nat.le_of_lt hlt)));have HO4:=hid hown4;clear hown4 hb4 hown3 hr3)
 obtain ⟨g9,c9,rfl,hc9,_,_⟩:=OwnN.head (n:=32) HO4.out (by simp [nW_length,HL.out]) (by omega)
 go_ret
 exact ⟨g9,c9,rfl,hc9,by unfold OwnW;simpa using HO4.out,HX4.out⟩
end Go.Proofs.YtbgkmicelmenfaaGreatDoor.S
namespace Go.Proofs.YtbgkmicelmenfaaGreatDoor.S
open Go.RowKit
set_option maxRecDepth 100000
theorem rc0_val (k:Nat) (_h:k < 26):(3084996963+(k:Int)*2654435769 % 4294967296) % 4294967296=((rc0 k).toNat:Int):=by
 unfold rc0 gold
 rw [UInt32.toNat_add,UInt32.toNat_mul,UInt32.toNat_ofNat']
 have h1:(0xB7E15163:UInt32).toNat=3084996963:=rfl
 have h2:(0x9E3779B9:UInt32).toNat=2654435769:=rfl
 rw [h1,h2]
 omega
def Rc5J (g:Nat) (l:List UInt32) (G:Nat) (w:World) (a:Act) (w1:World):Prop :=
 ∃ (n:Nat) (z:R5) (u4 u8 u9 u10 u11 u12 u13 u14 u15 u16 u17 u18 u19 u20 u21 u22 u23 u24 u25 u26 u27 u28 u29 u30 u31 u32 u33 u34 u35 u36 u37 u38 u39 u40 u41 u42 u43 u44 u45 u46 u47 u48 u49 u50 u51 u52 u53 u54 u55 u56 u57 u58 u59 u60 u61 u62 u63 u64 u65 u66:Value),
  a = { tmps:=#[.slice (some ⟨g,0,none⟩) 4 4,undef,.slice none 0 0,.slice (some ⟨G,0,none⟩) 26 26,u4,.int .u32 (z.a.toNat:Nat),.int .u32 (z.b.toNat:Nat),.int .i64 n,u8,u9,u10,u11,u12,u13,u14,u15,u16,u17,u18,u19,u20,u21,u22,u23,u24,u25,u26,u27,u28,u29,u30,u31,u32,u33,u34,u35,u36,u37,u38,u39,u40,u41,u42,u43,u44,u45,u46,u47,u48,u49,u50,u51,u52,u53,u54,u55,u56,u57,u58,u59,u60,u61,u62,u63,u64,u65,u66],defers:=[] }∧n < 78 ∧
  z=rcAt (rcBegin l) n∧BW w1 G z.s∧BW w1 g z.l∧Below g w w1
theorem own_of_bw {w:World} {base g n:Nat} {ks:List UInt32} (h:BW w g ks) (hn:ks.length=n) (hb:base≤g) (hm:n≤maxLen):OwnW w base (.slice (some ⟨g,0,none⟩) n n) ks:=by
 subst hn
 refine ⟨by simp [cN_length,nW_length],.inr ⟨g,ks.length,_,by rw [nW_length],hb,h,by rw [nW_length];exact Nat.le_refl _,hm,by simp [cN,nW_length],?_⟩⟩
 rw [List.toList_toArray,List.take_of_length_le (by simp [cN_length,nW_length])]
set_option maxHeartbeats 4000000 in
theorem rkeys_any (g:Nat) (l:List UInt32) (w:World) (hb:BW w g l) (hl:l.length=4) :
  Calls Tryz.prog 71 #[.slice (some ⟨g,0,none⟩) 4 4] w (WRetG g 26 w (rcAt (rcBegin l) 78).s):=by
 have hlt:=hb.lt
 have HB:=hid hb
 have HL:=hid hl
 clear hb hl
 go_enter Tryz.func71,Tryz.ntmps71
 go_wp2_with fail
 refine wp_scope_jumps2 0 (Rc5J g l w.heap.size w) (fun a _=>78 - iAt 7 a) rfl ?_ ?_
 ·obtain ⟨G,hGe⟩:∃ G,w.heap.size=G:=⟨_,rfl⟩
  have HGE:=hid hGe
  rw [hGe]
  rw [hGe] at hlt
  clear hGe HB
  rintro a w1 ⟨n,z,u4,u8,u9,u10,u11,u12,u13,u14,u15,u16,u17,u18,u19,u20,u21,u22,u23,u24,u25,u26,u27,u28,u29,u30,u31,u32,u33,u34,u35,u36,u37,u38,u39,u40,u41,u42,u43,u44,u45,u46,u47,u48,u49,u50,u51,u52,u53,u54,u55,u56,u57,u58,u59,u60,u61,u62,u63,u64,u65,u66,rfl,hn,hz,hs,hll,hx⟩
  obtain ⟨hls,hlx⟩:=rcAt_len l n
  rw [HL.out] at hlx
  rw [← hz] at hls hlx
  have hstep:rcAt (rcBegin l) (n+1)=rcStep n z:=by rw [rcAt,← hz]
  obtain ⟨i,hi⟩:∃ i,n % 26=i:=⟨_,rfl⟩
  obtain ⟨j,hj⟩:∃ j,n % 4=j:=⟨_,rfl⟩
  have hi26:i < 26:=by omega
  have hj4:j < 4:=by omega
  have ei:(n:Int) % 26=(i:Int):=by omega
  have ej:(n:Int) % 4=(j:Int):=by omega
  have ti:(n:Int).tmod 26=(i:Int):=by rw [Int.tmod_eq_emod_of_nonneg (by omega)];exact ei
  have tj:(n:Int).tmod 4=(j:Int):=by rw [Int.tmod_eq_emod_of_nonneg (by omega)];exact ej
  have hcs:=hs.cell i (by omega)
  have hcl:=hll.cell j (by omega)
  have hfs:=hs.frozen i
  have hfl:=hll.frozen j
  have hA:rcA z n=rolI (z.s.getD i 0+z.a+z.b) 3:=by unfold rcA;rw [hi]
  have hB:rcB z n (rcA z n)=rolI (z.l.getD j 0+rcA z n+z.b) ((rcA z n+z.b).toNat % 32:Nat):=by unfold rcB;rw [hj]
  have hst2:rcStep n z=⟨z.s.set i (rcA z n),z.l.set j (rcB z n (rcA z n)),rcA z n,rcB z n (rcA z n)⟩:=by unfold rcStep;rw [hi,hj]
  rw [hst2] at hstep
  obtain ⟨X,hX⟩:∃ X,rcA z n=X:=⟨_,rfl⟩
  rw [hX] at hA hB hstep
  obtain ⟨Y,hY⟩:∃ Y,rcB z n X=Y:=⟨_,rfl⟩
  rw [hY] at hB hstep
  obtain ⟨si,hsi⟩:∃ x,z.s.getD i 0=x:=⟨_,rfl⟩
  obtain ⟨lj,hlj⟩:∃ x,z.l.getD j 0=x:=⟨_,rfl⟩
  rw [hsi] at hA hcs
  rw [hlj] at hB hcl
  have e1:=w_add si z.a
  have e2:=w_add (si+z.a) z.b
  have e3:=w_add lj X
  have e4:=w_add (lj+X) z.b
  have e5:=w_add X z.b
  obtain ⟨p1,hp1⟩:∃ x,si+z.a=x:=⟨_,rfl⟩
  rw [hp1] at hA e1 e2
  obtain ⟨p2,hp2⟩:∃ x,p1+z.b=x:=⟨_,rfl⟩
  rw [hp2] at hA e2
  obtain ⟨p3,hp3⟩:∃ x,lj+X=x:=⟨_,rfl⟩
  rw [hp3] at hB e3 e4
  obtain ⟨p4,hp4⟩:∃ x,p3+z.b=x:=⟨_,rfl⟩
  rw [hp4] at hB e4
  obtain ⟨p5,hp5⟩:∃ x,X+z.b=x:=⟨_,rfl⟩
  rw [hp5] at hB e5
  have hra:=fun w=>rol_w p2 3 w
  rw [← hA] at hra
  have hrb:=fun w=>rol_w p4 (p5.toNat % 32:Nat) w
  rw [← hB] at hrb
  have hto:=fun w=>turnOf_any p5 w
  obtain ⟨q5,hq5⟩:∃ q,p5.toNat % 32=q:=⟨_,rfl⟩
  rw [hq5] at hrb hto
  have HRA:=hid hra
  have HRB:=hid hrb
  have HTO:=hid hto
  have hbs:=(hs.set_ i X).setne ⟨g,j,none⟩ (.int .u32 (Y.toNat:Nat)) (by simp;omega)
  have hbl:=(hll.setne ⟨G,i,none⟩ (.int .u32 (X.toNat:Nat)) (by simp;omega)).set_ j Y
  have hbx:=(hx.setCell (p:=⟨G,i,none⟩) (by simp;omega) (.int .u32 (X.toNat:Nat))).setCell (p:=⟨g,j,none⟩) (by simp) (.int .u32 (Y.toNat:Nat))
  have HBS:=hid hbs
  have HBL:=hid hbl
  have HBX:=hid hbx
  have HSTEP:=hid hstep
  have HLS:=hid (show (z.s.set i X).length=26 by rw [List.length_set];exact hls)
  have b1:=wlt z.a
  have b2:=wlt z.b
  have b3:=wlt si
  have b4:=wlt lj
  have b5:=wlt p1
  have b6:=wlt p3
  have b7:=wlt X
  have hgG:¬ g=G:=by omega
  have hGg:¬ G=g:=by omega
  have HN:=hid (And.intro hi hj)
  clear hz hs hll hx hls hlx hstep hi hj hA hB hst2 hX hY hsi hlj hp1 hp2 hp3 hp4 hp5 hra hrb hto hbs hbl hbx hq5
  by_cases hlast:n+1 < 78
  ·have h78:(n:Int)+1 < 78:=by omega
   go_wp2_with fail
   go_quiet (fail)
   go_wp2_with (go_at_call 111;refine (HRA.out _).mono ?_;rintro e w' ⟨rfl,rfl⟩)
   obtain ⟨W,hW⟩:∃ W,w1.drewN nq=W:=⟨_,rfl⟩
   rw [hW]
   have gcl:W.cell? ⟨g,j,none⟩=some (.int .u32 (lj.toNat:Nat)):=by rw [← hW];exact hcl
   have gcs:W.cell? ⟨G,i,none⟩=some (.int .u32 (si.toNat:Nat)):=by rw [← hW];exact hcs
   have gfl:W.frozen? ⟨g,j,none⟩=false:=by rw [← hW];exact hfl
   have gfs:W.frozen? ⟨G,i,none⟩=false:=by rw [← hW];exact hfs
   have HBS2:=hid (fun k=>show BW (((W.drewN k).setCell ⟨G,i,none⟩ (.int .u32 (X.toNat:Nat))).setCell ⟨g,j,none⟩ (.int .u32 (Y.toNat:Nat))) G (z.s.set i X) by rw [← hW];exact HBS.out)
   have HBL2:=hid (fun k=>show BW (((W.drewN k).setCell ⟨G,i,none⟩ (.int .u32 (X.toNat:Nat))).setCell ⟨g,j,none⟩ (.int .u32 (Y.toNat:Nat))) g (z.l.set j Y) by rw [← hW];exact HBL.out)
   have HBX2:=hid (fun k=>show Below g w (((W.drewN k).setCell ⟨G,i,none⟩ (.int .u32 (X.toNat:Nat))).setCell ⟨g,j,none⟩ (.int .u32 (Y.toNat:Nat))) by rw [← hW];exact ⟨HBX.out.os,HBX.out.tape,HBX.out.output,HBX.out.size,HBX.out.block⟩)
   clear hcl hcs hfl hfs hW HBS HBL HBX
   go_quiet (first
    | (go_at_call 123;exact quietSame (HTO.out _))
    | (go_at_call 111;exact quietSame (HRB.out _)))
   go_wp2_with fail
   go_step3
   (try simp only [Exit.jump])
   refine ⟨rfl,⟨n+1,⟨z.s.set i X,z.l.set j Y,X,Y⟩,_,_,_,_,_,_,_,_,_,_,_,_,_,_,_,_,_,_,_,_,_,_,_,_,_,_,_,_,_,_,_,_,_,_,_,_,_,_,_,_,_,_,_,_,_,_,_,_,_,_,_,_,_,_,_,_,_,_,_,_,rfl,hlast,HSTEP.out.symm,HBS2.out nq,HBL2.out nq,HBX2.out nq⟩,?_⟩
   simp [iAt];omega
  ·have h78:¬ (n:Int)+1 < 78:=by omega
   go_wp2_with fail
   go_quiet (fail)
   go_wp2_with (go_at_call 111;refine (HRA.out _).mono ?_;rintro e w' ⟨rfl,rfl⟩)
   obtain ⟨W,hW⟩:∃ W,w1.drewN nq=W:=⟨_,rfl⟩
   rw [hW]
   have gcl:W.cell? ⟨g,j,none⟩=some (.int .u32 (lj.toNat:Nat)):=by rw [← hW];exact hcl
   have gcs:W.cell? ⟨G,i,none⟩=some (.int .u32 (si.toNat:Nat)):=by rw [← hW];exact hcs
   have gfl:W.frozen? ⟨g,j,none⟩=false:=by rw [← hW];exact hfl
   have gfs:W.frozen? ⟨G,i,none⟩=false:=by rw [← hW];exact hfs
   have HBS2:=hid (fun k=>show BW (((W.drewN k).setCell ⟨G,i,none⟩ (.int .u32 (X.toNat:Nat))).setCell ⟨g,j,none⟩ (.int .u32 (Y.toNat:Nat))) G (z.s.set i X) by rw [← hW];exact HBS.out)
   have HBL2:=hid (fun k=>show BW (((W.drewN k).setCell ⟨G,i,none⟩ (.int .u32 (X.toNat:Nat))).setCell ⟨g,j,none⟩ (.int .u32 (Y.toNat:Nat))) g (z.l.set j Y) by rw [← hW];exact HBL.out)
   have HBX2:=hid (fun k=>show Below g w (((W.drewN k).setCell ⟨G,i,none⟩ (.int .u32 (X.toNat:Nat))).setCell ⟨g,j,none⟩ (.int .u32 (Y.toNat:Nat))) by rw [← hW];exact ⟨HBX.out.os,HBX.out.tape,HBX.out.output,HBX.out.size,HBX.out.block⟩)
   clear hcl hcs hfl hfs hW HBS HBL HBX
   go_quiet (first
    | (go_at_call 123;exact quietSame (HTO.out _))
    | (go_at_call 111;exact quietSame (HRB.out _)))
   go_wp2_with fail
   (try simp only [Exit.jump])
   go_ret
   have h1:n+1=78:=by omega
   have h2:=HSTEP.out
   rw [h1] at h2
   have hbs9:=HBS2.out nq
   rw [show z.s.set i X=(rcAt (rcBegin l) 78).s by rw [h2]] at hbs9
   exact ⟨G,26,rfl,Nat.le_refl _,own_of_bw hbs9 (by rw [h2];exact HLS.out) (by rw [HGE.out];exact Nat.le_refl _) (by unfold maxLen;omega),HBX2.out nq⟩
 ·intro hfirst
  go_wp2_with (at_make;refine wpL_makeN rfl (.const (.int .i64 26)) (.const (.int .i64 26)) 115 rfl Tryz.underlying115 4 Tryz.info43 .i64 26 26 rfl rfl rfl (by omega) (by unfold maxLen;omega) w.heap.size (Nat.le_refl _) ?_;intro w1 hown1 hb1)
  rw [← nW_zero] at hown1
  go_loopw [13] (fun i wr=>∃ k:Nat,k≤26∧i=.int .i64 k∧BW wr w.heap.size (fillW rc0 26 k)∧Ext w wr) (fun i _=>26 - (intOf i).toNat)
  case atStart=>exact ⟨0,Nat.zero_le _,rfl,by rw [fillW_zero];exact bw_of_own hown1,hb1⟩
  case round =>
   clear hown1 hb1
   obtain ⟨k,hk,rfl,hs,hx⟩:=hrel
   by_cases hlt2:k < 26
   ·have hlen:=fillW_length rc0 26 k
    have hc:=hs.cell k (by omega)
    have hf:=hs.frozen k
    have hv:=rc0_val k hlt2
    have hset:=hs.set_ k (rc0 k)
    rw [fillW_set] at hset
    obtain ⟨X,hX⟩:∃ X,rc0 k=X:=⟨_,rfl⟩
    rw [hX] at hv hset
    have HS:=hid hset
    have HX:=hid hx
    have hk26:(k:Int) < 26:=by omega
    clear hs hx hset hX hlen
    go_wp2_with fail
    go_roundw
    case rel=>exact ⟨k+1,by omega,by go_num,HS.out,Below.setCell HX.out (by simp) _⟩
    case measure=>simp [intOf];omega
   ·obtain rfl:k=26:=by omega
    have hs2:=hs
    rw [fillW_full] at hs2
    have HS:=hid hs2
    have HBL:=hid (HB.out.later hx)
    have HX:=hid (Below.mono hx (Nat.le_of_lt hlt))
    clear hs hs2 hx
    go_wp2_with fail
    go_step3
    simp only [Exit.then]
    rename_i hK
    refine hK _ _ ?_
    exact hfirst.out _ _ ⟨0,rcBegin l,_,_,_,_,_,_,_,_,_,_,_,_,_,_,_,_,_,_,_,_,_,_,_,_,_,_,_,_,_,_,_,_,_,_,_,_,_,_,_,_,_,_,_,_,_,_,_,_,_,_,_,_,_,_,_,_,_,_,_,_,rfl,by omega,rfl,HS.out,HBL.out,HX.out⟩
end Go.Proofs.YtbgkmicelmenfaaGreatDoor.S
namespace Go.Proofs.YtbgkmicelmenfaaGreatDoor.S
open Go.RowKit
set_option maxRecDepth 100000
set_option maxHeartbeats 1000000 in
theorem bytes_x (w:World):Calls Tryz.prog 67 #[.int .i64 4] w fun e w'=>e=.returned (.int .i64 16)∧w=w':=by
 go_enter Tryz.func67,Tryz.ntmps67
 go_wp2
 go_ret
 exact ⟨rfl,rfl⟩
set_option maxHeartbeats 1000000 in
theorem bytes_m (w:World):Calls Tryz.prog 67 #[.int .i64 5] w fun e w'=>e=.returned (.int .i64 32)∧w=w':=by
 go_enter Tryz.func67,Tryz.ntmps67
 go_wp2
 go_ret
 exact ⟨rfl,rfl⟩
set_option maxHeartbeats 1000000 in
theorem bytes_r (w:World):Calls Tryz.prog 67 #[.int .i64 8] w fun e w'=>e=.returned (.int .i64 16)∧w=w':=by
 go_enter Tryz.func67,Tryz.ntmps67
 go_wp2
 go_ret
 exact ⟨rfl,rfl⟩
theorem xkeys_eq (key:List UInt8):KS (fun i=>(words .x key 4).getD i 0) 64=keysOf .x key:=by
 unfold KS keysOf
 refine List.map_congr_left fun j _=>?_
 unfold keyX
 split
 ·show _+(words .x key 4).getD _ 0=_
  rw [words_get _ _ _ _ (Nat.mod_lt _ (by omega))]
 ·show _+(words .x key 4).getD _ 0=_
  rw [words_get _ _ _ _ (Nat.mod_lt _ (by omega))]
theorem mkeys_eq (key:List UInt8):words .m key 8++words .m key 8++words .m key 8++(words .m key 8).reverse=keysOf .m key:=by
 rw [← magma_keys _ (words_length _ _ _)]
 unfold keysOf
 refine List.map_congr_left fun j hj=>?_
 have hj:=List.mem_range.1 hj
 unfold keyM
 split
 ·show (words .m key 8).getD _ 0=_
  rw [words_get _ _ _ _ (Nat.mod_lt _ (by omega))]
 ·show (words .m key 8).getD _ 0=_
  rw [words_get _ _ _ _ (by omega)]
def NewRet (w:World) (t:T3) (key:List UInt8) (e:Ending) (w':World):Prop:=∃ p,e=.returned (.tuple #[.pointer (some ⟨p,0,none⟩),.int .i64 0])∧IsSmall w' p t (aheadOf t key) (keysOf t key)∧Ext w w'
theorem small_of {w:World} {p b o c:Nat} {t:T3} {ah:W2} {ks:List UInt32} (hp:w.heap[p]? = some (.cells #[.int .i64 t.code,.int .u32 (ah.a.toNat:Nat),.int .u32 (ah.b.toNat:Nat),.slice (some ⟨b,o,none⟩) ks.length c] 145 (0,0)))
  (hc:ks.length≤c) (hk:KW w b o ks):IsSmall w p t ah ks :=
 ⟨b,o,c,⟨by rw [cell_of_heap hp];rfl,by rw [cell_of_heap hp];rfl,by rw [cell_of_heap hp];rfl,by rw [cell_of_heap hp];rfl,hc,hk⟩⟩
theorem KW.setne {w:World} {b o:Nat} {ks:List UInt32} (h:KW w b o ks) (p:Addr) (v:Value) (hne:b ≠ p.block):KW (w.setCell p v) b o ks:=fun j hj=>by
 have:=h j hj
 rw [← this]
 exact World.cell?_of_block (heap_setCell_other w p b v hne)
set_option maxHeartbeats 4000000 in
theorem new_x (A:Option Addr) (c:Nat) (key:List UInt8) (w:World) (h:Rd w w.heap.size A 16 key) (hc:16≤c) (hcb:c≤9223372036854775807) :
  Calls Tryz.prog 36 #[.int .i64 4,.slice A 16 c] w (NewRet w .x key):=by
 have hx0:=Ext.alloc w (.cells #[.int .i64 4,.int .u32 0,.int .u32 0,.slice none 0 0] 145)
 have hp0:=heap_alloc_new w (.cells #[.int .i64 4,.int .u32 0,.int .u32 0,.slice none 0 0] 145)
 have hcut:=cut_any .x A 4 c key (w.alloc (.cells #[.int .i64 4,.int .u32 0,.int .u32 0,.slice none 0 0] 145)) (h.later hx0) (by omega) hc hcb
 rw [show T3.x.code=4 from rfl,show 4*4=16 from rfl] at hcut
 have HCUT:=hid hcut
 have HX0:=hid hx0
 have HP0:=hid hp0
 clear h hx0 hp0 hcut
 go_enter Tryz.func36,Tryz.ntmps36
 go_wp2_with (first
  | (go_at_call 67;refine (bytes_x _).mono ?_;rintro e w' ⟨rfl,rfl⟩)
  | (go_at_call 68;refine HCUT.out.mono ?_;rintro e w1 ⟨rfl,ho1,hb1⟩))
 have hz1:=Below.size hb1
 have hsz:(w.alloc (.cells #[.int .i64 4,.int .u32 0,.int .u32 0,.slice none 0 0] 145)).heap.size=w.heap.size+1:=by simp
 rw [hsz] at ho1 hb1 hz1
 obtain ⟨p,hp⟩:∃ p,w.heap.size=p:=⟨_,rfl⟩
 have hbw:=bw_of_own ho1
 have hkw:=OwnW.kw ho1 (words_length .x key 4)
 rw [hp] at ho1 hb1 hz1 hbw hkw HP0 ⊢
 have hp1:w1.heap[p]? = some (.cells #[.int .i64 4,.int .u32 0,.int .u32 0,.slice none 0 0] 145 (0,0)):=(hb1.block p (by omega)).trans HP0.out
 have hx1:Below p w w1:=Below.trans (by rw [← hp];exact HX0.out) (Below.mono hb1 (by omega))
 have HP:=hid hp
 have HX1:=hid hx1
 have HP1:=hid hp1
 have HBW:=hid hbw
 have HKW:=hid hkw
 clear ho1 hb1 hp hbw hkw hp1 hx1 HX0 HP0 HCUT
 have hg28:=xkeys_any (p+1) 4 (words .x key 4) w1 HKW.out (words_length _ _ _)
 refine hg28.mono ?_
 clear hg28
 rintro e w2 ⟨g2,c2,rfl,hc,_,ho2,hx2⟩
 have hb2:Below (p+1) w1 w2:=Below.mono hx2 hz1
 have hp2:w2.heap[p]? = some (.cells #[.int .i64 4,.int .u32 0,.int .u32 0,.slice none 0 0] 145 (0,0)):=(hb2.block p (by omega)).trans HP1.out
 have hf2:=frozen_of_row w2 p 3 _ 145 hp2
 have hc2:w2.cell? ⟨p,3,none⟩=some (.slice none 0 0):=by rw [cell_of_heap hp2];rfl
 have hp3:=heap_setCell_same w2 p 3 _ 145 (.slice (some ⟨g2,0,none⟩) 64 c2) hp2
 have hgb:=OwnN.base_le ho2
 have hk3:=(OwnW.kw ho2 (by rw [xkeys_eq,keysOf_length];rfl)).setne ⟨p,3,none⟩ (.slice (some ⟨g2,0,none⟩) 64 c2) (by simp;omega)
 rw [xkeys_eq] at hk3
 have hl:=keysOf_length .x key
 rw [show nKeys .x=64 from rfl] at hl
 have hx3:Below p w (w2.setCell ⟨p,3,none⟩ (.slice (some ⟨g2,0,none⟩) 64 c2)):=(Below.trans HX1.out (Below.mono hb2 (by omega))).setCell (by simp) _
 have hsm:IsSmall (w2.setCell ⟨p,3,none⟩ (.slice (some ⟨g2,0,none⟩) 64 c2)) p .x (aheadOf .x key) (keysOf .x key):=by
  refine small_of (b:=g2) (o:=0) (c:=c2) ?_ (by rw [hl];exact hc) hk3
  rw [hl];exact hp3
 have HH:=hid (And.intro hsm hx3)
 clear hsm hx3 hk3 hp3 hp2 ho2 hb2 hgb hl
 go_wp2_with fail
 go_ret2
 have e9:=HP.out
 subst e9
 exact ⟨_,rfl,HH.out.1,HH.out.2⟩
set_option maxHeartbeats 4000000 in
theorem new_m (A:Option Addr) (c:Nat) (key:List UInt8) (w:World) (h:Rd w w.heap.size A 32 key) (hc:32≤c) (hcb:c≤9223372036854775807) :
  Calls Tryz.prog 36 #[.int .i64 5,.slice A 32 c] w (NewRet w .m key):=by
 have hx0:=Ext.alloc w (.cells #[.int .i64 5,.int .u32 0,.int .u32 0,.slice none 0 0] 145)
 have hp0:=heap_alloc_new w (.cells #[.int .i64 5,.int .u32 0,.int .u32 0,.slice none 0 0] 145)
 have hcut:=cut_any .m A 8 c key (w.alloc (.cells #[.int .i64 5,.int .u32 0,.int .u32 0,.slice none 0 0] 145)) (h.later hx0) (by omega) hc hcb
 rw [show T3.m.code=5 from rfl,show 4*8=32 from rfl] at hcut
 have HCUT:=hid hcut
 have HX0:=hid hx0
 have HP0:=hid hp0
 clear h hx0 hp0 hcut
 go_enter Tryz.func36,Tryz.ntmps36
 go_wp2_with (first
  | (go_at_call 67;refine (bytes_m _).mono ?_;rintro e w' ⟨rfl,rfl⟩)
  | (go_at_call 68;refine HCUT.out.mono ?_;rintro e w1 ⟨rfl,ho1,hb1⟩))
 have hz1:=Below.size hb1
 have hsz:(w.alloc (.cells #[.int .i64 5,.int .u32 0,.int .u32 0,.slice none 0 0] 145)).heap.size=w.heap.size+1:=by simp
 rw [hsz] at ho1 hb1 hz1
 obtain ⟨p,hp⟩:∃ p,w.heap.size=p:=⟨_,rfl⟩
 have hbw:=bw_of_own ho1
 have hkw:=OwnW.kw ho1 (words_length .m key 8)
 rw [hp] at ho1 hb1 hz1 hbw hkw HP0 ⊢
 have hp1:w1.heap[p]? = some (.cells #[.int .i64 5,.int .u32 0,.int .u32 0,.slice none 0 0] 145 (0,0)):=(hb1.block p (by omega)).trans HP0.out
 have hx1:Below p w w1:=Below.trans (by rw [← hp];exact HX0.out) (Below.mono hb1 (by omega))
 have HP:=hid hp
 have HX1:=hid hx1
 have HP1:=hid hp1
 have HBW:=hid hbw
 have HKW:=hid hkw
 clear ho1 hb1 hp hbw hkw hp1 hx1 HX0 HP0 HCUT
 have hg28:=mkeys_any (p+1) (words .m key 8) w1 HBW.out (words_length _ _ _)
 refine hg28.mono ?_
 clear hg28
 rintro e w2 ⟨g2,c2,rfl,hc,ho2,hb2⟩
 have hp2:w2.heap[p]? = some (.cells #[.int .i64 5,.int .u32 0,.int .u32 0,.slice none 0 0] 145 (0,0)):=(hb2.block p (by omega)).trans HP1.out
 have hf2:=frozen_of_row w2 p 3 _ 145 hp2
 have hc2:w2.cell? ⟨p,3,none⟩=some (.slice none 0 0):=by rw [cell_of_heap hp2];rfl
 have hp3:=heap_setCell_same w2 p 3 _ 145 (.slice (some ⟨g2,0,none⟩) 32 c2) hp2
 have hgb:=OwnN.base_le ho2
 have hk3:=(OwnW.kw ho2 (by rw [mkeys_eq,keysOf_length];rfl)).setne ⟨p,3,none⟩ (.slice (some ⟨g2,0,none⟩) 32 c2) (by simp;omega)
 rw [mkeys_eq] at hk3
 have hl:=keysOf_length .m key
 rw [show nKeys .m=32 from rfl] at hl
 have hx3:Below p w (w2.setCell ⟨p,3,none⟩ (.slice (some ⟨g2,0,none⟩) 32 c2)):=(Below.trans HX1.out (Below.mono hb2 (by omega))).setCell (by simp) _
 have hsm:IsSmall (w2.setCell ⟨p,3,none⟩ (.slice (some ⟨g2,0,none⟩) 32 c2)) p .m (aheadOf .m key) (keysOf .m key):=by
  refine small_of (b:=g2) (o:=0) (c:=c2) ?_ (by rw [hl];exact hc) hk3
  rw [hl];exact hp3
 have HH:=hid (And.intro hsm hx3)
 clear hsm hx3 hk3 hp3 hp2 ho2 hb2 hgb hl
 go_wp2_with fail
 go_ret2
 have e9:=HP.out
 subst e9
 exact ⟨_,rfl,HH.out.1,HH.out.2⟩
set_option maxHeartbeats 4000000 in
theorem new_r (A:Option Addr) (c:Nat) (key:List UInt8) (w:World) (h:Rd w w.heap.size A 16 key) (hc:16≤c) (hcb:c≤9223372036854775807) :
  Calls Tryz.prog 36 #[.int .i64 8,.slice A 16 c] w (NewRet w .r key):=by
 have hx0:=Ext.alloc w (.cells #[.int .i64 8,.int .u32 0,.int .u32 0,.slice none 0 0] 145)
 have hp0:=heap_alloc_new w (.cells #[.int .i64 8,.int .u32 0,.int .u32 0,.slice none 0 0] 145)
 have hcut:=cut_any .r A 4 c key (w.alloc (.cells #[.int .i64 8,.int .u32 0,.int .u32 0,.slice none 0 0] 145)) (h.later hx0) (by omega) hc hcb
 rw [show T3.r.code=8 from rfl,show 4*4=16 from rfl] at hcut
 have HCUT:=hid hcut
 have HX0:=hid hx0
 have HP0:=hid hp0
 clear h hx0 hp0 hcut
 go_enter Tryz.func36,Tryz.ntmps36
 go_wp2_with (first
  | (go_at_call 67;refine (bytes_r _).mono ?_;rintro e w' ⟨rfl,rfl⟩)
  | (go_at_call 68;refine HCUT.out.mono ?_;rintro e w1 ⟨rfl,ho1,hb1⟩))
 have hz1:=Below.size hb1
 have hsz:(w.alloc (.cells #[.int .i64 8,.int .u32 0,.int .u32 0,.slice none 0 0] 145)).heap.size=w.heap.size+1:=by simp
 rw [hsz] at ho1 hb1 hz1
 obtain ⟨p,hp⟩:∃ p,w.heap.size=p:=⟨_,rfl⟩
 have hbw:=bw_of_own ho1
 have hkw:=OwnW.kw ho1 (words_length .r key 4)
 rw [hp] at ho1 hb1 hz1 hbw hkw HP0 ⊢
 have hp1:w1.heap[p]? = some (.cells #[.int .i64 8,.int .u32 0,.int .u32 0,.slice none 0 0] 145 (0,0)):=(hb1.block p (by omega)).trans HP0.out
 have hx1:Below p w w1:=Below.trans (by rw [← hp];exact HX0.out) (Below.mono hb1 (by omega))
 have HP:=hid hp
 have HX1:=hid hx1
 have HP1:=hid hp1
 have HBW:=hid hbw
 have HKW:=hid hkw
 clear ho1 hb1 hp hbw hkw hp1 hx1 HX0 HP0 HCUT
 have hg28:=rkeys_any (p+1) (words .r key 4) w1 HBW.out (words_length _ _ _)
 refine hg28.mono ?_
 clear hg28
 rintro e w2 ⟨g2,c2,rfl,hc,ho2,hb2⟩
 rw [show (rcAt (rcBegin (words .r key 4)) 78).s=rc5S key from rfl] at ho2
 have hp2:w2.heap[p]? = some (.cells #[.int .i64 8,.int .u32 0,.int .u32 0,.slice none 0 0] 145 (0,0)):=(hb2.block p (by omega)).trans HP1.out
 have hf1:=frozen_of_row w2 p 1 _ 145 hp2
 have hf2:=frozen_of_row w2 p 2 _ 145 hp2
 have hf3:=frozen_of_row w2 p 3 _ 145 hp2
 have hc1:w2.cell? ⟨p,1,none⟩=some (.int .u32 0):=by rw [cell_of_heap hp2];rfl
 have hc2:w2.cell? ⟨p,2,none⟩=some (.int .u32 0):=by rw [cell_of_heap hp2];rfl
 have hc3:w2.cell? ⟨p,3,none⟩=some (.slice none 0 0):=by rw [cell_of_heap hp2];rfl
 have hkw2:=OwnW.kw ho2 (rc5S_length key)
 have hs0:=hkw2 0 (by rw [rc5S_length];omega)
 have hs1:=hkw2 1 (by rw [rc5S_length];omega)
 rw [Nat.add_zero] at hs0
 rw [Nat.zero_add] at hs1
 have hgb:=OwnN.base_le ho2
 have HP2:=hid hp2
 have HKW2:=hid hkw2
 have HB2:=hid hb2
 have hne:¬ p=g2:=by omega
 have hne2:¬ g2=p:=by omega
 obtain ⟨s0,hs0e⟩:∃ s,(rc5S key).getD 0 0=s:=⟨_,rfl⟩
 obtain ⟨s1,hs1e⟩:∃ s,(rc5S key).getD 1 0=s:=⟨_,rfl⟩
 rw [hs0e] at hs0
 rw [hs1e] at hs1
 have HE0:=hid hs0e
 have HE1:=hid hs1e
 clear ho2 hp2 hkw2 hb2 hs0e hs1e
 go_wp2_with fail
 have hat:=fun w=>run_arrayAt (P:=Tryz.prog) w 143 118 2 (some ⟨g2,0,none⟩) 26 c2 Tryz.underlying143 (by omega)
 have hat2:(if c2=2 then some (⟨g2,0,none⟩:Addr) else some ⟨g2,2,none⟩)=some ⟨g2,2,none⟩:=if_neg (by omega)
 go_region
 have hp3:=heap_setCell_same w2 p 1 _ 145 (.int .u32 (s0.toNat:Nat)) HP2.out
 have hp4:=heap_setCell_same _ p 2 _ 145 (.int .u32 (s1.toNat:Nat)) hp3
 have hp5:=heap_setCell_same _ p 3 _ 145 (.slice (some ⟨g2,2,none⟩) 24 (c2 - 2)) hp4
 have hk5:=((HKW2.out.setne ⟨p,1,none⟩ (.int .u32 (s0.toNat:Nat)) hne2).setne ⟨p,2,none⟩ (.int .u32 (s1.toNat:Nat)) hne2).setne ⟨p,3,none⟩ (.slice (some ⟨g2,2,none⟩) 24 (c2 - 2)) hne2
 have hx5:Below p w (((w2.setCell ⟨p,1,none⟩ (.int .u32 (s0.toNat:Nat))).setCell ⟨p,2,none⟩ (.int .u32 (s1.toNat:Nat))).setCell ⟨p,3,none⟩ (.slice (some ⟨g2,2,none⟩) 24 (c2 - 2))).drew :=
  ((((Below.trans HX1.out (Below.mono HB2.out (by omega))).setCell (by simp) _).setCell (by simp) _).setCell (by simp) _).drew
 have hl:=keysOf_length .r key
 rw [show nKeys .r=24 from rfl] at hl
 have hah:aheadOf .r key=⟨s0,s1⟩:=by rw [← HE0.out,← HE1.out];rfl
 have hsm:IsSmall (((w2.setCell ⟨p,1,none⟩ (.int .u32 (s0.toNat:Nat))).setCell ⟨p,2,none⟩ (.int .u32 (s1.toNat:Nat))).setCell ⟨p,3,none⟩ (.slice (some ⟨g2,2,none⟩) 24 (c2 - 2))).drew p .r (aheadOf .r key) (keysOf .r key):=by
  rw [hah]
  refine small_of (b:=g2) (o:=2) (c:=c2 - 2) ?_ (by rw [hl];omega) ?_
  ·rw [hl];exact hp5
  ·intro j hj
   rw [hl] at hj
   have h9:=hk5 (2+j) (by rw [rc5S_length];omega)
   rw [Nat.zero_add] at h9
   rw [show (keysOf .r key).getD j 0=(rc5S key).getD (2+j) 0 by simp [keysOf]]
   exact h9
 have HH:=hid (And.intro hsm hx5)
 clear hsm hx5 hk5 hp5 hp4 hp3 hl hah
 go_wp2_with fail
 go_ret2
 have e9:=HP.out
 subst e9
 exact ⟨_,rfl,HH.out.1,HH.out.2⟩
end Go.Proofs.YtbgkmicelmenfaaGreatDoor.S
namespace Go.Proofs.YtbgkmicelmenfaaGreatDoor.S
open Go.RowKit
set_option maxRecDepth 100000
def T3.at:Nat→T3
 | 0=>.x
 | 1=>.m
 | _=>.r
theorem new_any (t:T3) (A:Option Addr) (c:Nat) (key:List UInt8) (w:World) (h:Rd w w.heap.size A t.size key) (hc:t.size≤c) (hcb:c≤9223372036854775807) :
  Calls Tryz.prog 36 #[.int .i64 t.code,.slice A t.size c] w (NewRet w t key):=by
 cases t
 ·exact new_x A c key w h hc hcb
 ·exact new_m A c key w h hc hcb
 ·exact new_r A c key w h hc hcb
theorem block_any [Inhabited RT] (t:T3) (key:List UInt8) (back:Bool) (p:Nat) (A:Option Addr) (cc:Nat) (bs:List UInt8) (w:World) (hs:IsSmall w p t (aheadOf t key) (keysOf t key)) (hG:GRows w)
  (h:Rd w w.heap.size A 8 bs) (hc8:8≤cc) (hcb:cc≤9223372036854775807) :
  Calls Tryz.prog 37 #[.pointer (some ⟨p,0,none⟩),.slice A 8 cc,.bool back] w (BlkRet w (blockL t key back bs)):=by
 obtain ⟨b,o,c,hs⟩:=hs
 have hn:(keysOf t key).length≤1000:=by rw [keysOf_length];cases t<;>decide
 cases back
 ·exact blockT_any p b o c t _ _ A cc bs w hs hn hG h hc8 hcb
 ·exact blockB_any p b o c t _ _ A cc bs w hs hn hG h hc8 hcb
end Go.Proofs.YtbgkmicelmenfaaGreatDoor.S
namespace Go.Proofs.YtbgkmicelmenfaaGreatDoor.S
open Go.RowKit
set_option maxRecDepth 100000
theorem zx [Inhabited RT]:blockL .x (List.replicate 16 0) false (List.replicate 8 0) ≠ List.replicate 8 0 :=
 of_decide_eq_true (show decide (blockL .x (List.replicate 16 0) false (List.replicate 8 0) ≠ List.replicate 8 0)=true by kernel_rfl)
end Go.Proofs.YtbgkmicelmenfaaGreatDoor.S
namespace Go.Proofs.YtbgkmicelmenfaaGreatDoor.S
open Go.RowKit
set_option maxRecDepth 100000
theorem _root_.Go.Proofs.YtbgkmicelmenfaaGreatDoor.Own.at_ {w:World} {base n:Nat} {v:Value} {bs:List UInt8} (h:Own w base v bs) (hn:bs.length=n) (h0:0 < n):∃ g c,v=.slice (some ⟨g,0,none⟩) n c∧base≤g∧g < w.heap.size∧n≤c∧c≤9223372036854775807∧Own w base (.slice (some ⟨g,0,none⟩) n c) bs∧Rd w w.heap.size (some ⟨g,0,none⟩) n bs:=by
 obtain ⟨A,c,rfl,h1,h2,h3⟩:=h.rdm hn
 rcases h.2 with ⟨h4,h5⟩ | ⟨g,cap,cur,h4,_⟩
 ·simp only [Value.slice.injEq] at h4
  omega
 ·simp only [Value.slice.injEq] at h4
  obtain ⟨rfl,_,rfl⟩:=h4
  have hb:=Own.base_le (show Own w base (.slice (some ⟨g,0,none⟩) n c) bs from h)
  exact ⟨g,c,rfl,hb.1,hb.2,h1,h2,h,h3⟩
end Go.Proofs.YtbgkmicelmenfaaGreatDoor.S
namespace Go.Proofs.YtbgkmicelmenfaaGreatDoor.S
open Go.RowKit
set_option maxRecDepth 100000
theorem rd_part {w:World} {B n g o m:Nat} {bs:List UInt8} (h:Rd w B (some ⟨g,o,none⟩) n bs) (hm:4*m+4≤n):Rd w B (some ⟨g,o+4*m,none⟩) 4 (part bs m):=by
 have hl:=h.len
 refine ⟨by simp [part];omega,fun _=>?_⟩
 obtain ⟨b,o',e,hb,hc⟩:=h.at_ (by omega)
 obtain rfl:=(Addr.mk.inj (Option.some.inj e)).1
 obtain rfl:=(Addr.mk.inj (Option.some.inj e)).2.1
 refine ⟨g,o+4*m,rfl,hb,fun k hk=>?_⟩
 have:=hc (4*m+k) (by omega)
 have e2:byteAt (part bs m) k=byteAt bs (4*m+k):=by unfold byteAt part;simp [List.getD,hk]
 rw [e2,← this]
 congr 2;omega
theorem big_wd (t:T3) (ht:t ≠ .r) (A:Option Addr) (c B:Nat) (bs:List UInt8) (w:World) (h:Rd w B A 4 bs) :
  Calls Tryz.prog 141 #[.slice A 4 c] w fun e w'=>e=.returned (.int .u64 ((wd t bs).toNat:Nat))∧w=w':=by
 rw [wd_be bs t ht]
 exact big_any A 4 c B bs w h (by omega)
theorem little_wd (A:Option Addr) (c B:Nat) (bs:List UInt8) (w:World) (h:Rd w B A 4 bs) :
  Calls Tryz.prog 131 #[.slice A 4 c] w fun e w'=>e=.returned (.int .u64 ((wd .r bs).toNat:Nat))∧w=w':=by
 rw [wd_le bs]
 exact little_any A 4 c B bs w h (by omega)
theorem wrap_w (x:UInt32):IntKind.u32.wrap (x.toNat:Int)=(x.toNat:Int):=by
 have:=wlt x
 rw [IntKind.wrap_u32'];omega
end Go.Proofs.YtbgkmicelmenfaaGreatDoor.S
namespace Go.Proofs.YtbgkmicelmenfaaGreatDoor.S
open Go.RowKit
set_option maxRecDepth 100000
theorem words_succ (t:T3) (bs:List UInt8) (j:Nat):words t bs j++[kw t bs j] = words t bs (j+1):=by simp [words,List.range_succ]
set_option maxHeartbeats 4000000 in
theorem rbig_any (t:T3) (ht:t ≠ .r) (A:Option Addr) (m c:Nat) (bs:List UInt8) (w:World) (h:Rd w w.heap.size A (4*m) bs) (h0:0 < m) (hm:m≤1000) (hc:4*m≤c) (hcb:c≤9223372036854775807) :
  Calls Tryz.prog 82 #[.slice A (4*m:Nat) c] w (WRet m w (words t bs m)):=by
 obtain ⟨b0,o0,rfl,hb0,_⟩:=h.at_ (by omega)
 have HR:=hid h
 clear h
 go_enter Tryz.func82,Tryz.ntmps82
 go_wp2_with fail
 go_loopw [3,4] (fun o i wr=>∃ (j:Nat) (Av:Option Addr) (cv:Nat),j≤m∧i=.int .i64 (4*j:Nat)∧o=.slice Av j cv∧OwnW wr w.heap.size (.slice Av j cv) (words t bs j)∧Ext w wr) (fun _ i _=>4*m - (intOf i).toNat)
 case atStart=>exact ⟨0,none,0,by omega,rfl,rfl,World.ownsRow_nil _ _ _ _,Ext.refl _⟩
 case round =>
  obtain ⟨j,Av,cv,hj,rfl,rfl,hown,hx⟩:=hrel
  by_cases hlt:j < m
  ·have hlen:=words_length t bs j
   have hlen1:=words_length t bs (j+1)
   have HS:=hid (words_succ t bs j)
   have hrp:=rd_part (m:=j) (HR.out.later hx) (by omega)
   have hk:kw t bs j=wd t (part bs j):=rfl
   obtain ⟨X,hX⟩:∃ X,kw t bs j=X:=⟨_,rfl⟩
   have hbg:=fun c=>big_wd t ht (some ⟨b0,o0+4*j,none⟩) c wr.heap.size (part bs j) wr hrp
   rw [← hk,hX] at hbg
   rw [hX] at HS
   have hwr:=wrap_w X
   have hal:=Ext.alloc wr (.cells #[.int .u32 (X.toNat:Nat)] 118)
   have hown1:=OwnN.kept hown hal
   have hrd1:=one_rd wr X
   have HX:=hid hx
   have HBG:=hid hbg
   have hz:=Below.size hx
   have hq:((4*j:Nat):Int) < ((4*m:Nat):Int):=by omega
   have hq2:((4*j:Nat):Int)+4≤((4*m:Nat):Int):=by omega
   obtain ⟨p,hp⟩:∃ p,4*j=p:=⟨_,rfl⟩
   obtain ⟨q,hqm⟩:∃ q,4*m=q:=⟨_,rfl⟩
   rw [hp] at HBG
   rw [hp,hqm]
   rw [hp,hqm] at hq hq2
   rw [hqm] at hc
   have hq1000:q≤4000:=by omega
   have HP:=hid (And.intro hp hqm)
   clear hbg hk hX hx hown hrp hp hqm
   go_wp2_with fail
   have e4:p+4 - p=4:=by omega
   refine (HBG.out _).mono ?_
   rintro e w' ⟨rfl,rfl⟩
   go_wp2_with (at_builtin;refine wpL_appendN _ rfl (.tmp 11) (.tmp 19) 115 rfl Tryz.underlying115 4 Tryz.info43 w.heap.size _ (nW (words t bs j)) rfl hown1 _ _ 1 1 (nW [X]) rfl hrd1 (by rw [nW_length,hlen];omega) (by rw [nW_length,hlen];unfold maxLen;omega) (by simp;omega) ?_;intro v2 w2 hown2 hb2;rw [← nW_append,HS.out] at hown2;obtain ⟨A2,c2,rfl,hcc2,_,hown2⟩:=OwnN.rdc (n:=j+1) hown2 (by rw [nW_length,hlen1]);have HX2:=hid (show Ext w w2 from (Below.trans HX.out (Below.mono hal hz)).trans hb2);have HO2:=hid hown2;clear hb2 hown2 hown1 hrd1 hal)
   go_roundw
   case rel=>exact ⟨j+1,A2,c2,by omega,by have:=HP.out.1;go_num,rfl,HO2.out,HX2.out⟩
   case measure=>have:=HP.out.1;have:=HP.out.2;simp [intOf];omega
  ·obtain rfl:j=m:=by omega
   have HX:=hid hx
   have HO:=hid hown
   clear hx hown
   go_wp2_with fail
   go_ret
   obtain ⟨g9,c9,e9,hc9,_,_⟩:=OwnN.head HO.out (by rw [nW_length,words_length]) h0
   simp only [Value.slice.injEq] at e9
   obtain ⟨rfl,_,rfl⟩:=e9
   exact ⟨g9,cv,rfl,hc9,OwnW.room HO.out,HO.out,HX.out⟩
set_option maxHeartbeats 4000000 in
theorem rlittle_any (A:Option Addr) (m c:Nat) (bs:List UInt8) (w:World) (h:Rd w w.heap.size A (4*m) bs) (h0:0 < m) (hm:m≤1000) (hc:4*m≤c) (hcb:c≤9223372036854775807) :
  Calls Tryz.prog 140 #[.slice A (4*m:Nat) c] w (WRet m w (words .r bs m)):=by
 obtain ⟨b0,o0,rfl,hb0,_⟩:=h.at_ (by omega)
 have HR:=hid h
 clear h
 go_enter Tryz.func140,Tryz.ntmps140
 go_wp2_with fail
 go_loopw [3,4] (fun o i wr=>∃ (j:Nat) (Av:Option Addr) (cv:Nat),j≤m∧i=.int .i64 (4*j:Nat)∧o=.slice Av j cv∧OwnW wr w.heap.size (.slice Av j cv) (words .r bs j)∧Ext w wr) (fun _ i _=>4*m - (intOf i).toNat)
 case atStart=>exact ⟨0,none,0,by omega,rfl,rfl,World.ownsRow_nil _ _ _ _,Ext.refl _⟩
 case round =>
  obtain ⟨j,Av,cv,hj,rfl,rfl,hown,hx⟩:=hrel
  by_cases hlt:j < m
  ·have hlen:=words_length .r bs j
   have hlen1:=words_length .r bs (j+1)
   have HS:=hid (words_succ .r bs j)
   have hrp:=rd_part (m:=j) (HR.out.later hx) (by omega)
   have hk:kw .r bs j=wd .r (part bs j):=rfl
   obtain ⟨X,hX⟩:∃ X,kw .r bs j=X:=⟨_,rfl⟩
   have hbg:=fun c=>little_wd (some ⟨b0,o0+4*j,none⟩) c wr.heap.size (part bs j) wr hrp
   rw [← hk,hX] at hbg
   rw [hX] at HS
   have hwr:=wrap_w X
   have hal:=Ext.alloc wr (.cells #[.int .u32 (X.toNat:Nat)] 118)
   have hown1:=OwnN.kept hown hal
   have hrd1:=one_rd wr X
   have HX:=hid hx
   have HBG:=hid hbg
   have hz:=Below.size hx
   have hq:((4*j:Nat):Int) < ((4*m:Nat):Int):=by omega
   have hq2:((4*j:Nat):Int)+4≤((4*m:Nat):Int):=by omega
   obtain ⟨p,hp⟩:∃ p,4*j=p:=⟨_,rfl⟩
   obtain ⟨q,hqm⟩:∃ q,4*m=q:=⟨_,rfl⟩
   rw [hp] at HBG
   rw [hp,hqm]
   rw [hp,hqm] at hq hq2
   rw [hqm] at hc
   have hq1000:q≤4000:=by omega
   have HP:=hid (And.intro hp hqm)
   clear hbg hk hX hx hown hrp hp hqm
   go_wp2_with fail
   have e4:p+4 - p=4:=by omega
   refine (HBG.out _).mono ?_
   rintro e w' ⟨rfl,rfl⟩
   go_wp2_with (at_builtin;refine wpL_appendN _ rfl (.tmp 11) (.tmp 19) 115 rfl Tryz.underlying115 4 Tryz.info43 w.heap.size _ (nW (words .r bs j)) rfl hown1 _ _ 1 1 (nW [X]) rfl hrd1 (by rw [nW_length,hlen];omega) (by rw [nW_length,hlen];unfold maxLen;omega) (by simp;omega) ?_;intro v2 w2 hown2 hb2;rw [← nW_append,HS.out] at hown2;obtain ⟨A2,c2,rfl,hcc2,_,hown2⟩:=OwnN.rdc (n:=j+1) hown2 (by rw [nW_length,hlen1]);have HX2:=hid (show Ext w w2 from (Below.trans HX.out (Below.mono hal hz)).trans hb2);have HO2:=hid hown2;clear hb2 hown2 hown1 hrd1 hal)
   go_roundw
   case rel=>exact ⟨j+1,A2,c2,by omega,by have:=HP.out.1;go_num,rfl,HO2.out,HX2.out⟩
   case measure=>have:=HP.out.1;have:=HP.out.2;simp [intOf];omega
  ·obtain rfl:j=m:=by omega
   have HX:=hid hx
   have HO:=hid hown
   clear hx hown
   go_wp2_with fail
   go_ret
   obtain ⟨g9,c9,e9,hc9,_,_⟩:=OwnN.head HO.out (by rw [nW_length,words_length]) h0
   simp only [Value.slice.injEq] at e9
   obtain ⟨rfl,_,rfl⟩:=e9
   exact ⟨g9,cv,rfl,hc9,OwnW.room HO.out,HO.out,HX.out⟩
end Go.Proofs.YtbgkmicelmenfaaGreatDoor.S
namespace Go.Proofs.YtbgkmicelmenfaaGreatDoor.S
open Go.RowKit
set_option maxRecDepth 100000
def RC (j:Nat):List UInt32:=(List.range j).map rc0
theorem RC_length (j:Nat):(RC j).length=j:=by simp [RC]
theorem RC_succ (j:Nat):RC j++[rc0 j] = RC (j+1):=by simp [RC,List.range_succ]
theorem OwnW.setother {w:World} {base g n c:Nat} {ks:List UInt32} (h:OwnW w base (.slice (some ⟨g,0,none⟩) n c) ks) (G k:Nat) (x:Value) (hne:g ≠ G):OwnW (w.setCell ⟨G,k,none⟩ x) base (.slice (some ⟨g,0,none⟩) n c) ks :=
 ownsRow_setCell_other h (by simp [Value.ownBlock];exact hne) x
set_option maxHeartbeats 4000000 in
theorem stretched_any (A:Option Addr) (c:Nat) (key:List UInt8) (w:World) (h:Rd w w.heap.size A 16 key) (hc:16≤c) (hcb:c≤9223372036854775807) :
  Calls Tryz.prog 81 #[.slice A 16 c] w (WRet 26 w (rc5S key)):=by
 have hl:=rlittle_any A 4 c key w h (by omega) (by omega) hc hcb
 rw [show 4*4=16 from rfl] at hl
 have HL:=hid hl
 clear hl h
 go_enter Tryz.func81,Tryz.ntmps81
 go_wp2_with fail
 refine HL.out.mono ?_
 rintro e w1 ⟨g3,c3,rfl,hc3,hm3,ho3,hx1⟩
 have hb3:=OwnN.base_le ho3
 have HX1:=hid hx1
 have HO3:=hid ho3
 have hz1:=Below.size hx1
 clear hx1 ho3 HL
 go_wp2_with fail
 go_loopw [4,5] (fun s i wr=>∃ (j:Nat) (Av:Option Addr) (cv:Nat),j≤26∧i=.int .i64 j∧s=.slice Av j cv∧OwnW wr w1.heap.size (.slice Av j cv) (RC j)∧Ext w1 wr) (fun _ i _=>26 - (intOf i).toNat)
 case atStart=>exact ⟨0,none,0,by omega,rfl,rfl,World.ownsRow_nil _ _ _ _,Ext.refl _⟩
 case round =>
  obtain ⟨j,Av,cv,hj,rfl,rfl,hown,hx⟩:=hrel
  by_cases hlt:j < 26
  ·have hlen:=RC_length j
   have hlen1:=RC_length (j+1)
   have HS:=hid (RC_succ j)
   have hv:=rc0_val j hlt
   obtain ⟨X,hX⟩:∃ X,rc0 j=X:=⟨_,rfl⟩
   rw [hX] at HS hv
   have hal:=Ext.alloc wr (.cells #[.int .u32 (X.toNat:Nat)] 118)
   have hown1:=OwnN.kept hown hal
   have hrd1:=one_rd wr X
   have HX:=hid hx
   have hz:=Below.size hx
   have hk26:(j:Int) < 26:=by omega
   clear hX hx hown
   go_wp2_with (at_builtin;refine wpL_appendN _ rfl (.tmp 15) (.tmp 20) 115 rfl Tryz.underlying115 4 Tryz.info43 w1.heap.size _ (nW (RC j)) rfl hown1 _ _ 1 1 (nW [X]) rfl hrd1 (by rw [nW_length,hlen];omega) (by rw [nW_length,hlen];unfold maxLen;omega) (by simp;omega) ?_;intro v2 w2 hown2 hb2;rw [← nW_append,HS.out] at hown2;obtain ⟨A2,c2,rfl,hcc2,_,hown2⟩:=OwnN.rdc (n:=j+1) hown2 (by rw [nW_length,hlen1]);have HX2:=hid (show Ext w1 w2 from (Below.trans HX.out (Below.mono hal hz)).trans hb2);have HO2:=hid hown2;clear hb2 hown2 hown1 hrd1 hal)
   go_roundw
   case rel=>exact ⟨j+1,A2,c2,by omega,by go_num,rfl,HO2.out,HX2.out⟩
   case measure=>simp [intOf];omega
  ·obtain rfl:j=26:=by omega
   obtain ⟨g4,c4,e4,hc4,hb4,hl4⟩:=OwnN.head hown (by rw [nW_length,RC_length]) (by omega)
   simp only [Value.slice.injEq] at e4
   obtain ⟨rfl,_,rfl⟩:=e4
   have HO4:=hid hown
   have HO3:=hid (OwnN.kept HO3.out hx)
   have HX2:=hid (Ext.trans HX1.out hx)
   have hz2:=Below.size hx
   clear hx hown HX1
   go_wp2_with fail
   simp only [Int.cast_ofNat_Int]
   go_loopw [6,7,8] (fun a b n wr=>∃ (j:Nat) (z:R5),j≤78∧n=.int .i64 j∧z=rcAt (rcBegin (words .r key 4)) j∧a=.int .u32 (z.a.toNat:Nat)∧b=.int .u32 (z.b.toNat:Nat)∧OwnW wr w1.heap.size (.slice (some ⟨g4,0,none⟩) 26 cv) z.s∧OwnW wr w.heap.size (.slice (some ⟨g3,0,none⟩) 4 c3) z.l∧Ext w wr) (fun _ _ n _=>78 - (intOf n).toNat)
   case atStart=>exact ⟨0,_,by omega,rfl,rfl,rfl,rfl,HO4.out,HO3.out,HX2.out⟩
   case round =>
    clear HO4 HO3 HX2
    obtain ⟨n,z,hn,rfl,hz,rfl,rfl,hs,hll,hx⟩:=hrel
    obtain ⟨hls,hlx⟩:=rcAt_len (words .r key 4) n
    rw [words_length] at hlx
    by_cases hlt2:n < 78
    ·have hstep:rcAt (rcBegin (words .r key 4)) (n+1)=rcStep n z:=by rw [rcAt,← hz]
     rw [← hz] at hls hlx
     obtain ⟨i,hi⟩:∃ i,n % 26=i:=⟨_,rfl⟩
     obtain ⟨j,hj⟩:∃ j,n % 4=j:=⟨_,rfl⟩
     have hi26:i < 26:=by omega
     have hj4:j < 4:=by omega
     have ei:(n:Int) % 26=(i:Int):=by omega
     have ej:(n:Int) % 4=(j:Int):=by omega
     have ti:(n:Int).tmod 26=(i:Int):=by rw [Int.tmod_eq_emod_of_nonneg (by omega)];exact ei
     have tj:(n:Int).tmod 4=(j:Int):=by rw [Int.tmod_eq_emod_of_nonneg (by omega)];exact ej
     have hcs:=OwnW.kw hs hls i (by omega)
     have hcl:=OwnW.kw hll hlx j (by omega)
     rw [Nat.zero_add] at hcs hcl
     have hfs:=OwnN.free hs i
     have hfl:=OwnN.free hll j
     have hA:rcA z n=rolI (z.s.getD i 0+z.a+z.b) 3:=by unfold rcA;rw [hi]
     have hB:rcB z n (rcA z n)=rolI (z.l.getD j 0+rcA z n+z.b) ((rcA z n+z.b).toNat % 32:Nat):=by unfold rcB;rw [hj]
     have hst2:rcStep n z=⟨z.s.set i (rcA z n),z.l.set j (rcB z n (rcA z n)),rcA z n,rcB z n (rcA z n)⟩:=by unfold rcStep;rw [hi,hj]
     rw [hst2] at hstep
     obtain ⟨X,hX⟩:∃ X,rcA z n=X:=⟨_,rfl⟩
     rw [hX] at hA hB hstep
     obtain ⟨Y,hY⟩:∃ Y,rcB z n X=Y:=⟨_,rfl⟩
     rw [hY] at hB hstep
     obtain ⟨si,hsi⟩:∃ x,z.s.getD i 0=x:=⟨_,rfl⟩
     obtain ⟨lj,hlj⟩:∃ x,z.l.getD j 0=x:=⟨_,rfl⟩
     rw [hsi] at hA hcs
     rw [hlj] at hB hcl
     have e1:=w_add si z.a
     have e2:=w_add (si+z.a) z.b
     have e3:=w_add lj X
     have e4:=w_add (lj+X) z.b
     have e5:=w_add X z.b
     obtain ⟨p1,hp1⟩:∃ x,si+z.a=x:=⟨_,rfl⟩
     rw [hp1] at hA e1 e2
     obtain ⟨p2,hp2⟩:∃ x,p1+z.b=x:=⟨_,rfl⟩
     rw [hp2] at hA e2
     obtain ⟨p3,hp3⟩:∃ x,lj+X=x:=⟨_,rfl⟩
     rw [hp3] at hB e3 e4
     obtain ⟨p4,hp4⟩:∃ x,p3+z.b=x:=⟨_,rfl⟩
     rw [hp4] at hB e4
     obtain ⟨p5,hp5⟩:∃ x,X+z.b=x:=⟨_,rfl⟩
     rw [hp5] at hB e5
     have hra:=fun w=>rrol_w p2 3 w
     rw [← hA] at hra
     have hrb:=fun w=>rrol_w p4 (p5.toNat % 32:Nat) w
     rw [← hB] at hrb
     obtain ⟨q5,hq5⟩:∃ q,p5.toNat % 32=q:=⟨_,rfl⟩
     have hq5i:(p5.toNat:Int) % 32=(q5:Int):=by omega
     have hq5l:q5 < 32:=by omega
     rw [hq5] at hrb
     have HRA:=hid hra
     have HRB:=hid hrb
     have hgG:¬ g3=g4:=by omega
     have hGg:¬ g4=g3:=by omega
     have HBS:=hid ((OwnW.set_ hs hls i X).setother g3 j (.int .u32 (Y.toNat:Nat)) (by omega))
     have HBL:=hid (OwnW.set_ (OwnW.setother hll g4 i (.int .u32 (X.toNat:Nat)) (by omega)) hlx j Y)
     have HBX:=hid (show Ext w ((wr.setCell ⟨g4,i,none⟩ (.int .u32 (X.toNat:Nat))).setCell ⟨g3,j,none⟩ (.int .u32 (Y.toNat:Nat))) from (Below.setCell (Below.setCell (show Below w.heap.size w wr from hx) (by simp;omega) _) (by simp;omega) _))
     have HSTEP:=hid hstep
     have b1:=wlt z.a
     have b2:=wlt z.b
     have b3:=wlt si
     have b4:=wlt lj
     have b5:=wlt p1
     have b6:=wlt p3
     have b7:=wlt X
     clear hz hs hll hx hls hlx hstep hi hj hA hB hst2 hX hY hsi hlj hp1 hp2 hp3 hp4 hp5 hra hrb hq5
     go_wp2_with fail
     refine (HRA.out _).mono ?_
     rintro e w' ⟨rfl,rfl⟩
     go_wp2_with fail
     refine (HRB.out _).mono ?_
     rintro e w' ⟨rfl,rfl⟩
     go_wp2_with fail
     go_roundw
     case rel=>exact ⟨n+1,⟨z.s.set i X,z.l.set j Y,X,Y⟩,by omega,by go_num,HSTEP.out.symm,rfl,rfl,HBS.out,HBL.out,HBX.out⟩
     case measure=>simp [intOf];omega
    ·obtain rfl:n=78:=by omega
     have HO:=hid (show OwnW wr w.heap.size (.slice (some ⟨g4,0,none⟩) 26 cv) (rc5S key) by rw [hz] at hs;exact OwnN.base_mono hs hz1)
     have HX:=hid hx
     clear hs hll hx hz
     go_wp2_with fail
     go_ret
     exact ⟨g4,cv,rfl,hc4,OwnW.room HO.out,HO.out,HX.out⟩
end Go.Proofs.YtbgkmicelmenfaaGreatDoor.S
namespace Go.Proofs.YtbgkmicelmenfaaGreatDoor.S
open Go.RowKit
set_option maxRecDepth 100000
structure RefS (w:World) (p g n c:Nat) (t:T3) (ks:List UInt32):Prop where
 tag:w.cell? ⟨p,0,none⟩=some (.int .i64 t.code)
 keys:w.cell? ⟨p,1,none⟩=some (.slice (some ⟨g,0,none⟩) n c)
 room:n≤c
 len:ks.length=n
 at_:KW w g 0 ks
theorem RefS.later {w w':World} {p g n c:Nat} {t:T3} {ks:List UInt32} (h:RefS w p g n c t ks) (hx:Ext w w'):RefS w' p g n c t ks :=
 ⟨cell_at hx h.tag,cell_at hx h.keys,h.room,h.len,h.at_.later hx⟩
theorem RefS.cell {w:World} {p g n c:Nat} {t:T3} {ks:List UInt32} (h:RefS w p g n c t ks) (j:Nat) (hj:j < n):w.cell? ⟨g,j,none⟩=some (.int .u32 ((ks.getD j 0).toNat:Nat)):=by
 have:=h.at_ j (by rw [h.len];exact hj)
 rwa [Nat.zero_add] at this
def Two (w:World) (z:W2) (e:Ending) (w':World):Prop:=e=.returned (.tuple #[.int .u32 (z.a.toNat:Nat),.int .u32 (z.b.toNat:Nat)])∧Ext w w'
end Go.Proofs.YtbgkmicelmenfaaGreatDoor.S
namespace Go.Proofs.YtbgkmicelmenfaaGreatDoor.S
open Go.RowKit
set_option maxRecDepth 100000
def refKs:T3→List UInt8→List UInt32
 | .x,key=>words .x key 4
 | .m,key=>words .m key 8
 | .r,key=>rc5S key
def refN:T3→Nat
 | .x=>4
 | .m=>8
 | .r=>26
def IsRef (w:World) (p:Nat) (t:T3) (key:List UInt8):Prop:=∃ g c,RefS w p g (refN t) c t (refKs t key)
theorem IsRef.later {w w':World} {p:Nat} {t:T3} {key:List UInt8} (h:IsRef w p t key) (hx:Ext w w'):IsRef w' p t key:=by
 obtain ⟨g,c,h⟩:=h
 exact ⟨g,c,h.later hx⟩
def RNew (w:World) (t:T3) (key:List UInt8) (e:Ending) (w':World):Prop:=∃ p,e=.returned (.tuple #[.pointer (some ⟨p,0,none⟩),.int .i64 0])∧IsRef w' p t key∧Ext w w'
theorem refs_of {w:World} {g n c:Nat} {t:T3} {ks:List UInt32} (ho:OwnW w g (.slice (some ⟨g,0,none⟩) n c) ks) (hl:ks.length=n) (hc:n≤c) :
  RefS (w.alloc (.cells #[.int .i64 t.code,.slice (some ⟨g,0,none⟩) n c] 169)) w.heap.size g n c t ks :=
 have hp:=heap_alloc_new w (.cells #[.int .i64 t.code,.slice (some ⟨g,0,none⟩) n c] 169)
 ⟨by rw [cell_of_heap hp];rfl,by rw [cell_of_heap hp];rfl,hc,hl,(OwnW.kw ho hl).later (Ext.alloc _ _)⟩
theorem OwnW.self {w:World} {base g n c:Nat} {ks:List UInt32} (h:OwnW w base (.slice (some ⟨g,0,none⟩) n c) ks):OwnW w g (.slice (some ⟨g,0,none⟩) n c) ks:=by
 refine ⟨h.1,?_⟩
 rcases h.2 with hn | ⟨g',cap,cur,h1,hbg,r⟩
 ·exact .inl hn
 ·simp only [Value.slice.injEq,Option.some.injEq,Addr.mk.injEq,and_true] at h1
  obtain ⟨rfl,h2,h3⟩:=h1
  exact .inr ⟨g,cap,cur,by rw [h2,h3],Nat.le_refl _,r⟩
set_option maxHeartbeats 1000000 in
theorem rnew_x (A:Option Addr) (c:Nat) (key:List UInt8) (w:World) (h:Rd w w.heap.size A 16 key) (hc:16≤c) (hcb:c≤9223372036854775807) :
  Calls Tryz.prog 44 #[.int .i64 4,.slice A 16 c] w (RNew w .x key):=by
 have hb:=rbig_any .x (by decide) A 4 c key w h (by omega) (by omega) hc hcb
 rw [show 4*4=16 from rfl] at hb
 have HB:=hid hb
 clear h hb
 go_enter Tryz.func44,Tryz.ntmps44
 go_wp2_with fail
 refine HB.out.mono ?_
 rintro e w1 ⟨g,c1,rfl,hc1,hm1,ho,hx⟩
 have hr:=refs_of (t:=.x) (OwnW.self ho) (words_length _ _ _) hc1
 have hx2:=Ext.trans hx (Ext.alloc w1 (.cells #[.int .i64 T3.x.code,.slice (some ⟨g,0,none⟩) 4 c1] 169))
 have HR:=hid hr
 have HX:=hid hx2
 clear hr hx2 ho hx
 go_wp2_with fail
 go_ret2
 exact ⟨_,rfl,⟨g,c1,HR.out⟩,HX.out⟩
set_option maxHeartbeats 1000000 in
theorem rnew_m (A:Option Addr) (c:Nat) (key:List UInt8) (w:World) (h:Rd w w.heap.size A 32 key) (hc:32≤c) (hcb:c≤9223372036854775807) :
  Calls Tryz.prog 44 #[.int .i64 5,.slice A 32 c] w (RNew w .m key):=by
 have hb:=rbig_any .m (by decide) A 8 c key w h (by omega) (by omega) hc hcb
 rw [show 4*8=32 from rfl] at hb
 have HB:=hid hb
 clear h hb
 go_enter Tryz.func44,Tryz.ntmps44
 go_wp2_with fail
 refine HB.out.mono ?_
 rintro e w1 ⟨g,c1,rfl,hc1,hm1,ho,hx⟩
 have hr:=refs_of (t:=.m) (OwnW.self ho) (words_length _ _ _) hc1
 have hx2:=Ext.trans hx (Ext.alloc w1 (.cells #[.int .i64 T3.m.code,.slice (some ⟨g,0,none⟩) 8 c1] 169))
 have HR:=hid hr
 have HX:=hid hx2
 clear hr hx2 ho hx
 go_wp2_with fail
 go_ret2
 exact ⟨_,rfl,⟨g,c1,HR.out⟩,HX.out⟩
set_option maxHeartbeats 1000000 in
theorem rnew_r (A:Option Addr) (c:Nat) (key:List UInt8) (w:World) (h:Rd w w.heap.size A 16 key) (hc:16≤c) (hcb:c≤9223372036854775807) :
  Calls Tryz.prog 44 #[.int .i64 8,.slice A 16 c] w (RNew w .r key):=by
 have hb:=stretched_any A c key w h hc hcb
 have HB:=hid hb
 clear h hb
 go_enter Tryz.func44,Tryz.ntmps44
 go_wp2_with fail
 refine HB.out.mono ?_
 rintro e w1 ⟨g,c1,rfl,hc1,hm1,ho,hx⟩
 have hr:=refs_of (t:=.r) (OwnW.self ho) (rc5S_length _) hc1
 have hx2:=Ext.trans hx (Ext.alloc w1 (.cells #[.int .i64 T3.r.code,.slice (some ⟨g,0,none⟩) 26 c1] 169))
 have HR:=hid hr
 have HX:=hid hx2
 clear hr hx2 ho hx
 go_wp2_with fail
 go_ret2
 exact ⟨_,rfl,⟨g,c1,HR.out⟩,HX.out⟩
theorem rnew_any (t:T3) (A:Option Addr) (c:Nat) (key:List UInt8) (w:World) (h:Rd w w.heap.size A t.size key) (hc:t.size≤c) (hcb:c≤9223372036854775807) :
  Calls Tryz.prog 44 #[.int .i64 t.code,.slice A t.size c] w (RNew w t key):=by
 cases t
 ·exact rnew_x A c key w h hc hcb
 ·exact rnew_m A c key w h hc hcb
 ·exact rnew_r A c key w h hc hcb
end Go.Proofs.YtbgkmicelmenfaaGreatDoor.S
