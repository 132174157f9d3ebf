/- Own lemmas of the verifier on memory, numbers and the functions that the laws call; no statement is proved here. -/
import Derived.Test.YtbgkmicelmenfaaGreatDoorRG
import Derived.Deep.QuietTactic
import Derived.BigQuiet
import Derived.Laws.BitsAllLaws
import Derived.WalkMore
import Derived.ScopeJumps
import Derived.Laws.Rows
import Derived.Laws.Tables
import Derived.RangeFuncNested
import Derived.RangeFuncBound
import Derived.RangeFuncCalls
import Derived.RangeFuncLeaves
import Derived.RangeFuncBox
import Derived.OwnWalkIn
import Derived.TacticsInMore
import Derived.LoopNIn
import Derived.LoopIn
import Derived.ArgAppend
import Derived.Maps.AppendAt
import Derived.Shelf.Abstract
import Derived.WalkKit
import Derived.RegionTactic
namespace Go.Proofs.YtbgkmicelmenfaaGreatDoor.T
open Go.RowKit
set_option maxRecDepth 100000
theorem Tryz.info5:(Tryz.prog.info? 5).map (fun i=>(i.zero,i.size,i.bytes))=some (some (.int .u8 0),1,1):=by kernel_rfl
theorem ret_int {k:IntKind} {a b:Int} (h:a=b):Ending.returned (.int k a)=.returned (.int k b):=by rw [h]
theorem tmod_lo (a n:Int) (hn:0 < n) : - n < a.tmod n:=by
 have h:=@Int.tmod_eq_emod a n
 have h1:=Int.emod_nonneg a (Int.ne_of_gt hn)
 have h2:=Int.emod_lt_of_pos a hn
 split at h<;>omega
theorem tmod_add_emod (a n:Int) (hn:0 < n):(a.tmod n+n) % n=a % n:=by
 have h:=@Int.tmod_eq_emod a n
 rw [Int.add_emod_right]
 split at h
 ·rw [h];simp
 ·rw [h,Int.sub_emod];
  have:(n.natAbs:Int) % n=0:=by rw [Int.natAbs_of_nonneg (by omega)];simp
  rw [this];simp
set_option maxHeartbeats 400000 in
theorem rrest_any (a n:Int) (w:World) (h0:0 < n) (h1:n≤4611686018427387903) :
  Calls Tryz.prog 178 #[.int .i64 a,.int .i64 n] w fun e w'=>e=.returned (.int .i64 (a % n))∧w=w':=by
 have b1:=Int.tmod_lt_of_pos a h0
 have b2:=tmod_lo a n h0
 have hf:=tmod_add_emod a n h0
 have HF:=hid hf;clear hf
 go_enter Tryz.func178,Tryz.ntmps178
 go_wp2
 go_ret
 exact ⟨ret_int HF.out,rfl⟩
theorem and31 (n:Int):bits .and .u64 (IntKind.u64.wrap n) 31=n % 32:=by
 rw [IntKind.wrap_u64,show (31:Int)=((31:Nat):Int) from rfl,show n % 18446744073709551616=((n % 18446744073709551616).toNat:Int) by omega,u64_and_nat _ _ (by omega) (by omega),nat_mask5]
 omega
def rol32 (a:Int) (s:Nat):Int:=bits .or .u32 (a*2 ^ s % 4294967296) (a / 2 ^ (32 - s))
set_option maxHeartbeats 400000 in
theorem rl32 (a n:Int) (w:World) :
  Calls Tryz.prog 168 #[.int .u32 a,.int .i64 n] w fun e w'=>e=.returned (.int .u32 (rol32 a (n % 32).toNat))∧w=w':=by
 have hs:=and31 n
 obtain ⟨s,hsn⟩:∃ s:Nat,n % 32=s:=⟨(n % 32).toNat,by omega⟩
 have hs1:s≤31:=by omega
 rw [hsn] at hs
 have HS:=hid (show (n % 32).toNat=s by omega)
 clear hsn
 go_enter Tryz.func168,Tryz.ntmps168
 go_wp2
 go_ret
 exact ⟨ret_int (by rw [HS.out];rfl),rfl⟩
set_option maxHeartbeats 400000 in
theorem rrl32 (a n:Int) (w:World) :
  Calls Tryz.prog 134 #[.int .u32 a,.int .i64 n] w fun e w'=>e=.returned (.int .u32 (rol32 a (n % 32).toNat))∧w=w':=by
 obtain ⟨s,hsn⟩:∃ s:Nat,n % 32=s:=⟨(n % 32).toNat,by omega⟩
 have hs1:s≤31:=by omega
 have HS:=hid (show (n % 32).toNat=s by omega)
 go_enter Tryz.func134,Tryz.ntmps134
 go_wp2_with (go_at_call 178;refine (rrest_any _ _ _ (by omega) (by omega)).mono ?_;rintro e w' ⟨rfl,rfl⟩)
 go_ret
 exact ⟨ret_int (by rw [HS.out];rfl),rfl⟩
set_option maxHeartbeats 400000 in
theorem rol_any (a n:Int) (w:World) :
  Calls Tryz.prog 111 #[.int .u32 a,.int .i64 n] w fun e w'=>e=.returned (.int .u32 (rol32 a (n % 32).toNat))∧w=w':=by
 go_enter Tryz.func111,Tryz.ntmps111
 go_wp2_with (go_at_call 168;refine (rl32 _ _ _).mono ?_;rintro e w' ⟨rfl,rfl⟩)
 go_ret
 exact ⟨rfl,rfl⟩
set_option maxHeartbeats 400000 in
theorem gather_any (A:Option Addr) (n c B:Nat) (bs:List UInt8) (w:World) (h:Rd w B A n bs) (hn:n≤140737488355328) :
  Calls Tryz.prog 198 #[.slice A n c] w fun e w'=>e=.returned (.int .u64 (be bs n))∧w=w':=by
 go_enter Tryz.func198,Tryz.ntmps198
 go_wp2
 go_loop [3,8] (fun v i=>∃ k:Nat,k≤n∧i=.int .i64 k∧v=.int .u64 (be bs k)) (fun _ i=>n - (intOf i).toNat)
 case atStart=>exact ⟨0,Nat.zero_le _,rfl,rfl⟩
 case round =>
  obtain ⟨k,hk,rfl,rfl⟩:=hrel
  by_cases hlt:k < n
  ·obtain ⟨b,o,rfl,hb,hc⟩:=h.at_ (by omega)
   have hck:=hc k hlt
   have h1:=byteAt_lo bs k
   have h2:=byteAt_hi bs k
   clear h hc
   go_wp2
   go_round
   case rel=>exact ⟨k+1,by omega,by go_num,rfl⟩
   case measure=>simp [intOf];omega
  ·go_wp2
   go_ret
   obtain rfl:k=n:=by omega
   exact ⟨rfl,rfl⟩
set_option maxHeartbeats 400000 in
theorem little_any (A:Option Addr) (n c B:Nat) (bs:List UInt8) (w:World) (h:Rd w B A n bs) (hn:n≤140737488355328) :
  Calls Tryz.prog 131 #[.slice A n c] w fun e w'=>e=.returned (.int .u64 (le bs n n))∧w=w':=by
 go_enter Tryz.func131,Tryz.ntmps131
 go_wp2
 go_loop [3,4] (fun v i=>∃ k:Nat,k≤n∧i=.int .i64 ((n:Int) - k)∧v=.int .u64 (le bs n k)) (fun _ i=>(intOf i).toNat)
 case atStart=>exact ⟨0,Nat.zero_le _,by simp,rfl⟩
 case round =>
  obtain ⟨k,hk,rfl,rfl⟩:=hrel
  by_cases hlt:k < n
  ·obtain ⟨b,o,rfl,hb,hc⟩:=h.at_ (by omega)
   have hck:=hc (n - 1 - k) (by omega)
   have e:o+(n - 1 - k)=o+(n - k - 1):=by omega
   rw [e] at hck
   have h1:=byteAt_lo bs (n - 1 - k)
   have h2:=byteAt_hi bs (n - 1 - k)
   have hpos:(0:Int) < (n:Int) - k:=by omega
   clear h hc e
   go_wp2
   go_round
   case rel=>exact ⟨k+1,by omega,by go_num,rfl⟩
   case measure=>simp [intOf];omega
  ·go_wp2
   go_ret
   obtain rfl:k=n:=by omega
   exact ⟨rfl,rfl⟩
set_option maxHeartbeats 400000 in
theorem spread_any (v:Int) (n:Nat)  (w:World) (hn:n≤8) :
  Calls Tryz.prog 169 #[.int .u64 v,.int .i64 n] w (RetB w (spreadL v n)):=by
 go_enter Tryz.func169,Tryz.ntmps169
 go_wp2_with (at_make;refine wpL_make rfl (.tmp 7) (.tmp 7) 22 rfl Tryz.underlying22 Tryz.info5 .i64 n n rfl rfl rfl (by omega) w.heap.size (Nat.le_refl _) ?_;intro w1 hown1 hb1 _)
 go_loopw [11] (fun i wr=>∃ k:Nat,k≤n∧i=.int .i64 k∧Own wr w.heap.size (.slice (some ⟨w.heap.size,0,none⟩) n n) (fillTo (spreadF v n) n k)∧Below w.heap.size w wr) (fun i _=>n - (intOf i).toNat)
 case atStart=>exact ⟨0,Nat.zero_le _,rfl,by rw [fillTo_zero];exact hown1,hb1⟩
 case round =>
  obtain ⟨k,hk,rfl,hown,hb⟩:=hrel
  by_cases hlt:k < n
  ·obtain ⟨cur,hcur⟩:∃ cur,fillTo (spreadF v n) n k=cur:=⟨_,rfl⟩
   have hcl:cur.length=n:=by rw [← hcur];exact fillTo_length _ _ _
   rw [hcur] at hown
   have hown0:Own wr w.heap.size (.slice (some ⟨w.heap.size,0,none⟩) cur.length n) cur:=by rw [hcl];exact hown
   have hcell:=hown0.cell k (by omega)
   have hfree:=hown0.free k
   have hset:=hown0.set_ k (spreadF v n k)
   rw [← hcur,fillTo_set _ _ _ _ rfl,fillTo_length] at hset
   have hval:((spreadF v n k).toNat:Int)=v / 2 ^ (8*(n - 1 - k)) % 256:=by unfold spreadF;exact u8_toNat _
   rw [hval] at hset
   have HH:=hid hset
   have HB:=hid hb
   clear hset hval hown0 hown hb hcl hcur hown1 hb1
   go_wp2
   go_roundw
   case rel=>exact ⟨k+1,by omega,by go_num,HH.out,HB.out.setCell (by simp) _⟩
   case measure=>simp [intOf];omega
  ·obtain rfl:k=n:=by omega
   have HH:=hid (And.intro hown hb)
   clear hown hb hown1 hb1
   go_wp2
   go_ret
   exact ⟨_,rfl,by have:=HH.out.1;rw [fillTo_full] at this;exact this,HH.out.2⟩
set_option maxHeartbeats 400000 in
theorem putBe32_any (v:Int) (w:World) (h0:0≤v) (h1:v < 4294967296) :
  Calls Tryz.prog 112 #[.int .u32 v] w (RetB w (put32 v)):=by
 go_enter Tryz.func112,Tryz.ntmps112
 go_wp2_with (go_at_call 169;refine (spread_any _ 4 _ (by omega)).mono ?_;rintro e w' ⟨x,rfl,hx,hb⟩)
 go_ret
 exact ⟨_,rfl,by rw [← spread4];exact hx,hb⟩
set_option maxHeartbeats 400000 in
theorem rev_any (v:Int) (w:World) :
  Calls Tryz.prog 113 #[.int .u32 v] w fun e w'=>e=.returned (.int .u32 (rev32 v))∧w=w':=by
 go_enter Tryz.func113,Tryz.ntmps113
 go_wp2
 go_ret
 exact ⟨rfl,rfl⟩
theorem rev32_range (v:Int) (h0:0≤v) (h1:v < 4294967296):0≤rev32 v∧rev32 v < 4294967296:=by
 rw [rev32_eq v h0 h1];omega
set_option maxHeartbeats 400000 in
theorem putLe32_any (v:Int) (w:World) (h0:0≤v) (h1:v < 4294967296) :
  Calls Tryz.prog 61 #[.int .u32 v] w (RetB w (putL32 v)):=by
 have hr:=rev32_range v h0 h1
 go_enter Tryz.func61,Tryz.ntmps61
 go_wp2_with (first
  | (go_at_call 113;refine (rev_any _ _).mono ?_;rintro e w' ⟨rfl,rfl⟩)
  | (go_at_call 112;refine (putBe32_any _ _ hr.1 hr.2).mono ?_;rintro e w' ⟨x,rfl,hx,hb⟩))
 go_ret
 exact ⟨_,rfl,by rw [← put_rev v h0 h1];exact hx,hb⟩
def isLen (k n:Nat):Bool:=decide (n=k)
def be32N (bs:List UInt8) (n:Nat):Int:=if n=4 then be bs 4 else 0
def le32N (bs:List UInt8) (n:Nat):Int:=if n=4 then le bs 4 4 else 0
theorem ret_pair {k:IntKind} {a b:Int} {p q:Bool} (h:a=b) (hp:p=q):Ending.returned (.tuple #[.int k a,.bool p])=.returned (.tuple #[.int k b,.bool q]):=by rw [h,hp]
theorem be4_range (bs:List UInt8):0≤be bs 4∧be bs 4 < 4294967296:=by
 have h0:=byteAt_lo bs 0;have h1:=byteAt_lo bs 1;have h2:=byteAt_lo bs 2;have h3:=byteAt_lo bs 3
 have k0:=byteAt_hi bs 0;have k1:=byteAt_hi bs 1;have k2:=byteAt_hi bs 2;have k3:=byteAt_hi bs 3
 rw [be4];omega
theorem rev_be32N (bs:List UInt8) (n:Nat):rev32 (be32N bs n)=le32N bs n:=by
 unfold be32N le32N
 split
 ·exact rev_be4 bs
 ·exact rev32_eq 0 (by omega) (by omega)
set_option maxHeartbeats 400000 in
theorem be32_any (A:Option Addr) (n c B:Nat) (bs:List UInt8) (w:World) (h:Rd w B A n bs) (hn:n≤140737488355328) :
  Calls Tryz.prog 158 #[.slice A n c] w fun e w'=>e=.returned (.tuple #[.int .u32 (be32N bs n),.bool (isLen 4 n)])∧w=w':=by
 by_cases h4:n=4
 ·subst h4
  go_enter Tryz.func158,Tryz.ntmps158
  go_wp2_with (go_at_call 198;refine (gather_any _ _ _ _ _ _ h hn).mono ?_;rintro e w' ⟨rfl,rfl⟩)
  go_ret2
  exact ⟨ret_pair (by have:=be4_range bs;unfold be32N;rw [if_pos rfl];omega) rfl,rfl⟩
 ·have h5:((n:Int) != 4)=true:=by simp;omega
  go_enter Tryz.func158,Tryz.ntmps158
  go_wp2_with (go_at_call 198;refine (gather_any _ _ _ _ _ _ h hn).mono ?_;rintro e w' ⟨rfl,rfl⟩)
  go_ret2
  exact ⟨ret_pair (by simp [be32N,h4]) (by simp [isLen,h4]),rfl⟩
set_option maxHeartbeats 400000 in
theorem le32_any (A:Option Addr) (n c B:Nat) (bs:List UInt8) (w:World) (h:Rd w B A n bs) (hn:n≤140737488355328) :
  Calls Tryz.prog 107 #[.slice A n c] w fun e w'=>e=.returned (.tuple #[.int .u32 (le32N bs n),.bool (isLen 4 n)])∧w=w':=by
 go_enter Tryz.func107,Tryz.ntmps107
 go_wp2_with (first
  | (go_at_call 158;refine (be32_any _ _ _ _ _ _ h hn).mono ?_;rintro e w' ⟨rfl,rfl⟩)
  | (go_at_call 113;refine (rev_any _ _).mono ?_;rintro e w' ⟨rfl,rfl⟩))
 go_ret2
 exact ⟨ret_pair (rev_be32N bs n) rfl,rfl⟩
def rolN (w a s:Nat):Nat:=a*2 ^ s % 2 ^ w ||| a / 2 ^ (w - s)
theorem rolN_lt (w a s:Nat) (ha:a < 2 ^ w):rolN w a s < 2 ^ w:=by
 unfold rolN
 exact Nat.or_lt_two_pow (Nat.mod_lt _ (Nat.two_pow_pos _)) (Nat.lt_of_le_of_lt (Nat.div_le_self _ _) ha)
theorem cast_mul (x s m:Nat):((x*2 ^ s % m:Nat):Int)=(x:Int)*2 ^ s % (m:Int):=by
 rw [Int.natCast_emod,Int.natCast_mul,Int.natCast_pow];rfl
theorem cast_div (x s:Nat):((x / 2 ^ s:Nat):Int)=(x:Int) / 2 ^ s:=by
 rw [Int.natCast_ediv,Int.natCast_pow];rfl
theorem rol32_nat (x s:Nat) (hx:x < 4294967296) (_hs:s < 32):rol32 (x:Int) s=((rolN 32 x s:Nat):Int):=by
 unfold rol32 rolN
 have h1:x*2 ^ s % 2 ^ 32 < 4294967296:=Nat.mod_lt _ (by omega)
 have h2:x / 2 ^ (32 - s) < 4294967296:=Nat.lt_of_le_of_lt (Nat.div_le_self _ _) hx
 rw [← u32_or_nat _ _ h1 h2,cast_mul,cast_div]
 rfl
end Go.Proofs.YtbgkmicelmenfaaGreatDoor.T
namespace Go.Proofs.YtbgkmicelmenfaaGreatDoor.T
set_option maxRecDepth 100000
def xt (m x:Nat):Nat:=if 256≤2*x then (2*x) ^^^ m else 2*x
def xtk (m:Nat):Nat→Nat→Nat
 | 0,x=>x
 | k+1,x=>xt m (xtk m k x)
def gmk (m a b:Nat):Nat→Nat
 | 0=>0
 | k+1=>if b / 2 ^ k % 2=1 then gmk m a b k ^^^ xtk m k a else gmk m a b k
def gm (m a b:Nat):Nat:=gmk m a b 8
structure IsRest (m:Nat):Prop where
 lo:256≤m
 hi:m < 512
theorem xor_lt8 {x y:Nat} (hx:x < 256) (hy:y < 256):x ^^^ y < 256:=Nat.xor_lt_two_pow (n:=8) hx hy
theorem xor_div (x y k:Nat):(x ^^^ y) / 2 ^ k=(x / 2 ^ k) ^^^ (y / 2 ^ k):=by
 rw [← Nat.shiftRight_eq_div_pow,← Nat.shiftRight_eq_div_pow,← Nat.shiftRight_eq_div_pow,Nat.shiftRight_xor_distrib]
theorem xor_dbl (x y:Nat):2*(x ^^^ y)=(2*x) ^^^ (2*y):=by
 have h:=Nat.shiftLeft_xor_distrib (a:=x) (b:=y) (i:=1)
 simp only [Nat.shiftLeft_eq,Nat.pow_one] at h
 rw [Nat.mul_comm 2,Nat.mul_comm 2,Nat.mul_comm 2]
 exact h
theorem xor_top {x y:Nat} (hx:256≤x) (hx':x < 512) (hy:256≤y) (hy':y < 512):x ^^^ y < 256:=by
 have h:=xor_div x y 8
 rw [show x / 2 ^ 8=1 by omega,show y / 2 ^ 8=1 by omega,Nat.xor_self] at h
 omega
theorem xor_lo {x y:Nat} (hx:x < 256) (hy:256≤y) (hy':y < 512):256≤x ^^^ y:=by
 have h:=xor_div x y 8
 rw [show x / 2 ^ 8=0 by omega,show y / 2 ^ 8=1 by omega,Nat.zero_xor] at h
 omega
theorem xt_lt {m x:Nat} (hm:IsRest m) (hx:x < 256):xt m x < 256:=by
 unfold xt
 split
 ·exact xor_top (by omega) (by omega) hm.lo hm.hi
 ·omega
theorem xor_shuffle (a b c d:Nat):(a ^^^ b) ^^^ (c ^^^ d)=(a ^^^ c) ^^^ (b ^^^ d):=by
 ac_rfl
theorem xt_xor {m x y:Nat} (hx:x < 256) (hy:y < 256):xt m (x ^^^ y)=xt m x ^^^ xt m y:=by
 unfold xt
 rw [xor_dbl]
 by_cases h1:256≤2*x
 ·by_cases h2:256≤2*y
  ·have:=xor_top h1 (by omega) h2 (by omega)
   rw [if_pos h1,if_pos h2,if_neg (by omega),xor_shuffle,Nat.xor_self,Nat.xor_zero]
  ·have:=xor_lo (x:=2*y) (by omega) h1 (by omega)
   rw [Nat.xor_comm] at this
   rw [if_pos h1,if_neg h2,if_pos this]
   ac_rfl
 ·by_cases h2:256≤2*y
  ·have:=xor_lo (x:=2*x) (by omega) h2 (by omega)
   rw [if_neg h1,if_pos h2,if_pos this]
   ac_rfl
  ·have:=xor_lt8 (x:=2*x) (y:=2*y) (by omega) (by omega)
   rw [if_neg h1,if_neg h2,if_neg (by omega)]
theorem xtk_lt {m x:Nat} (hm:IsRest m) (hx:x < 256):∀ k,xtk m k x < 256
 | 0=>hx
 | k+1=>xt_lt hm (xtk_lt hm hx k)
theorem xtk_xor {m x y:Nat} (hm:IsRest m) (hx:x < 256) (hy:y < 256):∀ k,xtk m k (x ^^^ y)=xtk m k x ^^^ xtk m k y
 | 0=>rfl
 | k+1=>by rw [xtk,xtk,xtk,xtk_xor hm hx hy k,xt_xor (xtk_lt hm hx k) (xtk_lt hm hy k)]
theorem xtk_add (m x j:Nat):∀ k,xtk m (j+k) x=xtk m k (xtk m j x)
 | 0=>rfl
 | k+1=>by rw [← Nat.add_assoc,xtk,xtk_add m x j k];rfl
theorem gmk_lt {m a:Nat} (hm:IsRest m) (ha:a < 256) (b:Nat):∀ k,gmk m a b k < 256
 | 0=>by simp [gmk]
 | k+1=>by
   rw [gmk]
   split
   ·exact xor_lt8 (gmk_lt hm ha b k) (xtk_lt hm ha k)
   ·exact gmk_lt hm ha b k
theorem gm_lt {m a:Nat} (hm:IsRest m) (ha:a < 256) (b:Nat):gm m a b < 256:=gmk_lt hm ha b 8
theorem gmk_xor_left {m x y:Nat} (hm:IsRest m) (hx:x < 256) (hy:y < 256) (b:Nat):∀ k,gmk m (x ^^^ y) b k=gmk m x b k ^^^ gmk m y b k
 | 0=>by simp [gmk]
 | k+1=>by
   rw [gmk,gmk,gmk,gmk_xor_left hm hx hy b k]
   split
   ·rw [xtk_xor hm hx hy,xor_shuffle]
   ·rfl
theorem gm_xor_left {m x y:Nat} (hm:IsRest m) (hx:x < 256) (hy:y < 256) (b:Nat):gm m (x ^^^ y) b=gm m x b ^^^ gm m y b:=gmk_xor_left hm hx hy b 8
theorem bit_xor (b c k:Nat):(b ^^^ c) / 2 ^ k % 2=(b / 2 ^ k % 2+c / 2 ^ k % 2) % 2:=by
 rw [xor_div,← Go.nat_mask1,Nat.and_xor_distrib_right,Go.nat_mask1,Go.nat_mask1]
 have h1:=Nat.mod_lt (b / 2 ^ k) (show 0 < 2 by omega)
 have h2:=Nat.mod_lt (c / 2 ^ k) (show 0 < 2 by omega)
 generalize b / 2 ^ k % 2=u at *
 generalize c / 2 ^ k % 2=v at *
 match u,v,h1,h2 with
 | 0,0,_,_=>rfl
 | 0,1,_,_=>rfl
 | 1,0,_,_=>rfl
 | 1,1,_,_=>rfl
theorem gmk_xor_right (m a b c:Nat):∀ k,gmk m a (b ^^^ c) k=gmk m a b k ^^^ gmk m a c k
 | 0=>by simp [gmk]
 | k+1=>by
   rw [gmk,gmk,gmk,gmk_xor_right m a b c k,bit_xor]
   have h1:=Nat.mod_lt (b / 2 ^ k) (show 0 < 2 by omega)
   have h2:=Nat.mod_lt (c / 2 ^ k) (show 0 < 2 by omega)
   by_cases hb:b / 2 ^ k % 2=1
   ·by_cases hc:c / 2 ^ k % 2=1
    ·rw [if_pos hb,if_pos hc,if_neg (by omega),xor_shuffle,Nat.xor_self,Nat.xor_zero]
    ·rw [if_pos hb,if_neg hc,if_pos (by omega)];ac_rfl
   ·by_cases hc:c / 2 ^ k % 2=1
    ·rw [if_neg hb,if_pos hc,if_pos (by omega)];ac_rfl
    ·rw [if_neg hb,if_neg hc,if_neg (by omega)]
theorem gm_xor_right (m a b c:Nat):gm m a (b ^^^ c)=gm m a b ^^^ gm m a c:=gmk_xor_right m a b c 8
theorem gm_pow2 (m a k:Nat) (hk:k < 8):gm m a (2 ^ k)=xtk m k a:=by
 unfold gm
 match k,hk with
 | 0,_ | 1,_ | 2,_ | 3,_ | 4,_ | 5,_ | 6,_ | 7,_=>simp [gmk]
theorem byte_bits:∀ b < 256,b=(if b / 2 ^ 0 % 2=1 then 1 else 0) ^^^ (if b / 2 ^ 1 % 2=1 then 2 else 0) ^^^ (if b / 2 ^ 2 % 2=1 then 4 else 0) ^^^ (if b / 2 ^ 3 % 2=1 then 8 else 0) ^^^
  (if b / 2 ^ 4 % 2=1 then 16 else 0) ^^^ (if b / 2 ^ 5 % 2=1 then 32 else 0) ^^^ (if b / 2 ^ 6 % 2=1 then 64 else 0) ^^^ (if b / 2 ^ 7 % 2=1 then 128 else 0):=by decide +kernel
theorem lin_ext (f g:Nat→Nat) (hf:∀ x y,x < 256→y < 256→f (x ^^^ y)=f x ^^^ f y) (hg:∀ x y,x < 256→y < 256→g (x ^^^ y)=g x ^^^ g y)
  (h:∀ k,k < 8→f (2 ^ k)=g (2 ^ k)) (b:Nat) (hb:b < 256):f b=g b:=by
 have f0:f 0=0:=by have:=hf 0 0 (by omega) (by omega);rw [Nat.xor_self,Nat.xor_self] at this;exact this
 have g0:g 0=0:=by have:=hg 0 0 (by omega) (by omega);rw [Nat.xor_self,Nat.xor_self] at this;exact this
 have key:∀ (p:Prop) [Decidable p] (k:Nat),k < 8→f (if p then 2 ^ k else 0)=g (if p then 2 ^ k else 0):=by
  intro p _ k hk
  split
  ·exact h k hk
  ·rw [f0,g0]
 have lt:∀ (p:Prop) [Decidable p] (k:Nat),k < 8→(if p then 2 ^ k else 0) < 256:=by
  intro p _ k hk
  split
  ·exact Nat.lt_of_lt_of_le (Nat.pow_lt_pow_right (by omega) hk) (by omega:2 ^ 8≤256)
  ·omega
 have step:∀ x y,x < 256→y < 256→f x=g x→f y=g y→f (x ^^^ y)=g (x ^^^ y):=by
  intro x y hx hy h1 h2
  rw [hf x y hx hy,hg x y hx hy,h1,h2]
 rw [byte_bits b hb]
 have l0:=lt (b / 2 ^ 0 % 2=1) 0 (by omega);have e0:=key (b / 2 ^ 0 % 2=1) 0 (by omega)
 have l1:=lt (b / 2 ^ 1 % 2=1) 1 (by omega);have e1:=key (b / 2 ^ 1 % 2=1) 1 (by omega)
 have l2:=lt (b / 2 ^ 2 % 2=1) 2 (by omega);have e2:=key (b / 2 ^ 2 % 2=1) 2 (by omega)
 have l3:=lt (b / 2 ^ 3 % 2=1) 3 (by omega);have e3:=key (b / 2 ^ 3 % 2=1) 3 (by omega)
 have l4:=lt (b / 2 ^ 4 % 2=1) 4 (by omega);have e4:=key (b / 2 ^ 4 % 2=1) 4 (by omega)
 have l5:=lt (b / 2 ^ 5 % 2=1) 5 (by omega);have e5:=key (b / 2 ^ 5 % 2=1) 5 (by omega)
 have l6:=lt (b / 2 ^ 6 % 2=1) 6 (by omega);have e6:=key (b / 2 ^ 6 % 2=1) 6 (by omega)
 have l7:=lt (b / 2 ^ 7 % 2=1) 7 (by omega);have e7:=key (b / 2 ^ 7 % 2=1) 7 (by omega)
 have a1:=step _ _ l0 l1 e0 e1;have m1:=xor_lt8 l0 l1
 have a2:=step _ _ m1 l2 a1 e2;have m2:=xor_lt8 m1 l2
 have a3:=step _ _ m2 l3 a2 e3;have m3:=xor_lt8 m2 l3
 have a4:=step _ _ m3 l4 a3 e4;have m4:=xor_lt8 m3 l4
 have a5:=step _ _ m4 l5 a4 e5;have m5:=xor_lt8 m4 l5
 have a6:=step _ _ m5 l6 a5 e6;have m6:=xor_lt8 m5 l6
 exact step _ _ m6 l7 a6 e7
theorem xtk_one (m k:Nat) (hk:k < 8):xtk m k 1=2 ^ k:=by
 match k,hk with
 | 0,_ | 1,_ | 2,_ | 3,_ | 4,_ | 5,_ | 6,_ | 7,_=>simp [xtk,xt]
theorem gm_comm {m:Nat} (hm:IsRest m) {a b:Nat} (ha:a < 256) (hb:b < 256):gm m a b=gm m b a:=by
 refine lin_ext (fun b=>gm m a b) (fun b=>gm m b a) (fun x y _ _=>gm_xor_right m a x y) (fun x y hx hy=>gm_xor_left hm hx hy a) (fun k hk=>?_) b hb
 show gm m a (2 ^ k)=gm m (2 ^ k) a
 refine lin_ext (fun a=>gm m a (2 ^ k)) (fun a=>gm m (2 ^ k) a) (fun x y hx hy=>gm_xor_left hm hx hy _) (fun x y _ _=>gm_xor_right m _ x y) (fun j hj=>?_) a ha
 show gm m (2 ^ j) (2 ^ k)=gm m (2 ^ k) (2 ^ j)
 rw [gm_pow2 _ _ _ hk,gm_pow2 _ _ _ hj,← xtk_one m j hj,← xtk_one m k hk,← xtk_add,← xtk_add,Nat.add_comm]
end Go.Proofs.YtbgkmicelmenfaaGreatDoor.T
namespace Go.Proofs.YtbgkmicelmenfaaGreatDoor.T
open Go.RowKit
set_option maxRecDepth 100000
theorem i64_xor_nat (a b:Nat) (ha:a < 1024) (hb:b < 1024):bits .xor .i64 (a:Int) (b:Int)=((a ^^^ b:Nat):Int):=by
 have e0:bits .xor .i64 (a:Int) (b:Int)=IntKind.i64.wrap ((BitVec.ofInt 64 (a:Int) ^^^ BitVec.ofInt 64 (b:Int)).toNat:Int):=rfl
 have h:a ^^^ b < 2 ^ 10:=Nat.xor_lt_two_pow ha hb
 have e:(BitVec.ofInt 64 (a:Int) ^^^ BitVec.ofInt 64 (b:Int)).toNat=a ^^^ b:=by
  rw [BitVec.toNat_xor,BitVec.toNat_ofInt,BitVec.toNat_ofInt]
  have h1:((a:Int) % ((2 ^ 64:Nat):Int)).toNat=a:=by omega
  have h2:((b:Int) % ((2 ^ 64:Nat):Int)).toNat=b:=by omega
  rw [h1,h2]
 rw [e0,e]
 simp [IntKind.wrap,IntKind.bits,IntKind.signed]
 omega
theorem u8_and_one (q:Nat) (h:q < 256):bits .and .u8 (q:Int) 1=((q % 2:Nat):Int):=by
 rw [show (1:Int)=((1:Nat):Int) from rfl,u8_and_nat _ _ h (by omega),nat_mask1]
theorem gmk_stop {m a b k:Nat} (h:b / 2 ^ k=0):∀ j,gmk m a b (k+j)=gmk m a b k
 | 0=>rfl
 | j+1=>by
   rw [← Nat.add_assoc,gmk,if_neg,gmk_stop h j]
   rw [Nat.pow_add,← Nat.div_div_eq_div_mul,h]
   simp
theorem gm_stop {m a b k:Nat} (hk:k≤8) (h:b / 2 ^ k=0):gm m a b=gmk m a b k:=by
 have:=gmk_stop (m:=m) (a:=a) h (8 - k)
 rw [show k+(8 - k)=8 by omega] at this
 exact this
theorem isMod_any (m:Int) (w:World) (h0:256≤m) (h1:m≤511):Calls Tryz.prog 205 #[.int .i64 m] w fun e w'=>e=.returned (.bool true)∧w=w':=by
 go_enter Tryz.func205,Tryz.ntmps205
 go_wp2
 go_ret
 exact ⟨rfl,rfl⟩
structure MulS (m a b k:Nat) (s x q:Int):Prop where
 hk:k < 8
 hs:s=(gmk m a b k:Nat)
 hx:x=(xtk m k a:Nat)
 hq:q=(b / 2 ^ k:Nat)
theorem MulS.bnd {m a b k:Nat} {s x q:Int} (h:MulS m a b k s x q) (_hm:IsRest m) (_ha:a < 256) (_hb:b < 256):0≤s∧s < 256∧0≤x∧x < 256∧0≤q∧q < 256:=by
 have h1:=gmk_lt _hm _ha b k
 have h2:=xtk_lt _hm _ha k
 have h3:b / 2 ^ k < 256:=Nat.lt_of_le_of_lt (Nat.div_le_self _ _) _hb
 have e1:=h.hs;have e2:=h.hx;have e3:=h.hq
 generalize gmk m a b k=S at *
 generalize xtk m k a=X at *
 generalize b / 2 ^ k=Q at *
 omega
theorem MulS.and1 {m a b k:Nat} {s x q:Int} (h:MulS m a b k s x q) (_hm:IsRest m) (_ha:a < 256) (_hb:b < 256):bits .and .u8 q 1=((b / 2 ^ k % 2:Nat):Int):=by
 rw [h.hq]
 exact u8_and_one _ (Nat.lt_of_le_of_lt (Nat.div_le_self _ _) _hb)
theorem MulS.odd {m a b k:Nat} {s x q:Int} (h:MulS m a b k s x q) (_hm:IsRest m) (_ha:a < 256) (_hb:b < 256) (c:(bits .and .u8 q 1 != 0)=true):bits .xor .i64 s x=(gmk m a b (k+1):Nat):=by
 rw [h.and1 _hm _ha _hb] at c
 have c:b / 2 ^ k % 2=1:=by
  have:b / 2 ^ k % 2 ≠ 0:=by intro h0;rw [h0] at c;simp at c
  omega
 rw [gmk,if_pos c,h.hs,h.hx]
 have:=gmk_lt _hm _ha b k
 have:=xtk_lt _hm _ha k
 exact i64_xor_nat _ _ (by omega) (by omega)
theorem MulS.even {m a b k:Nat} {s x q:Int} (h:MulS m a b k s x q) (_hm:IsRest m) (_ha:a < 256) (_hb:b < 256) (c:(bits .and .u8 q 1 != 0)=false):s=(gmk m a b (k+1):Nat):=by
 rw [h.and1 _hm _ha _hb] at c
 have c:¬ b / 2 ^ k % 2=1:=by
  intro h0;rw [h0] at c;simp at c
 rw [gmk,if_neg c,h.hs]
theorem MulS.over {m a b k:Nat} {s x q:Int} (h:MulS m a b k s x q) (_hm:IsRest m) (_ha:a < 256) (_hb:b < 256) (c:255 < x*2):bits .xor .i64 (x*2) m=(xtk m (k+1) a:Nat):=by
 have:=xtk_lt _hm _ha k
 have hm1:=_hm.hi
 rw [h.hx] at c ⊢
 rw [xtk,xt,if_pos (by omega),show (xtk m k a:Int)*2=((2*xtk m k a:Nat):Int) by omega]
 exact i64_xor_nat _ _ (by omega) (by omega)
theorem MulS.under {m a b k:Nat} {s x q:Int} (h:MulS m a b k s x q) (_hm:IsRest m) (_ha:a < 256) (_hb:b < 256) (c:x*2≤255):x*2=(xtk m (k+1) a:Nat):=by
 rw [h.hx] at c ⊢
 rw [xtk,xt,if_neg (by omega)]
 omega
theorem MulS.half {m a b k:Nat} {s x q:Int} (h:MulS m a b k s x q) (_hm:IsRest m) (_ha:a < 256) (_hb:b < 256):q / 2=(b / 2 ^ (k+1):Nat):=by
 rw [h.hq,Nat.pow_succ,← Nat.div_div_eq_div_mul]
 omega
theorem MulS.more {m a b k:Nat} {s x q:Int} (h:MulS m a b k s x q) (_hm:IsRest m) (_ha:a < 256) (_hb:b < 256) (c:(q / 2 != 0)=true):k+1 < 8:=by
 have hk:=h.hk
 rw [h.half _hm _ha _hb] at c
 rcases Nat.lt_or_ge (k+1) 8 with h8 | h8
 ·exact h8
 ·have:b / 2 ^ (k+1)=0:=by rw [show k+1=8 by omega];omega
  rw [this] at c;simp at c
theorem MulS.stop {m a b k:Nat} {s x q:Int} (h:MulS m a b k s x q) (_hm:IsRest m) (_ha:a < 256) (_hb:b < 256) (c:(q / 2 != 0)=false):gmk m a b (k+1)=gm m a b:=by
 have hk:=h.hk
 rw [h.half _hm _ha _hb] at c
 refine (gm_stop (by omega) ?_).symm
 simp only [bne_eq_false_iff_eq] at c
 exact_mod_cast c
theorem MulS.less {m a b k:Nat} {s x q:Int} (h:MulS m a b k s x q) (_hm:IsRest m) (_ha:a < 256) (_hb:b < 256) (c:(q / 2 != 0)=true):(q / 2).toNat < q.toNat:=by
 have:=h.bnd _hm _ha _hb
 have:q / 2 ≠ 0:=by simpa using c
 omega
theorem MulS.fin1 {m a b k:Nat} {s x q:Int} (h:MulS m a b k s x q) (_hm:IsRest m) (_ha:a < 256) (_hb:b < 256) (c:(bits .and .u8 q 1 != 0)=true) (c':(q / 2 != 0)=false):bits .xor .i64 s x % 256=(gm m a b:Nat):=by
 rw [h.odd _hm _ha _hb c,h.stop _hm _ha _hb c']
 have:=gm_lt _hm _ha b
 omega
theorem MulS.fin2 {m a b k:Nat} {s x q:Int} (h:MulS m a b k s x q) (_hm:IsRest m) (_ha:a < 256) (_hb:b < 256) (c:(bits .and .u8 q 1 != 0)=false) (c':(q / 2 != 0)=false):s % 256=(gm m a b:Nat):=by
 rw [h.even _hm _ha _hb c,h.stop _hm _ha _hb c']
 have:=gm_lt _hm _ha b
 omega
theorem MulS.odd1 {m a b k:Nat} {s x:Int} (h:MulS m a b k s x (b / 2 ^ k:Nat)) (hm:IsRest m) (ha:a < 256) (hb:b < 256) (c:(bits .and .u8 ((b:Int) / 2 ^ k) 1 == 1)=true):bits .xor .i64 s x=(gmk m a b (k+1):Nat):=by
 refine h.odd hm ha hb ?_
 have e:((b / 2 ^ k:Nat):Int)=(b:Int) / 2 ^ k:=by simp
 rw [e]
 have:bits .and .u8 ((b:Int) / 2 ^ k) 1=1:=by simpa using c
 rw [this];rfl
theorem MulS.even1 {m a b k:Nat} {s x:Int} (h:MulS m a b k s x (b / 2 ^ k:Nat)) (hm:IsRest m) (ha:a < 256) (hb:b < 256) (c:(bits .and .u8 ((b:Int) / 2 ^ k) 1 == 1)=false):s=(gmk m a b (k+1):Nat):=by
 refine h.even hm ha hb ?_
 have h1:=h.and1 hm ha hb
 have e:((b / 2 ^ k:Nat):Int)=(b:Int) / 2 ^ k:=by simp
 rw [e] at h1 ⊢
 rw [h1] at c ⊢
 have h2:=Nat.mod_lt (b / 2 ^ k) (show 0 < 2 by omega)
 generalize b / 2 ^ k % 2=g at *
 match g,h2 with
 | 0,_=>rfl
 | 1,_=>simp at c
def MulJ (m a b:Nat) (w:World) (a':Act) (w':World):Prop :=
 w=w'∧∃ (k:Nat) (s x q:Int) (u14 u15 u16 u17 u18 u19 u20 u21 u22 u23 u24 u25 u26 u27 u28 u29 u30:Value),
  a' = { tmps:=#[.int .u8 a,.int .u8 q,.int .i64 m,undef,undef,undef,.int .u8 0,.int .i64 s,.int .i64 x,.int .i64 m,.bool true,.bool false,.int .u8 a,.int .i64 a,
   u14,u15,u16,u17,u18,u19,u20,u21,u22,u23,u24,u25,u26,u27,u28,u29,u30,undef,undef],defers:=[] }∧MulS m a b k s x q
def qOf (a:Act):Nat:=match a.tmps.getD 1 undef with | .int _ q=>q.toNat | _=>0
set_option maxHeartbeats 4000000 in
theorem mul_any (a b m:Nat) (w:World) (hm:IsRest m) (ha:a < 256) (hb:b < 256) :
  Calls Tryz.prog 202 #[.int .u8 a,.int .u8 b,.int .i64 m] w fun e w'=>e=.returned (.int .u8 (gm m a b:Nat))∧w=w':=by
 have h0:=hm.lo
 have h1:=hm.hi
 go_enter Tryz.func202,Tryz.ntmps202
 go_wp2_with fail
 refine wp_scope_jumps 0 (MulJ m a b w) (fun a' _=>qOf a') rfl ?_ ?_
 ·have HS:=hid (show MulS m a b 0 0 a b from ⟨by omega,rfl,rfl,by simp⟩)
  have HM:=hid hm
  clear hm
  go_wp2_with (go_at_call 205;refine (isMod_any _ _ (by omega) (by omega)).mono ?_;rintro e w' ⟨rfl,rfl⟩)
  go_step3
  go_wp2
  all_goals (try go_step3)
  all_goals first
   | (refine ⟨rfl,rfl,_,_,_,_,_,_,_,_,_,_,_,_,_,_,_,_,_,_,_,_,_,rfl,⟨HS.out.more HM.out ha hb (by assumption),(by first | exact HS.out.odd HM.out ha hb (by assumption) | exact HS.out.even HM.out ha hb (by assumption)),(by first | exact HS.out.over HM.out ha hb (by assumption) | exact HS.out.under HM.out ha hb (by assumption)),HS.out.half HM.out ha hb⟩⟩)
   | (simp only [Exit.jump]
      go_ret
      refine ⟨ret_int ?_,rfl⟩
      first
       | exact HS.out.fin1 HM.out ha hb (by assumption) (by assumption)
       | exact HS.out.fin2 HM.out ha hb (by assumption) (by assumption)
       | exact (HS.out.even HM.out ha hb (by assumption)).trans (by rw [HS.out.stop HM.out ha hb (by assumption)]))
 ·rintro a' w' ⟨rfl,k,s,x,q,u14,u15,u16,u17,u18,u19,u20,u21,u22,u23,u24,u25,u26,u27,u28,u29,u30,rfl,hS⟩
  have hB:=hS.bnd hm ha hb
  obtain ⟨hb0,hb1,hb2,hb3,hb4,hb5⟩:=hB
  have HS:=hid hS
  have HM:=hid hm
  clear hS hm
  go_wp2
  all_goals (try go_step3)
  all_goals first
   | (refine ⟨rfl,⟨rfl,_,_,_,_,_,_,_,_,_,_,_,_,_,_,_,_,_,_,_,_,_,rfl,⟨HS.out.more HM.out ha hb (by assumption),(by first | exact HS.out.odd HM.out ha hb (by assumption) | exact HS.out.even HM.out ha hb (by assumption)),(by first | exact HS.out.over HM.out ha hb (by assumption) | exact HS.out.under HM.out ha hb (by assumption)),HS.out.half HM.out ha hb⟩⟩,HS.out.less HM.out ha hb (by assumption)⟩)
   | (simp only [Exit.jump]
      go_ret
      refine ⟨ret_int ?_,rfl⟩
      first
       | exact HS.out.fin1 HM.out ha hb (by assumption) (by assumption)
       | exact HS.out.fin2 HM.out ha hb (by assumption) (by assumption)
       | exact (HS.out.even HM.out ha hb (by assumption)).trans (by rw [HS.out.stop HM.out ha hb (by assumption)]))
set_option maxHeartbeats 2000000 in
theorem rmul_any (a b m:Nat) (w:World) (hm:IsRest m) (ha:a < 256) (hb:b < 256) :
  Calls Tryz.prog 179 #[.int .u8 a,.int .u8 b,.int .i64 m] w fun e w'=>e=.returned (.int .u8 (gm m a b:Nat))∧w=w':=by
 have h0:=hm.lo
 have h1:=hm.hi
 go_enter Tryz.func179,Tryz.ntmps179
 go_wp2_with fail
 go_loop [7,8,9] (fun s x i=>∃ (k:Nat) (S X:Int),k≤8∧i=.int .u64 k∧s=.int .i64 S∧x=.int .i64 X∧S=(gmk m a b k:Nat)∧X=(xtk m k a:Nat)) (fun _ _ i=>(8 - intOf i).toNat)
 case atStart=>exact ⟨0,_,_,by omega,rfl,rfl,rfl,rfl,rfl⟩
 case round =>
  obtain ⟨k,S,X,hk,rfl,rfl,rfl,hS,hX⟩:=hrel
  by_cases hlt:k < 8
  ·have hS':MulS m a b k S X (b / 2 ^ k:Nat):=⟨hlt,hS,hX,rfl⟩
   obtain ⟨hb0,hb1,hb2,hb3,hb4,hb5⟩:=hS'.bnd hm ha hb
   have h1':=hid (hS'.and1 hm ha hb)
   have HS:=hid hS'
   have HM:=hid hm
   clear hS hX hS' hm hb4 hb5
   go_wp2
   all_goals refine ⟨⟨k+1,_,_,by omega,by go_num,rfl,rfl,(by first | exact HS.out.odd1 HM.out ha hb (by assumption) | exact HS.out.even1 HM.out ha hb (by assumption)),(by first | exact HS.out.over HM.out ha hb (by omega) | exact HS.out.under HM.out ha hb (by omega))⟩,by simp [intOf];omega⟩
  ·obtain rfl:k=8:=by omega
   have HF:=hid (show S=(gm m a b:Nat) from hS)
   have hl:=gm_lt hm ha b
   have hX2:=xtk_lt hm ha 8
   have hS0:0≤S∧S < 256:=by
    have:=HF.out
    generalize gm m a b=G at *
    omega
   clear hS hX hm hl hX2
   go_wp2
   go_ret
   exact ⟨ret_int (by rw [HF.out]),rfl⟩
end Go.Proofs.YtbgkmicelmenfaaGreatDoor.T
namespace Go.Proofs.YtbgkmicelmenfaaGreatDoor.T
open Go.RowKit
set_option maxRecDepth 100000
theorem toNat_ofNat_lt {n:Nat} (h:n < 4294967296):(UInt32.ofNat n).toNat=n:=by rw [UInt32.toNat_ofNat'];omega
theorem wlt (x:UInt32):x.toNat < 4294967296:=x.toNat_lt
def rolW (x:UInt32) (s:Nat):UInt32:=UInt32.ofNat (rolN 32 x.toNat s)
theorem rolW_toNat (x:UInt32) (s:Nat):(rolW x s).toNat=rolN 32 x.toNat s:=toNat_ofNat_lt (rolN_lt 32 _ _ (wlt x))
theorem rol32_w (x:UInt32) (s:Nat) (h:s < 32):rol32 (x.toNat:Int) s=((rolW x s).toNat:Int):=by rw [rol32_nat _ _ (wlt x) h,rolW_toNat]
def rolI (x:UInt32) (n:Int):UInt32:=rolW x (n % 32).toNat
theorem w_xor (a b:UInt32):bits .xor .u32 (a.toNat:Int) (b.toNat:Int)=((a ^^^ b).toNat:Int):=by
 rw [u32_xor_nat _ _ (wlt a) (wlt b),UInt32.toNat_xor]
theorem w_add (a b:UInt32):((a.toNat:Int)+(b.toNat:Int)) % 4294967296=((a+b).toNat:Int):=by
 rw [UInt32.toNat_add];omega
theorem rol_w (x:UInt32) (n:Int) (w:World) :
  Calls Tryz.prog 111 #[.int .u32 (x.toNat:Nat),.int .i64 n] w fun e w'=>e=.returned (.int .u32 ((rolI x n).toNat:Nat))∧w=w':=by
 refine (rol_any _ _ _).mono ?_
 rintro e w' ⟨rfl,rfl⟩
 exact ⟨ret_int (rol32_w _ _ (by omega)),rfl⟩
theorem rrol_w (x:UInt32) (n:Int) (w:World) :
  Calls Tryz.prog 134 #[.int .u32 (x.toNat:Nat),.int .i64 n] w fun e w'=>e=.returned (.int .u32 ((rolI x n).toNat:Nat))∧w=w':=by
 refine (rrl32 _ _ _).mono ?_
 rintro e w' ⟨rfl,rfl⟩
 exact ⟨ret_int (rol32_w _ _ (by omega)),rfl⟩
def rowsN:List (List Nat):=[[0x817D6F320B59ECA4,0xECB81235F4A6709D,0xBA5E6D90C8F32471,0xD7F4126E9B3085CA],[0x28BDF76E31940AC5,0x1E2B4C376DA5F908,0x4C75169A0ED82B3F,0xB951C3DE647F208A]]
def rowQ (q i:Nat):Nat:=(rowsN.getD q []).getD i 0
theorem rowQ_lt:∀ q,q < 2→∀ i,i < 4→rowQ q i < 18446744073709551616:=by decide +kernel
def nibQ (q i f:Nat):Nat:=rowQ q i / 2 ^ (60 - 4*f) % 16
theorem nibQ_lt (q i f:Nat):nibQ q i f < 16:=Nat.mod_lt _ (by omega)
def eQ (a c:Nat):Nat:=a ^^^ c
def fQ (a c:Nat):Nat:=a ^^^ ((c / 2 ||| c*8) % 16) ^^^ (a*8 % 16)
theorem eQ_lt {a c:Nat} (ha:a < 16) (hc:c < 16):eQ a c < 16:=Nat.xor_lt_two_pow (n:=4) ha hc
theorem fQ_lt {a c:Nat} (ha:a < 16) (_hc:c < 16):fQ a c < 16 :=
 Nat.xor_lt_two_pow (n:=4) (Nat.xor_lt_two_pow (n:=4) ha (Nat.mod_lt _ (by omega))) (Nat.mod_lt _ (by omega))
def qAC (q x:Nat):Nat→Nat×Nat
 | 0=>(x / 16,x % 16)
 | k+1=>(nibQ q (2*k) (eQ (qAC q x k).1 (qAC q x k).2),nibQ q (2*k+1) (fQ (qAC q x k).1 (qAC q x k).2))
theorem qAC_lt {q x:Nat} (hx:x < 256):∀ k,(qAC q x k).1 < 16∧(qAC q x k).2 < 16
 | 0=>⟨by simp [qAC];omega,by simp [qAC];omega⟩
 | k+1=>⟨nibQ_lt _ _ _,nibQ_lt _ _ _⟩
def qF (q x:Nat):Nat:=(qAC q x 2).2*16+(qAC q x 2).1
theorem qF_lt (q x:Nat):qF q x < 256:=by
 have h1:(qAC q x 2).1 < 16:=nibQ_lt _ _ _
 have h2:(qAC q x 2).2 < 16:=nibQ_lt _ _ _
 unfold qF;omega
def wdN (f:Nat→Nat):Nat→Nat
 | 0=>0
 | i+1=>wdN f i+f i*256 ^ i
theorem wdN_lt {f:Nat→Nat} (hf:∀ i,f i < 256):∀ n,wdN f n < 256 ^ n
 | 0=>by simp [wdN]
 | n+1=>by
   have h1:=wdN_lt hf n
   have h2:=hf n
   have h3:f n*256 ^ n≤255*256 ^ n:=Nat.mul_le_mul_right _ (by omega)
   rw [wdN,Nat.pow_succ]
   omega
theorem wdN_byte {f:Nat→Nat} (hf:∀ i,f i < 256):∀ n j,j < n→wdN f n / 256 ^ j % 256=f j
 | 0,j,h=>by omega
 | n+1,j,h=>by
   have h1:=wdN_lt hf n
   rw [wdN]
   rcases Nat.lt_or_ge j n with hj | hj
   ·have ih:=wdN_byte hf n j hj
    have e:f n*256 ^ n=256 ^ j*(256*(f n*256 ^ (n - j - 1))):=by
     have:256 ^ n=256 ^ j*(256*256 ^ (n - j - 1)):=by
      rw [← Nat.pow_succ',← Nat.pow_add];congr 1;omega
     rw [this,← Nat.mul_assoc,Nat.mul_comm (f n) (256 ^ j),Nat.mul_assoc]
     congr 1
     rw [Nat.mul_left_comm]
    rw [e,Nat.add_mul_div_left _ _ (Nat.pow_pos (by omega)),Nat.add_mul_mod_self_left]
    exact ih
   ·obtain rfl:j=n:=by omega
    rw [Nat.add_mul_div_right _ _ (Nat.pow_pos (by omega)),Nat.div_eq_of_lt h1,Nat.zero_add,Nat.mod_eq_of_lt (hf _)]
theorem wdN_congr {f g:Nat→Nat}:∀ n,(∀ i,i < n→f i=g i)→wdN f n=wdN g n
 | 0,_=>rfl
 | n+1,h=>by rw [wdN,wdN,wdN_congr n fun i hi=>h i (by omega),h n (by omega)]
theorem wdN_or {f:Nat→Nat} (hf:∀ i,f i < 256) (n:Nat):wdN f n ||| f n*256 ^ n=wdN f (n+1):=by
 have h4:(256:Nat) ^ n=2 ^ (8*n):=by rw [Nat.pow_mul]
 have h1:=wdN_lt hf n
 rw [h4] at h1
 rw [wdN,h4,Nat.mul_comm,Nat.or_comm,Nat.add_comm]
 exact (Nat.two_pow_add_eq_or_of_lt h1 (f n)).symm
def wd4 (f:Nat→Nat):UInt32:=UInt32.ofNat (wdN f 4)
theorem wd4_toNat {f:Nat→Nat} (hf:∀ i,f i < 256):(wd4 f).toNat=wdN f 4:=toNat_ofNat_lt (wdN_lt hf 4)
def bw (x:UInt32) (i:Nat):Nat:=x.toNat / 2 ^ (8*i) % 256
theorem bw_lt (x:UInt32) (i:Nat):bw x i < 256:=Nat.mod_lt _ (by omega)
theorem bw_pow (x:UInt32) (i:Nat):bw x i=x.toNat / 256 ^ i % 256:=by unfold bw;rw [Nat.pow_mul]
theorem bw_wd4 {f:Nat→Nat} (hf:∀ i,f i < 256) (j:Nat) (hj:j < 4):bw (wd4 f) j=f j:=by
 rw [bw_pow,wd4_toNat hf,wdN_byte hf 4 j hj]
theorem bw_xor (x y:UInt32) (i:Nat):bw (x ^^^ y) i=bw x i ^^^ bw y i:=by
 unfold bw
 rw [UInt32.toNat_xor,Nat.xor_div_two_pow]
 exact Nat.xor_mod_two_pow (n:=8)
def ordsN:List (List Nat):=[[1,0,1,0],[0,0,1,1],[0,1,0,1],[1,1,0,0],[1,0,0,1]]
def ordN (left i:Nat):Nat:=(ordsN.getD left []).getD i 0
theorem ordN_lt:∀ left,left < 5→∀ i,i < 4→ordN left i < 2:=by decide
def replB (x:UInt32) (left i:Nat):Nat:=qF (ordN left i) (bw x i)
theorem replB_lt (x:UInt32) (left i:Nat):replB x left i < 256:=qF_lt _ _
def replW (x:UInt32) (left:Nat):UInt32:=wd4 (replB x left)
def sumG (m:Nat) (row b:Nat→Nat):Nat→Nat
 | 0=>0
 | j+1=>sumG m row b j ^^^ gm m (b j) (row j)
theorem sumG_lt {m:Nat} (hm:IsRest m) {row b:Nat→Nat} (hb:∀ j,b j < 256):∀ n,sumG m row b n < 256
 | 0=>by simp [sumG]
 | n+1=>xor_lt8 (sumG_lt hm hb n) (gm_lt hm (hb n) _)
theorem sumG_congr {m:Nat} {row b c:Nat→Nat}:∀ n,(∀ j,j < n→b j=c j)→sumG m row b n=sumG m row c n
 | 0,_=>rfl
 | n+1,h=>by rw [sumG,sumG,sumG_congr n fun j hj=>h j (by omega),h n (by omega)]
def mixsN:List (List Nat):=[[0x01,0xEF,0x5B,0x5B],[0x5B,0xEF,0xEF,0x01],[0xEF,0x5B,0x01,0xEF],[0xEF,0x01,0xEF,0x5B]]
def mixR (i j:Nat):Nat:=(mixsN.getD i []).getD j 0
theorem r361:IsRest 361:=⟨by omega,by omega⟩
theorem r333:IsRest 333:=⟨by omega,by omega⟩
def mixB (x:UInt32) (i:Nat):Nat:=sumG 361 (mixR i) (bw x) 4
theorem mixB_lt (x:UInt32) (i:Nat):mixB x i < 256:=sumG_lt r361 (bw_lt x) 4
def mixW (x:UInt32):UInt32:=wd4 (mixB x)
def shrsN:List (List Nat):=[[0x01,0xA4,0x55,0x87,0x5A,0x58,0xDB,0x9E],[0xA4,0x56,0x82,0xF3,0x1E,0xC6,0x68,0xE5],[0x02,0xA1,0xFC,0xC1,0x47,0xAE,0x3D,0x19],[0xA4,0x55,0x87,0x5A,0x58,0xDB,0x9E,0x03]]
def shrR (i j:Nat):Nat:=(shrsN.getD i []).getD j 0
def bl (m:List UInt8) (j:Nat):Nat:=(m.getD j 0).toNat
theorem bl_lt (m:List UInt8) (j:Nat):bl m j < 256:=(m.getD j 0).toNat_lt
def shrB (m:List UInt8) (i:Nat):Nat:=sumG 333 (shrR i) (bl m) 8
theorem shrB_lt (m:List UInt8) (i:Nat):shrB m i < 256:=sumG_lt r333 (bl_lt m) 8
def shrW (m:List UInt8):UInt32:=wd4 (shrB m)
def goDown {α β:Type} (f:Nat→α→α) (g:α→β):Nat→α→β
 | 0,x=>g x
 | n+1,x=>goDown f g n (f n x)
theorem goDown_zero {α β:Type} (f:Nat→α→α) (g:α→β) (x:α):goDown f g 0 x=g x:=rfl
theorem goDown_succ {α β:Type} (f:Nat→α→α) (g:α→β) (n:Nat) (x:α):goDown f g (n+1) x=goDown f g n (f n x):=rfl
def hStep (l:List UInt32) (n:Nat) (x:UInt32):UInt32:=replW x (n+1) ^^^ l.getD n 0
def hEnd (x:UInt32):UInt32:=mixW (replW x 0)
def hW (l:List UInt32) (n:Nat) (x:UInt32):UInt32:=goDown (hStep l) hEnd n x
theorem hW_zero (l:List UInt32) (x:UInt32):hW l 0 x=hEnd x:=by unfold hW;rw [goDown_zero]
theorem hW_succ (l:List UInt32) (n:Nat) (x:UInt32):hW l (n+1) x=hW l n (hStep l n x):=by unfold hW;rw [goDown_succ]
def HW (x:UInt32) (l:List UInt32):UInt32:=hW l l.length x
def wdL (m:List UInt8) (o:Nat):UInt32:=wd4 fun i=>bl m (o+i)
def evL (key:List UInt8):List UInt32:=(List.range (key.length / 8)).map fun i=>wdL key (8*i)
def odL (key:List UInt8):List UInt32:=(List.range (key.length / 8)).map fun i=>wdL key (8*i+4)
def sU (key:List UInt8):List UInt32:=(List.range (key.length / 8)).map fun i=>shrW ((key.drop (8*i)).take 8)
def sL (key:List UInt8):List UInt32:=(sU key).reverse
def kA (e:List UInt32) (n:Nat):UInt32:=HW (UInt32.ofNat (2*n)*0x01010101) e
def kB (o:List UInt32) (n:Nat):UInt32:=rolI (HW (UInt32.ofNat (2*n+1)*0x01010101) o) 8
def kL (e o:List UInt32):Nat→List UInt32
 | 0=>[]
 | n+1=>kL e o n++[kA e n+kB o n,rolI (kA e n+2*kB o n) 9]
theorem kL_length (e o:List UInt32):∀ n,(kL e o n).length=2*n
 | 0=>rfl
 | n+1=>by rw [kL,List.length_append,kL_length e o n];rfl
def keysL (key:List UInt8):List UInt32:=kL (evL key) (odL key) 20
structure W4 where
 a:UInt32
 b:UInt32
 c:UInt32
 d:UInt32
deriving DecidableEq
def W4.xor (r:W4) (k:List UInt32) (o:Nat):W4:=⟨r.a ^^^ k.getD o 0,r.b ^^^ k.getD (o+1) 0,r.c ^^^ k.getD (o+2) 0,r.d ^^^ k.getD (o+3) 0⟩
def outB (x:UInt32):List UInt8:=putL32 (x.toNat:Nat)
end Go.Proofs.YtbgkmicelmenfaaGreatDoor.T
namespace Go.Proofs.YtbgkmicelmenfaaGreatDoor.T
open Go.RowKit
set_option maxRecDepth 100000
theorem mixR_lt:∀ i,i < 4→∀ j,j < 4→mixR i j < 256:=by decide
end Go.Proofs.YtbgkmicelmenfaaGreatDoor.T
namespace Go.Proofs.YtbgkmicelmenfaaGreatDoor.T
open Go.RowKit
set_option maxRecDepth 100000
set_option maxHeartbeats 400000 in
theorem sign_any (R f:Nat) (w:World) (_hR:R < 18446744073709551616) (hf:f < 16) :
  Calls Tryz.prog 220 #[.int .u64 R,.int .u8 f] w fun e w'=>e=.returned (.int .u8 (R / 2 ^ (60 - 4*f) % 16:Nat))∧w=w':=by
 go_enter Tryz.func220,Tryz.ntmps220
 go_wp2
 go_ret
 refine ⟨ret_int ?_,rfl⟩
 have e:(R:Int) / 2 ^ (60 - 4*f)=((R / 2 ^ (60 - 4*f):Nat):Int):=by rw [cast_div]
 rw [e]
 omega
structure GT (w:World):Prop where
 rows:∀ q,q < 2→∀ i,i < 4→w.cell? ⟨12,q*4+i,none⟩=some (.int .u64 (rowQ q i:Nat))
 shrs:∀ j,j < 32→w.cell? ⟨4,j,none⟩=some (.int .u8 (shrR (j / 8) (j % 8):Nat))
 ords:∀ l,l < 5→∀ i,i < 4→w.cell? ⟨10,l*4+i,none⟩=some (.int .i64 (ordN l i:Nat))
 mixs:∀ j,j < 16→w.cell? ⟨11,j,none⟩=some (.int .u8 (mixR (j / 4) (j % 4):Nat))
theorem cell_at {w w':World} {p:Addr} {v:Value} (hx:Ext w w') (h:w.cell? p=some v):w'.cell? p=some v:=(Below.cell hx (World.block_lt_of_cell? w _ h)).trans h
theorem GT.later {w w':World} (h:GT w) (hx:Ext w w'):GT w' :=
 ⟨fun q hq i hi=>cell_at hx (h.rows q hq i hi),fun j hj=>cell_at hx (h.shrs j hj),fun l hl i hi=>cell_at hx (h.ords l hl i hi),fun j hj=>cell_at hx (h.mixs j hj)⟩
theorem quietSame {P:Program} {f:FuncId} {args:Array Value} {w:World} {n:Nat} {v:Value}
  (h:Calls P f args (w.drewN n) fun e w'=>e=.returned v∧w.drewN n=w'):Calls P f args (w.drewN n) fun e w''=>e=.returned v∧∃ m,w'' = w.drewN m :=
 h.mono fun _ _ ⟨he,hm⟩=>⟨he,n,hm.symm⟩
theorem drewN_add (w:World) (a b:Nat):(w.drewN a).drewN b=w.drewN (a+b):=by
 unfold World.drewN;simp [Nat.add_assoc]
theorem q_e:∀ a:Nat,a < 16→∀ c:Nat,c < 16→bits .xor .u8 (a:Int) (c:Int)=(eQ a c:Nat):=by
 intro a ha c hc
 rw [u8_xor_nat _ _ (by omega) (by omega)];rfl
theorem q_f:∀ a:Nat,a < 16→∀ c:Nat,c < 16→bits .xor .u8 (bits .xor .u8 (a:Int) (bits .and .u8 (bits .or .u8 ((c:Int) / 2) ((c:Int)*8)) 15)) ((a:Int)*8 % 16)=(fQ a c:Nat):=by
 decide +kernel
set_option maxHeartbeats 2000000 in
theorem q0_any (x:Nat) (w:World) (hx:x < 256) (hG:GT w) :
  Calls Tryz.prog 217 #[.int .i64 0,.int .u8 x] w fun e w'=>e=.returned (.int .u8 (qF 0 x:Nat))∧∃ n,w' = w.drewN n:=by
 have HG:=hid hG
 clear hG
 go_enter Tryz.func217,Tryz.ntmps217
 go_wp2_with fail
 go_loopw [5,6,7] (fun a c i wr=>∃ (k A C:Nat),k≤2∧i=.int .i64 (2*k:Nat)∧a=.int .u8 A∧c=.int .u8 C∧A=(qAC 0 x k).1∧C=(qAC 0 x k).2∧∃ n,wr=w.drewN n) (fun _ _ i _=>4 - (intOf i).toNat)
 case atStart=>exact ⟨0,x / 16,x % 16,by omega,rfl,by simp,by simp,rfl,rfl,0,rfl⟩
 case round =>
  obtain ⟨k,A,C,hk,rfl,rfl,rfl,hA,hC,n,hw⟩:=hrel
  have hl:=qAC_lt (q:=0) hx k
  rw [← hA,← hC] at hl
  obtain ⟨hA16,hC16⟩:=hl
  have HW:=hid hw
  have HG2:=hid (show GT wr by rw [hw];exact HG.out.later ((Ext.refl w).drewN n))
  rcases (show k=0∨k=1∨k=2 by omega) with h | h | h
  ·subst h
   have h1:wr.cell? ⟨12,0*4+0,none⟩=_:=HG2.out.rows 0 (by omega) 0 (by omega)
   have h2:wr.cell? ⟨12,0*4+1,none⟩=_:=HG2.out.rows 0 (by omega) 1 (by omega)
   have e1:=q_e A hA16 C hC16
   have e2:=q_f A hA16 C hC16
   have l1:=eQ_lt hA16 hC16
   have l2:=fQ_lt hA16 hC16
   have R1:=rowQ_lt 0 (by omega) 0 (by omega)
   have R2:=rowQ_lt 0 (by omega) 1 (by omega)
   have HST:=hid (show qAC 0 x 1=(rowQ 0 0 / 2 ^ (60 - 4*eQ A C) % 16,rowQ 0 1 / 2 ^ (60 - 4*fQ A C) % 16) by rw [hA,hC];rfl)
   clear hA hC hw
   generalize rowQ 0 0=r1 at *
   generalize rowQ 0 1=r2 at *
   generalize eQ A C=E at *
   generalize fQ A C=F at *
   go_wp2_with fail
   go_quiet (exact quietSame (sign_any _ _ _ (by assumption) (by assumption)))
   go_wp2_with fail
   go_roundw
   case rel=>exact ⟨1,_,_,by omega,by go_num,by go_num,by go_num,(by rw [HST.out]),(by rw [HST.out]),n+nq,by rw [HW.out];exact drewN_add w n nq⟩
   case measure=>simp [intOf]
  ·subst h
   have h1:wr.cell? ⟨12,0*4+2,none⟩=_:=HG2.out.rows 0 (by omega) 2 (by omega)
   have h2:wr.cell? ⟨12,0*4+3,none⟩=_:=HG2.out.rows 0 (by omega) 3 (by omega)
   have e1:=q_e A hA16 C hC16
   have e2:=q_f A hA16 C hC16
   have l1:=eQ_lt hA16 hC16
   have l2:=fQ_lt hA16 hC16
   have R1:=rowQ_lt 0 (by omega) 2 (by omega)
   have R2:=rowQ_lt 0 (by omega) 3 (by omega)
   have HST:=hid (show qAC 0 x 2=(rowQ 0 2 / 2 ^ (60 - 4*eQ A C) % 16,rowQ 0 3 / 2 ^ (60 - 4*fQ A C) % 16) by rw [hA,hC];rfl)
   clear hA hC hw
   generalize rowQ 0 2=r1 at *
   generalize rowQ 0 3=r2 at *
   generalize eQ A C=E at *
   generalize fQ A C=F at *
   go_wp2_with fail
   go_quiet (exact quietSame (sign_any _ _ _ (by assumption) (by assumption)))
   go_wp2_with fail
   go_roundw
   case rel=>exact ⟨2,_,_,by omega,by go_num,by go_num,by go_num,(by rw [HST.out]),(by rw [HST.out]),n+nq,by rw [HW.out];exact drewN_add w n nq⟩
   case measure=>simp [intOf]
  ·subst h
   have e1:bits .or .u8 ((C:Int)*16) (A:Int)=(qF 0 x:Nat):=by
    have:qF 0 x=C*16+A:=by rw [hA,hC];rfl
    rw [this,show (C:Int)*16=((C*16:Nat):Int) by omega,u8_or_nat _ _ (by omega) (by omega)]
    have h3:=Nat.two_pow_add_eq_or_of_lt (i:=4) (b:=A) hA16 C
    rw [Nat.mul_comm C 16,show (16:Nat)=2 ^ 4 from rfl,← h3]
   clear hA hC hw
   obtain ⟨r,hr⟩:∃ r,qF 0 x=r:=⟨_,rfl⟩
   rw [hr] at e1
   have HR:=hid hr
   clear hr
   go_wp2_with fail
   go_ret
   exact ⟨ret_int (by rw [HR.out]),n,HW.out⟩
set_option maxHeartbeats 2000000 in
theorem q1_any (x:Nat) (w:World) (hx:x < 256) (hG:GT w) :
  Calls Tryz.prog 217 #[.int .i64 1,.int .u8 x] w fun e w'=>e=.returned (.int .u8 (qF 1 x:Nat))∧∃ n,w' = w.drewN n:=by
 have HG:=hid hG
 clear hG
 go_enter Tryz.func217,Tryz.ntmps217
 go_wp2_with fail
 go_loopw [5,6,7] (fun a c i wr=>∃ (k A C:Nat),k≤2∧i=.int .i64 (2*k:Nat)∧a=.int .u8 A∧c=.int .u8 C∧A=(qAC 1 x k).1∧C=(qAC 1 x k).2∧∃ n,wr=w.drewN n) (fun _ _ i _=>4 - (intOf i).toNat)
 case atStart=>exact ⟨0,x / 16,x % 16,by omega,rfl,by simp,by simp,rfl,rfl,0,rfl⟩
 case round =>
  obtain ⟨k,A,C,hk,rfl,rfl,rfl,hA,hC,n,hw⟩:=hrel
  have hl:=qAC_lt (q:=1) hx k
  rw [← hA,← hC] at hl
  obtain ⟨hA16,hC16⟩:=hl
  have HW:=hid hw
  have HG2:=hid (show GT wr by rw [hw];exact HG.out.later ((Ext.refl w).drewN n))
  rcases (show k=0∨k=1∨k=2 by omega) with h | h | h
  ·subst h
   have h1:wr.cell? ⟨12,1*4+0,none⟩=_:=HG2.out.rows 1 (by omega) 0 (by omega)
   have h2:wr.cell? ⟨12,1*4+1,none⟩=_:=HG2.out.rows 1 (by omega) 1 (by omega)
   have e1:=q_e A hA16 C hC16
   have e2:=q_f A hA16 C hC16
   have l1:=eQ_lt hA16 hC16
   have l2:=fQ_lt hA16 hC16
   have R1:=rowQ_lt 1 (by omega) 0 (by omega)
   have R2:=rowQ_lt 1 (by omega) 1 (by omega)
   have HST:=hid (show qAC 1 x 1=(rowQ 1 0 / 2 ^ (60 - 4*eQ A C) % 16,rowQ 1 1 / 2 ^ (60 - 4*fQ A C) % 16) by rw [hA,hC];rfl)
   clear hA hC hw
   generalize rowQ 1 0=r1 at *
   generalize rowQ 1 1=r2 at *
   generalize eQ A C=E at *
   generalize fQ A C=F at *
   go_wp2_with fail
   go_quiet (exact quietSame (sign_any _ _ _ (by assumption) (by assumption)))
   go_wp2_with fail
   go_roundw
   case rel=>exact ⟨1,_,_,by omega,by go_num,by go_num,by go_num,(by rw [HST.out]),(by rw [HST.out]),n+nq,by rw [HW.out];exact drewN_add w n nq⟩
   case measure=>simp [intOf]
  ·subst h
   have h1:wr.cell? ⟨12,1*4+2,none⟩=_:=HG2.out.rows 1 (by omega) 2 (by omega)
   have h2:wr.cell? ⟨12,1*4+3,none⟩=_:=HG2.out.rows 1 (by omega) 3 (by omega)
   have e1:=q_e A hA16 C hC16
   have e2:=q_f A hA16 C hC16
   have l1:=eQ_lt hA16 hC16
   have l2:=fQ_lt hA16 hC16
   have R1:=rowQ_lt 1 (by omega) 2 (by omega)
   have R2:=rowQ_lt 1 (by omega) 3 (by omega)
   have HST:=hid (show qAC 1 x 2=(rowQ 1 2 / 2 ^ (60 - 4*eQ A C) % 16,rowQ 1 3 / 2 ^ (60 - 4*fQ A C) % 16) by rw [hA,hC];rfl)
   clear hA hC hw
   generalize rowQ 1 2=r1 at *
   generalize rowQ 1 3=r2 at *
   generalize eQ A C=E at *
   generalize fQ A C=F at *
   go_wp2_with fail
   go_quiet (exact quietSame (sign_any _ _ _ (by assumption) (by assumption)))
   go_wp2_with fail
   go_roundw
   case rel=>exact ⟨2,_,_,by omega,by go_num,by go_num,by go_num,(by rw [HST.out]),(by rw [HST.out]),n+nq,by rw [HW.out];exact drewN_add w n nq⟩
   case measure=>simp [intOf]
  ·subst h
   have e1:bits .or .u8 ((C:Int)*16) (A:Int)=(qF 1 x:Nat):=by
    have:qF 1 x=C*16+A:=by rw [hA,hC];rfl
    rw [this,show (C:Int)*16=((C*16:Nat):Int) by omega,u8_or_nat _ _ (by omega) (by omega)]
    have h3:=Nat.two_pow_add_eq_or_of_lt (i:=4) (b:=A) hA16 C
    rw [Nat.mul_comm C 16,show (16:Nat)=2 ^ 4 from rfl,← h3]
   clear hA hC hw
   obtain ⟨r,hr⟩:∃ r,qF 1 x=r:=⟨_,rfl⟩
   rw [hr] at e1
   have HR:=hid hr
   clear hr
   go_wp2_with fail
   go_ret
   exact ⟨ret_int (by rw [HR.out]),n,HW.out⟩
theorem q_any (q x:Nat) (w:World) (hq:q < 2) (hx:x < 256) (hG:GT w) :
  Calls Tryz.prog 217 #[.int .i64 q,.int .u8 x] w fun e w'=>e=.returned (.int .u8 (qF q x:Nat))∧∃ n,w' = w.drewN n:=by
 rcases (show q=0∨q=1 by omega) with rfl | rfl
 ·exact q0_any x w hx hG
 ·exact q1_any x w hx hG
end Go.Proofs.YtbgkmicelmenfaaGreatDoor.T
namespace Go.Proofs.YtbgkmicelmenfaaGreatDoor.T
open Go.RowKit
set_option maxRecDepth 100000
theorem drewN_ext {w w':World} (h:∃ n,w' = w.drewN n):Ext w w':=by
 obtain ⟨n,rfl⟩:=h
 exact (Ext.refl w).drewN n
theorem w_byte (x:UInt32) (i:Nat):(x.toNat:Int) / 2 ^ (8*i) % 256=(bw x i:Nat):=by
 unfold bw
 rw [← cast_div];omega
theorem pow8 (i:Nat):(256:Nat) ^ i=2 ^ (8*i):=by rw [Nat.pow_mul]
theorem w_or (f:Nat→Nat) (hf:∀ i,f i < 256) (i:Nat) (hi:i < 4):bits .or .u32 ((wdN f i:Nat):Int) ((f i:Int)*2 ^ (8*i) % 4294967296)=((wdN f (i+1):Nat):Int):=by
 have h1:=wdN_lt hf i
 have h2:=hf i
 have h3:(256:Nat) ^ (i+1)≤256 ^ 4:=Nat.pow_le_pow_right (by omega) (by omega)
 have h4:f i*256 ^ i < 256 ^ (i+1):=by rw [Nat.pow_succ,Nat.mul_comm];exact Nat.mul_lt_mul_of_pos_left h2 (Nat.pow_pos (by omega))
 have h5:(256:Nat) ^ i≤256 ^ 4:=Nat.pow_le_pow_right (by omega) (by omega)
 have e:(f i:Int)*2 ^ (8*i) % 4294967296=((f i*256 ^ i:Nat):Int):=by
  have:(f i:Int)*2 ^ (8*i)=((f i*256 ^ i:Nat):Int):=by
   rw [Int.natCast_mul,Int.natCast_pow,Int.pow_mul];rfl
  rw [this]
  omega
 rw [e,u32_or_nat _ _ (by omega) (by omega),wdN_or hf]
theorem run_index_one {ty e:TypeId} {n:Nat} {cs:Array Value} {v:Value} {k:Nat} (w:World) (hu:Tryz.prog.underlying ty=some (.array n e)) (hs:∀ w,(sizeOf e).run Tryz.prog w=.ok 1 w) (ha:∀ w,(isAgg e).run Tryz.prog w=.ok false w)
  (hk:k < n) (hv:cs[k]? = some v):(Instr.index ty (.agg cs) (.int .i64 k)).run Tryz.prog w=.ok v w:=by
 simp only [Instr.index,asIntOf,Sem.run_bind,Sem.run_pure,Result.andThen_ok,run_underlying hu]
 rw [if_pos ⟨by omega,by omega⟩]
 simp only [Go.part,Sem.run_bind,ha,hs,Result.andThen_ok,Int.toNat_natCast,Nat.mul_one]
 simp [hv]
theorem run_index_row {ty e:TypeId} {n s:Nat} {cs:Array Value} {k:Nat} (w:World) (hu:Tryz.prog.underlying ty=some (.array n e)) (hs:∀ w,(sizeOf e).run Tryz.prog w=.ok s w) (ha:∀ w,(isAgg e).run Tryz.prog w=.ok true w)
  (hk:k < n):(Instr.index ty (.agg cs) (.int .i64 k)).run Tryz.prog w=.ok (.agg (cs.extract (k*s) (k*s+s))) w:=by
 simp only [Instr.index,asIntOf,Sem.run_bind,Sem.run_pure,Result.andThen_ok,run_underlying hu]
 rw [if_pos ⟨by omega,by omega⟩]
 simp only [Sem.run_bind,hs,Go.part,ha,Result.andThen_ok,Int.toNat_natCast,Sem.run_pure,if_true]
theorem sz3:∀ w,(sizeOf 3).run Tryz.prog w=.ok 1 w:=by intro w;kernel_rfl
theorem ag3:∀ w,(isAgg 3).run Tryz.prog w=.ok false w:=by intro w;kernel_rfl
theorem sz82:∀ w,(sizeOf 194).run Tryz.prog w=.ok 8 w:=by intro w;kernel_rfl
theorem ag82:∀ w,(isAgg 194).run Tryz.prog w=.ok true w:=by intro w;kernel_rfl
theorem sz68:∀ w,(sizeOf 241).run Tryz.prog w=.ok 4 w:=by intro w;kernel_rfl
theorem ag68:∀ w,(isAgg 241).run Tryz.prog w=.ok true w:=by intro w;kernel_rfl
set_option maxHeartbeats 2000000 in
theorem repl_any (x:UInt32) (left:Nat) (w:World) (hl:left < 5) (hG:GT w) :
  Calls Tryz.prog 203 #[.int .u32 (x.toNat:Nat),.int .i64 left] w fun e w'=>e=.returned (.int .u32 ((replW x left).toNat:Nat))∧Ext w w':=by
 have HG:=hid hG
 have h0:w.cell? ⟨10,left*4,none⟩=_:=hG.ords left hl 0 (by omega)
 have h1:=hG.ords left hl 1 (by omega)
 have h2:=hG.ords left hl 2 (by omega)
 have h3:=hG.ords left hl 3 (by omega)
 clear hG
 go_enter Tryz.func203,Tryz.ntmps203
 go_wp2_with fail
 go_loopw [5,11] (fun v i wr=>∃ k:Nat,k≤4∧i=.int .i64 k∧v=.int .u32 (wdN (replB x left) k:Nat)∧Ext w wr) (fun _ i _=>4 - (intOf i).toNat)
 case atStart=>exact ⟨0,by omega,rfl,rfl,Ext.refl _⟩
 case round =>
  obtain ⟨k,hk,rfl,rfl,hx⟩:=hrel
  by_cases hlt:k < 4
  ·have HX:=hid hx
   have HGR:=hid (HG.out.later hx)
   clear hx
   have hI:∀ w,(Instr.index 110 (.agg #[.int .i64 (ordN left 0:Nat),.int .i64 (ordN left 1:Nat),.int .i64 (ordN left 2:Nat),.int .i64 (ordN left 3:Nat)]) (.int .i64 k)).run Tryz.prog w=.ok (.int .i64 (ordN left k:Nat)) w:=fun w =>
    run_index_one w Tryz.underlying110 sz3 ag3 hlt (by rcases (show k=0∨k=1∨k=2∨k=3 by omega) with rfl | rfl | rfl | rfl<;>rfl)
   have hO:=ordN_lt left hl k hlt
   have hb:=w_byte x k
   have hbl:=bw_lt x k
   have hor:=w_or (replB x left) (replB_lt x left) k hlt
   have HR:=hid (show replB x left k=qF (ordN left k) (bw x k) from rfl)
   have hrl:=replB_lt x left k
   have hwl:=wdN_lt (replB_lt x left) k
   have hpw:(256:Nat) ^ k≤256 ^ 4:=Nat.pow_le_pow_right (by omega) (by omega)
   have hwn:=hid (rfl:wdN (replB x left) (k+1)=wdN (replB x left) (k+1))
   rw [HR.out] at hor hrl
   have HO:=hid hor
   have hx32:=wlt x
   obtain ⟨S,hS⟩:∃ S,wdN (replB x left) k=S:=⟨_,rfl⟩
   have hSl:S < 4294967296:=by omega
   obtain ⟨R,hRe⟩:∃ R,qF (ordN left k) (bw x k)=R:=⟨_,rfl⟩
   obtain ⟨S1,hS1⟩:∃ S1,wdN (replB x left) (k+1)=S1:=⟨_,rfl⟩
   have HS1:=hid hS1
   have HRE:=hid hRe
   rw [hRe] at hrl
   rw [hS,hRe,hS1] at HO
   rw [hS]
   obtain ⟨q,hqe⟩:∃ q,ordN left k=q:=⟨_,rfl⟩
   have hI2:∀ w,(Instr.index 110 (.agg #[.int .i64 (ordN left 0:Nat),.int .i64 (ordN left 1:Nat),.int .i64 (ordN left 2:Nat),.int .i64 (ordN left 3:Nat)]) (.int .i64 k)).run Tryz.prog w=.ok (.int .i64 q) w:=by rw [← hqe];exact hI
   rw [hqe] at hO HRE
   obtain ⟨b,hbe⟩:∃ b,bw x k=b:=⟨_,rfl⟩
   rw [hbe] at hb hbl HRE
   have HC:=hid (fun w hG=>q_any q b w hO hbl hG)
   clear hor hI hqe hbe hS hS1 hRe hwl hpw hwn HR
   go_wp2_with (first
    | (rw [hI2];simp only [Result.andThen];rw [Oper.upon_value])
    | (go_at_call 217;refine (HC.out _ HGR.out).mono ?_;rintro e w' ⟨rfl,hw2⟩;rw [HRE.out];have HX2:=hid (Ext.trans HX.out (drewN_ext hw2));clear hw2))
   exact ⟨⟨k+1,by omega,by go_num,by rw [HO.out,HS1.out],HX2.out⟩,by simp [intOf];omega⟩
  ·obtain rfl:k=4:=by omega
   have HX:=hid hx
   clear hx
   have e1:=wd4_toNat (replB_lt x left)
   rw [← e1]
   go_wp2
   go_ret
   exact ⟨rfl,HX.out⟩
theorem byteAt_bl (bs:List UInt8) (k:Nat):byteAt bs k=(bl bs k:Nat):=rfl
theorem u8x (a b:Nat) (ha:a < 256) (hb:b < 256):bits .xor .u8 (a:Int) (b:Int)=((a ^^^ b:Nat):Int):=u8_xor_nat _ _ ha hb
set_option maxHeartbeats 1000000 in
theorem sum_any (m:Nat) (A1 A2:Option Addr) (n c1 c2 B1 B2:Nat) (row bs:List UInt8) (w:World) (hm:IsRest m) (h1:Rd w B1 A1 n row) (h2:Rd w B2 A2 n bs) (hn:n≤1000) :
  Calls Tryz.prog 166 #[.slice A1 n c1,.slice A2 n c2,.int .i64 m] w fun e w'=>e=.returned (.int .u8 (sumG m (bl row) (bl bs) n:Nat))∧w=w':=by
 have hb:=sumG_lt hm (row:=bl row) (bl_lt bs)
 go_enter Tryz.func166,Tryz.ntmps166
 go_wp2_with fail
 go_loop [7,12] (fun v i=>∃ k:Nat,k≤n∧i=.int .i64 k∧v=.int .u8 (sumG m (bl row) (bl bs) k:Nat)) (fun _ i=>n - (intOf i).toNat)
 case atStart=>exact ⟨0,by omega,rfl,rfl⟩
 case round =>
  obtain ⟨k,hk,rfl,rfl⟩:=hrel
  have hs:=hb k
  by_cases hlt:k < n
  ·obtain ⟨b1,o1,rfl,_,hc1⟩:=h1.at_ (by omega)
   obtain ⟨b2,o2,rfl,_,hc2⟩:=h2.at_ (by omega)
   have k1:=hc1 k hlt
   have k2:=hc2 k hlt
   rw [byteAt_bl] at k1 k2
   have l1:=bl_lt row k
   have l2:=bl_lt bs k
   have hst:=hid (show sumG m (bl row) (bl bs) (k+1)=sumG m (bl row) (bl bs) k ^^^ gm m (bl bs k) (bl row k) from rfl)
   have hg:=gm_lt hm l2 (bl row k)
   obtain ⟨S,hS⟩:∃ S,sumG m (bl row) (bl bs) k=S:=⟨_,rfl⟩
   rw [hS] at hs hst ⊢
   obtain ⟨x1,hx1⟩:∃ x1,bl row k=x1:=⟨_,rfl⟩
   obtain ⟨x2,hx2⟩:∃ x2,bl bs k=x2:=⟨_,rfl⟩
   rw [hx1] at k1 l1 hst hg
   rw [hx2] at k2 l2 hst hg
   have hxx:=u8x S _ hs hg
   have HM:=hid (fun w=>mul_any x2 x1 m w hm l2 l1)
   obtain ⟨G,hG⟩:∃ G,gm m x2 x1=G:=⟨_,rfl⟩
   rw [hG] at hxx hst hg HM
   have HXX:=hid hxx
   have hlo:=hm.lo
   have hhi:=hm.hi
   clear hS hx1 hx2 hG hb h1 h2 hc1 hc2 hm hxx
   go_wp2_with (go_at_call 202;refine (HM.out _).mono ?_;rintro e w' ⟨rfl,rfl⟩)
   go_round
   case rel=>exact ⟨k+1,by omega,by go_num,by rw [hst.out,HXX.out]⟩
   case measure=>simp [intOf];omega
  ·obtain rfl:k=n:=by omega
   clear hb h1 h2
   go_wp2
   go_ret
   exact ⟨rfl,rfl⟩
end Go.Proofs.YtbgkmicelmenfaaGreatDoor.T
namespace Go.Proofs.YtbgkmicelmenfaaGreatDoor.T
open Go.RowKit
set_option maxRecDepth 100000
def mixC:List Value:=(List.range 16).map fun j=>.int .u8 (mixR (j / 4) (j % 4):Nat)
def shrC:List Value:=(List.range 32).map fun j=>.int .u8 (shrR (j / 8) (j % 8):Nat)
theorem load_tab {ty:TypeId} {g n:Nat} {cs:List Value} {w:World} (hs:∀ w,(sizeOf ty).run Tryz.prog w=.ok n w) (ha:∀ w,(isAgg ty).run Tryz.prog w=.ok true w) (hn:cs.length=n)
  (h:∀ j v,cs[j]? = some v→w.cell? ⟨g,j,none⟩=some v):(loadVar ty ⟨g,0,none⟩).run Tryz.prog w=.ok (.agg cs.toArray) w:=by
 have hl:(loadCells ⟨g,0,none⟩ cs.length).run Tryz.prog w=.ok cs.toArray w :=
  run_loadCells_list (P:=Tryz.prog) w ⟨g,0,none⟩ cs (fun j v hv=>by rw [add_off,Nat.zero_add];exact h j v hv)
 rw [hn] at hl
 unfold loadVar
 simp only [Sem.run_bind,ha,hs,Result.andThen_ok,if_true,hl,Sem.run_pure]
theorem wpList_tab {ops:Array Oper} {rest:List Oper} {o:Oper} {a:Act} {w:World} {Q:Exit→Act→World→Prop} {ty:TypeId} {g:Nat} {cs:List Value} (hgd:o.guard=none) (ho:o.op=.load ty (.global g))
  (h:(loadVar ty ⟨g,0,none⟩).run Tryz.prog w=.ok (.agg cs.toArray) w)
  (hk:wpList Tryz.prog ops Q rest (a.put o.dst (.agg cs.toArray)) w):wpList Tryz.prog ops Q (o::rest) a w:=by
 refine wpList_plain hgd fun K hK'=>?_
 have he:(execOp a.eval o).run Tryz.prog w=.ok (.value (.agg cs.toArray)) w:=by
  unfold execOp
  simp only [ho,Act.eval,Instr.loadAt,Instr.sureAddr,Sem.run_bind,Sem.run_pure,Result.andThen_ok,h]
 unfold Oper.wp
 rw [he]
 exact hK' _ _ hk
theorem sz72:∀ w,(sizeOf 244).run Tryz.prog w=.ok 16 w:=by intro w;kernel_rfl
theorem ag72:∀ w,(isAgg 244).run Tryz.prog w=.ok true w:=by intro w;kernel_rfl
theorem sz83:∀ w,(sizeOf 230).run Tryz.prog w=.ok 32 w:=by intro w;kernel_rfl
theorem ag83:∀ w,(isAgg 230).run Tryz.prog w=.ok true w:=by intro w;kernel_rfl
theorem GT.mixT {w:World} (h:GT w):(loadVar 244 ⟨11,0,none⟩).run Tryz.prog w=.ok (.agg mixC.toArray) w :=
 load_tab sz72 ag72 rfl fun j v hv=>by
  have hj:j < 16:=by
   rcases Nat.lt_or_ge j 16 with hj | hj
   ·exact hj
   ·rw [List.getElem?_eq_none (by simpa [mixC] using hj)] at hv;cases hv
  have e:mixC[j]? = some (.int .u8 (mixR (j / 4) (j % 4):Nat)):=by simp [mixC,hj]
  rw [e] at hv;rw [h.mixs j hj];exact hv
theorem GT.shrT {w:World} (h:GT w):(loadVar 230 ⟨4,0,none⟩).run Tryz.prog w=.ok (.agg shrC.toArray) w :=
 load_tab sz83 ag83 rfl fun j v hv=>by
  have hj:j < 32:=by
   rcases Nat.lt_or_ge j 32 with hj | hj
   ·exact hj
   ·rw [List.getElem?_eq_none (by simpa [shrC] using hj)] at hv;cases hv
  have e:shrC[j]? = some (.int .u8 (shrR (j / 8) (j % 8):Nat)):=by simp [shrC,hj]
  rw [e] at hv;rw [h.shrs j hj];exact hv
def mixL (k:Nat):List UInt8:=(mixsN.getD k []).map UInt8.ofNat
def shrL (k:Nat):List UInt8:=(shrsN.getD k []).map UInt8.ofNat
theorem mixL_at:∀ k,k < 4→∀ j,j < 4→bl (mixL k) j=mixR k j:=by decide
theorem shrL_at:∀ k,k < 4→∀ j,j < 8→bl (shrL k) j=shrR k j:=by decide
theorem mixL_len:∀ k,k < 4→(mixL k).length=4:=by decide
theorem shrL_len:∀ k,k < 4→(shrL k).length=8:=by decide
theorem mixC_row (k:Nat) (hk:k < 4):mixC.toArray.extract (k*4) (k*4+4)=(cellsOf (mixL k)).toArray:=by
 rcases (show k=0∨k=1∨k=2∨k=3 by omega) with rfl | rfl | rfl | rfl<;>rfl
theorem shrC_row (k:Nat) (hk:k < 4):shrC.toArray.extract (k*8) (k*8+8)=(cellsOf (shrL k)).toArray:=by
 rcases (show k=0∨k=1∨k=2∨k=3 by omega) with rfl | rfl | rfl | rfl<;>rfl
theorem sumG_rows {m:Nat} {r s b:Nat→Nat}:∀ n,(∀ j,j < n→r j=s j)→sumG m r b n=sumG m s b n
 | 0,_=>rfl
 | n+1,h=>by rw [sumG,sumG,sumG_rows n fun j hj=>h j (by omega),h n (by omega)]
theorem u8_bl (v:Int):((u8 v).toNat:Int)=v % 256:=u8_toNat v
theorem putL_bl (x:UInt32):∀ j,j < 4→bl (outB x) j=bw x j:=by
 intro j hj
 have hx:=wlt x
 rcases (show j=0∨j=1∨j=2∨j=3 by omega) with rfl | rfl | rfl | rfl
 ·have:=u8_bl (x.toNat:Int);show (u8 (x.toNat:Int)).toNat=x.toNat / 1 % 256;omega
 ·have:=u8_bl ((x.toNat:Int) / 256);show (u8 ((x.toNat:Int) / 256)).toNat=x.toNat / 256 % 256;omega
 ·have:=u8_bl ((x.toNat:Int) / 65536);show (u8 ((x.toNat:Int) / 65536)).toNat=x.toNat / 65536 % 256;omega
 ·have:=u8_bl ((x.toNat:Int) / 16777216);show (u8 ((x.toNat:Int) / 16777216)).toNat=x.toNat / 16777216 % 256;omega
theorem mixB_is (x:UInt32) (k:Nat) (hk:k < 4):sumG 361 (bl (mixL k)) (bl (outB x)) 4=mixB x k:=by
 rw [sumG_rows 4 (mixL_at k hk),sumG_congr 4 (putL_bl x)];rfl
theorem shrB_is (m:List UInt8) (k:Nat) (hk:k < 4):sumG 333 (bl (shrL k)) (bl m) 8=shrB m k:=by
 rw [sumG_rows 8 (shrL_at k hk)];rfl
theorem cells_all (bs:List UInt8):(cellsOf bs).toArray.all (·.oneCell')=true:=by
 rw [Array.all_eq_true_iff_forall_mem]
 intro v hv
 exact cellsOf_one bs v (by simpa using hv)
theorem rd_heap {w:World} {g n:Nat} {bs:List UInt8} {e:TypeId} (h:w.heap[g]? = some (.cells (cellsOf bs).toArray e (0,0))) (hn:bs.length=n):Rd w w.heap.size (some ⟨g,0,none⟩) n bs :=
 ⟨hn,fun _=>⟨g,0,rfl,(Array.getElem?_eq_some_iff.1 h).1,fun k hk=>by
  rw [Nat.zero_add,cell_of_row w g k _ _ _ h]
  simpa using cellsOf_get bs k (by omega)⟩⟩
theorem new_row (w:World) (zs cs:Array Value) (e:TypeId):((w.alloc (.cells zs e)).setRow w.heap.size cs).heap[w.heap.size]? = some (.cells cs e (0,0))∧Ext w ((w.alloc (.cells zs e)).setRow w.heap.size cs) :=
 ⟨setRow_heap _ _ _ _ e (0,0) (heap_alloc_new w _),Below.setRow_ (Ext.alloc w _) (Nat.le_refl _) cs⟩
set_option maxHeartbeats 2000000 in
theorem mix_any (x:UInt32) (w:World) (hG:GT w) :
  Calls Tryz.prog 204 #[.int .u32 (x.toNat:Nat)] w fun e w'=>e=.returned (.int .u32 ((mixW x).toNat:Nat))∧Ext w w':=by
 have HG:=hid hG
 clear hG
 have HP:=hid (fun w=>putLe32_any (x.toNat:Nat) w (by omega) (by have:=wlt x;omega))
 go_enter Tryz.func204,Tryz.ntmps204
 go_wp2_with (first
  | (go_at_call 61;refine (HP.out _).mono ?_;rintro e w1 ⟨y,rfl,hy,hb⟩;obtain ⟨A,c,rfl,hrd,_⟩:=hy.rdn (show (putL32 (x.toNat:Nat)).length=4 from rfl);have HRD:=hid hrd;have HX1:=hid (show Ext w w1 from hb);have HG1:=hid (HG.out.later hb);clear hy hb hrd)
  | (refine wpList_tab rfl rfl HG1.out.mixT ?_))
 go_loopw [4,10] (fun v i wr=>∃ k:Nat,k≤4∧i=.int .i64 k∧v=.int .u32 (wdN (mixB x) k:Nat)∧Ext w1 wr) (fun _ i _=>4 - (intOf i).toNat)
 case atStart=>exact ⟨0,by omega,rfl,rfl,Ext.refl _⟩
 case round =>
  obtain ⟨k,hk,rfl,rfl,hx⟩:=hrel
  by_cases hlt:k < 4
  ·have hI:∀ w,(Instr.index 244 (.agg mixC.toArray) (.int .i64 k)).run Tryz.prog w=.ok (.agg (cellsOf (mixL k)).toArray) w:=fun w=>by
    rw [run_index_row w Tryz.underlying244 sz68 ag68 hlt,mixC_row k hlt]
   have HX:=hid (Ext.trans HX1.out hx)
   have HR2:=hid (HRD.out.later hx)
   have HXX:=hid hx
   have hor:=w_or (mixB x) (mixB_lt x) k hlt
   have hm:=mixB_is x k hlt
   have hml:=mixB_lt x k
   have hl:=hid (mixL_len k hlt)
   have hwl:=wdN_lt (mixB_lt x) k
   have hpw:(256:Nat) ^ k≤256 ^ 4:=Nat.pow_le_pow_right (by omega) (by omega)
   obtain ⟨S,hS⟩:∃ S,wdN (mixB x) k=S:=⟨_,rfl⟩
   have hSl:S < 4294967296:=by omega
   obtain ⟨S1,hS1⟩:∃ S1,wdN (mixB x) (k+1)=S1:=⟨_,rfl⟩
   have HS1:=hid hS1
   obtain ⟨R,hR⟩:∃ R,mixB x k=R:=⟨_,rfl⟩
   rw [hS,hS1,hR] at hor
   rw [hR] at hm hml
   rw [hS]
   have HO:=hid hor
   have HM:=hid hm
   obtain ⟨L,hL⟩:∃ L,mixL k=L:=⟨_,rfl⟩
   rw [hL] at hI hl HM
   have HM2:=hid (show sumG 361 (bl L) (bl (putL32 (x.toNat:Nat))) 4=R from HM.out)
   clear hor hm hR hS hS1 hwl hpw hL hx
   have h4:(cellsOf L).toArray.size=4:=by simp [cellsOf,hl.out]
   go_wp2_with (first
    | (rw [hI];simp only [Result.andThen];rw [Oper.upon_value])
    | (refine wpList_store_row rfl 241 (.tmp 6) (.tmp 13) rfl wr.heap.size (cellsOf L).toArray rfl rfl 241 _ (heap_alloc_new _ _) (by rw [h4];kernel_rfl) (by rw [h4];rfl) (cells_all L) ?_)
    | (go_at_call 166;refine (sum_any 361 _ _ 4 _ _ _ _ L (putL32 (x.toNat:Nat)) _ r361 (rd_heap (new_row wr _ (cellsOf L).toArray 241).1 hl.out) (HR2.out.later (new_row wr _ (cellsOf L).toArray 241).2) (by omega)).mono ?_;rintro e w' ⟨rfl,rfl⟩;rw [HM2.out]))
   exact ⟨⟨k+1,by omega,by go_num,by rw [HO.out,HS1.out],Ext.trans HXX.out (new_row wr _ (cellsOf L).toArray 241).2⟩,by simp [intOf];omega⟩
  ·obtain rfl:k=4:=by omega
   have HX:=hid (Ext.trans HX1.out hx)
   clear hx
   have e1:=wd4_toNat (mixB_lt x)
   rw [← e1]
   go_wp2
   go_ret
   exact ⟨rfl,HX.out⟩
set_option maxHeartbeats 2000000 in
theorem shr_any (m:List UInt8) (A:Option Addr) (c:Nat) (w:World) (hG:GT w) (hm:Rd w w.heap.size A 8 m) :
  Calls Tryz.prog 104 #[.slice A 8 c] w fun e w'=>e=.returned (.int .u32 ((shrW m).toNat:Nat))∧Ext w w':=by
 have HG:=hid hG
 have HRD:=hid hm
 clear hG hm
 go_enter Tryz.func104,Tryz.ntmps104
 go_wp2_with (refine wpList_tab rfl rfl HG.out.shrT ?_)
 go_loopw [3,7] (fun v i wr=>∃ k:Nat,k≤4∧i=.int .i64 k∧v=.int .u32 (wdN (shrB m) k:Nat)∧Ext w wr) (fun _ i _=>4 - (intOf i).toNat)
 case atStart=>exact ⟨0,by omega,rfl,rfl,Ext.refl _⟩
 case round =>
  obtain ⟨k,hk,rfl,rfl,hx⟩:=hrel
  by_cases hlt:k < 4
  ·have hI:∀ w,(Instr.index 230 (.agg shrC.toArray) (.int .i64 k)).run Tryz.prog w=.ok (.agg (cellsOf (shrL k)).toArray) w:=fun w=>by
    rw [run_index_row w Tryz.underlying230 sz82 ag82 hlt,shrC_row k hlt]
   have HR2:=hid (HRD.out.later hx)
   have HXX:=hid hx
   have hor:=w_or (shrB m) (shrB_lt m) k hlt
   have hm:=shrB_is m k hlt
   have hml:=shrB_lt m k
   have hl:=hid (shrL_len k hlt)
   have hwl:=wdN_lt (shrB_lt m) k
   have hpw:(256:Nat) ^ k≤256 ^ 4:=Nat.pow_le_pow_right (by omega) (by omega)
   obtain ⟨S,hS⟩:∃ S,wdN (shrB m) k=S:=⟨_,rfl⟩
   have hSl:S < 4294967296:=by omega
   obtain ⟨S1,hS1⟩:∃ S1,wdN (shrB m) (k+1)=S1:=⟨_,rfl⟩
   have HS1:=hid hS1
   obtain ⟨R,hR⟩:∃ R,shrB m k=R:=⟨_,rfl⟩
   rw [hS,hS1,hR] at hor
   rw [hR] at hm hml
   rw [hS]
   have HO:=hid hor
   have HM:=hid hm
   obtain ⟨L,hL⟩:∃ L,shrL k=L:=⟨_,rfl⟩
   rw [hL] at hI hl HM
   clear hor hm hR hS hS1 hwl hpw hL hx
   have h4:(cellsOf L).toArray.size=8:=by simp [cellsOf,hl.out]
   go_wp2_with (first
    | (rw [hI];simp only [Result.andThen];rw [Oper.upon_value])
    | (refine wpList_store_row rfl 194 (.tmp 5) (.tmp 10) rfl wr.heap.size (cellsOf L).toArray rfl rfl 194 _ (heap_alloc_new _ _) (by rw [h4];kernel_rfl) (by rw [h4];rfl) (cells_all L) ?_)
    | (go_at_call 166;refine (sum_any 333 _ _ 8 _ _ _ _ L m _ r333 (rd_heap (new_row wr _ (cellsOf L).toArray 194).1 hl.out) (HR2.out.later (new_row wr _ (cellsOf L).toArray 194).2) (by omega)).mono ?_;rintro e w' ⟨rfl,rfl⟩;rw [HM.out]))
   exact ⟨⟨k+1,by omega,by go_num,by rw [HO.out,HS1.out],Ext.trans HXX.out (new_row wr _ (cellsOf L).toArray 194).2⟩,by simp [intOf];omega⟩
  ·obtain rfl:k=4:=by omega
   have HX:=hid hx
   clear hx
   have e1:=wd4_toNat (shrB_lt m)
   rw [← e1]
   go_wp2
   go_ret
   exact ⟨rfl,HX.out⟩
end Go.Proofs.YtbgkmicelmenfaaGreatDoor.T
namespace Go.Proofs.YtbgkmicelmenfaaGreatDoor.T
open Go.RowKit
set_option maxRecDepth 100000
theorem Tryz.info37:(Tryz.prog.info? 118).map (fun i=>(i.zero,i.size,i.bytes))=some (some (.int .u32 0),1,4):=by kernel_rfl
def nW (ks:List UInt32):List Int:=ks.map fun x=>((x.toNat:Nat):Int)
theorem nW_length (ks:List UInt32):(nW ks).length=ks.length:=by simp [nW]
theorem nW_get (ks:List UInt32) (j:Nat) (h:j < ks.length):(nW ks).getD j 0=((ks.getD j 0).toNat:Nat):=by simp [nW,h]
theorem nW_set (ks:List UInt32) (j:Nat) (x:UInt32):(nW ks).set j (x.toNat:Nat)=nW (ks.set j x):=by simp [nW,List.map_set]
theorem nW_append (xs ys:List UInt32):nW (xs++ys)=nW xs++nW ys:=by simp [nW]
def OwnW (w:World) (base:Nat) (v:Value) (ks:List UInt32):Prop:=OwnN .u32 118 w base v (nW ks)
theorem OwnW.set_ {w:World} {base g n c:Nat} {ks:List UInt32} (h:OwnW w base (.slice (some ⟨g,0,none⟩) n c) ks) (hn:ks.length=n) (j:Nat) (x:UInt32) :
  OwnW (w.setCell ⟨g,j,none⟩ (.int .u32 (x.toNat:Nat))) base (.slice (some ⟨g,0,none⟩) n c) (ks.set j x):=by
 have:=OwnN.setn h (by rw [nW_length];exact hn) j (x.toNat:Nat)
 rw [nW_set] at this
 exact this
theorem OwnW.rd {w:World} {base n:Nat} {v:Value} {ks:List UInt32} (h:OwnW w base v ks) (hn:ks.length=n):∃ A c,v=.slice A n c∧n≤c∧RdN .u32 w w.heap.size A n (nW ks) :=
 let ⟨A,c,e,h1,h2,_⟩:=OwnN.rdc h (by rw [nW_length];exact hn)
 ⟨A,c,e,h1,h2⟩
def HJ (x:UInt32) (l:List UInt32) (A:Option Addr) (c:Nat) (w:World) (a:Act) (w1:World):Prop :=
 ∃ (X:UInt32) (left:Nat) (u6 u7 u8 u9 u10 u11 u12 u13 u14 u15 u16 u17 u18 u19 u20 u21 u22 u23 u24 u25 u26 u27 u28:Value),
  a = { tmps:=#[.int .u32 (X.toNat:Nat),.slice A l.length c,undef,undef,.int .u32 0,.int .i64 left,u6,u7,u8,u9,u10,u11,u12,u13,u14,u15,u16,u17,u18,u19,u20,u21,u22,u23,u24,u25,u26,u27,u28,undef,undef],defers:=[] } ∧
  left≤l.length∧hW l left X=HW x l∧Ext w w1
def leftAt (a:Act):Nat:=match a.tmps.getD 5 undef with | .int _ q=>q.toNat | _=>0
set_option maxHeartbeats 4000000 in
theorem h_any (x:UInt32) (l:List UInt32) (A:Option Addr) (n c:Nat) (w:World) (hG:GT w) (hl:RdN .u32 w w.heap.size A n (nW l)) (h2:2≤n) (h4:n≤4) :
  Calls Tryz.prog 167 #[.int .u32 (x.toNat:Nat),.slice A n c] w fun e w'=>e=.returned (.int .u32 ((HW x l).toNat:Nat))∧Ext w w':=by
 have HG:=hid hG
 have HL:=hid hl
 have hn:=hl.len
 rw [nW_length] at hn
 subst hn
 clear hG hl
 go_enter Tryz.func167,Tryz.ntmps167
 go_wp2_with fail
 refine wp_scope_jumps2 0 (HJ x l A c w) (fun a _=>leftAt a) rfl ?_ ?_
 ·rintro a w1 ⟨X,left,u6,u7,u8,u9,u10,u11,u12,u13,u14,u15,u16,u17,u18,u19,u20,u21,u22,u23,u24,u25,u26,u27,u28,rfl,hle,hst,hx⟩
  have HX:=hid hx
  have HST:=hid hst
  have hR:=fun w hG=>repl_any X left w (by omega) hG
  have HG1:=hid (HG.out.later hx)
  rcases left with _ | k
  ·rw [hW_zero] at hst
   have HE:=hid (show (mixW (replW X 0)).toNat=(HW x l).toNat by rw [← hst];rfl)
   have HR:=hid hR
   clear hx hst HG HL HST hR
   go_wp2_with (first
    | (go_at_call 203;refine (HR.out _ HG1.out).mono ?_;rintro e w2 ⟨rfl,hx2⟩;have HX2:=hid (Ext.trans HX.out hx2);have HG2:=hid (HG1.out.later hx2);clear hx2)
    | (go_at_call 204;refine (mix_any (replW X 0) _ HG2.out).mono ?_;rintro e w3 ⟨rfl,hx3⟩;have HX3:=hid (Ext.trans HX2.out hx3);clear hx3))
   (try simp only [Exit.jump])
   go_ret
   exact ⟨ret_int (by rw [HE.out]),HX3.out⟩
  ·obtain ⟨b,o,rfl,hb,hc⟩:=HL.out.at_ (by omega)
   have hck:=cell_at hx (hc k (by omega))
   rw [nW_get l k (by omega)] at hck
   have hx32:=w_xor (replW X (k+1)) (l.getD k 0)
   have HST2:=hid (show hW l k (hStep l k X)=HW x l by rw [← hst,hW_succ])
   have HXX:=hid (show bits .xor .u32 ((replW X (k+1)).toNat:Int) ((l.getD k 0).toNat:Int)=((hStep l k X).toNat:Int) from hx32)
   have HR:=hid hR
   obtain ⟨y,hy⟩:∃ y,l.getD k 0=y:=⟨_,rfl⟩
   rw [hy] at hck HXX
   have HCK:=hid hck
   clear hx hst HG HL HST hR hx32 hck hc hy
   go_wp2_with (go_at_call 203;refine (HR.out _ HG1.out).mono ?_;rintro e w2 ⟨rfl,hx2⟩;have HX2:=hid (Ext.trans HX.out hx2);have hck2:=cell_at hx2 HCK.out;clear hx2)
   go_step3
   (try simp only [Exit.jump])
   rw [HXX.out]
   refine ⟨rfl,⟨hStep l k X,k,_,_,_,_,_,_,_,_,_,_,_,_,_,_,_,_,_,_,_,_,_,_,_,rfl,by omega,HST2.out,HX2.out⟩,?_⟩
   simp [leftAt]
 ·intro hfirst
  go_wp2_with fail
  go_step3
  simp only [Exit.then]
  rename_i hK
  refine hK _ _ ?_
  exact hfirst.out _ _ ⟨x,l.length,_,_,_,_,_,_,_,_,_,_,_,_,_,_,_,_,_,_,_,_,_,_,_,rfl,by omega,rfl,Ext.refl _⟩
end Go.Proofs.YtbgkmicelmenfaaGreatDoor.T
namespace Go.Proofs.YtbgkmicelmenfaaGreatDoor.T
open Go.RowKit
set_option maxRecDepth 100000
def dig (c:Nat):Nat:=if 65≤c then c - 65+10 else c - 48
def isSign (c:Nat):Bool:=(decide (48≤c) && decide (c≤57)) || (decide (65≤c) && decide (c≤70))
def goodS (d:ByteArray) (q i:Nat):Bool:=decide (d.size=16) && (List.range 16).all fun p=>isSign (d.data.getD p 0).toNat && decide (dig (d.data.getD p 0).toNat=nibQ q i p)
set_option maxHeartbeats 400000 in
theorem digit_any (c:Nat) (w:World) (hc:isSign c=true):Calls Tryz.prog 219 #[.int .u8 c] w fun e w'=>e=.returned (.int .i64 (dig c:Nat))∧w=w':=by
 unfold isSign at hc
 simp only [Bool.or_eq_true,Bool.and_eq_true,decide_eq_true_eq] at hc
 by_cases h:65≤c
 ·have hd:dig c=c - 65+10:=by unfold dig;rw [if_pos h]
  have hc2:c≤70:=by omega
  rw [hd]
  clear hd hc
  go_enter Tryz.func219,Tryz.ntmps219
  go_wp2
  go_ret
  exact ⟨ret_int (by omega),rfl⟩
 ·have hd:dig c=c - 48:=by unfold dig;rw [if_neg h]
  have hc2:48≤c:=by omega
  rw [hd]
  clear hd hc
  go_enter Tryz.func219,Tryz.ntmps219
  go_wp2
  go_ret
  exact ⟨ret_int (by omega),rfl⟩
theorem good_at {d:ByteArray} {q i p:Nat} (h:goodS d q i=true) (hp:p < 16):∃ hs:p < d.size,isSign (d[p]'hs).toNat=true∧dig (d[p]'hs).toNat=nibQ q i p:=by
 unfold goodS at h
 simp only [Bool.and_eq_true,decide_eq_true_eq] at h
 obtain ⟨h1,h2⟩:=h
 have hs:p < d.size:=by omega
 have h3:=List.all_eq_true.1 h2 p (List.mem_range.2 hp)
 simp only [Bool.and_eq_true,decide_eq_true_eq] at h3
 have e:d.data.getD p 0=d[p]'hs:=by
  rw [Array.getD_eq_getD_getElem?,Array.getElem?_eq_getElem (show p < d.data.size from hs)];rfl
 rw [e] at h3
 exact ⟨hs,h3⟩
set_option maxHeartbeats 400000 in
theorem at_any (d:ByteArray) (q i p:Nat) (w:World) (h:goodS d q i=true) (hp:p < 16) :
  Calls Tryz.prog 212 #[.string d,.int .i64 p] w fun e w'=>e=.returned (.int .i64 (nibQ q i p:Nat))∧w=w':=by
 obtain ⟨hs,h1,h2⟩:=good_at h hp
 have HG:=hid h2
 clear h2 h
 go_enter Tryz.func212,Tryz.ntmps212
 go_wp2_with (go_at_call 219;refine (digit_any _ _ h1).mono ?_;rintro e w' ⟨rfl,rfl⟩)
 go_ret
 exact ⟨ret_int (by rw [HG.out]),rfl⟩
structure Four (q b:Nat) (w:World):Prop where
 at_:∀ i,i < 4→∃ d,w.cell? ⟨b,i,none⟩=some (.string d)∧goodS d q i=true
theorem Four.later {q b:Nat} {w w':World} (h:Four q b w) (hx:Ext w w'):Four q b w':=⟨fun i hi=>let ⟨d,h1,h2⟩:=h.at_ i hi;⟨d,cell_at hx h1,h2⟩⟩
def FourRet (q:Nat) (w:World) (e:Ending) (w':World):Prop:=∃ b,e=.returned (.slice (some ⟨b,0,none⟩) 4 4)∧Four q b w'∧Ext w w'
set_option maxHeartbeats 4000000 in
theorem rrows_any (q:Nat) (w:World) (hq:q < 2):Calls Tryz.prog 218 #[.int .i64 q] w (FourRet q w):=by
 rcases (show q=0∨q=1 by omega) with rfl | rfl
 all_goals
  go_enter Tryz.func218,Tryz.ntmps218
  go_wp2
  go_ret
  refine ⟨_,rfl,⟨fun i hi=>?_⟩,Ext.alloc _ _⟩
  rcases (show i=0∨i=1∨i=2∨i=3 by omega) with rfl | rfl | rfl | rfl
  all_goals exact ⟨_,by rw [cell_of_row _ _ _ _ _ _ (heap_alloc_new _ _)];rfl,by decide +kernel⟩
theorem rq_f:∀ a:Nat,a < 16→∀ c:Nat,c < 16→bits .xor .i64 (bits .xor .i64 (a:Int) (bits .or .i64 ((c:Int) / 2) (bits .and .i64 ((c:Int)*8) 8))) (8*(a:Int) % 16)=(fQ a c:Nat):=by
 decide +kernel
set_option maxHeartbeats 2000000 in
theorem rq_any (q x:Nat) (w:World) (hq:q < 2) (hx:x < 256) :
  Calls Tryz.prog 210 #[.int .i64 q,.int .u8 x] w fun e w'=>e=.returned (.int .u8 (qF q x:Nat))∧Ext w w':=by
 go_enter Tryz.func210,Tryz.ntmps210
 go_wp2_with (go_at_call 218;refine (rrows_any q _ hq).mono ?_;rintro e w1 ⟨b,rfl,h4,hx1⟩;have HF:=hid h4;have HX1:=hid hx1;clear h4 hx1)
 go_loopw [6,7,8] (fun a c i wr=>∃ (k A C:Nat),k≤2∧i=.int .i64 k∧a=.int .i64 A∧c=.int .i64 C∧A=(qAC q x k).1∧C=(qAC q x k).2∧∃ n,wr=w1.drewN n) (fun _ _ i _=>2 - (intOf i).toNat)
 case atStart=>exact ⟨0,x / 16,x % 16,by omega,rfl,by go_num,by go_num,rfl,rfl,0,rfl⟩
 case round =>
  obtain ⟨k,A,C,hk,rfl,rfl,rfl,hA,hC,n,hw⟩:=hrel
  have hl:=qAC_lt (q:=q) hx k
  rw [← hA,← hC] at hl
  obtain ⟨hA16,hC16⟩:=hl
  have HW:=hid hw
  by_cases hlt:k < 2
  ·obtain ⟨d1,c1,g1⟩:=HF.out.at_ (2*k) (by omega)
   obtain ⟨d2,c2,g2⟩:=HF.out.at_ (2*k+1) (by omega)
   have k1:wr.cell? ⟨b,2*k,none⟩=some (.string d1):=by rw [hw];exact c1
   have k2:wr.cell? ⟨b,2*k+1,none⟩=some (.string d2):=by rw [hw];exact c2
   have l1:=eQ_lt hA16 hC16
   have l2:=fQ_lt hA16 hC16
   have HST:=hid (show qAC q x (k+1)=(nibQ q (2*k) (eQ A C),nibQ q (2*k+1) (fQ A C)) by rw [hA,hC];rfl)
   clear hA hC hw c1 c2
   have e1:bits .xor .i64 (A:Int) (C:Int)=(eQ A C:Nat):=i64_xor_nat _ _ (by omega) (by omega)
   have e2:=rq_f A hA16 C hC16
   obtain ⟨E,hE⟩:∃ E,eQ A C=E:=⟨_,rfl⟩
   obtain ⟨F,hF⟩:∃ F,fQ A C=F:=⟨_,rfl⟩
   rw [hE] at e1 l1 HST
   rw [hF] at e2 l2 HST
   have HE2:=hid hE
   have HF2:=hid hF
   clear hE hF
   go_wp2_with fail
   go_quiet (exact quietSame (at_any _ _ _ _ _ (by assumption) (by assumption)))
   go_wp2_with fail
   go_roundw
   case rel=>exact ⟨k+1,_,_,by omega,by go_num,rfl,rfl,(by rw [HST.out]),(by rw [HST.out]),n+nq,by rw [HW.out];exact drewN_add w1 n nq⟩
   case measure=>simp [intOf];omega
  ·obtain rfl:k=2:=by omega
   have hr:qF q x=C*16+A:=by rw [hA,hC];rfl
   have HR:=hid hr
   have HX:=hid (show Ext w wr by rw [hw];exact HX1.out.drewN n)
   clear hA hC hw hr
   go_wp2_with fail
   go_ret
   exact ⟨ret_int (by rw [HR.out];omega),HX.out⟩
end Go.Proofs.YtbgkmicelmenfaaGreatDoor.T
namespace Go.Proofs.YtbgkmicelmenfaaGreatDoor.T
open Go.RowKit
set_option maxRecDepth 100000
def byF (x:UInt32) (i:Nat):UInt8:=UInt8.ofNat (bw x i)
def byB (x:UInt32):List UInt8:=(List.range 4).map (byF x)
theorem byF_toNat (x:UInt32) (i:Nat):(byF x i).toNat=bw x i:=by
 have:=bw_lt x i
 unfold byF
 rw [UInt8.toNat_ofNat'];omega
theorem byB_bl (x:UInt32) (j:Nat) (hj:j < 4):bl (byB x) j=bw x j:=by
 have:(byB x).getD j 0=byF x j:=by simp [byB,hj]
 unfold bl
 rw [this,byF_toNat]
def mixTo (f g:Nat→UInt8) (k:Nat):List UInt8:=(List.range 4).map fun i=>if i < k then f i else g i
theorem mixTo_length (f g:Nat→UInt8) (k:Nat):(mixTo f g k).length=4:=by simp [mixTo]
theorem mixTo_zero (f g:Nat→UInt8):mixTo f g 0=(List.range 4).map g:=by simp [mixTo]
theorem mixTo_full (f g:Nat→UInt8):mixTo f g 4=(List.range 4).map f:=by
 unfold mixTo
 apply List.map_congr_left
 intro i hi
 rw [if_pos (List.mem_range.1 hi)]
theorem mixTo_get (f g:Nat→UInt8) (k:Nat) (hk:k < 4):(mixTo f g k).getD k 0=g k:=by simp [mixTo,hk]
theorem mixTo_set (f g:Nat→UInt8) (k:Nat):(mixTo f g k).set k (f k)=mixTo f g (k+1):=by
 apply List.ext_getElem
 ·simp [mixTo]
 ·intro i h1 h2
  simp only [mixTo,List.getElem_set,List.getElem_map,List.getElem_range]
  by_cases h:k=i
  ·subst h;simp
  ·rw [if_neg h]
   by_cases h':i < k
   ·rw [if_pos h',if_pos (by omega)]
   ·rw [if_neg h',if_neg (by omega)]
def BB (w:World) (g:Nat) (e:TypeId) (L:List UInt8):Prop:=w.heap[g]? = some (.cells (cellsOf L).toArray e (0,0))
section
variable {w w':World} {g:Nat} {e:TypeId} {L:List UInt8}
theorem BB.lt (h:BB w g e L):g < w.heap.size:=(Array.getElem?_eq_some_iff.1 h).1
theorem BB.later (h:BB w g e L) (hx:Ext w w'):BB w' g e L:=(hx.block g h.lt).trans h
theorem BB.cell (h:BB w g e L) (k:Nat) (hk:k < L.length):w.cell? ⟨g,k,none⟩=some (.int .u8 (bl L k:Nat)):=by
 rw [cell_of_row w g k _ _ _ h]
 simpa [byteAt_bl] using cellsOf_get L k hk
theorem BB.frozen (h:BB w g e L) (k:Nat):w.frozen? ⟨g,k,none⟩=false:=frozen_of_row w g k _ e h
theorem BB.set_ (h:BB w g e L) (k:Nat) (x:UInt8):BB (w.setCell ⟨g,k,none⟩ (.int .u8 (x.toNat:Nat))) g e (L.set k x):=by
 have:=heap_setCell_same w g k _ e (.int .u8 (x.toNat:Nat)) h
 unfold BB
 rw [this]
 simp [cellsOf,List.map_set]
theorem BB.setne (h:BB w g e L) (p:Addr) (v:Value) (hne:g ≠ p.block):BB (w.setCell p v) g e L:=(heap_setCell_other w p g v hne).trans h
theorem BB.put (h:BB w g e L) (M:List UInt8):BB (w.setRow g (cellsOf M).toArray) g e M:=setRow_heap w g _ _ e (0,0) h
end
theorem ret_cell {fn:Func} {R:Ending→World→Prop} {a:Act} {w:World} {p:Tmp} {ty e:TypeId} {N:Nat} (hres:fn.results=#[.cell p ty]) (hd:a.defers = []) (g:Nat) (t:TypeId) (cs:Array Value) (fr:Nat×Nat)
  (hp:a.tmps.getD p undef=.pointer (some ⟨g,0,none⟩)) (hg:w.heap[g]? = some (.cells cs t fr)) (hu:Tryz.prog.underlying ty=some (.array N e))
  (hi:(Tryz.prog.info? ty).map (·.size)=some cs.size) (h:R (.returned (.agg cs)) w) :
  bodyPost Tryz.prog fn R .ret a w:=bodyPost_ret (results_cell_row hres _ _ g t cs fr _ hp hg hu rfl hi) hd h
theorem in68 (L:List UInt8) (h:L.length=4):(Tryz.prog.info? 241).map (·.size)=some (cellsOf L).toArray.size:=by
 have h1:(cellsOf L).toArray.size=4:=by simp [cellsOf,h]
 have h2:(Tryz.prog.info? 241).map (·.size)=some 4:=by kernel_rfl
 rw [h1,h2]
def Ret4 (w:World) (x:UInt32) (e:Ending) (w':World):Prop:=e=.returned (.agg (cellsOf (byB x)).toArray)∧Ext w w'
set_option maxHeartbeats 2000000 in
theorem laid_any (x y:UInt32) (w:World) :
  Calls Tryz.prog 180 #[.agg (cellsOf (byB x)).toArray,.int .u32 (y.toNat:Nat)] w (Ret4 w (x ^^^ y)):=by
 have h1:=heap_alloc2_old w (.cells (cellsOf (byB x)).toArray 241) (.cells #[.int .u8 0,.int .u8 0,.int .u8 0,.int .u8 0] 241)
 have h2:=heap_alloc2_new w (.cells (cellsOf (byB x)).toArray 241) (.cells #[.int .u8 0,.int .u8 0,.int .u8 0,.int .u8 0] 241)
 have h3:=(Ext.alloc w (.cells (cellsOf (byB x)).toArray 241)).trans (Ext.alloc _ (.cells #[.int .u8 0,.int .u8 0,.int .u8 0,.int .u8 0] 241))
 go_enter Tryz.func180,Tryz.ntmps180
 go_wp2_with fail
 obtain ⟨W1,hW1⟩:∃ W1,(w.alloc (.cells (cellsOf (byB x)).toArray 241)).alloc (.cells #[.int .u8 0,.int .u8 0,.int .u8 0,.int .u8 0] 241)=W1:=⟨_,rfl⟩
 rw [hW1] at h1 h2 h3 ⊢
 have HB:=hid (show BB W1 w.heap.size 241 (mixTo (byF (x ^^^ y)) (byF x) 0) by rw [mixTo_zero];exact h1)
 have HR:=hid (show BB W1 (w.heap.size+1) 241 [0,0,0,0] from h2)
 have HX:=hid h3
 clear h1 h2 h3 hW1
 obtain ⟨G,hG⟩:∃ G,w.heap.size=G:=⟨_,rfl⟩
 rw [hG] at HB HR ⊢
 have HGE:=hid hG
 clear hG
 go_loopw [5] (fun i wr=>∃ k:Nat,k≤4∧i=.int .i64 k∧BB wr G 241 (mixTo (byF (x ^^^ y)) (byF x) k)∧BB wr (G+1) 241 [0,0,0,0]∧Ext w wr) (fun i _=>4 - (intOf i).toNat)
 case atStart=>exact ⟨0,by omega,rfl,HB.out,HR.out,HX.out⟩
 case round =>
  obtain ⟨k,hk,rfl,hb,hr,hx⟩:=hrel
  by_cases hlt:k < 4
  ·have hc:=hb.cell k (by rw [mixTo_length];exact hlt)
   have hf:=hb.frozen k
   have hv:bl (mixTo (byF (x ^^^ y)) (byF x) k) k=bw x k:=by
    unfold bl;rw [mixTo_get _ _ _ hlt,byF_toNat]
   rw [hv] at hc
   have hs:=hb.set_ k (byF (x ^^^ y) k)
   rw [mixTo_set,byF_toNat] at hs
   have hxx:=hid (show bits .xor .u8 ((bw x k:Nat):Int) ((bw y k:Nat):Int)=(bw (x ^^^ y) k:Nat) by rw [u8x _ _ (bw_lt x k) (bw_lt y k),bw_xor])
   have HS:=hid hs
   have hby:=w_byte y k
   have hy32:=wlt y
   have HR2:=hid (fun v=>hr.setne ⟨G,k,none⟩ v (by simp))
   have HX2:=hid (fun v=>hx.setCell (p:=⟨G,k,none⟩) (by have:=HGE.out;simp;omega) v)
   have l1:=bw_lt x k
   have l2:=bw_lt y k
   obtain ⟨b1,hb1⟩:∃ b1,bw x k=b1:=⟨_,rfl⟩
   obtain ⟨b2,hb2⟩:∃ b2,bw y k=b2:=⟨_,rfl⟩
   obtain ⟨b3,hb3⟩:∃ b3,bw (x ^^^ y) k=b3:=⟨_,rfl⟩
   rw [hb1] at hc l1 hxx
   rw [hb2] at l2 hby hxx
   rw [hb3] at hxx HS
   clear hb hr hx hs hv hb1 hb2 hb3
   go_wp2_with fail
   rw [hxx.out]
   go_roundw
   case rel=>exact ⟨k+1,by omega,by go_num,HS.out,HR2.out _,HX2.out _⟩
   case measure=>simp [intOf];omega
  ·obtain rfl:k=4:=by omega
   rw [mixTo_full] at hb
   have hL:(byB (x ^^^ y)).length=4:=by simp [byB]
   have HBB:=hid (show BB wr G 241 (byB (x ^^^ y)) from hb)
   have HRR:=hid hr
   have HXX:=hid (Below.setRow_ hx (show w.heap.size≤G+1 by have:=HGE.out;omega) (cellsOf (byB (x ^^^ y))).toArray)
   have HFI:=hid (hr.put (byB (x ^^^ y)))
   have HL:=hid hL
   obtain ⟨Y,hY⟩:∃ Y,byB (x ^^^ y)=Y:=⟨_,rfl⟩
   have HY:=hid hY
   rw [hY] at HBB HXX HFI HL
   clear hb hr hx hL hY
   go_wp2_with (first
    | (refine wpList_load_row rfl 241 (.tmp 2) rfl G rfl 241 _ (0,0) _ HBB.out Tryz.underlying241 rfl (in68 _ HL.out) ?_)
    | (refine wpList_store_row rfl 241 (.tmp 4) (.tmp 22) rfl (G+1) (cellsOf Y).toArray rfl rfl 241 _ HRR.out (in68 _ HL.out) (by simp [cellsOf,HL.out]) (cells_all Y) ?_))
   (try simp only [Exit.jump])
   exact ret_cell rfl rfl (G+1) 241 _ (0,0) rfl HFI.out Tryz.underlying241 (in68 _ HL.out) ⟨by rw [HY.out],HXX.out⟩
end Go.Proofs.YtbgkmicelmenfaaGreatDoor.T
namespace Go.Proofs.YtbgkmicelmenfaaGreatDoor.T
open Go.RowKit
set_option maxRecDepth 100000
theorem cf15 (vs:Array Value) (w:World):(callFunc 210 vs).run Tryz.prog w=.ok (.enter 210 vs) w:=by go_simp
def stK (k G q b:Nat):List K:=[.eq (.int .i64 k),.eq (.int .i64 k),.eq (.pointer (some ⟨G+1,k,none⟩)),.eq (.int .i64 q),.eq (.int .i64 k),.eq (.pointer (some ⟨G,k,none⟩)),.eq (.int .u8 b),.eq (.int .u8 (qF q b:Nat)),.any,.any]
theorem replB_toNat (x:UInt32) (left i:Nat):(UInt8.ofNat (replB x left i)).toNat=replB x left i:=by
 have:=replB_lt x left i
 rw [UInt8.toNat_ofNat'];omega
theorem byB_repl (x:UInt32) (left:Nat):(List.range 4).map (fun i=>UInt8.ofNat (replB x left i))=byB (replW x left):=by
 unfold byB
 apply List.map_congr_left
 intro i hi
 unfold byF
 rw [show bw (replW x left) i=replB x left i from bw_wd4 (replB_lt x left) i (List.mem_range.1 hi)]
set_option maxHeartbeats 4000000 in
theorem stage_any (x:UInt32) (left:Nat) (q0 q1 q2 q3:Int) (w:World) (hl:left < 5) (e0:q0=(ordN left 0:Nat)) (e1:q1=(ordN left 1:Nat)) (e2:q2=(ordN left 2:Nat)) (e3:q3=(ordN left 3:Nat)) :
  Calls Tryz.prog 181 #[.agg (cellsOf (byB x)).toArray,.agg #[.int .i64 q0,.int .i64 q1,.int .i64 q2,.int .i64 q3]] w (Ret4 w (replW x left)):=by
 have h1:=heap_alloc2_old w (.cells (cellsOf (byB x)).toArray 241) (.cells #[.int .i64 q0,.int .i64 q1,.int .i64 q2,.int .i64 q3] 110)
 have h1b:=heap_alloc2_new w (.cells (cellsOf (byB x)).toArray 241) (.cells #[.int .i64 q0,.int .i64 q1,.int .i64 q2,.int .i64 q3] 110)
 have h3:=(Ext.alloc w (.cells (cellsOf (byB x)).toArray 241)).trans (Ext.alloc _ (.cells #[.int .i64 q0,.int .i64 q1,.int .i64 q2,.int .i64 q3] 110))
 have HE:=hid (And.intro e0 (And.intro e1 (And.intro e2 e3)))
 clear e0 e1 e2 e3
 go_enter Tryz.func181,Tryz.ntmps181
 go_wp2_with fail
 obtain ⟨W1,hW1⟩:∃ W1,(w.alloc (.cells (cellsOf (byB x)).toArray 241)).alloc (.cells #[.int .i64 q0,.int .i64 q1,.int .i64 q2,.int .i64 q3] 110)=W1:=⟨_,rfl⟩
 have hs1:W1.heap.size=w.heap.size+1+1:=by rw [← hW1];simp
 rw [hW1] at h1 h1b h3 ⊢
 have h2:=heap_alloc_new W1 (.cells #[.int .u8 0,.int .u8 0,.int .u8 0,.int .u8 0] 241)
 have h4:=Ext.alloc W1 (.cells #[.int .u8 0,.int .u8 0,.int .u8 0,.int .u8 0] 241)
 rw [hs1] at h2
 obtain ⟨W2,hW2⟩:∃ W2,W1.alloc (.cells #[.int .u8 0,.int .u8 0,.int .u8 0,.int .u8 0] 241)=W2:=⟨_,rfl⟩
 rw [hW2] at h2 h4 ⊢
 have HB:=hid (show BB W2 w.heap.size 241 (mixTo (fun i=>UInt8.ofNat (replB x left i)) (byF x) 0) by rw [mixTo_zero];exact BB.later (e:=241) (L:=byB x) h1 h4)
 have HQ4:=hid (show ∀ i,i < 4→W2.cell? ⟨w.heap.size+1,i,none⟩=some (.int .i64 (ordN left i:Nat)) from fun i hi=>by
  refine cell_at h4 ?_
  rw [cell_of_row W1 _ i _ _ _ h1b]
  obtain ⟨e0,e1,e2,e3⟩:=HE.out
  subst e0 e1 e2 e3
  rcases (show i=0∨i=1∨i=2∨i=3 by omega) with rfl | rfl | rfl | rfl<;>rfl)
 have HR:=hid (show BB W2 (w.heap.size+1+1) 241 [0,0,0,0] from h2)
 have HX:=hid (h3.trans h4)
 clear h1 h1b h2 h3 h4 hW1 hW2
 obtain ⟨G,hG⟩:∃ G,w.heap.size=G:=⟨_,rfl⟩
 rw [hG]
 rw [hG] at HB HR HQ4
 have HGE:=hid hG
 clear hG hs1
 go_loopw [5] (fun i wr=>∃ k:Nat,k≤4∧i=.int .i64 k∧BB wr G 241 (mixTo (fun i=>UInt8.ofNat (replB x left i)) (byF x) k)∧(∀ i,i < 4→wr.cell? ⟨G+1,i,none⟩=some (.int .i64 (ordN left i:Nat)))∧BB wr (G+1+1) 241 [0,0,0,0]∧Ext w wr) (fun i _=>4 - (intOf i).toNat)
 case atStart=>exact ⟨0,by omega,rfl,HB.out,HQ4.out,HR.out,HX.out⟩
 case round =>
  obtain ⟨k,hk,rfl,hb,hq4,hr,hx⟩:=hrel
  by_cases hlt:k < 4
  ·have hc:=hb.cell k (by rw [mixTo_length];exact hlt)
   have hv:bl (mixTo (fun i=>UInt8.ofNat (replB x left i)) (byF x) k) k=bw x k:=by
    unfold bl;rw [mixTo_get _ _ _ hlt,byF_toNat]
   rw [hv] at hc
   have hqk:=hq4 k hlt
   have hO:=ordN_lt left hl k hlt
   have hrb:=hid (show qF (ordN left k) (bw x k)=replB x left k from rfl)
   have l1:=bw_lt x k
   obtain ⟨q,hq⟩:∃ q,ordN left k=q:=⟨_,rfl⟩
   obtain ⟨b,hb1⟩:∃ b,bw x k=b:=⟨_,rfl⟩
   rw [hq] at hqk hO hrb
   rw [hb1] at hc l1 hrb
   have HQ:=hid (fun w=>rq_any q b w hO l1)
   have HCQ:=hid hqk
   have HCB:=hid hc
   have HK:=hid hlt
   have HBB:=hid hb
   have HQQ:=hid hq4
   have HRR:=hid hr
   have HXX:=hid hx
   clear hb hq4 hr hx hc hqk hO l1 hq hb1 hv
   go_wp2_with fail
   refine region_upto 8 mixed rfl (by kernel_rfl) (by kernel_rfl) (by kernel_rfl) (kV (stK k G q b)) (kV_keep _) (forall_ops ⟨?_,?_,?_,?_,?_,?_,?_,?_,trivial⟩) ?_
   ·intro a w hk
    have s5:a.tmps.getD 5 undef=.int .i64 k:=hk.was 5 (by kernel_rfl) rfl
    exact step_move rfl rfl s5 rfl
   ·intro a w hk
    have s5:a.tmps.getD 5 undef=.int .i64 k:=hk.was 5 (by kernel_rfl) rfl
    exact step_move rfl rfl s5 rfl
   ·intro a w hk
    have s3:a.tmps.getD 3 undef=.pointer (some ⟨G+1,0,none⟩):=hk.was 3 (by kernel_rfl) rfl
    have s11:=hk.eq_ 1 11 (by kernel_rfl) rfl
    refine step_val (v:=.pointer (some ⟨G+1,k,none⟩)) (w':=w) rfl ?_ (Ext.refl w) rfl
    have hk4:(k:Int) < 4:=by have:=HK.out;omega
    go_simp
   ·intro a w hk
    have s12:=hk.eq_ 2 12 (by kernel_rfl) rfl
    refine step_val (v:=.int .i64 q) (w':=w) rfl ?_ (Ext.refl w) rfl
    have hc:=cell_at hk.ext HCQ.out
    go_simp
   ·intro a w hk
    have s5:a.tmps.getD 5 undef=.int .i64 k:=hk.was 5 (by kernel_rfl) rfl
    exact step_move rfl rfl s5 rfl
   ·intro a w hk
    have s2:a.tmps.getD 2 undef=.pointer (some ⟨G,0,none⟩):=hk.was 2 (by kernel_rfl) rfl
    have s14:=hk.eq_ 4 14 (by kernel_rfl) rfl
    refine step_val (v:=.pointer (some ⟨G,k,none⟩)) (w':=w) rfl ?_ (Ext.refl w) rfl
    have hk4:(k:Int) < 4:=by have:=HK.out;omega
    go_simp
   ·intro a w hk
    have s15:=hk.eq_ 5 15 (by kernel_rfl) rfl
    refine step_val (v:=.int .u8 b) (w':=w) rfl ?_ (Ext.refl w) rfl
    have hc:=cell_at hk.ext HCB.out
    go_simp
   ·intro a w hk
    have s13:=hk.eq_ 3 13 (by kernel_rfl) rfl
    have s16:=hk.eq_ 6 16 (by kernel_rfl) rfl
    exact step_call rfl rfl (by simp only [List.map_toArray,List.map_cons,List.map_nil,Act.eval,s13,s16]<;>rfl) cf15 (HQ.out w) (fun e w1 h=>by obtain ⟨rfl,hx⟩:=h;exact ⟨_,rfl,hx,rfl⟩)
   ·intro a w1 hf
    have s10:=hf.eq_ 0 10 (by kernel_rfl) rfl
    have s11:=hf.eq_ 1 11 (by kernel_rfl) rfl
    have s12:=hf.eq_ 2 12 (by kernel_rfl) rfl
    have s13:=hf.eq_ 3 13 (by kernel_rfl) rfl
    have s14:=hf.eq_ 4 14 (by kernel_rfl) rfl
    have s15:=hf.eq_ 5 15 (by kernel_rfl) rfl
    have s16:=hf.eq_ 6 16 (by kernel_rfl) rfl
    have s17:=hf.eq_ 7 17 (by kernel_rfl) rfl
    have hx:=hf.ext
    have e:=hf.frame
    clear hf
    simp only [List.take_succ_cons,List.take_zero,regFrame,Act.put,List.setIfInBounds_toArray,List.set_cons_zero,List.set_cons_succ,s10,s11,s12,s13,s14,s15,s16,s17] at e
    clear s10 s11 s12 s13 s14 s15 s16 s17
    subst e
    simp only [List.drop_succ_cons,List.drop_zero]
    have hB:=HBB.out.later hx
    have hf:=hB.frozen k
    have hc:=cell_at hx HCB.out
    have HS:=hid (hB.set_ k (UInt8.ofNat (replB x left k)))
    rw [mixTo_set,replB_toNat] at HS
    have HQ2:=hid (show ∀ v,∀ i,i < 4→(w1.setCell ⟨G,k,none⟩ v).cell? ⟨G+1,i,none⟩=some (.int .i64 (ordN left i:Nat)) from fun v i hi=>by rw [World.cell?_setCell_other _ _ _ _ (by intro h;simp only [Addr.mk.injEq] at h;omega)];exact cell_at hx (HQQ.out i hi))
    have HR2:=hid (fun v=>(HRR.out.later hx).setne ⟨G,k,none⟩ v (by simp;omega))
    have HX2:=hid (fun v=>(HXX.out.trans hx).setCell (p:=⟨G,k,none⟩) (by have:=HGE.out;simp;omega) v)
    rw [hrb.out]
    clear hx hB
    go_wp2_with fail
    go_roundw
    case rel=>exact ⟨k+1,by omega,by go_num,HS.out,HQ2.out _,HR2.out _,HX2.out _⟩
    case measure=>simp [intOf];omega
  ·obtain rfl:k=4:=by omega
   rw [mixTo_full,byB_repl] at hb
   have HBB:=hid hb
   have HRR:=hid hr
   have HL:=hid (show (byB (replW x left)).length=4 by simp [byB])
   have HXX:=hid (Below.setRow_ hx (show w.heap.size≤G+1+1 by have:=HGE.out;omega) (cellsOf (byB (replW x left))).toArray)
   have HFI:=hid (hr.put (byB (replW x left)))
   obtain ⟨Y,hY⟩:∃ Y,byB (replW x left)=Y:=⟨_,rfl⟩
   have HY:=hid hY
   rw [hY] at HBB HXX HFI HL
   clear hb hr hx hY hq4
   go_wp2_with (first
    | (refine wpList_load_row rfl 241 (.tmp 2) rfl G rfl 241 _ (0,0) _ HBB.out Tryz.underlying241 rfl (in68 _ HL.out) ?_)
    | (refine wpList_store_row rfl 241 (.tmp 4) (.tmp 19) rfl (G+1+1) (cellsOf Y).toArray rfl rfl 241 _ HRR.out (in68 _ HL.out) (by simp [cellsOf,HL.out]) (cells_all Y) ?_))
   (try simp only [Exit.jump])
   exact ret_cell rfl rfl (G+1+1) 241 _ (0,0) rfl HFI.out Tryz.underlying241 (in68 _ HL.out) ⟨by rw [HY.out],HXX.out⟩
end Go.Proofs.YtbgkmicelmenfaaGreatDoor.T
namespace Go.Proofs.YtbgkmicelmenfaaGreatDoor.T
open Go.RowKit
set_option maxRecDepth 100000
theorem shrR_lt:∀ i,i < 4→∀ j,j < 8→shrR i j < 256:=by decide
theorem shift_x (L a b t:Nat) (h:L < 2 ^ t):(L+a*2 ^ t) ^^^ (b*2 ^ t)=L+(a ^^^ b)*2 ^ t:=by
 have e:∀ c,L+c*2 ^ t=c*2 ^ t ||| L:=fun c=>by
  rw [Nat.mul_comm,Nat.add_comm];exact Nat.two_pow_add_eq_or_of_lt h c
 rw [e,e]
 apply Nat.eq_of_testBit_eq
 intro k
 simp only [Nat.testBit_xor,Nat.testBit_or,Nat.testBit_mul_two_pow]
 by_cases hk:t≤k
 ·rw [Nat.testBit_lt_two_pow (Nat.lt_of_lt_of_le h (Nat.pow_le_pow_right (by omega) hk))];simp [hk]
 ·simp [hk]
def zS (m:List UInt8) (i k:Nat):Nat:=wdN (shrB m) i+sumG 333 (shrR i) (bl m) k*256 ^ i
theorem zS_zero (m:List UInt8) (i:Nat):zS m i 0=wdN (shrB m) i:=by simp [zS,sumG]
theorem zS_eight (m:List UInt8) (i:Nat):zS m i 8=wdN (shrB m) (i+1):=rfl
theorem zS_lt (m:List UInt8) (i k:Nat):zS m i k < 256 ^ (i+1):=by
 have h1:=wdN_lt (shrB_lt m) i
 have h2:=sumG_lt r333 (row:=shrR i) (bl_lt m) k
 have h3:sumG 333 (shrR i) (bl m) k*256 ^ i≤255*256 ^ i:=Nat.mul_le_mul_right _ (by omega)
 unfold zS
 rw [Nat.pow_succ];omega
theorem zS_step (m:List UInt8) (i k:Nat) (hi:i < 4) (hk:k < 8):bits .xor .u32 ((zS m i k:Nat):Int) ((gm 333 (shrR i k) (bl m k):Int)*2 ^ (8*i) % 4294967296)=((zS m i (k+1):Nat):Int):=by
 have hg:=gm_lt r333 (shrR_lt i hi k hk) (bl m k)
 have hz:=zS_lt m i k
 have hL:=wdN_lt (shrB_lt m) i
 have h3:(256:Nat) ^ (i+1)≤256 ^ 4:=Nat.pow_le_pow_right (by omega) (by omega)
 have h4:gm 333 (shrR i k) (bl m k)*256 ^ i < 256 ^ (i+1):=by rw [Nat.pow_succ,Nat.mul_comm];exact Nat.mul_lt_mul_of_pos_left hg (Nat.pow_pos (by omega))
 have e:(gm 333 (shrR i k) (bl m k):Int)*2 ^ (8*i) % 4294967296=((gm 333 (shrR i k) (bl m k)*256 ^ i:Nat):Int):=by
  have:(gm 333 (shrR i k) (bl m k):Int)*2 ^ (8*i)=((gm 333 (shrR i k) (bl m k)*256 ^ i:Nat):Int):=by
   rw [Int.natCast_mul,Int.natCast_pow,Int.pow_mul];rfl
  rw [this];omega
 rw [e,u32_xor_nat _ _ (by omega) (by omega)]
 congr 1
 unfold zS
 rw [pow8] at hL ⊢
 rw [shift_x _ _ _ _ hL,sumG,gm_comm r333 (shrR_lt i hi k hk) (bl_lt m k)]
theorem wpList_run {ops:Array Oper} {rest:List Oper} {o:Oper} {a:Act} {w:World} {Q:Exit→Act→World→Prop} (op:Op) (v:Value) (hgd:o.guard=none) (_ho:o.op=op) (he:(execOp a.eval o).run Tryz.prog w=.ok (.value v) w)
  (hk:wpList Tryz.prog ops Q rest (a.put o.dst v) w):wpList Tryz.prog ops Q (o::rest) a w:=by
 refine wpList_plain hgd fun K hK'=>?_
 unfold Oper.wp
 rw [he]
 exact hK' _ _ hk
theorem shrC_all:shrC.toArray.all (·.oneCell')=true:=by decide +kernel
theorem shrC_size:shrC.toArray.size=32:=rfl
set_option maxHeartbeats 4000000 in
theorem told_any (m:List UInt8) (A:Option Addr) (c:Nat) (w:World) (hr:Rd w w.heap.size A 8 m) :
  Calls Tryz.prog 132 #[.slice A 8 c] w fun e w'=>e=.returned (.int .u32 ((shrW m).toNat:Nat))∧Ext w w':=by
 obtain ⟨b,o,rfl,hb,hc⟩:=hr.at_ (by omega)
 have HCB:=hid (show ∀ k,k < 8→w.cell? ⟨b,o+k,none⟩=some (.int .u8 (bl m k:Nat)) from hc)
 clear hc hr hb
 go_enter Tryz.func132,Tryz.ntmps132
 go_wp2_with (first
  | (refine wpList_run (.build 230 #[(0,.tmp 7),(1,.tmp 8),(2,.tmp 9),(3,.tmp 10)]) (.agg shrC.toArray) rfl rfl (by kernel_rfl) ?_)
  | (refine wpList_store_row rfl 230 (.tmp 3) (.tmp 11) rfl w.heap.size shrC.toArray rfl rfl 230 _ (heap_alloc_new _ _) (by rw [shrC_size];kernel_rfl) (by rw [shrC_size];rfl) shrC_all ?_))
 have hm:=new_row w #[.int .u8 0,.int .u8 0,.int .u8 0,.int .u8 0,.int .u8 0,.int .u8 0,.int .u8 0,.int .u8 0,.int .u8 0,.int .u8 0,.int .u8 0,.int .u8 0,.int .u8 0,.int .u8 0,.int .u8 0,.int .u8 0,.int .u8 0,.int .u8 0,.int .u8 0,.int .u8 0,.int .u8 0,.int .u8 0,.int .u8 0,.int .u8 0,.int .u8 0,.int .u8 0,.int .u8 0,.int .u8 0,.int .u8 0,.int .u8 0,.int .u8 0,.int .u8 0] shrC.toArray 230
 obtain ⟨W5,h5⟩:∃ W5,(w.alloc (Obj.cells #[.int .u8 0,.int .u8 0,.int .u8 0,.int .u8 0,.int .u8 0,.int .u8 0,.int .u8 0,.int .u8 0,.int .u8 0,.int .u8 0,.int .u8 0,.int .u8 0,.int .u8 0,.int .u8 0,.int .u8 0,.int .u8 0,.int .u8 0,.int .u8 0,.int .u8 0,.int .u8 0,.int .u8 0,.int .u8 0,.int .u8 0,.int .u8 0,.int .u8 0,.int .u8 0,.int .u8 0,.int .u8 0,.int .u8 0,.int .u8 0,.int .u8 0,.int .u8 0] 230)).setRow w.heap.size shrC.toArray=W5:=⟨_,rfl⟩
 rw [h5] at hm ⊢
 obtain ⟨hm,hmx⟩:=hm
 obtain ⟨M,hM⟩:∃ M,w.heap.size=M:=⟨_,rfl⟩
 rw [hM] at hm ⊢
 have HMT:=hid (show ∀ i,i < 4→∀ k,k < 8→W5.cell? ⟨M,i*8+k,none⟩=some (.int .u8 (shrR i k:Nat)) from fun i hi k hk=>by
  rw [cell_of_row W5 M _ _ _ _ hm]
  have hj:i*8+k < 32:=by omega
  have e:shrC[i*8+k]? = some (.int .u8 (shrR ((i*8+k) / 8) ((i*8+k) % 8):Nat)):=by simp [shrC,hj]
  rw [show (i*8+k) / 8=i by omega,show (i*8+k) % 8=k by omega] at e
  simpa using e)
 have HBY:=hid (show ∀ k,k < 8→W5.cell? ⟨b,o+k,none⟩=some (.int .u8 (bl m k:Nat)) from fun k hk=>cell_at hmx (HCB.out k hk))
 have HX:=hid hmx
 clear hm hmx h5 hM HCB
 go_loopw [4,5] (fun z i wr=>∃ I:Nat,I≤4∧i=.int .i64 I∧z=.int .u32 (wdN (shrB m) I:Nat)∧∃ nd,wr=W5.drewN nd) (fun _ i _=>4 - (intOf i).toNat)
 case atStart=>exact ⟨0,by omega,rfl,rfl,0,rfl⟩
 case round =>
  obtain ⟨I,hI,rfl,rfl,nd,hnd⟩:=hrel
  by_cases hIl:I < 4
  ·have hIl2:(I:Int) < 4:=by omega
   go_wp2_with fail
   have HND:=hid hnd
   have HIL:=hid hIl
   clear hnd hIl hI
   go_loopw [4,6] (fun z k wr=>∃ K:Nat,K≤8∧k=.int .i64 K∧z=.int .u32 (zS m I K:Nat)∧∃ nd,wr=W5.drewN nd) (fun _ k _=>8 - (intOf k).toNat)
   case atStart=>exact ⟨0,by omega,rfl,by rw [zS_zero],nd,by first | rfl | exact HND.out⟩
   case round =>
    obtain ⟨K,hK,rfl,rfl,nd2,hnd2⟩:=hrel
    by_cases hKl:K < 8
    ·have hmc:wr.cell? ⟨M,I*8+K,none⟩=some (.int .u8 (shrR I K:Nat)):=by rw [hnd2];exact HMT.out I HIL.out K hKl
     have hbc:wr.cell? ⟨b,o+K,none⟩=some (.int .u8 (bl m K:Nat)):=by rw [hnd2];exact HBY.out K hKl
     have l1:=shrR_lt I HIL.out K hKl
     have l2:=bl_lt m K
     have hz:=zS_step m I K HIL.out hKl
     have hg:=gm_lt r333 l1 (bl m K)
     have hzl:=zS_lt m I K
     have h3:(256:Nat) ^ (I+1)≤256 ^ 4:=Nat.pow_le_pow_right (by omega) (by have:=HIL.out;omega)
     have HC:=hid (fun w=>rmul_any (shrR I K) (bl m K) 333 w r333 l1 l2)
     obtain ⟨m1,hm1⟩:∃ m1,shrR I K=m1:=⟨_,rfl⟩
     obtain ⟨b2,hb2⟩:∃ b2,bl m K=b2:=⟨_,rfl⟩
     rw [hm1,hb2] at hz hg HC
     rw [hm1] at hmc l1
     rw [hb2] at hbc l2
     obtain ⟨g,hge⟩:∃ g,gm 333 m1 b2=g:=⟨_,rfl⟩
     rw [hge] at hz hg HC
     obtain ⟨z,hze⟩:∃ z,zS m I K=z:=⟨_,rfl⟩
     have hz32:z < 4294967296:=by omega
     rw [hze] at hz ⊢
     have HZ:=hid hz
     have HN2:=hid hnd2
     have hIl3:I < 4:=HIL.out
     clear hm1 hb2 hge hze hzl h3 hz hnd2
     go_wp2_with fail
     go_quiet ((go_at_call 179;exact quietSame (HC.out _)))
     go_wp2_with fail
     rw [HZ.out]
     exact ⟨⟨K+1,by omega,by go_num,rfl,nd2+nq,by rw [HN2.out];exact drewN_add W5 nd2 nq⟩,by simp [intOf];omega⟩
    ·obtain rfl:K=8:=by omega
     have HN2:=hid hnd2
     rw [zS_eight]
     clear hnd2
     go_wp2_with fail
     exact ⟨⟨I+1,by have:=HIL.out;omega,by go_num,rfl,nd2,by first | rfl | exact HN2.out⟩,by have:=HIL.out;simp [intOf];omega⟩
  ·obtain rfl:I=4:=by omega
   have e1:=wd4_toNat (shrB_lt m)
   have HX3:=hid (show Ext w wr by rw [hnd];exact HX.out.drewN nd)
   rw [← e1]
   clear e1 hnd
   go_wp2_with fail
   go_ret
   exact ⟨rfl,HX3.out⟩
end Go.Proofs.YtbgkmicelmenfaaGreatDoor.T
namespace Go.Proofs.YtbgkmicelmenfaaGreatDoor.T
open Go.RowKit
set_option maxRecDepth 100000
theorem cf35 (vs:Array Value) (w:World):(callFunc 180 vs).run Tryz.prog w=.ok (.enter 180 vs) w:=by go_simp
theorem cf36 (vs:Array Value) (w:World):(callFunc 181 vs).run Tryz.prog w=.ok (.enter 181 vs) w:=by go_simp
theorem byB_len (x:UInt32):(byB x).length=4:=by simp [byB]
theorem laid_zero (x:UInt32) (w:World):Calls Tryz.prog 180 #[.agg #[.int .u8 0,.int .u8 0,.int .u8 0,.int .u8 0],.int .u32 (x.toNat:Nat)] w (Ret4 w x):=by
 have h:=laid_any 0 x w
 rw [UInt32.zero_xor] at h
 exact h
theorem exec_ld68 {t g:Nat} {o:Oper} {a:Act} {w:World} {L:List UInt8} (ho:o.op=.load 241 (.tmp t)) (hp:a.tmps.getD t undef=.pointer (some ⟨g,0,none⟩)) (h:BB w g 241 L) (hl:L.length=4) :
  (execOp a.eval o).run Tryz.prog w=.ok (.value (.agg (cellsOf L).toArray)) w:=by
 have h1:=load_tab (ty:=241) (g:=g) (n:=4) (cs:=cellsOf L) (w:=w) sz68 ag68 (by rw [cellsOf_length];exact hl) (fun j v hv=>by
  rw [cell_of_row w g j _ _ _ h];simpa using hv)
 unfold execOp
 simp only [ho,Act.eval,hp,Instr.loadAt,Instr.sureAddr,Sem.run_bind,Sem.run_pure,Result.andThen_ok,h1]
theorem _root_.Go.Proofs.YtbgkmicelmenfaaGreatDoor.RdN.cellW {w:World} {b o n B:Nat} {l:List UInt32} (h:RdN .u32 w B (some ⟨b,o,none⟩) n (nW l)) (i:Nat) (hi:i < n) (h0:0 < n):w.cell? ⟨b,o+i,none⟩=some (.int .u32 ((l.getD i 0).toNat:Nat)):=by
 obtain ⟨b',o',e,_,hc⟩:=h.at_ h0
 cases e
 have hn:=h.len
 rw [nW_length] at hn
 rw [hc i hi,nW_get l i (by omega)]
theorem _root_.Go.Proofs.YtbgkmicelmenfaaGreatDoor.RdN.keepRow {kd:IntKind} {w:World} {b o n G K:Nat} {xs:List Int} (h:RdN kd w w.heap.size (some ⟨b,o,none⟩) n xs) (hG:b ≠ G∧K≤G) (cs:Array Value):RdN kd (w.setRow G cs) (w.setRow G cs).heap.size (some ⟨b,o,none⟩) n xs:=by
 refine ⟨h.len,fun hn=>?_⟩
 obtain ⟨b',o',e,hb,hc⟩:=h.at_ hn
 cases e
 refine ⟨_,_,rfl,by rw [setRow_size];exact hb,fun j hj=>?_⟩
 rw [← hc j hj]
 exact World.cell?_of_block (w:=w) (setRow_other w G _ cs hG.1)
def zP (x:UInt32) (i k:Nat):Nat:=wdN (mixB x) i+sumG 361 (mixR i) (bw x) k*256 ^ i
theorem zP_zero (x:UInt32) (i:Nat):zP x i 0=wdN (mixB x) i:=by simp [zP,sumG]
theorem zP_four (x:UInt32) (i:Nat):zP x i 4=wdN (mixB x) (i+1):=rfl
theorem zP_lt (x:UInt32) (i k:Nat):zP x i k < 256 ^ (i+1):=by
 have h1:=wdN_lt (mixB_lt x) i
 have h2:=sumG_lt r361 (row:=mixR i) (bw_lt x) k
 have h3:sumG 361 (mixR i) (bw x) k*256 ^ i≤255*256 ^ i:=Nat.mul_le_mul_right _ (by omega)
 unfold zP
 rw [Nat.pow_succ];omega
theorem shift_xor (L a b t:Nat) (h:L < 2 ^ t):(L+a*2 ^ t) ^^^ (b*2 ^ t)=L+(a ^^^ b)*2 ^ t:=by
 have e:∀ c,L+c*2 ^ t=c*2 ^ t ||| L:=fun c=>by
  rw [Nat.mul_comm,Nat.add_comm];exact Nat.two_pow_add_eq_or_of_lt h c
 rw [e,e]
 apply Nat.eq_of_testBit_eq
 intro k
 simp only [Nat.testBit_xor,Nat.testBit_or,Nat.testBit_mul_two_pow]
 by_cases hk:t≤k
 ·rw [Nat.testBit_lt_two_pow (Nat.lt_of_lt_of_le h (Nat.pow_le_pow_right (by omega) hk))];simp [hk]
 ·simp [hk]
theorem zP_step (x:UInt32) (i k:Nat) (hi:i < 4) (hk:k < 4):bits .xor .u32 ((zP x i k:Nat):Int) ((gm 361 (mixR i k) (bw x k):Int)*2 ^ (8*i) % 4294967296)=((zP x i (k+1):Nat):Int):=by
 have hg:=gm_lt r361 (mixR_lt i hi k hk) (bw x k)
 have hz:=zP_lt x i k
 have hL:=wdN_lt (mixB_lt x) i
 have h3:(256:Nat) ^ (i+1)≤256 ^ 4:=Nat.pow_le_pow_right (by omega) (by omega)
 have h4:gm 361 (mixR i k) (bw x k)*256 ^ i < 256 ^ (i+1):=by rw [Nat.pow_succ,Nat.mul_comm];exact Nat.mul_lt_mul_of_pos_left hg (Nat.pow_pos (by omega))
 have e:(gm 361 (mixR i k) (bw x k):Int)*2 ^ (8*i) % 4294967296=((gm 361 (mixR i k) (bw x k)*256 ^ i:Nat):Int):=by
  have:(gm 361 (mixR i k) (bw x k):Int)*2 ^ (8*i)=((gm 361 (mixR i k) (bw x k)*256 ^ i:Nat):Int):=by
   rw [Int.natCast_mul,Int.natCast_pow,Int.pow_mul];rfl
  rw [this];omega
 rw [e,u32_xor_nat _ _ (by omega) (by omega)]
 congr 1
 unfold zP
 rw [pow8] at hL ⊢
 rw [shift_xor _ _ _ _ hL,sumG,gm_comm r361 (mixR_lt i hi k hk) (bw_lt x k)]
def hK2_2 (X y:UInt32) (b o c:Nat):List K:=[.eq (.agg (cellsOf (byB X)).toArray),.eq (.agg #[.int .i64 0,.int .i64 1,.int .i64 0,.int .i64 1]),.eq (.agg (cellsOf (byB (replW X 2))).toArray),.eq (.slice (some ⟨b,o,none⟩) 2 c),.eq (.pointer (some ⟨b,o+1,none⟩)),.eq (.int .u32 (y.toNat:Nat)),.eq (.agg (cellsOf (byB (replW X 2 ^^^ y))).toArray),.any]
def hK1_2 (X y:UInt32) (b o c:Nat):List K:=[.eq (.agg (cellsOf (byB X)).toArray),.eq (.agg #[.int .i64 0,.int .i64 0,.int .i64 1,.int .i64 1]),.eq (.agg (cellsOf (byB (replW X 1))).toArray),.eq (.slice (some ⟨b,o,none⟩) 2 c),.eq (.pointer (some ⟨b,o,none⟩)),.eq (.int .u32 (y.toNat:Nat)),.eq (.agg (cellsOf (byB (replW X 1 ^^^ y))).toArray),.any]
def hK3_3 (X y:UInt32) (b o c:Nat):List K:=[.eq (.agg (cellsOf (byB X)).toArray),.eq (.agg #[.int .i64 1,.int .i64 1,.int .i64 0,.int .i64 0]),.eq (.agg (cellsOf (byB (replW X 3))).toArray),.eq (.slice (some ⟨b,o,none⟩) 3 c),.eq (.pointer (some ⟨b,o+2,none⟩)),.eq (.int .u32 (y.toNat:Nat)),.eq (.agg (cellsOf (byB (replW X 3 ^^^ y))).toArray),.any]
def hK2_3 (X y:UInt32) (b o c:Nat):List K:=[.eq (.agg (cellsOf (byB X)).toArray),.eq (.agg #[.int .i64 0,.int .i64 1,.int .i64 0,.int .i64 1]),.eq (.agg (cellsOf (byB (replW X 2))).toArray),.eq (.slice (some ⟨b,o,none⟩) 3 c),.eq (.pointer (some ⟨b,o+1,none⟩)),.eq (.int .u32 (y.toNat:Nat)),.eq (.agg (cellsOf (byB (replW X 2 ^^^ y))).toArray),.any]
def hK1_3 (X y:UInt32) (b o c:Nat):List K:=[.eq (.agg (cellsOf (byB X)).toArray),.eq (.agg #[.int .i64 0,.int .i64 0,.int .i64 1,.int .i64 1]),.eq (.agg (cellsOf (byB (replW X 1))).toArray),.eq (.slice (some ⟨b,o,none⟩) 3 c),.eq (.pointer (some ⟨b,o,none⟩)),.eq (.int .u32 (y.toNat:Nat)),.eq (.agg (cellsOf (byB (replW X 1 ^^^ y))).toArray),.any]
def hK4_4 (X y:UInt32) (b o c:Nat):List K:=[.eq (.agg (cellsOf (byB X)).toArray),.eq (.agg #[.int .i64 1,.int .i64 0,.int .i64 0,.int .i64 1]),.eq (.agg (cellsOf (byB (replW X 4))).toArray),.eq (.slice (some ⟨b,o,none⟩) 4 c),.eq (.pointer (some ⟨b,o+3,none⟩)),.eq (.int .u32 (y.toNat:Nat)),.eq (.agg (cellsOf (byB (replW X 4 ^^^ y))).toArray),.any]
def hK3_4 (X y:UInt32) (b o c:Nat):List K:=[.eq (.agg (cellsOf (byB X)).toArray),.eq (.agg #[.int .i64 1,.int .i64 1,.int .i64 0,.int .i64 0]),.eq (.agg (cellsOf (byB (replW X 3))).toArray),.eq (.slice (some ⟨b,o,none⟩) 4 c),.eq (.pointer (some ⟨b,o+2,none⟩)),.eq (.int .u32 (y.toNat:Nat)),.eq (.agg (cellsOf (byB (replW X 3 ^^^ y))).toArray),.any]
def hK2_4 (X y:UInt32) (b o c:Nat):List K:=[.eq (.agg (cellsOf (byB X)).toArray),.eq (.agg #[.int .i64 0,.int .i64 1,.int .i64 0,.int .i64 1]),.eq (.agg (cellsOf (byB (replW X 2))).toArray),.eq (.slice (some ⟨b,o,none⟩) 4 c),.eq (.pointer (some ⟨b,o+1,none⟩)),.eq (.int .u32 (y.toNat:Nat)),.eq (.agg (cellsOf (byB (replW X 2 ^^^ y))).toArray),.any]
def hK1_4 (X y:UInt32) (b o c:Nat):List K:=[.eq (.agg (cellsOf (byB X)).toArray),.eq (.agg #[.int .i64 0,.int .i64 0,.int .i64 1,.int .i64 1]),.eq (.agg (cellsOf (byB (replW X 1))).toArray),.eq (.slice (some ⟨b,o,none⟩) 4 c),.eq (.pointer (some ⟨b,o,none⟩)),.eq (.int .u32 (y.toNat:Nat)),.eq (.agg (cellsOf (byB (replW X 1 ^^^ y))).toArray),.any]
set_option maxHeartbeats 4000000 in
theorem rh2_any (x:UInt32) (l:List UInt32) (b o c:Nat) (w:World) (hl:RdN .u32 w w.heap.size (some ⟨b,o,none⟩) 2 (nW l)) :
  Calls Tryz.prog 133 #[.int .u32 (x.toNat:Nat),.slice (some ⟨b,o,none⟩) 2 c] w fun e w'=>e=.returned (.int .u32 ((HW x l).toNat:Nat))∧Ext w w':=by
 have HL0:=hid hl
 have hn:=hl.len
 rw [nW_length] at hn
 have HST:=hid (show hW l 2 x=HW x l by unfold HW;rw [hn])
 clear hl
 have HL1:=hid hn
 clear hn
 go_enter Tryz.func133,Tryz.ntmps133
 go_wp2_with (first
  | (go_at_call 180;refine (laid_zero x _).mono ?_;rintro e w1 ⟨rfl,hx1⟩;have HX1:=hid hx1;clear hx1)
  | (refine wpList_store_row rfl 241 (.tmp 5) (.tmp 12) rfl w1.heap.size (cellsOf (byB x)).toArray rfl rfl 241 _ (heap_alloc_new _ _) (in68 _ (byB_len _)) (by simp [cellsOf,byB_len]) (cells_all _) ?_))
 have hn:=new_row w1 #[.int .u8 0,.int .u8 0,.int .u8 0,.int .u8 0] (cellsOf (byB x)).toArray 241
 obtain ⟨W,hWW⟩:∃ W,(World.setRow (w1.alloc (.cells #[.int .u8 0,.int .u8 0,.int .u8 0,.int .u8 0] 241)) w1.heap.size (cellsOf (byB x)).toArray)=W:=⟨_,rfl⟩
 rw [hWW] at hn ⊢
 obtain ⟨G,hG⟩:∃ G,w1.heap.size=G:=⟨_,rfl⟩
 rw [hG] at hn ⊢
 have HB:=hid (show BB W G 241 (byB x) from hn.1)
 have HX:=hid (HX1.out.trans hn.2)
 have HL:=hid (HL0.out.later HX.out)
 have HG:=hid (show b ≠ G∧w.heap.size≤G by
  have h1:=Below.size HX1.out
  obtain ⟨b',o',e,hb,_⟩:=HL0.out.at_ (by omega)
  cases e
  omega)
 obtain ⟨X,hX⟩:∃ X,x=X:=⟨_,rfl⟩
 have HB2:=hid (show BB W G 241 (byB X) by rw [← hX];exact HB.out)
 have HST2:=hid (show hW l 2 X=HW x l by rw [← hX];exact HST.out)
 clear hn hWW hG HX1 HL0 hX HB HST
 have HB:=HB2
 have HST:=HST2
 clear HB2 HST2
 have hcy:=HL.out.cellW 1 (by omega) (by omega)
 obtain ⟨y,hy⟩:∃ y,l.getD 1 0=y:=⟨_,rfl⟩
 rw [hy] at hcy
 have HCY:=hid (show W.cell? ⟨b,o+1,none⟩=some (.int .u32 (y.toNat:Nat)) from hcy)
 have HY:=hid hy
 clear hcy hy
 refine region_upto 7 mixed rfl (by kernel_rfl) (by kernel_rfl) (by kernel_rfl) (kV (hK2_2 X y b o c)) (kV_keep _) (forall_ops ⟨?_,?_,?_,?_,?_,?_,?_,trivial⟩) ?_
 ·intro a w hk
  have s5:a.tmps.getD 5 undef=.pointer (some ⟨G,0,none⟩):=hk.was 5 (by kernel_rfl) rfl
  refine step_val (v:=.agg (cellsOf (byB X)).toArray) (w':=w) rfl ?_ (Ext.refl w) rfl
  exact exec_ld68 rfl s5 (HB.out.later hk.ext) (byB_len X)
 ·intro a w hk
  refine step_val (v:=.agg #[.int .i64 0,.int .i64 1,.int .i64 0,.int .i64 1]) (w':=w) rfl ?_ (Ext.refl w) rfl
  go_simp
 ·intro a w hk
  have s36:=hk.eq_ 0 36 (by kernel_rfl) rfl
  have s37:=hk.eq_ 1 37 (by kernel_rfl) rfl
  exact step_call rfl rfl (by simp only [List.map_toArray,List.map_cons,List.map_nil,Act.eval,s36,s37]<;>rfl) cf36 (stage_any X 2 0 1 0 1 w (by omega) rfl rfl rfl rfl) (fun e w1 h=>by obtain ⟨rfl,hx⟩:=h;exact ⟨_,rfl,hx,rfl⟩)
 ·intro a w hk
  have s1:a.tmps.getD 1 undef=.slice (some ⟨b,o,none⟩) 2 c:=hk.was 1 (by kernel_rfl) rfl
  exact step_move rfl rfl s1 rfl
 ·intro a w hk
  have s39:=hk.eq_ 3 39 (by kernel_rfl) rfl
  refine step_val (v:=.pointer (some ⟨b,o+1,none⟩)) (w':=w) rfl ?_ (Ext.refl w) rfl
  go_simp
 ·intro a w hk
  have s40:=hk.eq_ 4 40 (by kernel_rfl) rfl
  refine step_val (v:=.int .u32 (y.toNat:Nat)) (w':=w) rfl ?_ (Ext.refl w) rfl
  have hc:=cell_at hk.ext HCY.out
  go_simp
 ·intro a w hk
  have s38:=hk.eq_ 2 38 (by kernel_rfl) rfl
  have s41:=hk.eq_ 5 41 (by kernel_rfl) rfl
  exact step_call rfl rfl (by simp only [List.map_toArray,List.map_cons,List.map_nil,Act.eval,s38,s41]<;>rfl) cf35 (laid_any (replW X 2) y w) (fun e w1 h=>by obtain ⟨rfl,hx⟩:=h;exact ⟨_,rfl,hx,rfl⟩)
 ·intro a w1 hf
  have s36:=hf.eq_ 0 36 (by kernel_rfl) rfl
  have s37:=hf.eq_ 1 37 (by kernel_rfl) rfl
  have s38:=hf.eq_ 2 38 (by kernel_rfl) rfl
  have s39:=hf.eq_ 3 39 (by kernel_rfl) rfl
  have s40:=hf.eq_ 4 40 (by kernel_rfl) rfl
  have s41:=hf.eq_ 5 41 (by kernel_rfl) rfl
  have s42:=hf.eq_ 6 42 (by kernel_rfl) rfl
  have hx:=hf.ext
  have e:=hf.frame
  clear hf
  simp only [List.take_succ_cons,List.take_zero,regFrame,Act.put,List.setIfInBounds_toArray,List.set_cons_zero,List.set_cons_succ,s36,s37,s38,s39,s40,s41,s42] at e
  clear s36 s37 s38 s39 s40 s41 s42
  subst e
  simp only [List.drop_succ_cons,List.drop_zero]
  have HBX:=hid (HB.out.later hx)
  have HL2:=hid (HL.out.later hx)
  have HX2:=hid (Ext.trans HX.out hx)
  have HS:=hid (show replW X 2 ^^^ y=hStep l 1 X by rw [← HY.out];rfl)
  rw [HS.out]
  clear hx
  go_wp2_with (refine wpList_store_row rfl 241 (.tmp 5) (.tmp 42) rfl G (cellsOf (byB (hStep l 1 X))).toArray rfl rfl 241 _ HBX.out (in68 _ (byB_len _)) (by simp [cellsOf,byB_len]) (cells_all _) ?_)
  have HB3:=hid (HBX.out.put (byB (hStep l 1 X)))
  have HL3:=hid (HL2.out.keepRow HG.out (cellsOf (byB (hStep l 1 X))).toArray)
  have HX3:=hid (Below.setRow_ HX2.out HG.out.2 (cellsOf (byB (hStep l 1 X))).toArray)
  obtain ⟨W,hW2⟩:∃ W2,w1.setRow G (cellsOf (byB (hStep l 1 X))).toArray=W2:=⟨_,rfl⟩
  rw [hW2] at HB3 HL3 HX3 ⊢
  have HST2:=hid (show hW l 1 (hStep l 1 X)=HW x l from (hW_succ l 1 X).symm.trans HST.out)
  obtain ⟨X,hX2⟩:∃ X2,hStep l 1 X=X2:=⟨_,rfl⟩
  rw [hX2] at HB3 HST2 ⊢
  clear hW2 hX2 HB HL HX HST HBX HL2 HX2 HS HCY HY
  have HB:=HB3
  have HL:=HL3
  have HX:=HX3
  have HST:=HST2
  clear HB3 HL3 HX3 HST2
  have hcy:=HL.out.cellW 0 (by omega) (by omega)
  obtain ⟨y,hy⟩:∃ y,l.getD 0 0=y:=⟨_,rfl⟩
  rw [hy] at hcy
  have HCY:=hid (show W.cell? ⟨b,o,none⟩=some (.int .u32 (y.toNat:Nat)) from hcy)
  have HY:=hid hy
  clear hcy hy
  refine region_upto 7 mixed rfl (by kernel_rfl) (by kernel_rfl) (by kernel_rfl) (kV (hK1_2 X y b o c)) (kV_keep _) (forall_ops ⟨?_,?_,?_,?_,?_,?_,?_,trivial⟩) ?_
  ·intro a w hk
   have s5:a.tmps.getD 5 undef=.pointer (some ⟨G,0,none⟩):=hk.was 5 (by kernel_rfl) rfl
   refine step_val (v:=.agg (cellsOf (byB X)).toArray) (w':=w) rfl ?_ (Ext.refl w) rfl
   exact exec_ld68 rfl s5 (HB.out.later hk.ext) (byB_len X)
  ·intro a w hk
   refine step_val (v:=.agg #[.int .i64 0,.int .i64 0,.int .i64 1,.int .i64 1]) (w':=w) rfl ?_ (Ext.refl w) rfl
   go_simp
  ·intro a w hk
   have s43:=hk.eq_ 0 43 (by kernel_rfl) rfl
   have s44:=hk.eq_ 1 44 (by kernel_rfl) rfl
   exact step_call rfl rfl (by simp only [List.map_toArray,List.map_cons,List.map_nil,Act.eval,s43,s44]<;>rfl) cf36 (stage_any X 1 0 0 1 1 w (by omega) rfl rfl rfl rfl) (fun e w1 h=>by obtain ⟨rfl,hx⟩:=h;exact ⟨_,rfl,hx,rfl⟩)
  ·intro a w hk
   have s1:a.tmps.getD 1 undef=.slice (some ⟨b,o,none⟩) 2 c:=hk.was 1 (by kernel_rfl) rfl
   exact step_move rfl rfl s1 rfl
  ·intro a w hk
   have s46:=hk.eq_ 3 46 (by kernel_rfl) rfl
   refine step_val (v:=.pointer (some ⟨b,o,none⟩)) (w':=w) rfl ?_ (Ext.refl w) rfl
   go_simp
  ·intro a w hk
   have s47:=hk.eq_ 4 47 (by kernel_rfl) rfl
   refine step_val (v:=.int .u32 (y.toNat:Nat)) (w':=w) rfl ?_ (Ext.refl w) rfl
   have hc:=cell_at hk.ext HCY.out
   go_simp
  ·intro a w hk
   have s45:=hk.eq_ 2 45 (by kernel_rfl) rfl
   have s48:=hk.eq_ 5 48 (by kernel_rfl) rfl
   exact step_call rfl rfl (by simp only [List.map_toArray,List.map_cons,List.map_nil,Act.eval,s45,s48]<;>rfl) cf35 (laid_any (replW X 1) y w) (fun e w1 h=>by obtain ⟨rfl,hx⟩:=h;exact ⟨_,rfl,hx,rfl⟩)
  ·intro a w1 hf
   have s43:=hf.eq_ 0 43 (by kernel_rfl) rfl
   have s44:=hf.eq_ 1 44 (by kernel_rfl) rfl
   have s45:=hf.eq_ 2 45 (by kernel_rfl) rfl
   have s46:=hf.eq_ 3 46 (by kernel_rfl) rfl
   have s47:=hf.eq_ 4 47 (by kernel_rfl) rfl
   have s48:=hf.eq_ 5 48 (by kernel_rfl) rfl
   have s49:=hf.eq_ 6 49 (by kernel_rfl) rfl
   have hx:=hf.ext
   have e:=hf.frame
   clear hf
   simp only [List.take_succ_cons,List.take_zero,regFrame,Act.put,List.setIfInBounds_toArray,List.set_cons_zero,List.set_cons_succ,s43,s44,s45,s46,s47,s48,s49] at e
   clear s43 s44 s45 s46 s47 s48 s49
   subst e
   simp only [List.drop_succ_cons,List.drop_zero]
   have HBX:=hid (HB.out.later hx)
   have HL2:=hid (HL.out.later hx)
   have HX2:=hid (Ext.trans HX.out hx)
   have HS:=hid (show replW X 1 ^^^ y=hStep l 0 X by rw [← HY.out];rfl)
   rw [HS.out]
   clear hx
   have HB3:=hid (HBX.out.put (byB (hStep l 0 X)))
   have HX3:=hid (Below.setRow_ HX2.out HG.out.2 (cellsOf (byB (hStep l 0 X))).toArray)
   have HST2:=hid (show hEnd (hStep l 0 X)=HW x l from ((hW_zero l _).symm.trans (hW_succ l 0 X).symm).trans HST.out)
   obtain ⟨Z,hZ⟩:∃ Z,hStep l 0 X=Z:=⟨_,rfl⟩
   rw [hZ] at HB3 HX3 HST2 ⊢
   clear hZ HB HL HX HST HL2 HX2 HS HCY HY
   go_wp2_with (first
    | (refine wpList_store_row rfl 241 (.tmp 5) (.tmp 49) rfl G (cellsOf (byB Z)).toArray rfl rfl 241 _ HBX.out (in68 _ (byB_len _)) (by simp [cellsOf,byB_len]) (cells_all _) ?_)
    | (refine wpList_load_row rfl 241 (.tmp 5) rfl G rfl 241 _ (0,0) _ HB3.out Tryz.underlying241 rfl (in68 _ (byB_len Z)) ?_)
    | (go_at_call 181;refine (stage_any Z 0 1 0 1 0 _ (by omega) rfl rfl rfl rfl).mono ?_;rintro e w2 ⟨rfl,hx2⟩;have HB4:=hid (HB3.out.later hx2);have HX4:=hid (Ext.trans HX3.out hx2);clear hx2)
    | (refine wpList_store_row rfl 241 (.tmp 5) (.tmp 52) rfl G (cellsOf (byB (replW Z 0))).toArray rfl rfl 241 _ HB4.out (in68 _ (byB_len _)) (by simp [cellsOf,byB_len]) (cells_all _) ?_))
   have hm:=heap_alloc_new (w2.setRow G (cellsOf (byB (replW Z 0))).toArray) (Obj.cells #[.int .u8 1,.int .u8 239,.int .u8 91,.int .u8 91,.int .u8 91,.int .u8 239,.int .u8 239,.int .u8 1,.int .u8 239,.int .u8 91,.int .u8 1,.int .u8 239,.int .u8 239,.int .u8 1,.int .u8 239,.int .u8 91] 244)
   have hmx:=Ext.alloc (w2.setRow G (cellsOf (byB (replW Z 0))).toArray) (Obj.cells #[.int .u8 1,.int .u8 239,.int .u8 91,.int .u8 91,.int .u8 91,.int .u8 239,.int .u8 239,.int .u8 1,.int .u8 239,.int .u8 91,.int .u8 1,.int .u8 239,.int .u8 239,.int .u8 1,.int .u8 239,.int .u8 91] 244)
   have hby:=(HB4.out.put (byB (replW Z 0))).later hmx
   have hxx:=Ext.trans (Below.setRow_ HX4.out HG.out.2 (cellsOf (byB (replW Z 0))).toArray) hmx
   rw [setRow_size] at hm
   obtain ⟨W5,h5⟩:∃ W5,(w2.setRow G (cellsOf (byB (replW Z 0))).toArray).alloc (Obj.cells #[.int .u8 1,.int .u8 239,.int .u8 91,.int .u8 91,.int .u8 91,.int .u8 239,.int .u8 239,.int .u8 1,.int .u8 239,.int .u8 91,.int .u8 1,.int .u8 239,.int .u8 239,.int .u8 1,.int .u8 239,.int .u8 91] 244)=W5:=⟨_,rfl⟩
   rw [h5] at hm hby hxx ⊢
   obtain ⟨M,hM⟩:∃ M,w2.heap.size=M:=⟨_,rfl⟩
   rw [hM] at hm ⊢
   obtain ⟨Y,hY⟩:∃ Y,replW Z 0=Y:=⟨_,rfl⟩
   rw [hY] at hby
   have HST:=hid (show mixW Y=HW x l by rw [← HST2.out,← hY];rfl)
   have HMT:=hid (show ∀ i,i < 4→∀ k,k < 4→W5.cell? ⟨M,i*4+k,none⟩=some (.int .u8 (mixR i k:Nat)) from fun i hi k hk=>by
    rw [cell_of_row W5 M _ _ _ _ hm]
    rcases (show i=0∨i=1∨i=2∨i=3 by omega) with rfl | rfl | rfl | rfl<;>rcases (show k=0∨k=1∨k=2∨k=3 by omega) with rfl | rfl | rfl | rfl<;>rfl)
   have HBY:=hid (show ∀ k,k < 4→W5.cell? ⟨G,k,none⟩=some (.int .u8 (bw Y k:Nat)) from fun k hk=>by
    rw [hby.cell k (by rw [byB_len];exact hk),byB_bl Y k hk])
   have HX:=hid hxx
   clear hm hmx hby hxx h5 hM hY HBX HX3 HB3 HB4 HX4 HST2
   go_loopw [7,8] (fun z i wr=>∃ I:Nat,I≤4∧i=.int .i64 I∧z=.int .u32 (wdN (mixB Y) I:Nat)∧∃ nd,wr=W5.drewN nd) (fun _ i _=>4 - (intOf i).toNat)
   case atStart=>exact ⟨0,by omega,rfl,rfl,0,rfl⟩
   case round =>
    obtain ⟨I,hI,rfl,rfl,nd,hnd⟩:=hrel
    by_cases hIl:I < 4
    ·have hIl2:(I:Int) < 4:=by omega
     go_wp2_with fail
     have HND:=hid hnd
     have HIL:=hid hIl
     clear hnd hIl hI
     go_loopw [7,9] (fun z k wr=>∃ K:Nat,K≤4∧k=.int .i64 K∧z=.int .u32 (zP Y I K:Nat)∧∃ nd,wr=W5.drewN nd) (fun _ k _=>4 - (intOf k).toNat)
     case atStart=>exact ⟨0,by omega,rfl,by rw [zP_zero],nd,by first | rfl | exact HND.out⟩
     case round =>
      obtain ⟨K,hK,rfl,rfl,nd2,hnd2⟩:=hrel
      by_cases hKl:K < 4
      ·have hmc:wr.cell? ⟨M,I*4+K,none⟩=some (.int .u8 (mixR I K:Nat)):=by rw [hnd2];exact HMT.out I HIL.out K hKl
       have hbc:wr.cell? ⟨G,K,none⟩=some (.int .u8 (bw Y K:Nat)):=by rw [hnd2];exact HBY.out K hKl
       have l1:=mixR_lt I HIL.out K hKl
       have l2:=bw_lt Y K
       have hz:=zP_step Y I K HIL.out hKl
       have hg:=gm_lt r361 l1 (bw Y K)
       have hzl:=zP_lt Y I K
       have h3:(256:Nat) ^ (I+1)≤256 ^ 4:=Nat.pow_le_pow_right (by omega) (by have:=HIL.out;omega)
       have HC:=hid (fun w=>rmul_any (mixR I K) (bw Y K) 361 w r361 l1 l2)
       obtain ⟨m1,hm1⟩:∃ m1,mixR I K=m1:=⟨_,rfl⟩
       obtain ⟨b2,hb2⟩:∃ b2,bw Y K=b2:=⟨_,rfl⟩
       rw [hm1,hb2] at hz hg HC
       rw [hm1] at hmc l1
       rw [hb2] at hbc l2
       obtain ⟨g,hge⟩:∃ g,gm 361 m1 b2=g:=⟨_,rfl⟩
       rw [hge] at hz hg HC
       obtain ⟨z,hze⟩:∃ z,zP Y I K=z:=⟨_,rfl⟩
       have hz32:z < 4294967296:=by omega
       rw [hze] at hz ⊢
       have HZ:=hid hz
       have HN2:=hid hnd2
       have hIl3:I < 4:=HIL.out
       clear hm1 hb2 hge hze hzl h3 hz hnd2
       go_wp2_with fail
       go_quiet ((go_at_call 179;exact quietSame (HC.out _)))
       go_wp2_with fail
       rw [HZ.out]
       exact ⟨⟨K+1,by omega,by go_num,rfl,nd2+nq,by rw [HN2.out];exact drewN_add W5 nd2 nq⟩,by simp [intOf];omega⟩
      ·obtain rfl:K=4:=by omega
       have HN2:=hid hnd2
       rw [zP_four]
       clear hnd2
       go_wp2_with fail
       exact ⟨⟨I+1,by have:=HIL.out;omega,by go_num,rfl,nd2,by first | rfl | exact HN2.out⟩,by have:=HIL.out;simp [intOf];omega⟩
    ·obtain rfl:I=4:=by omega
     have e1:=wd4_toNat (mixB_lt Y)
     have HX3:=hid (show Ext w wr by rw [hnd];exact HX.out.drewN nd)
     rw [← e1]
     clear e1 hnd
     go_wp2_with fail
     go_ret
     exact ⟨ret_int (by rw [← HST.out];rfl),HX3.out⟩
set_option maxHeartbeats 4000000 in
theorem rh3_any (x:UInt32) (l:List UInt32) (b o c:Nat) (w:World) (hl:RdN .u32 w w.heap.size (some ⟨b,o,none⟩) 3 (nW l)) :
  Calls Tryz.prog 133 #[.int .u32 (x.toNat:Nat),.slice (some ⟨b,o,none⟩) 3 c] w fun e w'=>e=.returned (.int .u32 ((HW x l).toNat:Nat))∧Ext w w':=by
 have HL0:=hid hl
 have hn:=hl.len
 rw [nW_length] at hn
 have HST:=hid (show hW l 3 x=HW x l by unfold HW;rw [hn])
 clear hl
 have HL1:=hid hn
 clear hn
 go_enter Tryz.func133,Tryz.ntmps133
 go_wp2_with (first
  | (go_at_call 180;refine (laid_zero x _).mono ?_;rintro e w1 ⟨rfl,hx1⟩;have HX1:=hid hx1;clear hx1)
  | (refine wpList_store_row rfl 241 (.tmp 5) (.tmp 12) rfl w1.heap.size (cellsOf (byB x)).toArray rfl rfl 241 _ (heap_alloc_new _ _) (in68 _ (byB_len _)) (by simp [cellsOf,byB_len]) (cells_all _) ?_))
 have hn:=new_row w1 #[.int .u8 0,.int .u8 0,.int .u8 0,.int .u8 0] (cellsOf (byB x)).toArray 241
 obtain ⟨W,hWW⟩:∃ W,(World.setRow (w1.alloc (.cells #[.int .u8 0,.int .u8 0,.int .u8 0,.int .u8 0] 241)) w1.heap.size (cellsOf (byB x)).toArray)=W:=⟨_,rfl⟩
 rw [hWW] at hn ⊢
 obtain ⟨G,hG⟩:∃ G,w1.heap.size=G:=⟨_,rfl⟩
 rw [hG] at hn ⊢
 have HB:=hid (show BB W G 241 (byB x) from hn.1)
 have HX:=hid (HX1.out.trans hn.2)
 have HL:=hid (HL0.out.later HX.out)
 have HG:=hid (show b ≠ G∧w.heap.size≤G by
  have h1:=Below.size HX1.out
  obtain ⟨b',o',e,hb,_⟩:=HL0.out.at_ (by omega)
  cases e
  omega)
 obtain ⟨X,hX⟩:∃ X,x=X:=⟨_,rfl⟩
 have HB2:=hid (show BB W G 241 (byB X) by rw [← hX];exact HB.out)
 have HST2:=hid (show hW l 3 X=HW x l by rw [← hX];exact HST.out)
 clear hn hWW hG HX1 HL0 hX HB HST
 have HB:=HB2
 have HST:=HST2
 clear HB2 HST2
 have hcy:=HL.out.cellW 2 (by omega) (by omega)
 obtain ⟨y,hy⟩:∃ y,l.getD 2 0=y:=⟨_,rfl⟩
 rw [hy] at hcy
 have HCY:=hid (show W.cell? ⟨b,o+2,none⟩=some (.int .u32 (y.toNat:Nat)) from hcy)
 have HY:=hid hy
 clear hcy hy
 refine region_upto 7 mixed rfl (by kernel_rfl) (by kernel_rfl) (by kernel_rfl) (kV (hK3_3 X y b o c)) (kV_keep _) (forall_ops ⟨?_,?_,?_,?_,?_,?_,?_,trivial⟩) ?_
 ·intro a w hk
  have s5:a.tmps.getD 5 undef=.pointer (some ⟨G,0,none⟩):=hk.was 5 (by kernel_rfl) rfl
  refine step_val (v:=.agg (cellsOf (byB X)).toArray) (w':=w) rfl ?_ (Ext.refl w) rfl
  exact exec_ld68 rfl s5 (HB.out.later hk.ext) (byB_len X)
 ·intro a w hk
  refine step_val (v:=.agg #[.int .i64 1,.int .i64 1,.int .i64 0,.int .i64 0]) (w':=w) rfl ?_ (Ext.refl w) rfl
  go_simp
 ·intro a w hk
  have s26:=hk.eq_ 0 26 (by kernel_rfl) rfl
  have s27:=hk.eq_ 1 27 (by kernel_rfl) rfl
  exact step_call rfl rfl (by simp only [List.map_toArray,List.map_cons,List.map_nil,Act.eval,s26,s27]<;>rfl) cf36 (stage_any X 3 1 1 0 0 w (by omega) rfl rfl rfl rfl) (fun e w1 h=>by obtain ⟨rfl,hx⟩:=h;exact ⟨_,rfl,hx,rfl⟩)
 ·intro a w hk
  have s1:a.tmps.getD 1 undef=.slice (some ⟨b,o,none⟩) 3 c:=hk.was 1 (by kernel_rfl) rfl
  exact step_move rfl rfl s1 rfl
 ·intro a w hk
  have s29:=hk.eq_ 3 29 (by kernel_rfl) rfl
  refine step_val (v:=.pointer (some ⟨b,o+2,none⟩)) (w':=w) rfl ?_ (Ext.refl w) rfl
  go_simp
 ·intro a w hk
  have s30:=hk.eq_ 4 30 (by kernel_rfl) rfl
  refine step_val (v:=.int .u32 (y.toNat:Nat)) (w':=w) rfl ?_ (Ext.refl w) rfl
  have hc:=cell_at hk.ext HCY.out
  go_simp
 ·intro a w hk
  have s28:=hk.eq_ 2 28 (by kernel_rfl) rfl
  have s31:=hk.eq_ 5 31 (by kernel_rfl) rfl
  exact step_call rfl rfl (by simp only [List.map_toArray,List.map_cons,List.map_nil,Act.eval,s28,s31]<;>rfl) cf35 (laid_any (replW X 3) y w) (fun e w1 h=>by obtain ⟨rfl,hx⟩:=h;exact ⟨_,rfl,hx,rfl⟩)
 ·intro a w1 hf
  have s26:=hf.eq_ 0 26 (by kernel_rfl) rfl
  have s27:=hf.eq_ 1 27 (by kernel_rfl) rfl
  have s28:=hf.eq_ 2 28 (by kernel_rfl) rfl
  have s29:=hf.eq_ 3 29 (by kernel_rfl) rfl
  have s30:=hf.eq_ 4 30 (by kernel_rfl) rfl
  have s31:=hf.eq_ 5 31 (by kernel_rfl) rfl
  have s32:=hf.eq_ 6 32 (by kernel_rfl) rfl
  have hx:=hf.ext
  have e:=hf.frame
  clear hf
  simp only [List.take_succ_cons,List.take_zero,regFrame,Act.put,List.setIfInBounds_toArray,List.set_cons_zero,List.set_cons_succ,s26,s27,s28,s29,s30,s31,s32] at e
  clear s26 s27 s28 s29 s30 s31 s32
  subst e
  simp only [List.drop_succ_cons,List.drop_zero]
  have HBX:=hid (HB.out.later hx)
  have HL2:=hid (HL.out.later hx)
  have HX2:=hid (Ext.trans HX.out hx)
  have HS:=hid (show replW X 3 ^^^ y=hStep l 2 X by rw [← HY.out];rfl)
  rw [HS.out]
  clear hx
  go_wp2_with (refine wpList_store_row rfl 241 (.tmp 5) (.tmp 32) rfl G (cellsOf (byB (hStep l 2 X))).toArray rfl rfl 241 _ HBX.out (in68 _ (byB_len _)) (by simp [cellsOf,byB_len]) (cells_all _) ?_)
  have HB3:=hid (HBX.out.put (byB (hStep l 2 X)))
  have HL3:=hid (HL2.out.keepRow HG.out (cellsOf (byB (hStep l 2 X))).toArray)
  have HX3:=hid (Below.setRow_ HX2.out HG.out.2 (cellsOf (byB (hStep l 2 X))).toArray)
  obtain ⟨W,hW2⟩:∃ W2,w1.setRow G (cellsOf (byB (hStep l 2 X))).toArray=W2:=⟨_,rfl⟩
  rw [hW2] at HB3 HL3 HX3 ⊢
  have HST2:=hid (show hW l 2 (hStep l 2 X)=HW x l from (hW_succ l 2 X).symm.trans HST.out)
  obtain ⟨X,hX2⟩:∃ X2,hStep l 2 X=X2:=⟨_,rfl⟩
  rw [hX2] at HB3 HST2 ⊢
  clear hW2 hX2 HB HL HX HST HBX HL2 HX2 HS HCY HY
  have HB:=HB3
  have HL:=HL3
  have HX:=HX3
  have HST:=HST2
  clear HB3 HL3 HX3 HST2
  have hcy:=HL.out.cellW 1 (by omega) (by omega)
  obtain ⟨y,hy⟩:∃ y,l.getD 1 0=y:=⟨_,rfl⟩
  rw [hy] at hcy
  have HCY:=hid (show W.cell? ⟨b,o+1,none⟩=some (.int .u32 (y.toNat:Nat)) from hcy)
  have HY:=hid hy
  clear hcy hy
  refine region_upto 7 mixed rfl (by kernel_rfl) (by kernel_rfl) (by kernel_rfl) (kV (hK2_3 X y b o c)) (kV_keep _) (forall_ops ⟨?_,?_,?_,?_,?_,?_,?_,trivial⟩) ?_
  ·intro a w hk
   have s5:a.tmps.getD 5 undef=.pointer (some ⟨G,0,none⟩):=hk.was 5 (by kernel_rfl) rfl
   refine step_val (v:=.agg (cellsOf (byB X)).toArray) (w':=w) rfl ?_ (Ext.refl w) rfl
   exact exec_ld68 rfl s5 (HB.out.later hk.ext) (byB_len X)
  ·intro a w hk
   refine step_val (v:=.agg #[.int .i64 0,.int .i64 1,.int .i64 0,.int .i64 1]) (w':=w) rfl ?_ (Ext.refl w) rfl
   go_simp
  ·intro a w hk
   have s36:=hk.eq_ 0 36 (by kernel_rfl) rfl
   have s37:=hk.eq_ 1 37 (by kernel_rfl) rfl
   exact step_call rfl rfl (by simp only [List.map_toArray,List.map_cons,List.map_nil,Act.eval,s36,s37]<;>rfl) cf36 (stage_any X 2 0 1 0 1 w (by omega) rfl rfl rfl rfl) (fun e w1 h=>by obtain ⟨rfl,hx⟩:=h;exact ⟨_,rfl,hx,rfl⟩)
  ·intro a w hk
   have s1:a.tmps.getD 1 undef=.slice (some ⟨b,o,none⟩) 3 c:=hk.was 1 (by kernel_rfl) rfl
   exact step_move rfl rfl s1 rfl
  ·intro a w hk
   have s39:=hk.eq_ 3 39 (by kernel_rfl) rfl
   refine step_val (v:=.pointer (some ⟨b,o+1,none⟩)) (w':=w) rfl ?_ (Ext.refl w) rfl
   go_simp
  ·intro a w hk
   have s40:=hk.eq_ 4 40 (by kernel_rfl) rfl
   refine step_val (v:=.int .u32 (y.toNat:Nat)) (w':=w) rfl ?_ (Ext.refl w) rfl
   have hc:=cell_at hk.ext HCY.out
   go_simp
  ·intro a w hk
   have s38:=hk.eq_ 2 38 (by kernel_rfl) rfl
   have s41:=hk.eq_ 5 41 (by kernel_rfl) rfl
   exact step_call rfl rfl (by simp only [List.map_toArray,List.map_cons,List.map_nil,Act.eval,s38,s41]<;>rfl) cf35 (laid_any (replW X 2) y w) (fun e w1 h=>by obtain ⟨rfl,hx⟩:=h;exact ⟨_,rfl,hx,rfl⟩)
  ·intro a w1 hf
   have s36:=hf.eq_ 0 36 (by kernel_rfl) rfl
   have s37:=hf.eq_ 1 37 (by kernel_rfl) rfl
   have s38:=hf.eq_ 2 38 (by kernel_rfl) rfl
   have s39:=hf.eq_ 3 39 (by kernel_rfl) rfl
   have s40:=hf.eq_ 4 40 (by kernel_rfl) rfl
   have s41:=hf.eq_ 5 41 (by kernel_rfl) rfl
   have s42:=hf.eq_ 6 42 (by kernel_rfl) rfl
   have hx:=hf.ext
   have e:=hf.frame
   clear hf
   simp only [List.take_succ_cons,List.take_zero,regFrame,Act.put,List.setIfInBounds_toArray,List.set_cons_zero,List.set_cons_succ,s36,s37,s38,s39,s40,s41,s42] at e
   clear s36 s37 s38 s39 s40 s41 s42
   subst e
   simp only [List.drop_succ_cons,List.drop_zero]
   have HBX:=hid (HB.out.later hx)
   have HL2:=hid (HL.out.later hx)
   have HX2:=hid (Ext.trans HX.out hx)
   have HS:=hid (show replW X 2 ^^^ y=hStep l 1 X by rw [← HY.out];rfl)
   rw [HS.out]
   clear hx
   go_wp2_with (refine wpList_store_row rfl 241 (.tmp 5) (.tmp 42) rfl G (cellsOf (byB (hStep l 1 X))).toArray rfl rfl 241 _ HBX.out (in68 _ (byB_len _)) (by simp [cellsOf,byB_len]) (cells_all _) ?_)
   have HB3:=hid (HBX.out.put (byB (hStep l 1 X)))
   have HL3:=hid (HL2.out.keepRow HG.out (cellsOf (byB (hStep l 1 X))).toArray)
   have HX3:=hid (Below.setRow_ HX2.out HG.out.2 (cellsOf (byB (hStep l 1 X))).toArray)
   obtain ⟨W,hW2⟩:∃ W2,w1.setRow G (cellsOf (byB (hStep l 1 X))).toArray=W2:=⟨_,rfl⟩
   rw [hW2] at HB3 HL3 HX3 ⊢
   have HST2:=hid (show hW l 1 (hStep l 1 X)=HW x l from (hW_succ l 1 X).symm.trans HST.out)
   obtain ⟨X,hX2⟩:∃ X2,hStep l 1 X=X2:=⟨_,rfl⟩
   rw [hX2] at HB3 HST2 ⊢
   clear hW2 hX2 HB HL HX HST HBX HL2 HX2 HS HCY HY
   have HB:=HB3
   have HL:=HL3
   have HX:=HX3
   have HST:=HST2
   clear HB3 HL3 HX3 HST2
   have hcy:=HL.out.cellW 0 (by omega) (by omega)
   obtain ⟨y,hy⟩:∃ y,l.getD 0 0=y:=⟨_,rfl⟩
   rw [hy] at hcy
   have HCY:=hid (show W.cell? ⟨b,o,none⟩=some (.int .u32 (y.toNat:Nat)) from hcy)
   have HY:=hid hy
   clear hcy hy
   refine region_upto 7 mixed rfl (by kernel_rfl) (by kernel_rfl) (by kernel_rfl) (kV (hK1_3 X y b o c)) (kV_keep _) (forall_ops ⟨?_,?_,?_,?_,?_,?_,?_,trivial⟩) ?_
   ·intro a w hk
    have s5:a.tmps.getD 5 undef=.pointer (some ⟨G,0,none⟩):=hk.was 5 (by kernel_rfl) rfl
    refine step_val (v:=.agg (cellsOf (byB X)).toArray) (w':=w) rfl ?_ (Ext.refl w) rfl
    exact exec_ld68 rfl s5 (HB.out.later hk.ext) (byB_len X)
   ·intro a w hk
    refine step_val (v:=.agg #[.int .i64 0,.int .i64 0,.int .i64 1,.int .i64 1]) (w':=w) rfl ?_ (Ext.refl w) rfl
    go_simp
   ·intro a w hk
    have s43:=hk.eq_ 0 43 (by kernel_rfl) rfl
    have s44:=hk.eq_ 1 44 (by kernel_rfl) rfl
    exact step_call rfl rfl (by simp only [List.map_toArray,List.map_cons,List.map_nil,Act.eval,s43,s44]<;>rfl) cf36 (stage_any X 1 0 0 1 1 w (by omega) rfl rfl rfl rfl) (fun e w1 h=>by obtain ⟨rfl,hx⟩:=h;exact ⟨_,rfl,hx,rfl⟩)
   ·intro a w hk
    have s1:a.tmps.getD 1 undef=.slice (some ⟨b,o,none⟩) 3 c:=hk.was 1 (by kernel_rfl) rfl
    exact step_move rfl rfl s1 rfl
   ·intro a w hk
    have s46:=hk.eq_ 3 46 (by kernel_rfl) rfl
    refine step_val (v:=.pointer (some ⟨b,o,none⟩)) (w':=w) rfl ?_ (Ext.refl w) rfl
    go_simp
   ·intro a w hk
    have s47:=hk.eq_ 4 47 (by kernel_rfl) rfl
    refine step_val (v:=.int .u32 (y.toNat:Nat)) (w':=w) rfl ?_ (Ext.refl w) rfl
    have hc:=cell_at hk.ext HCY.out
    go_simp
   ·intro a w hk
    have s45:=hk.eq_ 2 45 (by kernel_rfl) rfl
    have s48:=hk.eq_ 5 48 (by kernel_rfl) rfl
    exact step_call rfl rfl (by simp only [List.map_toArray,List.map_cons,List.map_nil,Act.eval,s45,s48]<;>rfl) cf35 (laid_any (replW X 1) y w) (fun e w1 h=>by obtain ⟨rfl,hx⟩:=h;exact ⟨_,rfl,hx,rfl⟩)
   ·intro a w1 hf
    have s43:=hf.eq_ 0 43 (by kernel_rfl) rfl
    have s44:=hf.eq_ 1 44 (by kernel_rfl) rfl
    have s45:=hf.eq_ 2 45 (by kernel_rfl) rfl
    have s46:=hf.eq_ 3 46 (by kernel_rfl) rfl
    have s47:=hf.eq_ 4 47 (by kernel_rfl) rfl
    have s48:=hf.eq_ 5 48 (by kernel_rfl) rfl
    have s49:=hf.eq_ 6 49 (by kernel_rfl) rfl
    have hx:=hf.ext
    have e:=hf.frame
    clear hf
    simp only [List.take_succ_cons,List.take_zero,regFrame,Act.put,List.setIfInBounds_toArray,List.set_cons_zero,List.set_cons_succ,s43,s44,s45,s46,s47,s48,s49] at e
    clear s43 s44 s45 s46 s47 s48 s49
    subst e
    simp only [List.drop_succ_cons,List.drop_zero]
    have HBX:=hid (HB.out.later hx)
    have HL2:=hid (HL.out.later hx)
    have HX2:=hid (Ext.trans HX.out hx)
    have HS:=hid (show replW X 1 ^^^ y=hStep l 0 X by rw [← HY.out];rfl)
    rw [HS.out]
    clear hx
    have HB3:=hid (HBX.out.put (byB (hStep l 0 X)))
    have HX3:=hid (Below.setRow_ HX2.out HG.out.2 (cellsOf (byB (hStep l 0 X))).toArray)
    have HST2:=hid (show hEnd (hStep l 0 X)=HW x l from ((hW_zero l _).symm.trans (hW_succ l 0 X).symm).trans HST.out)
    obtain ⟨Z,hZ⟩:∃ Z,hStep l 0 X=Z:=⟨_,rfl⟩
    rw [hZ] at HB3 HX3 HST2 ⊢
    clear hZ HB HL HX HST HL2 HX2 HS HCY HY
    go_wp2_with (first
     | (refine wpList_store_row rfl 241 (.tmp 5) (.tmp 49) rfl G (cellsOf (byB Z)).toArray rfl rfl 241 _ HBX.out (in68 _ (byB_len _)) (by simp [cellsOf,byB_len]) (cells_all _) ?_)
     | (refine wpList_load_row rfl 241 (.tmp 5) rfl G rfl 241 _ (0,0) _ HB3.out Tryz.underlying241 rfl (in68 _ (byB_len Z)) ?_)
     | (go_at_call 181;refine (stage_any Z 0 1 0 1 0 _ (by omega) rfl rfl rfl rfl).mono ?_;rintro e w2 ⟨rfl,hx2⟩;have HB4:=hid (HB3.out.later hx2);have HX4:=hid (Ext.trans HX3.out hx2);clear hx2)
     | (refine wpList_store_row rfl 241 (.tmp 5) (.tmp 52) rfl G (cellsOf (byB (replW Z 0))).toArray rfl rfl 241 _ HB4.out (in68 _ (byB_len _)) (by simp [cellsOf,byB_len]) (cells_all _) ?_))
    have hm:=heap_alloc_new (w2.setRow G (cellsOf (byB (replW Z 0))).toArray) (Obj.cells #[.int .u8 1,.int .u8 239,.int .u8 91,.int .u8 91,.int .u8 91,.int .u8 239,.int .u8 239,.int .u8 1,.int .u8 239,.int .u8 91,.int .u8 1,.int .u8 239,.int .u8 239,.int .u8 1,.int .u8 239,.int .u8 91] 244)
    have hmx:=Ext.alloc (w2.setRow G (cellsOf (byB (replW Z 0))).toArray) (Obj.cells #[.int .u8 1,.int .u8 239,.int .u8 91,.int .u8 91,.int .u8 91,.int .u8 239,.int .u8 239,.int .u8 1,.int .u8 239,.int .u8 91,.int .u8 1,.int .u8 239,.int .u8 239,.int .u8 1,.int .u8 239,.int .u8 91] 244)
    have hby:=(HB4.out.put (byB (replW Z 0))).later hmx
    have hxx:=Ext.trans (Below.setRow_ HX4.out HG.out.2 (cellsOf (byB (replW Z 0))).toArray) hmx
    rw [setRow_size] at hm
    obtain ⟨W5,h5⟩:∃ W5,(w2.setRow G (cellsOf (byB (replW Z 0))).toArray).alloc (Obj.cells #[.int .u8 1,.int .u8 239,.int .u8 91,.int .u8 91,.int .u8 91,.int .u8 239,.int .u8 239,.int .u8 1,.int .u8 239,.int .u8 91,.int .u8 1,.int .u8 239,.int .u8 239,.int .u8 1,.int .u8 239,.int .u8 91] 244)=W5:=⟨_,rfl⟩
    rw [h5] at hm hby hxx ⊢
    obtain ⟨M,hM⟩:∃ M,w2.heap.size=M:=⟨_,rfl⟩
    rw [hM] at hm ⊢
    obtain ⟨Y,hY⟩:∃ Y,replW Z 0=Y:=⟨_,rfl⟩
    rw [hY] at hby
    have HST:=hid (show mixW Y=HW x l by rw [← HST2.out,← hY];rfl)
    have HMT:=hid (show ∀ i,i < 4→∀ k,k < 4→W5.cell? ⟨M,i*4+k,none⟩=some (.int .u8 (mixR i k:Nat)) from fun i hi k hk=>by
     rw [cell_of_row W5 M _ _ _ _ hm]
     rcases (show i=0∨i=1∨i=2∨i=3 by omega) with rfl | rfl | rfl | rfl<;>rcases (show k=0∨k=1∨k=2∨k=3 by omega) with rfl | rfl | rfl | rfl<;>rfl)
    have HBY:=hid (show ∀ k,k < 4→W5.cell? ⟨G,k,none⟩=some (.int .u8 (bw Y k:Nat)) from fun k hk=>by
     rw [hby.cell k (by rw [byB_len];exact hk),byB_bl Y k hk])
    have HX:=hid hxx
    clear hm hmx hby hxx h5 hM hY HBX HX3 HB3 HB4 HX4 HST2
    go_loopw [7,8] (fun z i wr=>∃ I:Nat,I≤4∧i=.int .i64 I∧z=.int .u32 (wdN (mixB Y) I:Nat)∧∃ nd,wr=W5.drewN nd) (fun _ i _=>4 - (intOf i).toNat)
    case atStart=>exact ⟨0,by omega,rfl,rfl,0,rfl⟩
    case round =>
     obtain ⟨I,hI,rfl,rfl,nd,hnd⟩:=hrel
     by_cases hIl:I < 4
     ·have hIl2:(I:Int) < 4:=by omega
      go_wp2_with fail
      have HND:=hid hnd
      have HIL:=hid hIl
      clear hnd hIl hI
      go_loopw [7,9] (fun z k wr=>∃ K:Nat,K≤4∧k=.int .i64 K∧z=.int .u32 (zP Y I K:Nat)∧∃ nd,wr=W5.drewN nd) (fun _ k _=>4 - (intOf k).toNat)
      case atStart=>exact ⟨0,by omega,rfl,by rw [zP_zero],nd,by first | rfl | exact HND.out⟩
      case round =>
       obtain ⟨K,hK,rfl,rfl,nd2,hnd2⟩:=hrel
       by_cases hKl:K < 4
       ·have hmc:wr.cell? ⟨M,I*4+K,none⟩=some (.int .u8 (mixR I K:Nat)):=by rw [hnd2];exact HMT.out I HIL.out K hKl
        have hbc:wr.cell? ⟨G,K,none⟩=some (.int .u8 (bw Y K:Nat)):=by rw [hnd2];exact HBY.out K hKl
        have l1:=mixR_lt I HIL.out K hKl
        have l2:=bw_lt Y K
        have hz:=zP_step Y I K HIL.out hKl
        have hg:=gm_lt r361 l1 (bw Y K)
        have hzl:=zP_lt Y I K
        have h3:(256:Nat) ^ (I+1)≤256 ^ 4:=Nat.pow_le_pow_right (by omega) (by have:=HIL.out;omega)
        have HC:=hid (fun w=>rmul_any (mixR I K) (bw Y K) 361 w r361 l1 l2)
        obtain ⟨m1,hm1⟩:∃ m1,mixR I K=m1:=⟨_,rfl⟩
        obtain ⟨b2,hb2⟩:∃ b2,bw Y K=b2:=⟨_,rfl⟩
        rw [hm1,hb2] at hz hg HC
        rw [hm1] at hmc l1
        rw [hb2] at hbc l2
        obtain ⟨g,hge⟩:∃ g,gm 361 m1 b2=g:=⟨_,rfl⟩
        rw [hge] at hz hg HC
        obtain ⟨z,hze⟩:∃ z,zP Y I K=z:=⟨_,rfl⟩
        have hz32:z < 4294967296:=by omega
        rw [hze] at hz ⊢
        have HZ:=hid hz
        have HN2:=hid hnd2
        have hIl3:I < 4:=HIL.out
        clear hm1 hb2 hge hze hzl h3 hz hnd2
        go_wp2_with fail
        go_quiet ((go_at_call 179;exact quietSame (HC.out _)))
        go_wp2_with fail
        rw [HZ.out]
        exact ⟨⟨K+1,by omega,by go_num,rfl,nd2+nq,by rw [HN2.out];exact drewN_add W5 nd2 nq⟩,by simp [intOf];omega⟩
       ·obtain rfl:K=4:=by omega
        have HN2:=hid hnd2
        rw [zP_four]
        clear hnd2
        go_wp2_with fail
        exact ⟨⟨I+1,by have:=HIL.out;omega,by go_num,rfl,nd2,by first | rfl | exact HN2.out⟩,by have:=HIL.out;simp [intOf];omega⟩
     ·obtain rfl:I=4:=by omega
      have e1:=wd4_toNat (mixB_lt Y)
      have HX3:=hid (show Ext w wr by rw [hnd];exact HX.out.drewN nd)
      rw [← e1]
      clear e1 hnd
      go_wp2_with fail
      go_ret
      exact ⟨ret_int (by rw [← HST.out];rfl),HX3.out⟩
set_option maxHeartbeats 4000000 in
theorem rh4_any (x:UInt32) (l:List UInt32) (b o c:Nat) (w:World) (hl:RdN .u32 w w.heap.size (some ⟨b,o,none⟩) 4 (nW l)) :
  Calls Tryz.prog 133 #[.int .u32 (x.toNat:Nat),.slice (some ⟨b,o,none⟩) 4 c] w fun e w'=>e=.returned (.int .u32 ((HW x l).toNat:Nat))∧Ext w w':=by
 have HL0:=hid hl
 have hn:=hl.len
 rw [nW_length] at hn
 have HST:=hid (show hW l 4 x=HW x l by unfold HW;rw [hn])
 clear hl
 have HL1:=hid hn
 clear hn
 go_enter Tryz.func133,Tryz.ntmps133
 go_wp2_with (first
  | (go_at_call 180;refine (laid_zero x _).mono ?_;rintro e w1 ⟨rfl,hx1⟩;have HX1:=hid hx1;clear hx1)
  | (refine wpList_store_row rfl 241 (.tmp 5) (.tmp 12) rfl w1.heap.size (cellsOf (byB x)).toArray rfl rfl 241 _ (heap_alloc_new _ _) (in68 _ (byB_len _)) (by simp [cellsOf,byB_len]) (cells_all _) ?_))
 have hn:=new_row w1 #[.int .u8 0,.int .u8 0,.int .u8 0,.int .u8 0] (cellsOf (byB x)).toArray 241
 obtain ⟨W,hWW⟩:∃ W,(World.setRow (w1.alloc (.cells #[.int .u8 0,.int .u8 0,.int .u8 0,.int .u8 0] 241)) w1.heap.size (cellsOf (byB x)).toArray)=W:=⟨_,rfl⟩
 rw [hWW] at hn ⊢
 obtain ⟨G,hG⟩:∃ G,w1.heap.size=G:=⟨_,rfl⟩
 rw [hG] at hn ⊢
 have HB:=hid (show BB W G 241 (byB x) from hn.1)
 have HX:=hid (HX1.out.trans hn.2)
 have HL:=hid (HL0.out.later HX.out)
 have HG:=hid (show b ≠ G∧w.heap.size≤G by
  have h1:=Below.size HX1.out
  obtain ⟨b',o',e,hb,_⟩:=HL0.out.at_ (by omega)
  cases e
  omega)
 obtain ⟨X,hX⟩:∃ X,x=X:=⟨_,rfl⟩
 have HB2:=hid (show BB W G 241 (byB X) by rw [← hX];exact HB.out)
 have HST2:=hid (show hW l 4 X=HW x l by rw [← hX];exact HST.out)
 clear hn hWW hG HX1 HL0 hX HB HST
 have HB:=HB2
 have HST:=HST2
 clear HB2 HST2
 have hcy:=HL.out.cellW 3 (by omega) (by omega)
 obtain ⟨y,hy⟩:∃ y,l.getD 3 0=y:=⟨_,rfl⟩
 rw [hy] at hcy
 have HCY:=hid (show W.cell? ⟨b,o+3,none⟩=some (.int .u32 (y.toNat:Nat)) from hcy)
 have HY:=hid hy
 clear hcy hy
 refine region_upto 7 mixed rfl (by kernel_rfl) (by kernel_rfl) (by kernel_rfl) (kV (hK4_4 X y b o c)) (kV_keep _) (forall_ops ⟨?_,?_,?_,?_,?_,?_,?_,trivial⟩) ?_
 ·intro a w hk
  have s5:a.tmps.getD 5 undef=.pointer (some ⟨G,0,none⟩):=hk.was 5 (by kernel_rfl) rfl
  refine step_val (v:=.agg (cellsOf (byB X)).toArray) (w':=w) rfl ?_ (Ext.refl w) rfl
  exact exec_ld68 rfl s5 (HB.out.later hk.ext) (byB_len X)
 ·intro a w hk
  refine step_val (v:=.agg #[.int .i64 1,.int .i64 0,.int .i64 0,.int .i64 1]) (w':=w) rfl ?_ (Ext.refl w) rfl
  go_simp
 ·intro a w hk
  have s16:=hk.eq_ 0 16 (by kernel_rfl) rfl
  have s17:=hk.eq_ 1 17 (by kernel_rfl) rfl
  exact step_call rfl rfl (by simp only [List.map_toArray,List.map_cons,List.map_nil,Act.eval,s16,s17]<;>rfl) cf36 (stage_any X 4 1 0 0 1 w (by omega) rfl rfl rfl rfl) (fun e w1 h=>by obtain ⟨rfl,hx⟩:=h;exact ⟨_,rfl,hx,rfl⟩)
 ·intro a w hk
  have s1:a.tmps.getD 1 undef=.slice (some ⟨b,o,none⟩) 4 c:=hk.was 1 (by kernel_rfl) rfl
  exact step_move rfl rfl s1 rfl
 ·intro a w hk
  have s19:=hk.eq_ 3 19 (by kernel_rfl) rfl
  refine step_val (v:=.pointer (some ⟨b,o+3,none⟩)) (w':=w) rfl ?_ (Ext.refl w) rfl
  go_simp
 ·intro a w hk
  have s20:=hk.eq_ 4 20 (by kernel_rfl) rfl
  refine step_val (v:=.int .u32 (y.toNat:Nat)) (w':=w) rfl ?_ (Ext.refl w) rfl
  have hc:=cell_at hk.ext HCY.out
  go_simp
 ·intro a w hk
  have s18:=hk.eq_ 2 18 (by kernel_rfl) rfl
  have s21:=hk.eq_ 5 21 (by kernel_rfl) rfl
  exact step_call rfl rfl (by simp only [List.map_toArray,List.map_cons,List.map_nil,Act.eval,s18,s21]<;>rfl) cf35 (laid_any (replW X 4) y w) (fun e w1 h=>by obtain ⟨rfl,hx⟩:=h;exact ⟨_,rfl,hx,rfl⟩)
 ·intro a w1 hf
  have s16:=hf.eq_ 0 16 (by kernel_rfl) rfl
  have s17:=hf.eq_ 1 17 (by kernel_rfl) rfl
  have s18:=hf.eq_ 2 18 (by kernel_rfl) rfl
  have s19:=hf.eq_ 3 19 (by kernel_rfl) rfl
  have s20:=hf.eq_ 4 20 (by kernel_rfl) rfl
  have s21:=hf.eq_ 5 21 (by kernel_rfl) rfl
  have s22:=hf.eq_ 6 22 (by kernel_rfl) rfl
  have hx:=hf.ext
  have e:=hf.frame
  clear hf
  simp only [List.take_succ_cons,List.take_zero,regFrame,Act.put,List.setIfInBounds_toArray,List.set_cons_zero,List.set_cons_succ,s16,s17,s18,s19,s20,s21,s22] at e
  clear s16 s17 s18 s19 s20 s21 s22
  subst e
  simp only [List.drop_succ_cons,List.drop_zero]
  have HBX:=hid (HB.out.later hx)
  have HL2:=hid (HL.out.later hx)
  have HX2:=hid (Ext.trans HX.out hx)
  have HS:=hid (show replW X 4 ^^^ y=hStep l 3 X by rw [← HY.out];rfl)
  rw [HS.out]
  clear hx
  go_wp2_with (refine wpList_store_row rfl 241 (.tmp 5) (.tmp 22) rfl G (cellsOf (byB (hStep l 3 X))).toArray rfl rfl 241 _ HBX.out (in68 _ (byB_len _)) (by simp [cellsOf,byB_len]) (cells_all _) ?_)
  have HB3:=hid (HBX.out.put (byB (hStep l 3 X)))
  have HL3:=hid (HL2.out.keepRow HG.out (cellsOf (byB (hStep l 3 X))).toArray)
  have HX3:=hid (Below.setRow_ HX2.out HG.out.2 (cellsOf (byB (hStep l 3 X))).toArray)
  obtain ⟨W,hW2⟩:∃ W2,w1.setRow G (cellsOf (byB (hStep l 3 X))).toArray=W2:=⟨_,rfl⟩
  rw [hW2] at HB3 HL3 HX3 ⊢
  have HST2:=hid (show hW l 3 (hStep l 3 X)=HW x l from (hW_succ l 3 X).symm.trans HST.out)
  obtain ⟨X,hX2⟩:∃ X2,hStep l 3 X=X2:=⟨_,rfl⟩
  rw [hX2] at HB3 HST2 ⊢
  clear hW2 hX2 HB HL HX HST HBX HL2 HX2 HS HCY HY
  have HB:=HB3
  have HL:=HL3
  have HX:=HX3
  have HST:=HST2
  clear HB3 HL3 HX3 HST2
  have hcy:=HL.out.cellW 2 (by omega) (by omega)
  obtain ⟨y,hy⟩:∃ y,l.getD 2 0=y:=⟨_,rfl⟩
  rw [hy] at hcy
  have HCY:=hid (show W.cell? ⟨b,o+2,none⟩=some (.int .u32 (y.toNat:Nat)) from hcy)
  have HY:=hid hy
  clear hcy hy
  refine region_upto 7 mixed rfl (by kernel_rfl) (by kernel_rfl) (by kernel_rfl) (kV (hK3_4 X y b o c)) (kV_keep _) (forall_ops ⟨?_,?_,?_,?_,?_,?_,?_,trivial⟩) ?_
  ·intro a w hk
   have s5:a.tmps.getD 5 undef=.pointer (some ⟨G,0,none⟩):=hk.was 5 (by kernel_rfl) rfl
   refine step_val (v:=.agg (cellsOf (byB X)).toArray) (w':=w) rfl ?_ (Ext.refl w) rfl
   exact exec_ld68 rfl s5 (HB.out.later hk.ext) (byB_len X)
  ·intro a w hk
   refine step_val (v:=.agg #[.int .i64 1,.int .i64 1,.int .i64 0,.int .i64 0]) (w':=w) rfl ?_ (Ext.refl w) rfl
   go_simp
  ·intro a w hk
   have s26:=hk.eq_ 0 26 (by kernel_rfl) rfl
   have s27:=hk.eq_ 1 27 (by kernel_rfl) rfl
   exact step_call rfl rfl (by simp only [List.map_toArray,List.map_cons,List.map_nil,Act.eval,s26,s27]<;>rfl) cf36 (stage_any X 3 1 1 0 0 w (by omega) rfl rfl rfl rfl) (fun e w1 h=>by obtain ⟨rfl,hx⟩:=h;exact ⟨_,rfl,hx,rfl⟩)
  ·intro a w hk
   have s1:a.tmps.getD 1 undef=.slice (some ⟨b,o,none⟩) 4 c:=hk.was 1 (by kernel_rfl) rfl
   exact step_move rfl rfl s1 rfl
  ·intro a w hk
   have s29:=hk.eq_ 3 29 (by kernel_rfl) rfl
   refine step_val (v:=.pointer (some ⟨b,o+2,none⟩)) (w':=w) rfl ?_ (Ext.refl w) rfl
   go_simp
  ·intro a w hk
   have s30:=hk.eq_ 4 30 (by kernel_rfl) rfl
   refine step_val (v:=.int .u32 (y.toNat:Nat)) (w':=w) rfl ?_ (Ext.refl w) rfl
   have hc:=cell_at hk.ext HCY.out
   go_simp
  ·intro a w hk
   have s28:=hk.eq_ 2 28 (by kernel_rfl) rfl
   have s31:=hk.eq_ 5 31 (by kernel_rfl) rfl
   exact step_call rfl rfl (by simp only [List.map_toArray,List.map_cons,List.map_nil,Act.eval,s28,s31]<;>rfl) cf35 (laid_any (replW X 3) y w) (fun e w1 h=>by obtain ⟨rfl,hx⟩:=h;exact ⟨_,rfl,hx,rfl⟩)
  ·intro a w1 hf
   have s26:=hf.eq_ 0 26 (by kernel_rfl) rfl
   have s27:=hf.eq_ 1 27 (by kernel_rfl) rfl
   have s28:=hf.eq_ 2 28 (by kernel_rfl) rfl
   have s29:=hf.eq_ 3 29 (by kernel_rfl) rfl
   have s30:=hf.eq_ 4 30 (by kernel_rfl) rfl
   have s31:=hf.eq_ 5 31 (by kernel_rfl) rfl
   have s32:=hf.eq_ 6 32 (by kernel_rfl) rfl
   have hx:=hf.ext
   have e:=hf.frame
   clear hf
   simp only [List.take_succ_cons,List.take_zero,regFrame,Act.put,List.setIfInBounds_toArray,List.set_cons_zero,List.set_cons_succ,s26,s27,s28,s29,s30,s31,s32] at e
   clear s26 s27 s28 s29 s30 s31 s32
   subst e
   simp only [List.drop_succ_cons,List.drop_zero]
   have HBX:=hid (HB.out.later hx)
   have HL2:=hid (HL.out.later hx)
   have HX2:=hid (Ext.trans HX.out hx)
   have HS:=hid (show replW X 3 ^^^ y=hStep l 2 X by rw [← HY.out];rfl)
   rw [HS.out]
   clear hx
   go_wp2_with (refine wpList_store_row rfl 241 (.tmp 5) (.tmp 32) rfl G (cellsOf (byB (hStep l 2 X))).toArray rfl rfl 241 _ HBX.out (in68 _ (byB_len _)) (by simp [cellsOf,byB_len]) (cells_all _) ?_)
   have HB3:=hid (HBX.out.put (byB (hStep l 2 X)))
   have HL3:=hid (HL2.out.keepRow HG.out (cellsOf (byB (hStep l 2 X))).toArray)
   have HX3:=hid (Below.setRow_ HX2.out HG.out.2 (cellsOf (byB (hStep l 2 X))).toArray)
   obtain ⟨W,hW2⟩:∃ W2,w1.setRow G (cellsOf (byB (hStep l 2 X))).toArray=W2:=⟨_,rfl⟩
   rw [hW2] at HB3 HL3 HX3 ⊢
   have HST2:=hid (show hW l 2 (hStep l 2 X)=HW x l from (hW_succ l 2 X).symm.trans HST.out)
   obtain ⟨X,hX2⟩:∃ X2,hStep l 2 X=X2:=⟨_,rfl⟩
   rw [hX2] at HB3 HST2 ⊢
   clear hW2 hX2 HB HL HX HST HBX HL2 HX2 HS HCY HY
   have HB:=HB3
   have HL:=HL3
   have HX:=HX3
   have HST:=HST2
   clear HB3 HL3 HX3 HST2
   have hcy:=HL.out.cellW 1 (by omega) (by omega)
   obtain ⟨y,hy⟩:∃ y,l.getD 1 0=y:=⟨_,rfl⟩
   rw [hy] at hcy
   have HCY:=hid (show W.cell? ⟨b,o+1,none⟩=some (.int .u32 (y.toNat:Nat)) from hcy)
   have HY:=hid hy
   clear hcy hy
   refine region_upto 7 mixed rfl (by kernel_rfl) (by kernel_rfl) (by kernel_rfl) (kV (hK2_4 X y b o c)) (kV_keep _) (forall_ops ⟨?_,?_,?_,?_,?_,?_,?_,trivial⟩) ?_
   ·intro a w hk
    have s5:a.tmps.getD 5 undef=.pointer (some ⟨G,0,none⟩):=hk.was 5 (by kernel_rfl) rfl
    refine step_val (v:=.agg (cellsOf (byB X)).toArray) (w':=w) rfl ?_ (Ext.refl w) rfl
    exact exec_ld68 rfl s5 (HB.out.later hk.ext) (byB_len X)
   ·intro a w hk
    refine step_val (v:=.agg #[.int .i64 0,.int .i64 1,.int .i64 0,.int .i64 1]) (w':=w) rfl ?_ (Ext.refl w) rfl
    go_simp
   ·intro a w hk
    have s36:=hk.eq_ 0 36 (by kernel_rfl) rfl
    have s37:=hk.eq_ 1 37 (by kernel_rfl) rfl
    exact step_call rfl rfl (by simp only [List.map_toArray,List.map_cons,List.map_nil,Act.eval,s36,s37]<;>rfl) cf36 (stage_any X 2 0 1 0 1 w (by omega) rfl rfl rfl rfl) (fun e w1 h=>by obtain ⟨rfl,hx⟩:=h;exact ⟨_,rfl,hx,rfl⟩)
   ·intro a w hk
    have s1:a.tmps.getD 1 undef=.slice (some ⟨b,o,none⟩) 4 c:=hk.was 1 (by kernel_rfl) rfl
    exact step_move rfl rfl s1 rfl
   ·intro a w hk
    have s39:=hk.eq_ 3 39 (by kernel_rfl) rfl
    refine step_val (v:=.pointer (some ⟨b,o+1,none⟩)) (w':=w) rfl ?_ (Ext.refl w) rfl
    go_simp
   ·intro a w hk
    have s40:=hk.eq_ 4 40 (by kernel_rfl) rfl
    refine step_val (v:=.int .u32 (y.toNat:Nat)) (w':=w) rfl ?_ (Ext.refl w) rfl
    have hc:=cell_at hk.ext HCY.out
    go_simp
   ·intro a w hk
    have s38:=hk.eq_ 2 38 (by kernel_rfl) rfl
    have s41:=hk.eq_ 5 41 (by kernel_rfl) rfl
    exact step_call rfl rfl (by simp only [List.map_toArray,List.map_cons,List.map_nil,Act.eval,s38,s41]<;>rfl) cf35 (laid_any (replW X 2) y w) (fun e w1 h=>by obtain ⟨rfl,hx⟩:=h;exact ⟨_,rfl,hx,rfl⟩)
   ·intro a w1 hf
    have s36:=hf.eq_ 0 36 (by kernel_rfl) rfl
    have s37:=hf.eq_ 1 37 (by kernel_rfl) rfl
    have s38:=hf.eq_ 2 38 (by kernel_rfl) rfl
    have s39:=hf.eq_ 3 39 (by kernel_rfl) rfl
    have s40:=hf.eq_ 4 40 (by kernel_rfl) rfl
    have s41:=hf.eq_ 5 41 (by kernel_rfl) rfl
    have s42:=hf.eq_ 6 42 (by kernel_rfl) rfl
    have hx:=hf.ext
    have e:=hf.frame
    clear hf
    simp only [List.take_succ_cons,List.take_zero,regFrame,Act.put,List.setIfInBounds_toArray,List.set_cons_zero,List.set_cons_succ,s36,s37,s38,s39,s40,s41,s42] at e
    clear s36 s37 s38 s39 s40 s41 s42
    subst e
    simp only [List.drop_succ_cons,List.drop_zero]
    have HBX:=hid (HB.out.later hx)
    have HL2:=hid (HL.out.later hx)
    have HX2:=hid (Ext.trans HX.out hx)
    have HS:=hid (show replW X 2 ^^^ y=hStep l 1 X by rw [← HY.out];rfl)
    rw [HS.out]
    clear hx
    go_wp2_with (refine wpList_store_row rfl 241 (.tmp 5) (.tmp 42) rfl G (cellsOf (byB (hStep l 1 X))).toArray rfl rfl 241 _ HBX.out (in68 _ (byB_len _)) (by simp [cellsOf,byB_len]) (cells_all _) ?_)
    have HB3:=hid (HBX.out.put (byB (hStep l 1 X)))
    have HL3:=hid (HL2.out.keepRow HG.out (cellsOf (byB (hStep l 1 X))).toArray)
    have HX3:=hid (Below.setRow_ HX2.out HG.out.2 (cellsOf (byB (hStep l 1 X))).toArray)
    obtain ⟨W,hW2⟩:∃ W2,w1.setRow G (cellsOf (byB (hStep l 1 X))).toArray=W2:=⟨_,rfl⟩
    rw [hW2] at HB3 HL3 HX3 ⊢
    have HST2:=hid (show hW l 1 (hStep l 1 X)=HW x l from (hW_succ l 1 X).symm.trans HST.out)
    obtain ⟨X,hX2⟩:∃ X2,hStep l 1 X=X2:=⟨_,rfl⟩
    rw [hX2] at HB3 HST2 ⊢
    clear hW2 hX2 HB HL HX HST HBX HL2 HX2 HS HCY HY
    have HB:=HB3
    have HL:=HL3
    have HX:=HX3
    have HST:=HST2
    clear HB3 HL3 HX3 HST2
    have hcy:=HL.out.cellW 0 (by omega) (by omega)
    obtain ⟨y,hy⟩:∃ y,l.getD 0 0=y:=⟨_,rfl⟩
    rw [hy] at hcy
    have HCY:=hid (show W.cell? ⟨b,o,none⟩=some (.int .u32 (y.toNat:Nat)) from hcy)
    have HY:=hid hy
    clear hcy hy
    refine region_upto 7 mixed rfl (by kernel_rfl) (by kernel_rfl) (by kernel_rfl) (kV (hK1_4 X y b o c)) (kV_keep _) (forall_ops ⟨?_,?_,?_,?_,?_,?_,?_,trivial⟩) ?_
    ·intro a w hk
     have s5:a.tmps.getD 5 undef=.pointer (some ⟨G,0,none⟩):=hk.was 5 (by kernel_rfl) rfl
     refine step_val (v:=.agg (cellsOf (byB X)).toArray) (w':=w) rfl ?_ (Ext.refl w) rfl
     exact exec_ld68 rfl s5 (HB.out.later hk.ext) (byB_len X)
    ·intro a w hk
     refine step_val (v:=.agg #[.int .i64 0,.int .i64 0,.int .i64 1,.int .i64 1]) (w':=w) rfl ?_ (Ext.refl w) rfl
     go_simp
    ·intro a w hk
     have s43:=hk.eq_ 0 43 (by kernel_rfl) rfl
     have s44:=hk.eq_ 1 44 (by kernel_rfl) rfl
     exact step_call rfl rfl (by simp only [List.map_toArray,List.map_cons,List.map_nil,Act.eval,s43,s44]<;>rfl) cf36 (stage_any X 1 0 0 1 1 w (by omega) rfl rfl rfl rfl) (fun e w1 h=>by obtain ⟨rfl,hx⟩:=h;exact ⟨_,rfl,hx,rfl⟩)
    ·intro a w hk
     have s1:a.tmps.getD 1 undef=.slice (some ⟨b,o,none⟩) 4 c:=hk.was 1 (by kernel_rfl) rfl
     exact step_move rfl rfl s1 rfl
    ·intro a w hk
     have s46:=hk.eq_ 3 46 (by kernel_rfl) rfl
     refine step_val (v:=.pointer (some ⟨b,o,none⟩)) (w':=w) rfl ?_ (Ext.refl w) rfl
     go_simp
    ·intro a w hk
     have s47:=hk.eq_ 4 47 (by kernel_rfl) rfl
     refine step_val (v:=.int .u32 (y.toNat:Nat)) (w':=w) rfl ?_ (Ext.refl w) rfl
     have hc:=cell_at hk.ext HCY.out
     go_simp
    ·intro a w hk
     have s45:=hk.eq_ 2 45 (by kernel_rfl) rfl
     have s48:=hk.eq_ 5 48 (by kernel_rfl) rfl
     exact step_call rfl rfl (by simp only [List.map_toArray,List.map_cons,List.map_nil,Act.eval,s45,s48]<;>rfl) cf35 (laid_any (replW X 1) y w) (fun e w1 h=>by obtain ⟨rfl,hx⟩:=h;exact ⟨_,rfl,hx,rfl⟩)
    ·intro a w1 hf
     have s43:=hf.eq_ 0 43 (by kernel_rfl) rfl
     have s44:=hf.eq_ 1 44 (by kernel_rfl) rfl
     have s45:=hf.eq_ 2 45 (by kernel_rfl) rfl
     have s46:=hf.eq_ 3 46 (by kernel_rfl) rfl
     have s47:=hf.eq_ 4 47 (by kernel_rfl) rfl
     have s48:=hf.eq_ 5 48 (by kernel_rfl) rfl
     have s49:=hf.eq_ 6 49 (by kernel_rfl) rfl
     have hx:=hf.ext
     have e:=hf.frame
     clear hf
     simp only [List.take_succ_cons,List.take_zero,regFrame,Act.put,List.setIfInBounds_toArray,List.set_cons_zero,List.set_cons_succ,s43,s44,s45,s46,s47,s48,s49] at e
     clear s43 s44 s45 s46 s47 s48 s49
     subst e
     simp only [List.drop_succ_cons,List.drop_zero]
     have HBX:=hid (HB.out.later hx)
     have HL2:=hid (HL.out.later hx)
     have HX2:=hid (Ext.trans HX.out hx)
     have HS:=hid (show replW X 1 ^^^ y=hStep l 0 X by rw [← HY.out];rfl)
     rw [HS.out]
     clear hx
     have HB3:=hid (HBX.out.put (byB (hStep l 0 X)))
     have HX3:=hid (Below.setRow_ HX2.out HG.out.2 (cellsOf (byB (hStep l 0 X))).toArray)
     have HST2:=hid (show hEnd (hStep l 0 X)=HW x l from ((hW_zero l _).symm.trans (hW_succ l 0 X).symm).trans HST.out)
     obtain ⟨Z,hZ⟩:∃ Z,hStep l 0 X=Z:=⟨_,rfl⟩
     rw [hZ] at HB3 HX3 HST2 ⊢
     clear hZ HB HL HX HST HL2 HX2 HS HCY HY
     go_wp2_with (first
      | (refine wpList_store_row rfl 241 (.tmp 5) (.tmp 49) rfl G (cellsOf (byB Z)).toArray rfl rfl 241 _ HBX.out (in68 _ (byB_len _)) (by simp [cellsOf,byB_len]) (cells_all _) ?_)
      | (refine wpList_load_row rfl 241 (.tmp 5) rfl G rfl 241 _ (0,0) _ HB3.out Tryz.underlying241 rfl (in68 _ (byB_len Z)) ?_)
      | (go_at_call 181;refine (stage_any Z 0 1 0 1 0 _ (by omega) rfl rfl rfl rfl).mono ?_;rintro e w2 ⟨rfl,hx2⟩;have HB4:=hid (HB3.out.later hx2);have HX4:=hid (Ext.trans HX3.out hx2);clear hx2)
      | (refine wpList_store_row rfl 241 (.tmp 5) (.tmp 52) rfl G (cellsOf (byB (replW Z 0))).toArray rfl rfl 241 _ HB4.out (in68 _ (byB_len _)) (by simp [cellsOf,byB_len]) (cells_all _) ?_))
     have hm:=heap_alloc_new (w2.setRow G (cellsOf (byB (replW Z 0))).toArray) (Obj.cells #[.int .u8 1,.int .u8 239,.int .u8 91,.int .u8 91,.int .u8 91,.int .u8 239,.int .u8 239,.int .u8 1,.int .u8 239,.int .u8 91,.int .u8 1,.int .u8 239,.int .u8 239,.int .u8 1,.int .u8 239,.int .u8 91] 244)
     have hmx:=Ext.alloc (w2.setRow G (cellsOf (byB (replW Z 0))).toArray) (Obj.cells #[.int .u8 1,.int .u8 239,.int .u8 91,.int .u8 91,.int .u8 91,.int .u8 239,.int .u8 239,.int .u8 1,.int .u8 239,.int .u8 91,.int .u8 1,.int .u8 239,.int .u8 239,.int .u8 1,.int .u8 239,.int .u8 91] 244)
     have hby:=(HB4.out.put (byB (replW Z 0))).later hmx
     have hxx:=Ext.trans (Below.setRow_ HX4.out HG.out.2 (cellsOf (byB (replW Z 0))).toArray) hmx
     rw [setRow_size] at hm
     obtain ⟨W5,h5⟩:∃ W5,(w2.setRow G (cellsOf (byB (replW Z 0))).toArray).alloc (Obj.cells #[.int .u8 1,.int .u8 239,.int .u8 91,.int .u8 91,.int .u8 91,.int .u8 239,.int .u8 239,.int .u8 1,.int .u8 239,.int .u8 91,.int .u8 1,.int .u8 239,.int .u8 239,.int .u8 1,.int .u8 239,.int .u8 91] 244)=W5:=⟨_,rfl⟩
     rw [h5] at hm hby hxx ⊢
     obtain ⟨M,hM⟩:∃ M,w2.heap.size=M:=⟨_,rfl⟩
     rw [hM] at hm ⊢
     obtain ⟨Y,hY⟩:∃ Y,replW Z 0=Y:=⟨_,rfl⟩
     rw [hY] at hby
     have HST:=hid (show mixW Y=HW x l by rw [← HST2.out,← hY];rfl)
     have HMT:=hid (show ∀ i,i < 4→∀ k,k < 4→W5.cell? ⟨M,i*4+k,none⟩=some (.int .u8 (mixR i k:Nat)) from fun i hi k hk=>by
      rw [cell_of_row W5 M _ _ _ _ hm]
      rcases (show i=0∨i=1∨i=2∨i=3 by omega) with rfl | rfl | rfl | rfl<;>rcases (show k=0∨k=1∨k=2∨k=3 by omega) with rfl | rfl | rfl | rfl<;>rfl)
     have HBY:=hid (show ∀ k,k < 4→W5.cell? ⟨G,k,none⟩=some (.int .u8 (bw Y k:Nat)) from fun k hk=>by
      rw [hby.cell k (by rw [byB_len];exact hk),byB_bl Y k hk])
     have HX:=hid hxx
     clear hm hmx hby hxx h5 hM hY HBX HX3 HB3 HB4 HX4 HST2
     go_loopw [7,8] (fun z i wr=>∃ I:Nat,I≤4∧i=.int .i64 I∧z=.int .u32 (wdN (mixB Y) I:Nat)∧∃ nd,wr=W5.drewN nd) (fun _ i _=>4 - (intOf i).toNat)
     case atStart=>exact ⟨0,by omega,rfl,rfl,0,rfl⟩
     case round =>
      obtain ⟨I,hI,rfl,rfl,nd,hnd⟩:=hrel
      by_cases hIl:I < 4
      ·have hIl2:(I:Int) < 4:=by omega
       go_wp2_with fail
       have HND:=hid hnd
       have HIL:=hid hIl
       clear hnd hIl hI
       go_loopw [7,9] (fun z k wr=>∃ K:Nat,K≤4∧k=.int .i64 K∧z=.int .u32 (zP Y I K:Nat)∧∃ nd,wr=W5.drewN nd) (fun _ k _=>4 - (intOf k).toNat)
       case atStart=>exact ⟨0,by omega,rfl,by rw [zP_zero],nd,by first | rfl | exact HND.out⟩
       case round =>
        obtain ⟨K,hK,rfl,rfl,nd2,hnd2⟩:=hrel
        by_cases hKl:K < 4
        ·have hmc:wr.cell? ⟨M,I*4+K,none⟩=some (.int .u8 (mixR I K:Nat)):=by rw [hnd2];exact HMT.out I HIL.out K hKl
         have hbc:wr.cell? ⟨G,K,none⟩=some (.int .u8 (bw Y K:Nat)):=by rw [hnd2];exact HBY.out K hKl
         have l1:=mixR_lt I HIL.out K hKl
         have l2:=bw_lt Y K
         have hz:=zP_step Y I K HIL.out hKl
         have hg:=gm_lt r361 l1 (bw Y K)
         have hzl:=zP_lt Y I K
         have h3:(256:Nat) ^ (I+1)≤256 ^ 4:=Nat.pow_le_pow_right (by omega) (by have:=HIL.out;omega)
         have HC:=hid (fun w=>rmul_any (mixR I K) (bw Y K) 361 w r361 l1 l2)
         obtain ⟨m1,hm1⟩:∃ m1,mixR I K=m1:=⟨_,rfl⟩
         obtain ⟨b2,hb2⟩:∃ b2,bw Y K=b2:=⟨_,rfl⟩
         rw [hm1,hb2] at hz hg HC
         rw [hm1] at hmc l1
         rw [hb2] at hbc l2
         obtain ⟨g,hge⟩:∃ g,gm 361 m1 b2=g:=⟨_,rfl⟩
         rw [hge] at hz hg HC
         obtain ⟨z,hze⟩:∃ z,zP Y I K=z:=⟨_,rfl⟩
         have hz32:z < 4294967296:=by omega
         rw [hze] at hz ⊢
         have HZ:=hid hz
         have HN2:=hid hnd2
         have hIl3:I < 4:=HIL.out
         clear hm1 hb2 hge hze hzl h3 hz hnd2
         go_wp2_with fail
         go_quiet ((go_at_call 179;exact quietSame (HC.out _)))
         go_wp2_with fail
         rw [HZ.out]
         exact ⟨⟨K+1,by omega,by go_num,rfl,nd2+nq,by rw [HN2.out];exact drewN_add W5 nd2 nq⟩,by simp [intOf];omega⟩
        ·obtain rfl:K=4:=by omega
         have HN2:=hid hnd2
         rw [zP_four]
         clear hnd2
         go_wp2_with fail
         exact ⟨⟨I+1,by have:=HIL.out;omega,by go_num,rfl,nd2,by first | rfl | exact HN2.out⟩,by have:=HIL.out;simp [intOf];omega⟩
      ·obtain rfl:I=4:=by omega
       have e1:=wd4_toNat (mixB_lt Y)
       have HX3:=hid (show Ext w wr by rw [hnd];exact HX.out.drewN nd)
       rw [← e1]
       clear e1 hnd
       go_wp2_with fail
       go_ret
       exact ⟨ret_int (by rw [← HST.out];rfl),HX3.out⟩
theorem rh_any (x:UInt32) (l:List UInt32) (A:Option Addr) (n c:Nat) (w:World) (hl:RdN .u32 w w.heap.size A n (nW l)) (h2:2≤n) (h4:n≤4) :
  Calls Tryz.prog 133 #[.int .u32 (x.toNat:Nat),.slice A n c] w fun e w'=>e=.returned (.int .u32 ((HW x l).toNat:Nat))∧Ext w w':=by
 obtain ⟨b,o,rfl,_,_⟩:=hl.at_ (by omega)
 rcases (show n=2∨n=3∨n=4 by omega) with rfl | rfl | rfl
 ·exact rh2_any x l b o c w hl
 ·exact rh3_any x l b o c w hl
 ·exact rh4_any x l b o c w hl
end Go.Proofs.YtbgkmicelmenfaaGreatDoor.T
namespace Go.Proofs.YtbgkmicelmenfaaGreatDoor.T
open Go.RowKit
set_option maxRecDepth 100000
section
variable {P:Program} {ops:Array Oper} {Q:Exit→Act→World→Prop} {r n:Nat}
theorem operIn {o:Oper} {a:Act} {w:World} {K:Act→World→Prop} (hnd:∀ c,o.op ≠ .defer c) (h:o.wp P a w K Q):o.wpIn (Fence.wide.inRound r) n P a w K Q:=by
 unfold Oper.wp at h
 unfold Oper.wpIn
 refine ⟨fun _ _=>trivial,?_⟩
 rw [Fence.inRound_round,Oper.semAt_some _ _ _ hnd]
 generalize (execOp a.eval o).run P w=res at *
 cases res with
 | ok x w' =>
   cases x<;>simp only [Oper.upon,Oper.uponIn] at h ⊢
   case value=>exact h
   case skip=>exact h
   case defer=>exact h
   case enter=>exact ⟨fun e=>by simp [Fence.wide] at e,CallsIn.inRound r (callsIn_wide.2 h)⟩
   case row=>exact ⟨fun e=>by simp [Fence.wide] at e,fun c cs _=>let ⟨v,w',rr,s⟩:=h c cs;⟨v,w',rr,stepsIn_wide.2 s⟩⟩
 | halt x w'=>cases x<;>simp only [Oper.upon,Oper.uponIn] at h ⊢<;>exact h
def noDefer (ops:Array Oper):Bool:=ops.all fun o=>match o.op with | .defer _=>false | _=>true
theorem noDefer_at {i:Nat} {o:Oper} (h:noDefer ops=true) (ho:ops[i]? = some o):∀ c,o.op ≠ .defer c:=fun c e=>by
 unfold noDefer at h
 rw [Array.all_eq_true_iff_forall_mem] at h
 have:=h o (Array.mem_of_getElem? ho)
 rw [e] at this
 cases this
theorem opIn {i:Nat} {a:Act} {w:World} {K:Act→World→Prop} (hno:¬ LetsOut Q) (hnd:noDefer ops=true) (h:wpOp P ops Q i K a w):wpOpIn (Fence.wide.inRound r) n P ops Q i K a w:=by
 unfold wpOp at h
 unfold wpOpIn
 cases ho:ops[i]? with
 | none=>rw [ho] at h;exact h
 | some o =>
   rw [ho] at h
   simp only at h ⊢
   split
   ·rename_i hw
    rw [if_pos hw] at h
    exact operIn (noDefer_at hnd ho) (h.resolve_right fun e=>hno e.2)
   ·rename_i hw
    rw [if_neg hw] at h
    exact ⟨fun _ _=>trivial,h⟩
theorem anyIn (hno:¬ LetsOut Q) (hnd:noDefer ops=true):∀ (fuel:Nat) (listed:Array Bool) (a:Act) (w:World),wpAny P .any ops Q fuel listed a w→wpAnyIn (Fence.wide.inRound r) n P .any ops Q fuel listed a w:=by
 intro fuel
 induction fuel with
 | zero=>intro listed a w h;exact h
 | succ fuel ih=>intro listed a w h;exact ⟨h.1,fun i hi=>wpOpIn_mono (fun a w=>ih _ a w) (opIn hno hnd (h.2 i hi))⟩
theorem region_any_in {id:Nat} {a:Act} {w:World} (hm:P.follows .mixedOrders=true) (hno:¬ LetsOut Q) (hnd:noDefer ops=true) (h:wpAny P .any ops Q ops.size (Array.replicate ops.size false) a { w with drawn:=w.drawn+1 }):(Code.region id ops true).wpIn (Fence.wide.inRound r) n P Q a w :=
 wpIn_region_any hm (anyIn hno hnd _ _ a _ h)
end
section
variable {P:Program} {l:List Oper} {V:Nat→World→Value→Prop} {a0:Act} {w0:World}
theorem inv_start:Inv l.toArray V a0 w0 (Array.replicate l.toArray.size false) a0 { w0 with drawn:=w0.drawn+1 }:=by
 refine ⟨by simp,Ext.drew w0,rfl,rfl,?_,fun _ _=>rfl,?_⟩
 ·intro j x _ hl
  rw [getD_replicate_false] at hl;cases hl
 ·intro j x t _ hl
  rw [getD_replicate_false] at hl;cases hl
theorem region_upto_in {Q:Exit→Act→World→Prop} {id n r m:Nat} (s:Nat) (hm:P.follows .mixedOrders=true) (hno:¬ LetsOut Q) (hnd:noDefer l.toArray=true) (hn:a0.tmps.size=n) (hok:regOk l.toArray n=true)
  (hs:uptoOk l.toArray s=true) (hseq:Region.seqB .any l.toArray (l.length - s) s (listedAt l.length s)=true)
  (V:Nat→World→Value→Prop) (hV:∀ i w w' v,Ext w w'→V i w v→V i w' v)
  (step:∀ i o,(l.take s).toArray[i]? = some o→∀ a w,Kn l.toArray V a0 w0 i a w→Step P l.toArray V Q i o a w)
  (last:∀ a w,Fin_ (l.take s).toArray V a0 w0 a w→wpList P l.toArray Q (l.drop s) a w):(Code.region id l.toArray true).wpIn (Fence.wide.inRound r) m P Q a0 w0:=by
 refine region_any_in hm hno hnd (wpAny_upto (V:=V) hok hn hs hseq hV step last l.toArray.size _ _ _ ?_ ?_ inv_start)
 ·simp
 ·intro j hl
  rw [getD_replicate_false] at hl;cases hl
structure InvO (l:List Oper) (V:Nat→World→Value→Prop) (a0:Act) (s1:Nat) (I1 I2:World→Prop) (listed:Array Bool) (a:Act) (w:World):Prop where
 inv:Inv l.toArray V a0 w listed a w
 pre:listed.getD s1 false=false→I1 w
 post:listed.getD s1 false=true→I2 w
theorem InvO.any {s1:Nat} {I1 I2:World→Prop} {listed:Array Bool} {a:Act} {w:World} (h:InvO l V a0 s1 I1 I2 listed a w):I1 w∨I2 w:=by
 cases hl:listed.getD s1 false with
 | false=>exact .inl (h.pre hl)
 | true=>exact .inr (h.post hl)
theorem wpAny_ou {Q:Exit→Act→World→Prop} {n s s1:Nat} {I1 I2:World→Prop} (hok:regOk l.toArray n=true) (hn:a0.tmps.size=n) (hs:uptoOk l.toArray s=true) (hseq:Region.seqB .any l.toArray (l.length - s) s (listedAt l.length s)=true)
  (hs1:s1 < s) {os:Oper} (hos:l[s1]? = some os) (hg:os.guard=none)
  (hV:∀ i w w' v,Ext w w'→V i w v→V i w' v) (h1:∀ w w',Ext w w'→I1 w→I1 w') (h2:∀ w w',Ext w w'→I2 w→I2 w')
  (step:∀ i o,(l.take s).toArray[i]? = some o→i ≠ s1→∀ a w,Kn l.toArray V a0 w i a w→(I1 w∨I2 w)→Step P l.toArray V Q i o a w)
  (wr:∀ a w,Kn l.toArray V a0 w s1 a w→I1 w→os.wp P a w (fun a' w'=>∃ v,a' = a.put os.dst v∧I2 w'∧V s1 w' v∧∀ i v,i ≠ s1→V i w v→V i w' v) Q)
  (last:∀ a w,Fin_ (l.take s).toArray V a0 w a w→I2 w→wpList P l.toArray Q (l.drop s) a w) :
  ∀ (fuel:Nat) (listed:Array Bool) (a:Act) (w:World),listed.toList.count false=fuel→(∀ j,listed.getD j false=true→j < s)→InvO l V a0 s1 I1 I2 listed a w→wpAny P .any l.toArray Q fuel listed a w:=by
 have hsn:s < l.length:=by
  unfold uptoOk at hs
  simp only [Bool.and_eq_true,decide_eq_true_eq,List.size_toArray] at hs
  exact hs.1.1
 have hlast:∀ (listed:Array Bool) (a:Act) (w:World),(∀ j,listed.getD j false=true→j < s)→InvO l V a0 s1 I1 I2 listed a w→(∀ j,j < s→listed.getD j false=true)→wpAny P .any l.toArray Q (listed.toList.count false) listed a w:=by
  intro listed a w hlo h hall
  have hsz:listed.size=l.length:=by rw [h.inv.lsize,List.size_toArray]
  have e:=listed_eq hsz (by omega) hall hlo
  have hc:listed.toList.count false=(l.drop s).length:=by
   rw [e]
   simp [listedAt,List.count_append,List.count_replicate]
  rw [hc]
  refine wpAny_of_seq (l.drop s) s listed a w (fun j=>by simp) (by rw [List.length_drop,e];exact hseq) (last a w ⟨Ext.refl _,h.inv.defers,h.inv.size,fun t ht=>h.inv.old t fun j x hx hd=>?_,fun j x t hx hd=>?_⟩ (h.post (hall s1 hs1)))
  ·cases hl:listed.getD j false with
   | false=>rfl
   | true =>
     have hj:=hlo j hl
     exact absurd hd (ht j x (by
      have:l[j]? = some x:=by simpa using hx
      simp [hj,this]))
  ·have hx2:(l.take s)[j]? = some x:=by simpa using hx
   have hj:j < s:=by
    rcases Nat.lt_or_ge j s with h1 | h1
    ·exact h1
    ·rw [List.getElem?_eq_none (by simp;omega)] at hx2;cases hx2
   rw [List.getElem?_take,if_pos hj] at hx2
   exact h.inv.new j x t (by simpa using hx2) (hall j hj) hd
 intro fuel
 induction fuel with
 | zero =>
   intro listed a w hc hlo h
   by_cases hall:∀ j,j < s→listed.getD j false=true
   ·rw [← hc];exact hlast listed a w hlo h hall
   ·exfalso
    refine hall fun j hj=>?_
    have hjs:j < listed.size:=by rw [h.inv.lsize,List.size_toArray];omega
    cases hl:listed.getD j false with
    | true=>rfl
    | false =>
      have hm:false ∈ listed.toList:=by
       have:listed[j] = false:=by simpa [hjs] using hl
       rw [← this];simp
      have:=List.count_pos_iff.2 hm
      omega
 | succ fuel ih =>
   intro listed a w hc hlo h
   by_cases hall:∀ j,j < s→listed.getD j false=true
   ·rw [← hc];exact hlast listed a w hlo h hall
   ·refine ⟨fun hr=>absurd (fun j hj=>all_listed hok h.inv.lsize hr j (by rw [List.size_toArray];omega)) hall,fun i hi=>?_⟩
    have his:i < s:=(upto_ready hs h.inv hlo hi).resolve_right hall
    obtain ⟨hun,o,ho,_⟩:=mem_ready.1 hi
    have hcs:=count_set listed i hun
    have ho2:(l.take s).toArray[i]? = some o:=by
     have:l[i]? = some o:=by simpa using ho
     simp [his,this]
    have hlo2:∀ j,(listed.setIfInBounds i true).getD j false=true→j < s:=fun j hl=>by
     by_cases hj:j=i
     ·omega
     ·rw [getD_set_ne false (Ne.symm hj)] at hl
      exact hlo j hl
    have hli:i < listed.size:=by rw [h.inv.lsize];exact (Array.getElem?_eq_some_iff.1 ho).1
    have hun':listed.getD i false=false:=by simpa [hli] using hun
    have hat:∀ {w1:World},Inv l.toArray V a0 w listed a w1→Inv l.toArray V a0 w1 listed a w1:=fun h=>⟨h.lsize,Ext.refl _,h.defers,h.size,h.closed,h.old,h.new⟩
    by_cases hi1:i=s1
    ·subst hi1
     have hoe:o=os:=by
      have:l[i]? = some o:=by simpa using ho
      rw [hos] at this;exact (Option.some.inj this).symm
     subst hoe
     have hwr:=wr a w (h.inv.kn hok hn hi) (h.pre hun')
     have hwant:Region.wanted o (yielded l.toArray a.tmps)=true:=by simp [Region.wanted,hg]
     unfold wpOp
     simp only [ho]
     rw [if_pos hwant]
     refine .inl (Oper.wp_mono (fun a' w' hh=>?_) hwr)
     obtain ⟨v,rfl,hi2,hv,hkeep⟩:=hh
     have hI:Inv l.toArray V a0 w' listed a w':=⟨h.inv.lsize,Ext.refl _,h.inv.defers,h.inv.size,h.inv.closed,h.inv.old,fun j x t hx hl hd=>hkeep _ _ (fun e=>by subst e;rw [hun'] at hl;cases hl) (h.inv.new j x t hx hl hd)⟩
     refine ih _ _ _ (by omega) hlo2 ⟨hI.put hok hn hV hi ho (Ext.refl _) hv,fun hl=>?_,fun _=>hi2⟩
     simp [hli] at hl
    ·have hset:(listed.setIfInBounds i true).getD s1 false=listed.getD s1 false:=getD_set_ne false hi1
     have hst:=step i o ho2 hi1 a w (h.inv.kn hok hn hi) h.any
     unfold wpOp
     simp only [ho]
     unfold Step at hst
     split
     ·rename_i hw
      rw [if_pos hw] at hst
      refine .inl (Oper.wp_mono (fun a' w' hh=>?_) hst)
      obtain ⟨v,rfl,he,hv⟩:=hh
      have hp:=h.inv.put hok hn hV hi ho he hv
      exact ih _ _ _ (by omega) hlo2 ⟨⟨hp.lsize,Ext.refl _,hp.defers,hp.size,hp.closed,hp.old,hp.new⟩,fun hl=>h1 _ _ he (h.pre (by rw [← hset];exact hl)),fun hl=>h2 _ _ he (h.post (by rw [← hset];exact hl))⟩
     ·rename_i hw
      rw [if_neg hw] at hst
      have hp:=h.inv.put hok hn hV hi ho (Ext.refl _) hst
      exact ih _ _ _ (by omega) hlo2 ⟨⟨hp.lsize,Ext.refl _,hp.defers,hp.size,hp.closed,hp.old,hp.new⟩,fun hl=>h.pre (by rw [← hset];exact hl),fun hl=>h.post (by rw [← hset];exact hl)⟩
theorem region_ou_in {Q:Exit→Act→World→Prop} {id n r m:Nat} (s s1:Nat) (os:Oper) (I1 I2:World→Prop) (hm:P.follows .mixedOrders=true) (hno:¬ LetsOut Q) (hnd:noDefer l.toArray=true) (hn:a0.tmps.size=n) (hok:regOk l.toArray n=true)
  (hs:uptoOk l.toArray s=true) (hseq:Region.seqB .any l.toArray (l.length - s) s (listedAt l.length s)=true)
  (hs1:s1 < s) (hos:l[s1]? = some os) (hg:os.guard=none)
  (V:Nat→World→Value→Prop) (hV:∀ i w w' v,Ext w w'→V i w v→V i w' v) (h1:∀ w w',Ext w w'→I1 w→I1 w') (h2:∀ w w',Ext w w'→I2 w→I2 w') (h0:I1 w0)
  (step:∀ i o,(l.take s).toArray[i]? = some o→i ≠ s1→∀ a w,Kn l.toArray V a0 w i a w→(I1 w∨I2 w)→Step P l.toArray V Q i o a w)
  (wr:∀ a w,Kn l.toArray V a0 w s1 a w→I1 w→os.wp P a w (fun a' w'=>∃ v,a' = a.put os.dst v∧I2 w'∧V s1 w' v∧∀ i v,i ≠ s1→V i w v→V i w' v) Q)
  (last:∀ a w,Fin_ (l.take s).toArray V a0 w a w→I2 w→wpList P l.toArray Q (l.drop s) a w):(Code.region id l.toArray true).wpIn (Fence.wide.inRound r) m P Q a0 w0:=by
 have hi:Inv l.toArray V a0 w0 (Array.replicate l.toArray.size false) a0 { w0 with drawn:=w0.drawn+1 }:=inv_start
 refine region_any_in hm hno hnd (wpAny_ou (V:=V) hok hn hs hseq hs1 hos hg hV h1 h2 step wr last l.toArray.size _ _ _ ?_ ?_ ⟨⟨hi.lsize,Ext.refl _,hi.defers,hi.size,hi.closed,hi.old,hi.new⟩,fun _=>h1 _ _ (Ext.drew w0) h0,fun hl=>?_⟩)
 ·simp
 ·intro j hl
  rw [getD_replicate_false] at hl;cases hl
 ·rw [getD_replicate_false] at hl;cases hl
end
end Go.Proofs.YtbgkmicelmenfaaGreatDoor.T
namespace Go.Proofs.YtbgkmicelmenfaaGreatDoor.T
open Go.RowKit Go.Shelf
set_option maxRecDepth 100000
attribute [local go_sem] Oper.semAt_some
set_option maxHeartbeats 1000000 in
theorem chunk_any (A:Option Addr) (len cap k:Nat) (w:World) (hk:1≤k) :
  Calls Tryz.prog 103 #[.slice A len cap,.int .i64 k] w fun e w'=>e=.returned (.func (.func 165) #[] #[.pointer (some ⟨w.heap.size,0,none⟩),.pointer (some ⟨w.heap.size+1,0,none⟩)])∧w' = (w.alloc (.cells #[.slice A len cap] 22)).alloc (.cells #[.int .i64 k] 3):=by
 have hk2:¬ ((k:Int) < 1):=by omega
 go_enter Tryz.func103,Tryz.ntmps103
 go_wp2
 go_ret
 exact ⟨rfl,rfl⟩
def KpC (n₀ B1 B2:Nat) (W W':World):Prop:=∀ p:Addr,(p.block < n₀∨p.block=B1∨p.block=B2)→W'.cell? p=W.cell? p
theorem KpC.refl {n₀ B1 B2:Nat} (W:World):KpC n₀ B1 B2 W W:=fun _ _=>rfl
theorem kpC_t {n₀ B1 B2:Nat} {A B C:World} (h:KpC n₀ B1 B2 A B) (k:KpC n₀ B1 B2 B C):KpC n₀ B1 B2 A C:=fun p hp=>(k p hp).trans (h p hp)
theorem kpC_b {n₀ B1 B2:Nat} {w:World} (hn:n₀≤w.heap.size) (h1:B1 < w.heap.size) (h2:B2 < w.heap.size) (W:World) (l:Nat) (o o':Obj) (hl:w.heap.size≤l) (_:W.heap[l]? = some o) (_:o.isCells=false) (_:o.isWalk=false):KpC n₀ B1 B2 W (W.putObj l o'):=fun p hp =>
 World.cell?_of_block (w:=W) (World.putObj_heap_other (by omega))
set_option maxHeartbeats 4000000 in
theorem chunk1_in (n l Bs Bn n₀ b o k m c:Nat) (hn:1≤n) (hk:1≤k) (hk2:k≤16) (hm:m≤1000) (hc:k*m≤c) (J Jx:List (Fin m)→World→Prop) (B0:Nat) (hJa:AbidesFrom B0 J)
  (hY:∀ (pre:List (Fin m)) (x:Fin m) W,J pre W→pre.length < m→YieldAt Fence.wide (n - 1) Tryz.prog l #[.slice (some ⟨b,o+k*x.1,none⟩) k k] W fun e W' =>
    (e=.returned (.bool true)∧J (pre++[x]) W'∧KpC n₀ Bs Bn W W')∨(e=.returned (.bool false)∧Jx (pre++[x]) W'))
  (W:World) (hBs:W.cell? ⟨Bs,0,none⟩=some (.slice (some ⟨b,o,none⟩) (k*m:Nat) c)) (hBn:W.cell? ⟨Bn,0,none⟩=some (.int .i64 k)) (h0:J [] W) :
  CallsIn Fence.wide n Tryz.prog 165 #[.func (.yield l) #[] #[],.pointer (some ⟨Bs,0,none⟩),.pointer (some ⟨Bn,0,none⟩)] W fun e W'=>(∃ v,e=.returned v) ∧
   ((∃ ys,ys=List.finRange m∧J ys W')∨(∃ pre,True∧Jx pre W')):=by
 refine callsIn_of_wp Tryz.func165 rfl trivial ?_ rfl
 simp only [Tryz.ntmps165,List.size_toArray,List.length_cons,List.length_nil,Nat.reduceAdd,Nat.reduceSub,Array.replicate_succ,Array.replicate_zero,List.push_toArray,List.append_toArray,List.nil_append,List.cons_append]
 gi_wp2
 gi_loopw [4] (fun i wr=>∃ j:Nat,j≤m∧i=.int .i64 (k*j:Nat)∧J ((List.finRange m).take j) wr∧KpC n₀ Bs Bn W wr)
  (fun i _=>k*m - (intOf i).toNat)
 case atStart=>exact ⟨0,Nat.zero_le _,by simp,by simpa using h0,KpC.refl _⟩
 case round =>
  obtain ⟨j,hj,rfl,hJs,hkp⟩:=hrel
  have cs:=(hkp ⟨Bs,0,none⟩ (.inr (.inl rfl))).trans hBs
  have cn:=(hkp ⟨Bn,0,none⟩ (.inr (.inr rfl))).trans hBn
  obtain ⟨L,hL⟩:∃ L,k*m=L:=⟨_,rfl⟩
  obtain ⟨I,hI⟩:∃ I,k*j=I:=⟨_,rfl⟩
  rw [hL] at cs hc ⊢
  rw [hI]
  by_cases hlt:j < m
  ·have hIL:I+k≤L:=by rw [← hL,← hI,← Nat.mul_succ];exact Nat.mul_le_mul_left _ hlt
   have hL2:L≤16000:=by rw [← hL];exact Nat.mul_le_mul hk2 hm
   have hJq:=fun q=>hJa _ _ (wr.drewN q) none hJs ⟨rfl,rfl,rfl,Nat.le_refl _,fun _ _ _=>rfl⟩ (fun r e=>by cases e)
   have HYX:=hid (fun q=>hY _ ⟨j,hlt⟩ (wr.drewN q) (hJq q) (by simp;omega))
   have HKP:=hid hkp
   have hT:(List.finRange m).take (j+1)=(List.finRange m).take j++[⟨j,hlt⟩]:=by
    rw [List.take_succ_eq_append_getElem (by simpa using hlt)];simp
   have HT:=hid hT
   clear hY hkp hBs hBn hJq hT
   gi_wp2
   refine wpIn_wide.2 ?_
   go_quiet (fail)
   obtain ⟨fn,tmps,assign,body,hy,hR⟩:=HYX.out nq
   have HR:=hid hR
   rw [show o+k*(⟨j,hlt⟩:Fin m).1=o+I by rw [← hI]] at hy
   clear hR
   gi_wp2
   refine HR.out.mono ?_
   rintro e W3 (⟨rfl,hJ3,hk3⟩ | ⟨rfl,hJx3⟩)
   ·have cn3:W3.cell? ⟨Bn,0,none⟩=some (.int .i64 k):=(hk3 ⟨Bn,0,none⟩ (.inr (.inr rfl))).trans cn
    have HJ3:=hid hJ3
    have HK3:=hid hk3
    have HI:=hid hI
    have HL:=hid hL
    clear hJ3 hk3 hJs hI hL
    gi_wp2
    go_roundw
    case rel=>exact ⟨j+1,by omega,by rw [Nat.mul_succ,HI.out];go_num,by rw [HT.out];exact HJ3.out,kpC_t HKP.out HK3.out⟩
    case measure=>simp [intOf];omega
   ·have HJX:=hid hJx3
    clear hJx3 hJs
    gi_wp2
    refine bodyPost_ret (results_none rfl _ _ _) rfl ?_
    exact ⟨⟨_,rfl⟩,.inr ⟨_,trivial,HJX.out⟩⟩
  ·obtain rfl:j=m:=by omega
   have hIL:I=L:=by rw [← hL,← hI]
   subst hIL
   rw [List.take_of_length_le (by simp)] at hJs
   have HJS:=hid hJs
   clear hJs hY
   gi_wp2
   go_end0
   exact ⟨⟨_,rfl⟩,.inl ⟨_,rfl,HJS.out⟩⟩
theorem chunk_stops (n Bs Bn n₀ b o k m c:Nat) (hn:1≤n) (hk:1≤k) (hk2:k≤16) (hm:m≤1000) (hc:k*m≤c) (w:World) (h1:Bs < w.heap.size) (h2:Bn < w.heap.size)
  (hBs:w.cell? ⟨Bs,0,none⟩=some (.slice (some ⟨b,o,none⟩) (k*m:Nat) c)) (hBn:w.cell? ⟨Bn,0,none⟩=some (.int .i64 k)) :
  SeqStopsK Fence.wide n Tryz.prog 165 #[.pointer (some ⟨Bs,0,none⟩),.pointer (some ⟨Bn,0,none⟩)] (fun x:Fin m=>#[Value.slice (some ⟨b,o+k*x.1,none⟩) k k]) (KpC n₀ Bs Bn) (fun ys=>ys=List.finRange m) (fun _=>True) m w :=
 fun l J Jx W hW hJ _ hY h0 =>
  chunk1_in n l Bs Bn n₀ b o k m c hn hk hk2 hm hc J Jx W.heap.size hJ hY W ((hW.cell (p:=⟨Bs,0,none⟩) h1).trans hBs) ((hW.cell (p:=⟨Bn,0,none⟩) h2).trans hBn) h0
end Go.Proofs.YtbgkmicelmenfaaGreatDoor.T
namespace Go.Proofs.YtbgkmicelmenfaaGreatDoor.T
open Go.RowKit Go.Shelf
set_option maxRecDepth 100000
attribute [local go_sem] Oper.semAt_some
def gW (bs:List UInt8) (m:Nat):List UInt32:=(List.range m).map fun j=>wdL bs (4*j)
theorem finRange_map {α:Type} (m:Nat) (f:Nat→α):(List.finRange m).map (fun j=>f j.1)=(List.range m).map f:=by
 apply List.ext_getElem
 ·simp
 ·intro i h1 h2
  simp
theorem le_wd4 (L:List UInt8):le L 4 4=((wd4 (bl L)).toNat:Int):=by
 rw [wd4_toNat (bl_lt L),le4]
 simp only [wdN,byteAt_bl]
 omega
def WRet (w:World) (ks:List UInt32) (e:Ending) (w':World):Prop:=∃ v,e=.returned v∧OwnW w' w.heap.size v ks∧Ext w w'
theorem rd_four {w:World} {B n b o j:Nat} {bs:List UInt8} (h:Rd w B (some ⟨b,o,none⟩) n bs) (hj:4*j+4≤n):∃ L:List UInt8,Rd w B (some ⟨b,o+4*j,none⟩) 4 L∧wd4 (bl L)=wdL bs (4*j):=by
 obtain ⟨b',o',e,hb,hc⟩:=h.at_ (by omega)
 cases e
 have hl:=h.len
 refine ⟨(bs.drop (4*j)).take 4,⟨by simp;omega,fun _=>⟨b,o+4*j,rfl,hb,fun k hk=>?_⟩⟩,?_⟩
 ·have:=hc (4*j+k) (by omega)
  have e2:byteAt ((bs.drop (4*j)).take 4) k=byteAt bs (4*j+k):=by unfold byteAt;simp [List.getD,hk]
  rw [e2,← this]
  congr 2;omega
 ·unfold wdL wd4
  congr 1
  exact wdN_congr 4 fun i hi=>by unfold bl;simp [List.getD,hi]
theorem kp_appended {W w1:World} {tmp:Obj} {v v':Value} {B n₀ B1 B2:Nat} (hgrow:(W.alloc tmp).grownBy w1 v.ownBlock) (h:∀ q,(q < n₀∨q=B1∨q=B2)→q ≠ B∧q < W.heap.size∧some q ≠ v.ownBlock):KpC n₀ B1 B2 W (w1.setCell ⟨B,0,none⟩ v'):=fun p hp=>by
 obtain ⟨h1,h2,h3⟩:=h p.block hp
 refine World.cell?_of_block (w:=W) ?_
 rw [heap_setCell_other w1 ⟨B,0,none⟩ p.block v' h1,hgrow.block p.block (by rw [World.size_alloc];omega) h3]
 exact Below.heap_alloc W tmp p.block h2
def GI (m:Nat) (f:Nat→UInt32) (w:World) (B:Nat) (sv:Value) (pre:List (Fin m)) (W:World):Prop :=
 (∃ v,Boxed W B 115 v∧OwnN .u32 118 W w.heap.size v (nW (pre.map fun j=>f j.1)))∧(Boxed W (B+1) 22 sv∧Boxed W (B+1+1) 3 (.int .i64 4))∧Below w.heap.size w W
theorem boxed_from {B':Nat} {W W':World} {row:Option Nat} {B:Nat} {t:TypeId} {v:Value} (h:Boxed W B t v) (hg:W.grownBy W' row) (hr:∀ r,row=some r→B'≤r∧∃ o:Obj,W.heap[r]? = some o∧o.isCells=false):Boxed W' B t v :=
 h.kept hg (fun e'=>by obtain ⟨_,o,ho,hc⟩:=hr _ e'.symm;rw [show W.heap[B]? = _ from h] at ho;cases ho;cases hc)
theorem ownN_from {B' base:Nat} {W W':World} {row:Option Nat} {kd:IntKind} {e:TypeId} {v:Value} {xs:List Int} (h:OwnN kd e W base v xs) (hg:W.grownBy W' row) (hr:∀ r,row=some r→B'≤r∧∃ o:Obj,W.heap[r]? = some o∧o.isCells=false):OwnN kd e W' base v xs:=by
 refine World.ownsRow.kept h hg ?_
 rcases h.2 with ⟨rfl,_⟩ | ⟨g,cap,cur,rfl,_,hgb,_⟩
 ·exact .inl rfl
 ·refine .inr fun e'=>?_
  obtain ⟨_,o,ho,hc⟩:=hr g (by simpa [Value.ownBlock] using e'.symm)
  rw [hgb] at ho;cases ho;cases hc
theorem gi_own {m:Nat} {f:Nat→UInt32} {w W4:World} {B:Nat} {sv:Value} (h:w.heap.size≤W4.heap.size):OwnFrom W4.heap.size (GI m f w B sv):=by
 intro s W W' row hs hg hr
 obtain ⟨⟨v,hv,hrow⟩,⟨h2,h3⟩,h4⟩:=hs
 exact ⟨⟨v,boxed_from hv hg hr,ownN_from hrow hg hr⟩,⟨boxed_from h2 hg hr,boxed_from h3 hg hr⟩,h4.grown hg h4.size (fun k e=>Nat.le_trans h (hr k e).1)⟩
theorem gi_start {m:Nat} {f:Nat→UInt32} {w W4:World} {B:Nat} {sv V0:Value} (h1:Boxed W4 B 115 V0) (h2:OwnN .u32 118 W4 w.heap.size V0 []) (h3:Boxed W4 (B+1) 22 sv∧Boxed W4 (B+1+1) 3 (.int .i64 4)) (h4:Below w.heap.size w W4):GI m f w B sv [] W4 :=
 ⟨⟨V0,h1,h2⟩,h3,h4⟩
set_option maxHeartbeats 4000000 in
theorem gather_f (b o m c:Nat) (f:Nat→UInt32) (w:World) (h:∀ j,j < m→∃ L:List UInt8,Rd w w.heap.size (some ⟨b,o+4*j,none⟩) 4 L∧le L 4 4=((f j).toNat:Int)) (hm2:m≤1000) (hc:4*m≤c) :
  Calls Tryz.prog 58 #[.slice (some ⟨b,o,none⟩) (4*m:Nat) c] w (WRet w ((List.range m).map f)):=by
 obtain ⟨i0,hi,hz0,hz1,hz2⟩:=info_parts Tryz.info37
 have HRD:=hid h
 obtain ⟨L,hL⟩:∃ L,4*m=L:=⟨_,rfl⟩
 have hLm:(L:Int) / 4=(m:Int):=by omega
 rw [hL]
 have HL:=hid hL
 clear h hL
 refine (callsIn_wide (n:=6)).1 ?_
 refine callsIn_of_wp_marks Tryz.func58 rfl trivial ?_ rfl
 simp only [Tryz.ntmps58,List.size_toArray,List.length_cons,List.length_nil,Nat.reduceAdd,Nat.reduceSub,Array.replicate_succ,Array.replicate_zero,List.push_toArray,List.append_toArray,List.nil_append,List.cons_append]
 gi_wp2_with (first
  | (gi_at_make;refine wpListIn_make_own _ rfl (.const (.int .i64 0)) (.tmp 9) 115 rfl w.heap.size 118 i0 (.int .u32 0) 1 Tryz.underlying115 hi hz0 hz1 .i64 .i64 m m rfl rfl rfl (by rw [hz2];omega) (by unfold maxLen;omega) (Nat.le_refl _) ?_;intro w1 hown1 hg1;have HO:=hid hown1;have HG:=hid hg1;clear hown1 hg1)
  | (refine ⟨trivial,?_⟩;gi_at_call 103;refine (callsIn_wide.2 (chunk_any _ _ _ 4 _ (by omega))).mono ?_;rintro e w' ⟨rfl,rfl⟩))
 have hB1:Below w.heap.size w w1:=(Below.refl _ _).grown HG.out (Nat.le_refl _) (fun k e=>by cases e)
 have hsz:=hB1.size
 obtain ⟨V0,hV0⟩:∃ V0,Value.slice (some ⟨w.heap.size,0,none⟩) 0 m=V0:=⟨_,rfl⟩
 have HO0:=hid (show w1.ownsRow w.heap.size 118 1 V0 0 [] by rw [← hV0];exact HO.out)
 obtain ⟨sv,hsv⟩:∃ sv,Value.slice (some ⟨b,o,none⟩) (L:Nat) c=sv:=⟨_,rfl⟩
 have bO:=Boxed.new w1 115 V0
 have bS:=Boxed.new (w1.alloc (.cells #[V0] 115)) 22 sv
 have bN:=Boxed.new ((w1.alloc (.cells #[V0] 115)).alloc (.cells #[sv] 22)) 3 (.int .i64 4)
 rw [World.size_alloc] at bS bN
 rw [World.size_alloc] at bN
 rw [hV0,hsv]
 obtain ⟨W4,hW4⟩:∃ W4,((w1.alloc (.cells #[V0] 115)).alloc (.cells #[sv] 22)).alloc (.cells #[.int .i64 4] 3)=W4:=⟨_,rfl⟩
 have hs4:W4.heap.size=w1.heap.size+3:=by rw [← hW4];simp
 have bO4:Boxed W4 w1.heap.size 115 V0:=by rw [← hW4];exact (bO.alloc _).alloc _
 have bS4:Boxed W4 (w1.heap.size+1) 22 sv:=by rw [← hW4];exact bS.alloc _
 have bN4:Boxed W4 (w1.heap.size+1+1) 3 (.int .i64 4):=by rw [← hW4];exact bN
 have hB4:Below w.heap.size w W4:=by
  rw [← hW4]
  exact ((hB1.alloc (by omega) _).alloc (by simp;omega) _).alloc (by simp;omega) _
 have hO4:W4.ownsRow w.heap.size 118 1 V0 0 []:=by
  rw [← hW4]
  exact ((HO0.out.alloc _).alloc _).alloc _
 rw [hW4]
 have HB4:=hid hB4
 have HBX:=hid (And.intro bO4 (And.intro bS4 bN4))
 have HO4:=hid hO4
 have HS4:=hid hs4
 obtain ⟨B,hBe⟩:∃ B,w1.heap.size=B:=⟨_,rfl⟩
 rw [hBe] at bO4 bS4 bN4 hs4 hsz HBX ⊢
 clear hW4 bO bS bN hB1 HO HG HO0 hBe HS4
 have hmc:4*m≤c:=hc
 have hcs:W4.cell? ⟨B+1,0,none⟩=some (.slice (some ⟨b,o,none⟩) (4*m:Nat) c):=by
  rw [HL.out,hsv];exact bS4.cell
 have hcn:=bN4.cell
 have hq1:B+1 < W4.heap.size:=by omega
 have hq2:B+1+1 < W4.heap.size:=by omega
 have hq3:w.heap.size≤W4.heap.size:=by omega
 have hseq:=chunk_stops (6 - 1) (B+1) (B+1+1) w.heap.size b o 4 m c (by omega) (by omega) (by omega) hm2 hmc W4 hq1 hq2 hcs hcn
 have hown:=@gi_own m f w W4 B sv hq3
 have hI0:=@gi_start m f w W4 B sv V0 HBX.out.1 HO4.out HBX.out.2 HB4.out
 have hkb:=@kpC_b w.heap.size (B+1) (B+1+1) W4 hq3 hq1 hq2
 refine wpIn_rangeFunc_ownG (Kp:=KpC w.heap.size (B+1) (B+1+1)) rfl (by omega) (gf:=165) (lb:=#[.pointer (some ⟨B+1,0,none⟩),.pointer (some ⟨B+1+1,0,none⟩)]) rfl trivial (enters_of Tryz.func165 (by kernel_rfl) rfl)
  hseq kpC_t hkb (Below.refl _ _) (fun _=>rfl) (GI m f w B sv) (fun _ _ _=>False) hown (fun _ _ _ _ _ hs _ _=>hs) hI0
  (fun x=>{ tmps:=#[sv,undef,.slice none 0 0,.pointer (some ⟨B,0,none⟩),.slice (some ⟨b,o+4*x.1,none⟩) 4 4,undef,undef,sv,.int .i64 L,.int .i64 m,V0,sv,.func (.func 165) #[] #[.pointer (some ⟨B+1,0,none⟩),.pointer (some ⟨B+1+1,0,none⟩)],.slice (some ⟨b,o+4*x.1,none⟩) 4 4,undef,undef,undef,undef,undef,undef,undef,undef,undef,undef],defers:=[] }) ?assign ?body ?done ?stop
 case assign =>
  intro l x W K hK
  gi_wp2
  exact hK
 case body =>
  intro l pre x W hIW hlt
  obtain ⟨⟨v,hv,hrow⟩,⟨hbs,hbn⟩,hB⟩:=hIW
  obtain ⟨L4,hrd,hle⟩:=HRD.out x.1 x.2
  have hrdW:=hrd.later (show Ext w W from hB)
  have hc:=hv.cell
  have hle2:le32N L4 4=((f x.1).toNat:Int):=by unfold le32N;rw [if_pos rfl];exact hle
  have hWs:=hB.size
  obtain ⟨xs,hxs⟩:∃ xs,nW (pre.map fun j=>f j.1)=xs:=⟨_,rfl⟩
  have hxl:xs.length=pre.length:=by rw [← hxs];simp [nW]
  rw [hxs] at hrow
  have hnx:nW ((pre++[x]).map fun j=>f j.1)=xs++[((f x.1).toNat:Int)]:=by rw [List.map_append,nW_append,hxs];rfl
  obtain ⟨y,hy⟩:∃ y,f x.1=y:=⟨_,rfl⟩
  rw [hy] at hle2 hnx
  have HNX:=hid hnx
  have HRW:=hid hrdW
  have HLE:=hid hle2
  have HBS:=hid hbs
  have HBN:=hid hbn
  have HBB:=hid hB
  have hrow2:W.ownsRow w.heap.size 118 1 v xs.length (cN .u32 xs):=hrow
  have hxm:xs.length+1≤1000:=by omega
  clear hle hle2 hnx hxs hy hrd hrdW hbs hbn hB hlt hxl
  gi_wp2_with (first
   | (refine ⟨trivial,?_⟩;gi_at_call 107;refine (CallsIn.inRound l (callsIn_wide.2 (le32_any _ 4 _ _ L4 _ HRW.out (by omega)))).mono ?_;rintro e w' ⟨rfl,rfl⟩;rw [HLE.out])
   | (gi_at_builtin;refine wpListIn_append_own _ rfl _ _ 115 rfl w.heap.size 118 i0 (.int .u32 0) 1 4 Tryz.underlying115 hi hz0 hz1 hz2 rfl (by decide) _ _ _ rfl (hrow2.alloc _) ⟨W.heap.size,0,none⟩ 1 1 [.int .u32 (y.toNat:Nat)] rfl rfl (cell_one_new _ _ _) (by simp [Value.oneCell']) (by unfold maxLen;omega) (by omega) (by simp;omega) ?_;intro v' w1 hown' hgrow _;obtain ⟨g',cap',rfl⟩:=ownsRow_succ hown';obtain ⟨hv1,hv2,hr2,hk2,hb2⟩:=hv.appended (by decide) hrow2 hWs hsz hown' hgrow;have hc1:=hv1.cell;have hf1:=hv1.frozen))
  have hnr:∀ {q t u},Boxed W q t u→t ≠ 118→some q ≠ v.ownBlock:=fun hb ht=>hb.not_row ht hrow2
  refine ⟨hk2.from _,kp_appended hgrow (fun q hq=>?_),⟨⟨_,hv2,?_⟩,⟨?_,?_⟩,HBB.out.trans hb2⟩⟩
  ·rcases hq with hq | rfl | rfl
   ·refine ⟨by omega,by omega,fun e=>?_⟩
    have:=(World.ownsRow.lt hrow2 q e.symm).1
    omega
   ·exact ⟨by omega,HBS.out.lt,hnr HBS.out (by decide)⟩
   ·exact ⟨by omega,HBN.out.lt,hnr HBN.out (by decide)⟩
  ·rw [HNX.out]
   unfold OwnN
   rw [List.length_append,cN_append]
   exact hr2
  ·exact ((HBS.out.alloc _).kept hgrow (hnr HBS.out (by decide))).other (by omega) _
  ·exact ((HBN.out.alloc _).kept hgrow (hnr HBN.out (by decide))).other (by omega) _
 case done =>
  rintro D ys W hD rfl hIW hK
  obtain ⟨⟨v,hv,hrow⟩,_,hB⟩:=hIW
  have hc:=hv.cell
  gi_wp2
  refine ⟨by simp,.inl ⟨_,_,rfl,run_takeDeferred hK,?_⟩⟩
  rw [finRange_map m f] at hrow
  exact ⟨_,results_tmp rfl _ _ _,v,rfl,ownsRow_putObj hrow _ hK rfl,hB.trans (belowK_b (w:=w) (Nat.le_refl _) W D _ _ (by omega) hK rfl rfl)⟩
 case stop =>
  rintro D c pre W _ _ h _
  exact h.elim
theorem gatherW_any (b o m c:Nat) (bs:List UInt8) (w:World) (h:Rd w w.heap.size (some ⟨b,o,none⟩) (4*m) bs) (hm2:m≤1000) (hc:4*m≤c) :
  Calls Tryz.prog 58 #[.slice (some ⟨b,o,none⟩) (4*m:Nat) c] w (WRet w (gW bs m)) :=
 gather_f b o m c (fun j=>wdL bs (4*j)) w (fun j hj=>by
  obtain ⟨L,h1,h2⟩:=rd_four (j:=j) h (by omega)
  exact ⟨L,h1,by rw [le_wd4,h2]⟩) hm2 hc
end Go.Proofs.YtbgkmicelmenfaaGreatDoor.T
namespace Go.Proofs.YtbgkmicelmenfaaGreatDoor.T
open Go.RowKit
set_option maxRecDepth 100000
theorem w_two (b:UInt32):(2*(b.toNat:Int)) % 4294967296=((2*b:UInt32).toNat:Int):=by
 rw [UInt32.toNat_mul,show (2:UInt32).toNat=2 from rfl];omega
theorem w_ones (k:Nat) (_h:k < 64):((k:Int)*16843009)=((UInt32.ofNat k*0x01010101:UInt32).toNat:Int):=by
 rw [UInt32.toNat_mul,UInt32.toNat_ofNat',show (0x01010101:UInt32).toNat=16843009 from rfl];omega
theorem lit_rd2 (w:World) (a b:UInt32):RdN .u32 (w.alloc (.cells #[.int .u32 (a.toNat:Nat),.int .u32 (b.toNat:Nat)] 118)) (w.alloc (.cells #[.int .u32 (a.toNat:Nat),.int .u32 (b.toNat:Nat)] 118)).heap.size (some ⟨w.heap.size,0,none⟩) 2 (nW [a,b]):=by
 have h:=OwnN.lit (kd:=.u32) (e:=118) w (nW [a,b]) #[.int .u32 (a.toNat:Nat),.int .u32 (b.toNat:Nat)] 2 w.heap.size rfl rfl (by unfold maxLen;omega) (Nat.le_refl _)
 obtain ⟨A,c,e,hr,_⟩:=OwnN.rdn h rfl
 cases e
 exact hr
set_option maxHeartbeats 4000000 in
theorem spread_w (A1 A2:Option Addr) (n c1 c2:Nat) (ev od:List UInt32) (w:World) (hG:GT w) (h1:RdN .u32 w w.heap.size A1 n (nW ev)) (h2:RdN .u32 w w.heap.size A2 n (nW od)) (hn2:2≤n) (hn4:n≤4) :
  Calls Tryz.prog 106 #[.slice A1 n c1,.slice A2 n c2] w (WRet w (kL ev od 20)):=by
 obtain ⟨i0,hi,hz0,hz1,hz2⟩:=info_parts Tryz.info37
 have HG:=hid hG
 have H1:=hid h1
 have H2:=hid h2
 clear hG h1 h2
 go_enter Tryz.func106,Tryz.ntmps106
 go_wp2_with (refine wpList_make_own _ rfl (.const (.int .i64 0)) (.const (.int .i64 40)) 115 rfl w.heap.size 118 i0 (.int .u32 0) 1 Tryz.underlying115 hi hz0 hz1 .i64 .i64 40 40 rfl rfl rfl (by rw [hz2];omega) (by unfold maxLen;omega) (Nat.le_refl _) ?_;intro w1 hown1 hg1)
 have HB1:=hid (show Ext w w1 from (Below.refl _ _).grown hg1 (Nat.le_refl _) (fun k e=>by cases e))
 have HO1:=hid (show OwnW w1 w.heap.size (.slice (some ⟨w.heap.size,0,none⟩) 0 40) (kL ev od 0) from hown1)
 clear hown1 hg1
 go_loopw [5,6] (fun v i wr=>∃ k:Nat,k≤20∧i=.int .u32 (2*k:Nat)∧OwnW wr w.heap.size v (kL ev od k)∧Ext w wr) (fun _ i _=>40 - (intOf i).toNat)
 case atStart=>exact ⟨0,by omega,rfl,HO1.out,HB1.out⟩
 case round =>
  obtain ⟨k,hk,rfl,hown,hx⟩:=hrel
  by_cases hlt:k < 20
  ·have hd:((2*k:Nat):Int) < 40:=by omega
   have e1:=w_ones (2*k) (by omega)
   have e2:=w_ones (2*k+1) (by omega)
   have HA:=hid (fun w hG hl=>h_any (UInt32.ofNat (2*k)*0x01010101) ev A1 n c1 w hG hl hn2 hn4)
   have HBB:=hid (fun w hG hl=>h_any (UInt32.ofNat (2*k+1)*0x01010101) od A2 n c2 w hG hl hn2 hn4)
   have hkA:HW (UInt32.ofNat (2*k)*0x01010101) ev=kA ev k:=rfl
   have hkB:rolI (HW (UInt32.ofNat (2*k+1)*0x01010101) od) 8=kB od k:=rfl
   have HKB:=hid hkB
   obtain ⟨T,hT⟩:∃ T,HW (UInt32.ofNat (2*k+1)*0x01010101) od=T:=⟨_,rfl⟩
   rw [hT] at HBB HKB
   rw [hkA] at HA
   obtain ⟨X1,hX1⟩:∃ X1,UInt32.ofNat (2*k)*0x01010101=X1:=⟨_,rfl⟩
   obtain ⟨X2,hX2⟩:∃ X2,UInt32.ofNat (2*k+1)*0x01010101=X2:=⟨_,rfl⟩
   rw [hX1] at e1 HA
   rw [hX2] at e2 HBB
   have HST:=hid (show kL ev od (k+1)=kL ev od k++[kA ev k+kB od k,rolI (kA ev k+2*kB od k) 9] by rw [kL])
   obtain ⟨a,ha⟩:∃ a,kA ev k=a:=⟨_,rfl⟩
   obtain ⟨b,hb⟩:∃ b,kB od k=b:=⟨_,rfl⟩
   rw [ha] at HA HST
   rw [hb] at HKB HST
   have e3:=w_add a b
   have e4:=w_two b
   have e5:=w_add a (2*b)
   obtain ⟨d,hd2⟩:∃ d,2*b=d:=⟨_,rfl⟩
   rw [hd2] at e4 e5 HST
   obtain ⟨r1,hr1⟩:∃ r1,a+b=r1:=⟨_,rfl⟩
   obtain ⟨p,hp⟩:∃ p,a+d=p:=⟨_,rfl⟩
   rw [hr1] at e3 HST
   rw [hp] at e5 HST
   have ld:=wlt d
   have la:=wlt a
   have lb:=wlt b
   have hkl:=kL_length ev od k
   have HX:=hid hx
   have HO:=hid hown
   obtain ⟨q,hq⟩:∃ q,2*k=q:=⟨_,rfl⟩
   have hq38:q≤38:=by omega
   rw [hq] at e1 e2 hd hkl ⊢
   rw [show ((q+1:Nat):Int)=(q:Int)+1 by omega] at e2
   have HQ:=hid hq
   clear hr1 hp hd2 hkA hkB hT hX1 hX2 ha hb hx hown hq
   go_wp2_with fail
   refine (HA.out _ (HG.out.later HX.out) (H1.out.later HX.out)).mono ?_
   rintro e w2 ⟨rfl,hx2⟩
   have HX2:=hid (Ext.trans HX.out hx2)
   have HO2:=hid (OwnN.kept HO.out hx2)
   clear hx2 e1
   go_wp2_with fail
   refine (HBB.out _ (HG.out.later HX2.out) (H2.out.later HX2.out)).mono ?_
   rintro e w3 ⟨rfl,hx3⟩
   have HX3:=hid (Ext.trans HX2.out hx3)
   have HO3:=hid (OwnN.kept HO2.out hx3)
   clear hx3 e2
   go_wp2_with fail
   refine (rol_w T 8 _).mono ?_
   rintro e w' ⟨rfl,rfl⟩
   rw [HKB.out]
   go_wp2_with fail
   refine (rol_w p 9 _).mono ?_
   rintro e w' ⟨rfl,rfl⟩
   obtain ⟨r2,hr2⟩:∃ r2,rolI p 9=r2:=⟨_,rfl⟩
   rw [hr2] at HST ⊢
   clear hr2
   have HLT:=hid (lit_rd2 w3 r1 r2)
   have hsz3:=Below.size HX3.out
   go_wp2_with (refine wpL_appendN _ rfl (.tmp 24) (.tmp 33) 115 rfl Tryz.underlying115 4 Tryz.info37 w.heap.size _ _ rfl (OwnN.kept HO3.out (Ext.alloc _ _)) _ _ 2 2 _ rfl HLT.out (by rw [nW_length,hkl];omega) (by rw [nW_length,hkl];unfold maxLen;omega) (by simp;omega) ?_;intro v' w4 hown4 hb4)
   have HO5:=hid (show OwnW w4 w.heap.size v' (kL ev od (k+1)) by
    rw [HST.out]
    unfold OwnW
    rw [nW_append]
    exact hown4)
   have HX5:=hid (show Ext w w4 from ((show Below w.heap.size w w3 from HX3.out).alloc (by omega) _).trans hb4)
   clear hown4 hb4
   go_wp2_with fail
   exact ⟨⟨k+1,by omega,by have:=HQ.out;go_num,HO5.out,HX5.out⟩,by have:=HQ.out;simp [intOf];omega⟩
  ·obtain rfl:k=20:=by omega
   have HX:=hid hx
   have HO:=hid hown
   clear hx hown
   go_wp2_with fail
   go_ret
   exact ⟨_,rfl,HO.out,HX.out⟩
end Go.Proofs.YtbgkmicelmenfaaGreatDoor.T
namespace Go.Proofs.YtbgkmicelmenfaaGreatDoor.T
open Go.RowKit
set_option maxRecDepth 100000
theorem grown_set (w:World) (g j:Nat) (x:Value):w.grownBy (w.setCell ⟨g,j,none⟩ x) (some g) :=
 ⟨rfl,rfl,rfl,by simp,fun k _ hk=>heap_setCell_other w ⟨g,j,none⟩ k x (fun e=>hk (by rw [e]))⟩
theorem grown_trans {a b c:World} {g:Nat} (h:a.grownBy b (some g)) (k:b.grownBy c (some g)):a.grownBy c (some g) :=
 ⟨k.os.trans h.os,k.tape.trans h.tape,k.output.trans h.output,Nat.le_trans h.size k.size,fun i hi hne=>(k.block i (Nat.lt_of_lt_of_le hi h.size) hne).trans (h.block i hi hne)⟩
theorem grown_drew {a b:World} {g:Option Nat} (h:a.grownBy b g):a.grownBy b.drew g:=⟨h.os,h.tape,h.output,h.size,h.block⟩
def revS (n:Nat) (ks:List UInt32):Nat→List UInt32
 | 0=>ks
 | i+1=>((revS n ks i).set i ((revS n ks i).getD (n - 1 - i) 0)).set (n - 1 - i) ((revS n ks i).getD i 0)
theorem revS_length (n:Nat) (ks:List UInt32):∀ i,(revS n ks i).length=ks.length
 | 0=>rfl
 | i+1=>by simp [revS,revS_length n ks i]
theorem revS_full (n:Nat) (ks:List UInt32) (h:ks.length=n) (h2:2≤n) (h4:n≤4):revS n ks (n / 2)=ks.reverse:=by
 rcases (show n=2∨n=3∨n=4 by omega) with rfl | rfl | rfl
 ·match ks,h with
  | [a,b],_=>rfl
 ·match ks,h with
  | [a,b,c],_=>rfl
 ·match ks,h with
  | [a,b,c,d],_=>rfl
set_option maxHeartbeats 2000000 in
theorem reverse_w (g c n base:Nat) (ks:List UInt32) (w:World) (hb:OwnW w base (.slice (some ⟨g,0,none⟩) n c) ks) (hl:ks.length=n) (h2:2≤n) (h4:n≤4) :
  Calls Tryz.prog 105 #[.slice (some ⟨g,0,none⟩) n c] w fun e w'=>e=.returned (.tuple #[])∧OwnW w' base (.slice (some ⟨g,0,none⟩) n c) ks.reverse∧w.grownBy w' (some g):=by
 have HB:=hid hb
 clear hb
 go_enter Tryz.func105,Tryz.ntmps105
 go_wp2_with fail
 go_loopw [2,3] (fun i j wr=>∃ k:Nat,k≤n / 2∧i=.int .i64 k∧j=.int .i64 ((n:Int) - 1 - k)∧OwnW wr base (.slice (some ⟨g,0,none⟩) n c) (revS n ks k)∧w.grownBy wr (some g)) (fun i _ _=>4 - (intOf i).toNat)
 case atStart=>exact ⟨0,by omega,rfl,by simp,HB.out,⟨rfl,rfl,rfl,Nat.le_refl _,fun _ _ _=>rfl⟩⟩
 case round =>
  obtain ⟨k,hk,rfl,rfl,hb,hg⟩:=hrel
  have hlen:=revS_length n ks k
  rw [hl] at hlen
  by_cases hlt:k < n / 2
  ·have hc1:=OwnN.celln hb (by rw [nW_length];exact hlen) k (by omega)
   have hc2:=OwnN.celln hb (by rw [nW_length];exact hlen) (n - 1 - k) (by omega)
   have hf1:=OwnN.free hb k
   have hf2:=OwnN.free hb (n - 1 - k)
   rw [nW_get _ _ (by omega)] at hc1 hc2
   obtain ⟨x,hx⟩:∃ x,(revS n ks k).getD k 0=x:=⟨_,rfl⟩
   obtain ⟨y,hy⟩:∃ y,(revS n ks k).getD (n - 1 - k) 0=y:=⟨_,rfl⟩
   have hst:revS n ks (k+1)=((revS n ks k).set k y).set (n - 1 - k) x:=by rw [revS,hx,hy]
   have hbn:=OwnW.set_ (OwnW.set_ hb hlen k y) (by rw [List.length_set];exact hlen) (n - 1 - k) x
   rw [← hst] at hbn
   rw [hx] at hc1
   rw [hy] at hc2
   have HBN:=hid hbn
   have HG:=hid hg
   obtain ⟨m,hm⟩:∃ m,n - 1 - k=m:=⟨_,rfl⟩
   rw [hm] at hc2 hf2 HBN
   rw [show (n:Int) - 1 - (k:Int)=(m:Int) by omega]
   have HM:=hid hm
   have hkm:(k:Int) < (m:Int):=by omega
   have hne:¬ k=m:=by omega
   have hne2:¬ m=k:=by omega
   have hk8:k < n:=by omega
   have hm8:m < n:=by omega
   clear hb hg hx hy hst hbn hlen hm
   go_wp2_with fail
   go_region
   go_wp2_with fail
   go_roundw
   case rel=>exact ⟨k+1,by omega,by go_num,by have:=HM.out;go_num,HBN.out,(grown_drew (grown_trans (grown_trans HG.out (grown_set _ _ _ _)) (grown_set _ _ _ _)))⟩
   case measure=>simp [intOf];omega
  ·obtain rfl:k=n / 2:=by omega
   rw [revS_full n ks hl h2 h4] at hb
   have HH:=hid (And.intro hb hg)
   have hnk:¬ (((n / 2:Nat):Int) < (n:Int) - 1 - ((n / 2:Nat):Int)):=by omega
   clear hb hg
   go_wp2_with fail
   exact bodyPost_end (results_none rfl _ _ _) rfl ⟨rfl,HH.out.1,HH.out.2⟩
end Go.Proofs.YtbgkmicelmenfaaGreatDoor.T
namespace Go.Proofs.YtbgkmicelmenfaaGreatDoor.T
open Go.RowKit Go.Shelf
set_option maxRecDepth 100000
theorem run_app {w:World} {base:Nat} {v:Value} {xs:List Int} {y:Int} {t c:Nat} (ty:TypeId) (hown:OwnN .u32 118 w base v xs) (hn:xs.length≤1000) (hy:w.cell? ⟨t,0,none⟩=some (.int .u32 y)) (hb:base≤w.heap.size) :
  ∃ v' w',(Builtin.append_ #[115,115] ty #[v,.slice (some ⟨t,0,none⟩) 1 c]).run Tryz.prog w=.ok v' w'∧OwnN .u32 118 w' base v' (xs++[y])∧w.grownBy w' v.ownBlock ∧
   (v'.ownBlock=v.ownBlock∨∃ g,v'.ownBlock=some g∧w.heap.size≤g)∧∃ g cap,v' = .slice (some ⟨g,0,none⟩) (xs.length+1) cap:=by
 obtain ⟨i0,hi,hz0,hz1,hz2⟩:=info_parts Tryz.info37
 have hnews:∀ j u,[Value.int .u32 y][j]? = some u→w.cell? ((⟨t,0,none⟩:Addr).add j)=some u:=by
  intro j u hu
  match j,hu with
  | 0,hu=>rw [add_at];simp only [List.getElem?_cons_zero,Option.some.injEq] at hu;rw [hy,hu]
 have h1:∀ u ∈ [Value.int .u32 y],u.oneCell' = true:=by simp [Value.oneCell']
 have hmax:xs.length+1≤maxLen:=by unfold maxLen;omega
 have hby:(xs.length+1)*4≤140737488355328:=by omega
 obtain ⟨v',w',hrun,r1,r2,_⟩:=run_append_own (P:=Tryz.prog) w base 115 ty 118 i0 (.int .u32 0) 1 4 Tryz.underlying115 hi hz0 hz1 hz2 rfl (by decide) v xs.length (cN .u32 xs) hown ⟨t,0,none⟩ 1 c [.int .u32 y] rfl hnews h1 hmax hby hb
 have hO:OwnN .u32 118 w' base v' (xs++[y]):=by
  unfold OwnN
  rw [List.length_append,cN_append]
  exact r1
 refine ⟨v',w',hrun,hO,r2,?_,ownsRow_succ r1⟩
 rcases hown.2 with ⟨rfl,hx0⟩ | ⟨g,cap,cur,rfl,hbg,hg,hnc,hcm,hcs,htake⟩
 ·right
  have hx:xs = []:=List.eq_nil_of_length_eq_zero hx0
  subst hx
  obtain ⟨v2,w2,hrun2,q1,_,_⟩:=run_append_own (P:=Tryz.prog) w w.heap.size 115 ty 118 i0 (.int .u32 0) 1 4 Tryz.underlying115 hi hz0 hz1 hz2 rfl (by decide) (.slice none 0 0) 0 [] (World.ownsRow_nil w _ 118 1) ⟨t,0,none⟩ 1 c [.int .u32 y] rfl hnews h1 (by unfold maxLen;omega) (by omega) (Nat.le_refl _)
  have e:=hrun.symm.trans hrun2
  simp only [Result.ok.injEq] at e
  obtain ⟨rfl,rfl⟩:=e
  obtain ⟨g,cap,rfl⟩:=ownsRow_succ q1
  exact ⟨g,rfl,(World.ownsRow.lt q1 _ rfl).1⟩
 ·by_cases hroom:xs.length+1≤cap
  ·left
   have hfit:xs.length*i0.size + [Value.int .u32 y].length≤cur.size:=by rw [hz1,hcs];simp;omega
   have hr:=run_append_room (P:=Tryz.prog) w 115 ty 118 i0 Tryz.underlying115 hi g xs.length cap cur hg ⟨t,0,none⟩ 1 c [.int .u32 y] (by rw [hz1];rfl) hnews h1 hroom hfit
   have e:=hrun.symm.trans hr
   simp only [Result.ok.injEq] at e
   rw [e.1]
   rfl
  ·right
   obtain ⟨v2,w2,hrun2,q1,_⟩:=run_append_arg_grows (P:=Tryz.prog) w 115 ty 118 i0 (.int .u32 0) 1 4 Tryz.underlying115 hi hz0 hz1 hz2 rfl (by decide) ⟨g,0,none⟩ xs.length cap (cN .u32 xs) (by rw [cN_length];omega) (fun j u hu=>World.ownsRow.cells hown (g:=g) rfl j u hu) ⟨t,0,none⟩ 1 c [.int .u32 y] rfl hnews (by omega) hmax hby
   have e:=hrun.symm.trans hrun2
   simp only [Result.ok.injEq] at e
   obtain ⟨rfl,rfl⟩:=e
   obtain ⟨g2,cap2,rfl⟩:=ownsRow_succ q1
   exact ⟨g2,rfl,(World.ownsRow.lt q1 _ rfl).1⟩
theorem wpList_app {w:World} {ops:Array Oper} {rest:List Oper} {o:Oper} {a:Act} {Q:Exit→Act→World→Prop} (hgd:o.guard=none) (s x:Operand)
  (ho:o.op=.call { callee:=.builtin .append,args:=#[s,x],argTypes:=#[115,115] })
  {base:Nat} {v:Value} {xs:List Int} {y:Int} {t c:Nat} (hs:a.eval s=v) (hown:OwnN .u32 118 w base v xs) (hx:a.eval x=.slice (some ⟨t,0,none⟩) 1 c) (hn:xs.length≤1000) (hy:w.cell? ⟨t,0,none⟩=some (.int .u32 y)) (hb:base≤w.heap.size)
  (h:∀ g cap w',OwnN .u32 118 w' base (.slice (some ⟨g,0,none⟩) (xs.length+1) cap) (xs++[y])→w.grownBy w' v.ownBlock→(some g=v.ownBlock∨w.heap.size≤g)→wpList Tryz.prog ops Q rest (a.put o.dst (.slice (some ⟨g,0,none⟩) (xs.length+1) cap)) w') :
  wpList Tryz.prog ops Q (o::rest) a w:=by
 obtain ⟨v',w',hrun,r1,r2,r3,g,cap,rfl⟩:=run_app (c:=c) o.type hown hn hy hb
 refine wpList_plain hgd fun K hK'=>?_
 unfold Oper.wp
 simp [execOp,ho,resolve,invoke,builtin,hs,hx,hrun,Result.andThen]
 exact hK' _ _ (h g cap w' r1 r2 (by
  rcases r3 with e | ⟨g2,e,hle⟩
  ·exact .inl e
  ·simp only [Value.ownBlock,Option.some.injEq] at e
   exact .inr (by omega)))
theorem wp_app {w:World} {o:Oper} {a:Act} {K:Act→World→Prop} {Q:Exit→Act→World→Prop} (s x:Operand)
  (ho:o.op=.call { callee:=.builtin .append,args:=#[s,x],argTypes:=#[115,115] })
  {base:Nat} {v:Value} {xs:List Int} {y:Int} {t c:Nat} (hs:a.eval s=v) (hown:OwnN .u32 118 w base v xs) (hx:a.eval x=.slice (some ⟨t,0,none⟩) 1 c) (hn:xs.length≤1000) (hy:w.cell? ⟨t,0,none⟩=some (.int .u32 y)) (hb:base≤w.heap.size)
  (h:∀ g cap w',OwnN .u32 118 w' base (.slice (some ⟨g,0,none⟩) (xs.length+1) cap) (xs++[y])→w.grownBy w' v.ownBlock→(some g=v.ownBlock∨w.heap.size≤g)→K (a.put o.dst (.slice (some ⟨g,0,none⟩) (xs.length+1) cap)) w') :
  o.wp Tryz.prog a w K Q:=by
 obtain ⟨v',w',hrun,r1,r2,r3,g,cap,rfl⟩:=run_app (c:=c) o.type hown hn hy hb
 unfold Oper.wp
 simp [execOp,ho,resolve,invoke,builtin,hs,hx,hrun,Result.andThen]
 exact h g cap w' r1 r2 (by
  rcases r3 with e | ⟨g2,e,hle⟩
  ·exact .inl e
  ·simp only [Value.ownBlock,Option.some.injEq] at e
   exact .inr (by omega))
structure Fr (X:Nat→Prop) (W w:World):Prop where
 os:w.os=W.os
 tape:w.tape=W.tape
 output:w.output=W.output
 size:W.heap.size≤w.heap.size
 block:∀ q,q < W.heap.size→¬ X q→w.heap[q]? = W.heap[q]?
section
variable {X:Nat→Prop} {W w w':World}
theorem Fr.refl:Fr X W W:=⟨rfl,rfl,rfl,Nat.le_refl _,fun _ _ _=>rfl⟩
theorem Fr.ext (h:Fr X W w) (hx:Ext w w'):Fr X W w' :=
 ⟨hx.os.trans h.os,hx.tape.trans h.tape,hx.output.trans h.output,Nat.le_trans h.size (Below.size hx),fun q hq hX=>(hx.block q (by have:=h.size;omega)).trans (h.block q hq hX)⟩
theorem Fr.grown (h:Fr X W w) {row:Option Nat} (hg:w.grownBy w' row) (hr:∀ r,row=some r→X r∨W.heap.size≤r):Fr X W w' :=
 ⟨hg.os.trans h.os,hg.tape.trans h.tape,hg.output.trans h.output,Nat.le_trans h.size hg.size,fun q hq hX=>(hg.block q (by have:=h.size;omega) (fun e=>by rcases hr q e.symm with h1 | h1;exact hX h1;omega)).trans (h.block q hq hX)⟩
theorem Fr.set (h:Fr X W w) {p:Addr} (hp:X p.block) (v:Value):Fr X W (w.setCell p v) :=
 ⟨h.os,h.tape,h.output,by simpa using h.size,fun q hq hX=>(heap_setCell_other w p q v (fun e=>hX (by rw [e];exact hp))).trans (h.block q hq hX)⟩
theorem Fr.boxed (h:Fr X W w) {B:Nat} {t:TypeId} {v:Value} (hb:Boxed W B t v) (hX:¬ X B):Boxed w B t v:=(h.block B hb.lt hX).trans hb
theorem Fr.own (h:Fr X W w) {kd:IntKind} {e:TypeId} {base:Nat} {v:Value} {xs:List Int} (ho:OwnN kd e W base v xs) (hX:∀ q,v.ownBlock=some q→¬ X q):OwnN kd e w base v xs:=by
 refine ⟨ho.1,?_⟩
 rcases ho.2 with hn | ⟨g,cap,cur,rfl,hbg,hh,r⟩
 ·exact .inl hn
 ·exact .inr ⟨g,cap,cur,rfl,hbg,(h.block g (Array.getElem?_eq_some_iff.1 hh).1 (hX g rfl)).trans hh,r⟩
theorem Fr.below (h:Fr X W w) {B:Nat} {w0:World} (hb:Below B w0 W) (hB:B≤W.heap.size) (hX:∀ q,X q→B≤q):Below B w0 w :=
 ⟨h.os.trans hb.os,h.tape.trans hb.tape,h.output.trans hb.output,Nat.le_trans hb.size h.size,fun q hq =>
  (h.block q (by omega) (fun hx=>by have:=hX q hx;omega)).trans (hb.block q hq)⟩
end
def Apart (a b:Value):Prop:=∀ q,a.ownBlock=some q→b.ownBlock ≠ some q
theorem Apart.symm {a b:Value} (h:Apart a b):Apart b a:=fun q hq e=>h q e hq
theorem Apart.new {a b:Value} {g n c N:Nat} (h:Apart a b) (hg:some g=a.ownBlock∨N≤g) (hb:∀ q,b.ownBlock=some q→q < N):Apart (.slice (some ⟨g,0,none⟩) n c) b:=fun q hq e=>by
 simp only [Value.ownBlock,Option.some.injEq] at hq
 subst hq
 rcases hg with hg | hg
 ·exact h _ hg.symm e
 ·have:=hb _ e;omega
theorem _root_.Go.Proofs.YtbgkmicelmenfaaGreatDoor.OwnN.lt {kd:IntKind} {e:TypeId} {w:World} {base:Nat} {v:Value} {xs:List Int} (h:OwnN kd e w base v xs):∀ q,v.ownBlock=some q→base≤q∧q < w.heap.size:=World.ownsRow.lt h
theorem _root_.Go.Proofs.YtbgkmicelmenfaaGreatDoor.OwnN.grown {kd:IntKind} {e:TypeId} {w w':World} {base:Nat} {v u:Value} {xs:List Int} (h:OwnN kd e w base v xs) (hg:w.grownBy w' u.ownBlock) (ha:Apart v u):OwnN kd e w' base v xs:=by
 refine World.ownsRow.kept h hg ?_
 cases hv:v.ownBlock with
 | none=>exact .inl rfl
 | some q=>exact .inr (fun e=>ha q hv e.symm)
theorem _root_.Go.Proofs.YtbgkmicelmenfaaGreatDoor.OwnN.setBox {kd:IntKind} {e:TypeId} {w:World} {base B:Nat} {v u t:Value} {ty:TypeId} {xs:List Int} (h:OwnN kd e w base v xs) (hb:Boxed w B ty t) (hne:ty ≠ e):OwnN kd e (w.setCell ⟨B,0,none⟩ u) base v xs :=
 World.ownsRow.kept h (grownBy_setCell' w B u) (.inr (hb.not_row hne h).symm)
end Go.Proofs.YtbgkmicelmenfaaGreatDoor.T
