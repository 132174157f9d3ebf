/- Own lemmas of the verifier on memory, numbers and the functions that the laws call; no statement is proved here. -/
import Derived.Test.YtbgkmicelmenfaaGreatDoorRG
import Derived.Test.YtbgkmicelmenfaaGreatDoorProg
import Derived.Deep.QuietTactic
import Derived.BigQuiet
import Derived.Laws.BitsAllLaws
import Derived.WalkMore
import Derived.ScopeJumps
import Derived.Deep.WholeRow
import Derived.RegionTactic
import Derived.StillTailTactics
import Derived.Deep.MidRow
namespace Go.Proofs.YtbgkmicelmenfaaGreatDoor.I
open Go.RowKit
set_option maxRecDepth 100000
theorem Tryz.info5:(Tryz.prog.info? 5).map (fun i=>(i.zero,i.size,i.bytes))=some (some (.int .u8 0),1,1):=by kernel_rfl
theorem ret_bool {a b:Bool} (h:a=b):Ending.returned (.bool a)=.returned (.bool b):=by rw [h]
theorem ret_int {k:IntKind} {a b:Int} (h:a=b):Ending.returned (.int k a)=.returned (.int k b):=by rw [h]
theorem tmod_neg (a n:Int) (hn:0 < n) (h:a.tmod n < 0):a.tmod n+n=a % n:=by
 have h:=@Int.tmod_eq_emod a n
 have h1:=Int.emod_nonneg a (Int.ne_of_gt hn)
 have h2:=Int.emod_lt_of_pos a hn
 split at h<;>omega
theorem tmod_pos (a n:Int) (hn:0 < n) (h:¬ a.tmod n < 0):a.tmod n=a % n:=by
 have h:=@Int.tmod_eq_emod a n
 have h1:=Int.emod_nonneg a (Int.ne_of_gt hn)
 have h2:=Int.emod_lt_of_pos a hn
 split at h<;>omega
theorem tmod_lo (a n:Int) (hn:0 < n) : - n < a.tmod n:=by
 have h:=@Int.tmod_eq_emod a n
 have h1:=Int.emod_nonneg a (Int.ne_of_gt hn)
 have h2:=Int.emod_lt_of_pos a hn
 split at h<;>omega
theorem tmod_add_emod (a n:Int) (hn:0 < n):(a.tmod n+n) % n=a % n:=by
 have h:=@Int.tmod_eq_emod a n
 rw [Int.add_emod_right]
 split at h
 ·rw [h];simp
 ·rw [h,Int.sub_emod];
  have:(n.natAbs:Int) % n=0:=by rw [Int.natAbs_of_nonneg (by omega)];simp
  rw [this];simp
set_option maxHeartbeats 400000 in
theorem rest_any (a n:Int) (w:World) (h0:0 < n) (h1:n≤9223372036854775807) :
  Calls Tryz.prog 162 #[.int .i64 a,.int .i64 n] w fun e w'=>e=.returned (.int .i64 (a % n))∧w=w':=by
 have b1:=Int.tmod_lt_of_pos a h0
 by_cases hc:a.tmod n < 0
 ·have hf:=tmod_neg a n h0 hc
  have b2:=Int.emod_nonneg a (Int.ne_of_gt h0)
  have b3:0≤a.tmod n+n:=by omega
  have HF:=hid hf;clear hf b2
  go_enter Tryz.func162,Tryz.ntmps162
  go_wp2
  go_ret
  exact ⟨ret_int HF.out,rfl⟩
 ·have hf:=tmod_pos a n h0 hc
  have HF:=hid hf;clear hf
  go_enter Tryz.func162,Tryz.ntmps162
  go_wp2
  go_ret
  exact ⟨ret_int HF.out,rfl⟩
set_option maxHeartbeats 400000 in
theorem rrest_any (a n:Int) (w:World) (h0:0 < n) (h1:n≤4611686018427387903) :
  Calls Tryz.prog 178 #[.int .i64 a,.int .i64 n] w fun e w'=>e=.returned (.int .i64 (a % n))∧w=w':=by
 have b1:=Int.tmod_lt_of_pos a h0
 have b2:=tmod_lo a n h0
 have hf:=tmod_add_emod a n h0
 have HF:=hid hf;clear hf
 go_enter Tryz.func178,Tryz.ntmps178
 go_wp2
 go_ret
 exact ⟨ret_int HF.out,rfl⟩
theorem and7i (t:Int):bits .and .i64 t 7=t % 8:=by
 have e0:bits .and .i64 t 7=IntKind.i64.wrap ((BitVec.ofInt 64 t &&& BitVec.ofInt 64 7).toNat:Int):=rfl
 have e:(BitVec.ofInt 64 t &&& BitVec.ofInt 64 7).toNat=(t % 8).toNat:=by
  rw [BitVec.toNat_and,BitVec.toNat_ofInt,BitVec.toNat_ofInt]
  have:(7 % ((2 ^ 64:Nat):Int)).toNat=7:=rfl
  rw [this,nat_mask3]
  omega
 rw [e0,e]
 simp [IntKind.wrap,IntKind.bits,IntKind.signed]
 omega
theorem bits_u8_range (op:BinOp) (a b:Int):0≤bits op .u8 a b∧bits op .u8 a b < 256:=by
 unfold bits
 simp [IntKind.wrap,IntKind.bits,IntKind.signed]
 omega
theorem turn_k (t:Int) (n:Nat) (hn:0 < n):t % (8*n)=8*(t / 8 % n)+t % 8:=by
 have h1:t=8*n*(t / 8 / n)+(8*(t / 8 % n)+t % 8):=by
  have a:=Int.mul_ediv_add_emod (t / 8) n
  have b:=Int.mul_ediv_add_emod t 8
  have c:8*(n:Int)*(t / 8 / n)=8*(n*(t / 8 / n)):=by rw [Int.mul_assoc]
  rw [c];omega
 have h2:=Int.emod_nonneg (t / 8) (show (n:Int) ≠ 0 by omega)
 have h3:=Int.emod_lt_of_pos (t / 8) (show (0:Int) < n by omega)
 have h4:(8*(t / 8 % n)+t % 8) < 8*n:=by omega
 conv=>lhs;rw [h1]
 rw [Int.add_comm,Int.add_mul_emod_self_left,Int.emod_eq_of_lt (by omega) h4]
def turnF (bs:List UInt8) (n f s i:Nat):UInt8 :=
 u8 (bits .or .u8 (byteAt bs ((f+i) % n)*2 ^ s % 256) (byteAt bs ((f+i+1) % n) / 2 ^ (8 - s)))
def turnL (bs:List UInt8) (n f s:Nat):List UInt8:=(List.range n).map (turnF bs n f s)
theorem turnF_val (bs:List UInt8) (n f s i:Nat):((turnF bs n f s i).toNat:Int)=bits .or .u8 (byteAt bs ((f+i) % n)*2 ^ s % 256) (byteAt bs ((f+i+1) % n) / 2 ^ (8 - s)):=by
 unfold turnF
 rw [u8_toNat]
 have:=bits_u8_range .or (byteAt bs ((f+i) % n)*2 ^ s % 256) (byteAt bs ((f+i+1) % n) / 2 ^ (8 - s))
 omega
theorem next_mod (a n:Nat) (_hn:0 < n):(a+1) % n=if a % n+1=n then 0 else a % n+1:=by
 rw [Nat.add_mod]
 rcases Nat.eq_or_lt_of_le (show 1≤n by omega) with h1 | h1
 ·subst h1;simp [Nat.mod_one]
 ·have h2:a % n < n:=Nat.mod_lt _ (by omega)
  rw [Nat.mod_eq_of_lt h1]
  split
  ·next h=>rw [h];exact Nat.mod_self n
  ·exact Nat.mod_eq_of_lt (by omega)
def tf (t:Int) (n:Nat):Nat:=(t / 8 % n).toNat
def ts (t:Int):Nat:=(t % 8).toNat
set_option maxHeartbeats 1000000 in
theorem turn_any (A:Option Addr) (n c:Nat) (t:Int) (bs:List UInt8) (w:World) (h:Rd w w.heap.size A n bs) (hn:n≤140737488355328) (h0:0 < n) :
  Calls Tryz.prog 98 #[.slice A n c,.int .i64 t] w (RetB w (turnL bs n (tf t n) (ts t))):=by
 have hz:((n:Int) == 0)=false:=by simp;omega
 have ht:=and7i t
 obtain ⟨f,hf⟩:∃ f:Nat,t / 8 % n=f:=⟨(t / 8 % n).toNat,by have:=Int.emod_nonneg (t / 8) (show (n:Int) ≠ 0 by omega);omega⟩
 obtain ⟨s,hs⟩:∃ s:Nat,t % 8=s:=⟨(t % 8).toNat,by omega⟩
 have hs7:s≤7:=by omega
 have hfn:f < n:=by have:=Int.emod_lt_of_pos (t / 8) (show (0:Int) < n by omega);omega
 have HT:=hid (show tf t n=f∧ts t=s by unfold tf ts;omega)
 rw [hs] at ht
 have HF:=hid hf
 clear hs hf
 go_enter Tryz.func98,Tryz.ntmps98
 go_wp2_with (first
  | (go_at_call 162;refine (rest_any _ _ _ (by omega) (by omega)).mono ?_;rintro e w' ⟨rfl,rfl⟩;rw [HF.out])
  | (at_make;refine wpL_make rfl (.tmp 21) (.tmp 21) 22 rfl Tryz.underlying22 Tryz.info5 .i64 n n rfl rfl rfl (by omega) w.heap.size (Nat.le_refl _) ?_;intro w1 hown1 hb1 _))
 go_loopw [5,25] (fun x i wr=>∃ k fr:Nat,k≤n∧fr < n∧i=.int .i64 k∧x=.int .i64 fr∧fr=(f+k) % n∧Own wr w.heap.size (.slice (some ⟨w.heap.size,0,none⟩) n n) (fillTo (turnF bs n f s) n k)∧Below w.heap.size w wr) (fun _ i _=>n - (intOf i).toNat)
 case atStart=>exact ⟨0,f,Nat.zero_le _,hfn,rfl,rfl,by rw [Nat.add_zero,Nat.mod_eq_of_lt hfn],by rw [fillTo_zero];exact hown1,hb1⟩
 case round =>
  obtain ⟨k,fr,hk,hfr,rfl,rfl,hfk,hown,hb⟩:=hrel
  have HK:=hid hfk
  clear hfk
  by_cases hlt:k < n
  ·obtain ⟨b1,o1,rfl,hb1',hc1⟩:=(h.below hb (Nat.le_refl _)).at_ (by omega)
   have hck1:=hc1 fr hfr
   obtain ⟨nx,hnx⟩:∃ nx,nx=if fr+1=n then 0 else fr+1:=⟨_,rfl⟩
   have hnk:nx=(f+k+1) % n:=by rw [next_mod _ _ h0,← HK.out];exact hnx
   have hnl:nx < n:=by rw [hnk];exact Nat.mod_lt _ h0
   have hck2:=hc1 nx hnl
   have r1:=byteAt_lo bs fr;have r2:=byteAt_hi bs fr;have r3:=byteAt_lo bs nx;have r4:=byteAt_hi bs nx
   obtain ⟨cur,hcur⟩:∃ cur,fillTo (turnF bs n f s) n k=cur:=⟨_,rfl⟩
   have hcl:cur.length=n:=by rw [← hcur];exact fillTo_length _ _ _
   rw [hcur] at hown
   have hown0:Own wr w.heap.size (.slice (some ⟨w.heap.size,0,none⟩) cur.length n) cur:=by rw [hcl];exact hown
   have hcell:=hown0.cell k (by omega)
   have hfree:=hown0.free k
   have hset:=hown0.set_ k (turnF bs n f s k)
   rw [← hcur,fillTo_set _ _ _ _ rfl,fillTo_length] at hset
   rw [turnF_val,← HK.out,← hnk] at hset
   have HH:=hid hset
   have HB:=hid hb
   have HN:=hid hnk
   clear hset hown0 hown hb hcl hcur hown1 hb1 h hc1 hnk
   by_cases hw:fr+1=n
   ·rw [if_pos hw] at hnx
    have g1:n≤fr+1:=by omega
    have g2:((fr:Int)+1 == (n:Int))=true:=by simp;omega
    subst hnx
    rw [Nat.add_zero] at hck2
    clear hw
    go_wp2
    go_region
    go_wp2
    go_roundw
    case rel=>exact ⟨k+1,0,by omega,by omega,by go_num,rfl,HN.out,HH.out,(HB.out.setCell (by simp) _).drew⟩
    case measure=>simp [intOf];omega
   ·rw [if_neg hw] at hnx
    have g2:((fr:Int)+1 == (n:Int))=false:=by simp;omega
    have g3:fr+1 < n:=by omega
    subst hnx
    clear hw
    go_wp2
    go_region
    go_wp2
    go_roundw
    case rel=>exact ⟨k+1,fr+1,by omega,by omega,by go_num,by go_num,HN.out,HH.out,(HB.out.setCell (by simp) _).drew⟩
    case measure=>simp [intOf];omega
  ·obtain rfl:k=n:=by omega
   have HH:=hid (And.intro hown hb)
   clear hown hb hown1 hb1
   go_wp2
   go_ret
   exact ⟨_,rfl,by have:=HH.out.1;rw [fillTo_full] at this;rw [HT.out.1,HT.out.2];exact this,HH.out.2⟩
theorem own_set_drewN {w:World} {base:Nat} {v u:Value} {p:Addr} {bs:List UInt8} (h:Own (w.setCell p u) base v bs) (n:Nat):Own ((w.drewN n).setCell p u) base v bs:=h
theorem below_drewN' {B:Nat} {a w:World} (h:Below B a w) (n:Nat):Below B a (w.drewN n):=⟨h.os,h.tape,h.output,h.size,h.block⟩
set_option maxHeartbeats 1000000 in
theorem rturn_any (A:Option Addr) (n c:Nat) (t:Int) (bs:List UInt8) (w:World) (h:Rd w w.heap.size A n bs) (hn:n≤140737488355328) (h0:0 < n) :
  Calls Tryz.prog 130 #[.slice A n c,.int .i64 t] w (RetB w (turnL bs n (tf t n) (ts t))):=by
 have hz:((n:Int) == 0)=false:=by simp;omega
 obtain ⟨f,hf⟩:∃ f:Nat,t / 8 % n=f:=⟨(t / 8 % n).toNat,by have:=Int.emod_nonneg (t / 8) (show (n:Int) ≠ 0 by omega);omega⟩
 obtain ⟨s,hs⟩:∃ s:Nat,t % 8=s:=⟨(t % 8).toNat,by omega⟩
 have hs7:s≤7:=by omega
 have hfn:f < n:=by have:=Int.emod_lt_of_pos (t / 8) (show (0:Int) < n by omega);omega
 have HT:=hid (show tf t n=f∧ts t=s by unfold tf ts;omega)
 have hK:t % (8*(n:Int))=((8*f+s:Nat):Int):=by rw [turn_k t n h0,hf,hs];omega
 have HF:=hid hK
 obtain ⟨K,hKK⟩:∃ K,K=8*f+s:=⟨_,rfl⟩
 rw [← hKK] at HF
 have HD:=hid (show (K:Int) / 8=f∧(K:Int) % 8=s by omega)
 have hKb:K < 8*n:=by omega
 clear hs hf hK hKK
 go_enter Tryz.func130,Tryz.ntmps130
 go_wp2_with (first
  | (go_at_call 178;refine (rrest_any _ _ _ (by omega) (by omega)).mono ?_;rintro e w' ⟨rfl,rfl⟩;rw [HF.out])
  | (at_make;refine wpL_make rfl (.tmp 11) (.tmp 11) 22 rfl Tryz.underlying22 Tryz.info5 .i64 n n rfl rfl rfl (by omega) w.heap.size (Nat.le_refl _) ?_;intro w1 hown1 hb1 _))
 go_loopw [7] (fun i wr=>∃ k:Nat,k≤n∧i=.int .i64 k∧Own wr w.heap.size (.slice (some ⟨w.heap.size,0,none⟩) n n) (fillTo (turnF bs n f s) n k)∧Below w.heap.size w wr) (fun i _=>n - (intOf i).toNat)
 case atStart=>exact ⟨0,Nat.zero_le _,rfl,by rw [fillTo_zero];exact hown1,hb1⟩
 case round =>
  obtain ⟨k,hk,rfl,hown,hb⟩:=hrel
  by_cases hlt:k < n
  ·obtain ⟨b1,o1,rfl,hb1',hc1⟩:=(h.below hb (Nat.le_refl _)).at_ (by omega)
   have hl1:(f+k) % n < n:=Nat.mod_lt _ h0
   have hl2:(f+k+1) % n < n:=Nat.mod_lt _ h0
   have hck1:=hc1 _ hl1
   have hck2:=hc1 _ hl2
   have r1:=byteAt_lo bs ((f+k) % n);have r2:=byteAt_hi bs ((f+k) % n);have r3:=byteAt_lo bs ((f+k+1) % n);have r4:=byteAt_hi bs ((f+k+1) % n)
   obtain ⟨cur,hcur⟩:∃ cur,fillTo (turnF bs n f s) n k=cur:=⟨_,rfl⟩
   have hcl:cur.length=n:=by rw [← hcur];exact fillTo_length _ _ _
   rw [hcur] at hown
   have hown0:Own wr w.heap.size (.slice (some ⟨w.heap.size,0,none⟩) cur.length n) cur:=by rw [hcl];exact hown
   have hcell:=hown0.cell k (by omega)
   have hfree:=hown0.free k
   have hset:=hown0.set_ k (turnF bs n f s k)
   rw [← hcur,fillTo_set _ _ _ _ rfl,fillTo_length] at hset
   rw [turnF_val,Nat.add_comm f k] at hset
   have HH:=hid hset
   have HB:=hid hb
   clear hset hown0 hown hb hcl hcur hown1 hb1 h hc1
   have hD1:=HD.out.1
   have hD2:=HD.out.2
   rw [Nat.add_comm f k] at hck1 hck2
   have q1:(0:Int)≤((k:Int)+f) % n:=Int.emod_nonneg _ (by omega)
   have q2:((k:Int)+f) % n < n:=Int.emod_lt_of_pos _ (by omega)
   have q3:(0:Int)≤((k:Int)+f+1) % n:=Int.emod_nonneg _ (by omega)
   have q4:((k:Int)+f+1) % n < n:=Int.emod_lt_of_pos _ (by omega)
   go_wp2
   go_quiet (fail)
   go_wp2
   go_roundw
   case rel=>exact ⟨k+1,by omega,by go_num,own_set_drewN HH.out nq,(below_drewN' HB.out nq).setCell (by simp) _⟩
   case measure=>simp [intOf];omega
  ·obtain rfl:k=n:=by omega
   have HH:=hid (And.intro hown hb)
   clear hown hb hown1 hb1
   go_wp2
   go_ret
   exact ⟨_,rfl,by have:=HH.out.1;rw [fillTo_full] at this;rw [HT.out.1,HT.out.2];exact this,HH.out.2⟩
theorem turnL_length (bs:List UInt8) (n f s:Nat):(turnL bs n f s).length=n:=by simp [turnL]
end Go.Proofs.YtbgkmicelmenfaaGreatDoor.I
namespace Go.Proofs.YtbgkmicelmenfaaGreatDoor.I
set_option maxRecDepth 100000
structure Pr (p:Nat):Prop where
 one:1 < p
 co:∀ x,0 < x→x < p→Nat.Coprime p x
theorem Pr.dvd {p x y:Nat} (h:Pr p) (hd:p ∣ x*y) (h0:0 < x) (h1:x < p):p ∣ y:=(h.co x h0 h1).dvd_of_dvd_mul_left hd
theorem lt_dvd {p x:Nat} (h:p ∣ x) (hl:x < p):x=0:=by
 obtain ⟨k,rfl⟩:=h
 rcases Nat.eq_zero_or_pos k with rfl | hk
 ·rfl
 ·have:=Nat.le_mul_of_pos_right p hk;omega
theorem small_none:∀ d,d < 257→2≤d→65537 % d ≠ 0:=by decide +kernel
theorem prime65537:Pr 65537:=by
 refine ⟨by omega,fun x h0 h1=>?_⟩
 have hg1:Nat.gcd 65537 x ∣ 65537:=Nat.gcd_dvd_left _ _
 have hg2:Nat.gcd 65537 x ∣ x:=Nat.gcd_dvd_right _ _
 have hgx:=Nat.le_of_dvd h0 hg2
 obtain ⟨k,hk⟩:=hg1
 show Nat.gcd 65537 x=1
 obtain ⟨g,hg⟩:∃ g,Nat.gcd 65537 x=g:=⟨_,rfl⟩
 rw [hg] at hk hgx ⊢
 have hg0:g ≠ 0:=by rintro rfl;omega
 have hk0:k ≠ 0:=by rintro rfl;omega
 rcases Nat.lt_or_ge g 257 with h2 | h2
 ·rcases Nat.lt_or_ge g 2 with h3 | h3
  ·omega
  ·exact absurd (by rw [hk];exact Nat.mul_mod_right g k) (small_none g h2 h3)
 ·rcases Nat.lt_or_ge k 257 with h4 | h4
  ·rcases Nat.lt_or_ge k 2 with h3 | h3
   ·have:k=1:=by omega
    subst this;omega
   ·exact absurd (by rw [hk];exact Nat.mul_mod_left g k) (small_none k h4 h3)
  ·have:=Nat.mul_le_mul h2 h4
   omega
def st (a:Nat):Nat:=if a=0 then 65536 else a
theorem st_pos (a:Nat):0 < st a:=by unfold st;split<;>omega
theorem st_lt {a:Nat} (h:a < 65536):st a < 65537:=by unfold st;split<;>omega
theorem st_mod {r:Nat} (h0:0 < r) (h1:r < 65537):st (r % 65536)=r:=by
 unfold st
 split<;>omega
theorem st_inj {a b:Nat} (ha:a < 65536) (hb:b < 65536) (h:st a=st b):a=b:=by
 unfold st at h
 split at h<;>split at h<;>omega
theorem rest_pos {x y:Nat} (h0:0 < x) (h1:x < 65537) (h2:0 < y) (h3:y < 65537):0 < x*y % 65537:=by
 rcases Nat.eq_zero_or_pos (x*y % 65537) with h | h
 ·have:=lt_dvd (prime65537.dvd (Nat.dvd_of_mod_eq_zero h) h0 h1) h3
  omega
 ·exact h
def mulF (a b:Nat):Nat:=st a*st b % 65537 % 65536
theorem mulF_lt (a b:Nat):mulF a b < 65536:=Nat.mod_lt _ (by omega)
theorem st_mul {a b:Nat} (ha:a < 65536) (hb:b < 65536):st (mulF a b)=st a*st b % 65537 :=
 st_mod (rest_pos (st_pos a) (st_lt ha) (st_pos b) (st_lt hb)) (Nat.mod_lt _ (by omega))
def pwF (a n:Nat):Nat:=st a ^ n % 65537 % 65536
theorem pwF_lt (a n:Nat):pwF a n < 65536:=Nat.mod_lt _ (by omega)
theorem pow_pos_rest {a:Nat} (ha:a < 65536):∀ n,0 < st a ^ n % 65537
 | 0=>by simp
 | n+1=>by
   have ih:=pow_pos_rest ha n
   rw [Nat.pow_succ,Nat.mul_mod,Nat.mod_eq_of_lt (st_lt ha)]
   exact rest_pos ih (Nat.mod_lt _ (by omega)) (st_pos a) (st_lt ha)
theorem st_pw {a:Nat} (ha:a < 65536) (n:Nat):st (pwF a n)=st a ^ n % 65537:=st_mod (pow_pos_rest ha n) (Nat.mod_lt _ (by omega))
theorem pwF_zero (a:Nat):pwF a 0=1:=by unfold pwF;rw [Nat.pow_zero]
theorem pwF_one {a:Nat} (ha:a < 65536):pwF a 1=a:=st_inj (pwF_lt _ _) ha (by rw [st_pw ha,Nat.pow_one,Nat.mod_eq_of_lt (st_lt ha)])
theorem pwF_add {a:Nat} (ha:a < 65536) (m n:Nat):mulF (pwF a m) (pwF a n)=pwF a (m+n):=by
 refine st_inj (mulF_lt _ _) (pwF_lt _ _) ?_
 rw [st_mul (pwF_lt _ _) (pwF_lt _ _),st_pw ha,st_pw ha,st_pw ha,Nat.pow_add,← Nat.mul_mod]
def invF (a:Nat):Nat:=pwF a 65535
end Go.Proofs.YtbgkmicelmenfaaGreatDoor.I
namespace Go.Proofs.YtbgkmicelmenfaaGreatDoor.I
open Go.RowKit
set_option maxRecDepth 100000
set_option maxHeartbeats 400000 in
theorem isNumber_any (a:Nat) (w:World) (h:a < 65536):Calls Tryz.prog 200 #[.int .i64 a] w fun e w'=>e=.returned (.bool true)∧w=w':=by
 go_enter Tryz.func200,Tryz.ntmps200
 go_wp2
 go_ret
 exact ⟨ret_bool (by simp;omega),rfl⟩
set_option maxHeartbeats 400000 in
theorem standing_any (a:Nat) (w:World) (h:a < 65536):Calls Tryz.prog 201 #[.int .i64 a] w fun e w'=>e=.returned (.int .u64 (st a:Nat))∧w=w':=by
 by_cases h0:a=0
 ·subst h0
  go_enter Tryz.func201,Tryz.ntmps201
  go_wp2
  go_ret
  exact ⟨rfl,rfl⟩
 ·have hs:st a=a:=if_neg h0
  rw [hs]
  have hz:((a:Int) == 0)=false:=by simp;omega
  clear hs
  go_enter Tryz.func201,Tryz.ntmps201
  go_wp2
  go_ret
  exact ⟨rfl,rfl⟩
theorem nat_mask16 (n:Nat):n &&& 65535=n % 65536:=by
 rw [show (65535:Nat)=2 ^ 16 - 1 from rfl,Nat.and_two_pow_sub_one_eq_mod]
theorem and16u (n:Nat) (h:n < 65537):bits .and .u64 (n:Int) 65535=((n % 65536:Nat):Int):=by
 rw [show (65535:Int)=((65535:Nat):Int) from rfl,u64_and_nat _ _ (by omega) (by omega),nat_mask16]
theorem and16i (t:Int):bits .and .i64 t 65535=t % 65536:=by
 have e0:bits .and .i64 t 65535=IntKind.i64.wrap ((BitVec.ofInt 64 t &&& BitVec.ofInt 64 65535).toNat:Int):=rfl
 have e:(BitVec.ofInt 64 t &&& BitVec.ofInt 64 65535).toNat=(t % 65536).toNat:=by
  rw [BitVec.toNat_and,BitVec.toNat_ofInt,BitVec.toNat_ofInt]
  have:(65535 % ((2 ^ 64:Nat):Int)).toNat=65535:=rfl
  rw [this,nat_mask16]
  omega
 rw [e0,e]
 simp [IntKind.wrap,IntKind.bits,IntKind.signed]
 omega
theorem st_le {a:Nat} (h:a < 65536):st a≤65536:=by have:=st_lt h;omega
set_option maxHeartbeats 400000 in
theorem mul_any (a b:Nat) (w:World) (ha:a < 65536) (hb:b < 65536):Calls Tryz.prog 163 #[.int .i64 a,.int .i64 b] w fun e w'=>e=.returned (.int .i64 (mulF a b:Nat))∧w=w':=by
 have hS:=st_le ha
 have hT:=st_le hb
 have hF:mulF a b=st a*st b % 65537 % 65536:=rfl
 obtain ⟨S,hS1⟩:∃ S,st a=S:=⟨_,rfl⟩
 obtain ⟨T,hT1⟩:∃ T,st b=T:=⟨_,rfl⟩
 have c1:=fun w=>standing_any a w ha
 have c2:=fun w=>standing_any b w hb
 rw [hS1] at hS c1 hF
 rw [hT1] at hT c2 hF
 have hM:S*T≤65536*65536:=Nat.mul_le_mul hS hT
 obtain ⟨M,hM1⟩:∃ M,S*T=M:=⟨_,rfl⟩
 rw [hM1] at hM hF
 have hMi:(S:Int)*(T:Int)=(M:Int):=by rw [← hM1];simp
 have hA:=and16u (M % 65537) (Nat.mod_lt _ (by omega))
 rw [← hF] at hA
 have hl:=mulF_lt a b
 obtain ⟨R,hR⟩:∃ R,mulF a b=R:=⟨_,rfl⟩
 rw [hR] at hA hl ⊢
 have hA2:bits .and .u64 ((M:Int) % 65537) 65535=(R:Int):=by rw [← hA];rfl
 clear hA hF hM1 hS1 hT1 hR
 have C1:=hid c1
 have C2:=hid c2
 clear c1 c2
 go_enter Tryz.func163,Tryz.ntmps163
 go_wp2_with (first
  | (go_at_call 200;refine (isNumber_any _ _ (by omega)).mono ?_;rintro e w' ⟨rfl,rfl⟩)
  | (go_at_call 201;refine (C1.out _).mono ?_;rintro e w' ⟨rfl,rfl⟩)
  | (go_at_call 201;refine (C2.out _).mono ?_;rintro e w' ⟨rfl,rfl⟩))
 go_ret
 exact ⟨rfl,rfl⟩
def negF (a:Nat):Nat:=(65536 - a) % 65536
set_option maxHeartbeats 400000 in
theorem minus_any (a:Nat) (w:World) (ha:a < 65536):Calls Tryz.prog 100 #[.int .i64 a] w fun e w'=>e=.returned (.int .i64 (negF a:Nat))∧w=w':=by
 have hA:=and16i (-(a:Int))
 go_enter Tryz.func100,Tryz.ntmps100
 go_wp2
 go_ret
 exact ⟨ret_int (by unfold negF;omega),rfl⟩
end Go.Proofs.YtbgkmicelmenfaaGreatDoor.I
namespace Go.Proofs.YtbgkmicelmenfaaGreatDoor.I
open Go.RowKit
set_option maxRecDepth 100000
theorem ones_step {a:Nat} (ha:a < 65536) (k:Nat):mulF (mulF (pwF a (2 ^ k - 1)) (pwF a (2 ^ k - 1))) a=pwF a (2 ^ (k+1) - 1):=by
 have hp:1≤2 ^ k:=Nat.one_le_pow _ _ (by omega)
 rw [pwF_add ha]
 have h1:=pwF_add ha (2 ^ k - 1+(2 ^ k - 1)) 1
 rw [pwF_one ha] at h1
 rw [h1,Nat.pow_succ]
 congr 1
 omega
def InvJ (a:Nat) (w:World) (a':Act) (w':World):Prop :=
 w=w'∧∃ (k:Nat) (u5 u6 u7 u8 u9 u10 u11 u12 u13:Value),
  a' = { tmps:=#[.int .i64 a,undef,.int .i64 0,.int .i64 (pwF a (2 ^ k - 1):Nat),.int .i64 k,u5,u6,u7,u8,u9,u10,u11,u12,u13,undef],defers:=[] }∧k < 16
def iOf (a:Act):Nat:=match a.tmps.getD 4 undef with | .int _ q=>q.toNat | _=>0
set_option maxHeartbeats 2000000 in
theorem inv_any (a:Nat) (w:World) (ha:a < 65536) :
  Calls Tryz.prog 99 #[.int .i64 a] w fun e w'=>e=.returned (.int .i64 (invF a:Nat))∧w=w':=by
 go_enter Tryz.func99,Tryz.ntmps99
 go_wp2_with fail
 refine wp_scope_jumps2 0 (InvJ a w) (fun a' _=>16 - iOf a') rfl ?_ ?_
 ·rintro a' w' ⟨rfl,k,u5,u6,u7,u8,u9,u10,u11,u12,u13,rfl,hk⟩
  have hs:=hid (ones_step ha k)
  have hl:=pwF_lt a (2 ^ k - 1)
  obtain ⟨p,hp⟩:∃ p,pwF a (2 ^ k - 1)=p:=⟨_,rfl⟩
  rw [hp] at hs hl ⊢
  have hm:=mulF_lt p p
  clear hp
  go_wp2_with fail
  refine (mul_any p p _ hl hl).mono ?_
  rintro e w' ⟨rfl,rfl⟩
  go_wp2_with fail
  refine (mul_any (mulF p p) a _ hm ha).mono ?_
  rintro e w' ⟨rfl,rfl⟩
  rw [hs.out]
  clear hm
  by_cases hlt:k+1 < 16
  ·have hlt2:(k:Int)+1 < 16:=by omega
   go_wp2_with fail
   go_step3
   refine ⟨rfl,⟨rfl,k+1,_,_,_,_,_,_,_,_,_,rfl,hlt⟩,?_⟩
   simp [iOf];omega
  ·obtain rfl:k=15:=by omega
   go_wp2_with fail
   simp only [Exit.jump]
   go_ret
   exact ⟨rfl,rfl⟩
 ·intro hfirst
  go_wp2_with fail
  go_step3
  simp only [Exit.then]
  rename_i hK
  refine hK _ _ ?_
  exact hfirst.out _ _ ⟨rfl,0,_,_,_,_,_,_,_,_,_,by rw [show pwF a (2 ^ 0 - 1)=1 from pwF_zero a];rfl,by omega⟩
end Go.Proofs.YtbgkmicelmenfaaGreatDoor.I
namespace Go.Proofs.YtbgkmicelmenfaaGreatDoor.I
open Go.RowKit
set_option maxRecDepth 100000
theorem Tryz.info3:(Tryz.prog.info? 3).map (fun i=>(i.zero,i.size,i.bytes))=some (some (.int .i64 0),1,8):=by kernel_rfl
def nb (bs:List UInt8) (k:Nat):Nat:=(bs.getD k 0).toNat
theorem byteAt_nb (bs:List UInt8) (k:Nat):byteAt bs k=(nb bs k:Nat):=rfl
theorem nb_lt (bs:List UInt8) (k:Nat):nb bs k < 256:=(bs.getD k 0).toNat_lt
def tabN (f:Nat→Nat) (n:Nat):List Int:=(List.range n).map fun i=>((f i:Nat):Int)
theorem tabN_length (f:Nat→Nat) (n:Nat):(tabN f n).length=n:=by simp [tabN]
theorem tabN_get (f:Nat→Nat) (n j:Nat) (h:j < n):(tabN f n).getD j 0=(f j:Nat):=by simp [tabN,List.getD,h]
def fillN (f:Nat→Nat) (n k:Nat):List Int:=(List.range n).map fun i=>if i < k then ((f i:Nat):Int) else 0
theorem fillN_length (f:Nat→Nat) (n k:Nat):(fillN f n k).length=n:=by simp [fillN]
theorem fillN_zero (f:Nat→Nat) (n:Nat):fillN f n 0=List.replicate n 0:=by
 apply List.ext_getElem<;>simp [fillN]
theorem fillN_full (f:Nat→Nat) (n:Nat):fillN f n n=tabN f n:=by
 apply List.ext_getElem
 ·simp [fillN,tabN]
 ·intro i h1 h2
  have:i < n:=by simpa [fillN] using h1
  simp [fillN,tabN,this]
theorem fillN_set (f:Nat→Nat) (n k:Nat) (y:Int) (hy:y=(f k:Nat)):(fillN f n k).set k y=fillN f n (k+1):=by
 subst hy
 apply List.ext_getElem
 ·simp [fillN]
 ·intro i h1 h2
  simp only [fillN,List.getElem_set,List.getElem_map,List.getElem_range]
  by_cases h:k=i
  ·subst h;simp
  ·rw [if_neg h]
   by_cases h':i < k
   ·rw [if_pos h',if_pos (by omega)]
   ·rw [if_neg h',if_neg (by omega)]
def numF (bs:List UInt8) (j:Nat):Nat:=256*nb bs (2*j)+nb bs (2*j+1)
theorem numF_lt (bs:List UInt8) (j:Nat):numF bs j < 65536:=by
 unfold numF
 have:=nb_lt bs (2*j)
 have:=nb_lt bs (2*j+1)
 omega
theorem i64_or_nat (a b:Nat) (ha:a < 2 ^ 63) (hb:b < 2 ^ 63):bits .or .i64 (a:Int) (b:Int)=((a ||| b:Nat):Int):=by
 have e0:bits .or .i64 (a:Int) (b:Int)=IntKind.i64.wrap ((BitVec.ofInt 64 (a:Int) ||| BitVec.ofInt 64 (b:Int)).toNat:Int):=rfl
 have h:a ||| b < 2 ^ 63:=Nat.or_lt_two_pow ha hb
 have e:(BitVec.ofInt 64 (a:Int) ||| BitVec.ofInt 64 (b:Int)).toNat=a ||| b:=by
  rw [BitVec.toNat_or,BitVec.toNat_ofInt,BitVec.toNat_ofInt]
  have h1:((a:Int) % ((2 ^ 64:Nat):Int)).toNat=a:=by omega
  have h2:((b:Int) % ((2 ^ 64:Nat):Int)).toNat=b:=by omega
  rw [h1,h2]
 rw [e0,e]
 simp [IntKind.wrap,IntKind.bits,IntKind.signed]
 omega
theorem or_pair {x y:Nat} (hx:x < 256) (hy:y < 256):bits .or .i64 ((x:Int)*256) (y:Int)=(x:Int)*256+y:=by
 have e:(x:Int)*256=((256*x:Nat):Int):=by omega
 rw [e,i64_or_nat _ _ (by omega) (by omega)]
 have h1:256*x ||| y=256*x+y:=by
  rw [show (256:Nat)=2 ^ 8 from rfl,← Nat.two_pow_add_eq_or_of_lt (show y < 2 ^ 8 by omega)]
 rw [h1]
 omega
set_option maxHeartbeats 2000000 in
theorem numbers_any (A:Option Addr) (m c:Nat) (bs:List UInt8) (w:World) (h:Rd w w.heap.size A (2*m) bs) (hm:m≤1000) :
  Calls Tryz.prog 56 #[.slice A (2*m:Nat) c] w fun e w'=>e=.returned (.slice (some ⟨w.heap.size,0,none⟩) m m)∧OwnN .i64 3 w' w.heap.size (.slice (some ⟨w.heap.size,0,none⟩) m m) (tabN (numF bs) m)∧Below w.heap.size w w':=by
 have h2:((2*m:Nat):Int) / 2=(m:Int):=by omega
 go_enter Tryz.func56,Tryz.ntmps56
 go_wp2_with (at_make;refine wpL_makeN rfl (.tmp 7) (.tmp 7) 40 rfl Tryz.underlying40 8 Tryz.info3 .i64 m m rfl rfl rfl (by omega) (by unfold maxLen;omega) w.heap.size (Nat.le_refl _) ?_;intro w1 hown1 hb1)
 go_loopw [11] (fun i wr=>∃ k:Nat,k≤m∧i=.int .i64 k∧OwnN .i64 3 wr w.heap.size (.slice (some ⟨w.heap.size,0,none⟩) m m) (fillN (numF bs) m k)∧Below w.heap.size w wr) (fun i _=>m - (intOf i).toNat)
 case atStart=>exact ⟨0,Nat.zero_le _,rfl,by rw [fillN_zero];exact hown1,hb1⟩
 case round =>
  obtain ⟨k,hk,rfl,hown,hb⟩:=hrel
  by_cases hlt:k < m
  ·obtain ⟨b1,o1,rfl,hb1',hc1⟩:=(h.below hb (Nat.le_refl _)).at_ (by omega)
   have hck1:=hc1 (2*k) (by omega)
   have hck2:=hc1 (2*k+1) (by omega)
   rw [byteAt_nb] at hck1 hck2
   have r1:=nb_lt bs (2*k)
   have r2:=nb_lt bs (2*k+1)
   have HV:=hid (show ((numF bs k:Nat):Int)=(nb bs (2*k):Int)*256+nb bs (2*k+1) by unfold numF;omega)
   obtain ⟨x,hx⟩:∃ x,nb bs (2*k)=x:=⟨_,rfl⟩
   obtain ⟨y,hy⟩:∃ y,nb bs (2*k+1)=y:=⟨_,rfl⟩
   rw [hx] at hck1 r1 HV
   rw [hy] at hck2 r2 HV
   have hor:=or_pair r1 r2
   have hl:=fillN_length (numF bs) m k
   have hcell:=hown.celln hl k hlt
   have hfree:=hown.free k
   have hset:=hown.setn hl k ((x:Int)*256+y)
   rw [fillN_set _ _ _ _ HV.out.symm] at hset
   have HH:=hid hset
   have HB:=hid hb
   clear hset hown hb hown1 hb1 h hc1 hx hy hl HV
   go_wp2_with fail
   go_region
   go_wp2_with fail
   go_roundw
   case rel=>exact ⟨k+1,by omega,by go_num,HH.out,(HB.out.setCell (by simp) _).drew⟩
   case measure=>simp [intOf];omega
  ·obtain rfl:k=m:=by omega
   have HH:=hid (And.intro hown hb)
   clear hown hb hown1 hb1
   go_wp2_with fail
   go_ret
   exact ⟨rfl,by have:=HH.out.1;rw [fillN_full] at this;exact this,HH.out.2⟩
end Go.Proofs.YtbgkmicelmenfaaGreatDoor.I
namespace Go.Proofs.YtbgkmicelmenfaaGreatDoor.I
open Go.RowKit
set_option maxRecDepth 100000
def rowT (key:List UInt8):Nat→List UInt8
 | 0=>key
 | r+1=>turnL (rowT key r) 16 (tf 25 16) (ts 25)
def keyF (key:List UInt8) (i:Nat):Nat:=numF (rowT key (i / 8)) (i % 8)
theorem keyF_lt (key:List UInt8) (i:Nat):keyF key i < 65536:=numF_lt _ _
theorem keyF_at (key:List UInt8) (r i:Nat) (h:i < 8):keyF key (8*r+i)=numF (rowT key r) i:=by
 unfold keyF
 rw [show (8*r+i) / 8=r by omega,show (8*r+i) % 8=i by omega]
structure F4 where
 a:Nat
 b:Nat
 c:Nat
 d:Nat
deriving DecidableEq
structure F4.ok (x:F4):Prop where
 a:x.a < 65536
 b:x.b < 65536
 c:x.c < 65536
 d:x.d < 65536
def F4.cells (x:F4):Array Value:=#[.int .i64 (x.a:Nat),.int .i64 (x.b:Nat),.int .i64 (x.c:Nat),.int .i64 (x.d:Nat)]
def swF (x:F4):F4:=⟨x.a,x.c,x.b,x.d⟩
def undF (k:Nat→Nat) (i:Nat):Nat :=
 let r:=i / 6
 let f:=48 - 6*r
 let s:=if 0 < r∧r < 8 then 1 else 0
 match i % 6 with
 | 0=>invF (k f)
 | 1=>negF (k (f+1+s))
 | 2=>negF (k (f+2 - s))
 | 3=>invF (k (f+3))
 | 4=>k (f - 2)
 | _=>k (f - 1)
def two (n:Nat):List UInt8:=[UInt8.ofNat (n / 256),UInt8.ofNat n]
end Go.Proofs.YtbgkmicelmenfaaGreatDoor.I
namespace Go.Proofs.YtbgkmicelmenfaaGreatDoor.I
open Go.RowKit
set_option maxRecDepth 100000
set_option maxRecDepth 100000
theorem x2 (a g:Nat):a ^^^ g ^^^ g=a:=by rw [Nat.xor_assoc,Nat.xor_self,Nat.xor_zero]
section
variable (k:Nat→Nat) (r:Nat)
end
end Go.Proofs.YtbgkmicelmenfaaGreatDoor.I
namespace Go.Proofs.YtbgkmicelmenfaaGreatDoor.I
open Go.RowKit
set_option maxRecDepth 100000
theorem wp_copy_blk {g:Nat} {e:TypeId} {L:List Int} {w:World} {o:Oper} {a:Act} {K:Act→World→Prop} {Q:Exit→Act→World→Prop} (d s:Operand) (ho:o.op=.call { callee:=.builtin .copy,args:=#[d,s],argTypes:=#[40,40] })
  (off nd cap ns cs B q:Nat) (b0 o0:Nat) (ys:List Int) (hd:a.eval d=.slice (some ⟨g,off,none⟩) nd cap) (hs:a.eval s=.slice (some ⟨b0,o0,none⟩) ns cs)
  (hb:Blk w g e L) (hq:q=min ns nd) (hfit:off+q≤L.length) (hr:RdN .i64 w B (some ⟨b0,o0,none⟩) ns ys)
  (h:∀ w',Blk w' g e (spl L off (ys.take q))→w.grownBy w' (some g)→K (a.put o.dst (goInt q)) w'):o.wp Tryz.prog a w K Q:=by
 have hyl:=hr.len
 have hcl:(cN .i64 (ys.take q)).length=q:=by rw [cN_length,List.length_take];omega
 have hrun:=run_copy_row Tryz.prog w 40 40 o.type 3 g off nd cap ⟨b0,o0,none⟩ ns cs (cN .i64 L).toArray e (cN .i64 (ys.take q)) Tryz.underlying40 (by kernel_rfl) hb (by rw [hcl];exact hq)
  (by
    intro j v hv
    have hj:j < q:=by
     rcases Nat.lt_or_ge j q with hj | hj
     ·exact hj
     ·rw [List.getElem?_eq_none (by omega)] at hv;cases hv
    rw [cN_get _ _ j (by rw [List.length_take];omega)] at hv
    cases hv
    obtain ⟨b,o1,e1,_,hc⟩:=hr.at_ (by omega)
    cases e1
    rw [add_off,hc j (by omega)]
    congr 2
    simp [List.getD,hj]) (by rw [hcl,cN_size];omega) (cN_one _ _)
 have es:List.take off (cN .i64 L).toArray.toList++cN .i64 (ys.take q)++List.drop (off+(cN .i64 (ys.take q)).length) (cN .i64 L).toArray.toList=cN .i64 (spl L off (ys.take q)):=by
  unfold spl cN
  simp [List.map_append,List.map_take,List.map_drop]
 rw [es,hcl] at hrun
 have hfin:=h (w.setRow g (cN .i64 (spl L off (ys.take q))).toArray) (hb.put _) ⟨rfl,rfl,rfl,by simp [World.setRow],fun k _ hk=>by
  have hne:¬ g=k:=fun e=>hk (by rw [e])
  exact setRow_other w g k _ (Ne.symm hne)⟩
 unfold Oper.wp
 simp only [execOp,ho,resolve,invoke,builtin,Sem.run_bind,Sem.run_pure,Result.andThen_ok,List.map_toArray,List.map_cons,List.map_nil,hd,hs]
 rw [hrun]
 simp only [Result.andThen]
 rw [Oper.upon_value]
 exact hfin
end Go.Proofs.YtbgkmicelmenfaaGreatDoor.I
namespace Go.Proofs.YtbgkmicelmenfaaGreatDoor.I
open Go.RowKit
set_option maxRecDepth 100000
theorem cf19 (vs:Array Value) (w:World):(callFunc 56 vs).run Tryz.prog w=.ok (.enter 56 vs) w:=by go_simp
theorem slice_lo25 (g off n c l:Nat) (w:World) (hl:l≤n) (hc:l < c) :
  (Instr.sliceAt 40 (.slice (some ⟨g,off,none⟩) n c) (some (.int .i64 (l:Int))) none none).run Tryz.prog w=.ok (.slice (some ⟨g,off+l,none⟩) (n - l) (c - l)) w:=by
 have ht:Tryz.prog.underlying 40 = some (.slice (Tryz.prog.elem 40)):=by kernel_rfl
 have hs:(sizeOf (Tryz.prog.elem 40)).run Tryz.prog w=.ok 1 w:=by kernel_rfl
 rw [run_sliceAt_slice w 40 _ _ _ _ ht,run_slice_l w 40 (some ⟨g,off,none⟩) n c ht .i64 l (by omega) (by omega),hs]
 simp only [Result.andThen,sliced,Int.toNat_natCast]
 rw [if_neg (by omega)]
 simp [add_off]
theorem _root_.Go.Proofs.YtbgkmicelmenfaaGreatDoor.Rd.grown {w w':World} {B n g:Nat} {A:Option Addr} {bs:List UInt8} (h:Rd w B A n bs) (hg:w.grownBy w' (some g)) (_hB:B≤w.heap.size) (hne:∀ a,A=some a→a.block ≠ g):Rd w' B A n bs :=
 ⟨h.len,fun hn=>by
  obtain ⟨b,o,rfl,hb,hc⟩:=h.at_ hn
  refine ⟨b,o,rfl,hb,fun k hk=>?_⟩
  have h1:=hne _ rfl
  exact hg.cell (hc k hk) (by simpa using h1)⟩
theorem wrap_i64 {x:Int} (h0 : -9223372036854775808≤x) (h1:x≤9223372036854775807):IntKind.i64.wrap x=x:=by
 simp [IntKind.wrap,IntKind.bits,IntKind.signed];omega
def copQ (r:Nat):Nat:=min 8 (52 - 8*r)
theorem keys_fill (key:List UInt8) (r:Nat) (hr:r≤6):spl (fillN (keyF key) 52 (8*r)) (8*r) ((tabN (numF (rowT key r)) 8).take (copQ r))=fillN (keyF key) 52 (8*r+copQ r):=by
 have hq:copQ r≤8∧8*r+copQ r≤52:=by unfold copQ;omega
 have hl:((tabN (numF (rowT key r)) 8).take (copQ r)).length=copQ r:=by rw [List.length_take,tabN_length];omega
 refine int_ext (n:=52) (by rw [spl_length (by rw [hl,fillN_length];omega),fillN_length]) (fillN_length _ _ _) fun j hj=>?_
 rw [spl_get (by rw [hl,fillN_length];omega),hl]
 have hg:∀ k,(fillN (keyF key) 52 k).getD j 0=if j < k then ((keyF key j:Nat):Int) else 0:=fun k=>by simp [fillN,List.getD,hj]
 rw [hg,hg]
 by_cases h1:j < 8*r
 ·rw [if_pos h1,if_pos h1,if_pos (by omega)]
 ·rw [if_neg h1,if_neg h1]
  by_cases h2:j < 8*r+copQ r
  ·rw [if_pos h2,if_pos h2]
   have e:((tabN (numF (rowT key r)) 8).take (copQ r)).getD (j - 8*r) 0=(tabN (numF (rowT key r)) 8).getD (j - 8*r) 0:=by
    simp only [List.getD]
    rw [List.getElem?_take,if_pos (by omega)]
   rw [e,tabN_get _ _ _ (by omega),← keyF_at key r (j - 8*r) (by omega),show 8*r+(j - 8*r)=j by omega]
  ·rw [if_neg h2,if_neg h2]
def KeyRet (w:World) (key:List UInt8) (e:Ending) (w':World):Prop :=
 ∃ g,e=.returned (.tuple #[.slice (some ⟨g,0,none⟩) 52 52,.int .i64 0])∧w.heap.size≤g∧Blk w' g 3 (tabN (keyF key) 52)∧Ext w w'
structure KeyS (key:List UInt8) (w:World) (g r:Nat) (A:Option Addr) (w1:World):Prop where
 hr:r≤6
 rd:Rd w1 w1.heap.size A 16 (rowT key r)
 ne:∀ a,A=some a→a.block ≠ g
 blk:Blk w1 g 3 (fillN (keyF key) 52 (8*r))
 lt:w.heap.size≤g
 ext:Ext w w1
def KeyJ (key:List UInt8) (w:World) (a:Act) (w1:World):Prop :=
 ∃ (g r:Nat) (A:Option Addr) (c:Nat) (u6 u7 u8 u9 u10 u11 u12 u13 u14 u15 u16 u17 u18 u19 u20 u21:Value),
  a = { tmps:=#[.slice A 16 c,undef,.slice none 0 0,.int .i64 0,.slice (some ⟨g,0,none⟩) 52 52,.int .i64 (8*r:Nat),u6,u7,u8,u9,u10,u11,u12,u13,u14,u15,u16,u17,u18,u19,u20,u21,undef],defers:=[] }∧KeyS key w g r A w1
def atOf (a:Act):Nat:=match a.tmps.getD 5 undef with | .int _ q=>q.toNat | _=>0
def keyKs (key:List UInt8) (g r:Nat) (A:Option Addr) (c:Nat):List K:=[.eq (.int .i64 (8*r:Nat)),.eq (.slice (some ⟨g,0,none⟩) 52 52),.eq (.int .i64 (8*r:Nat)),.eq (.slice (some ⟨g,8*r,none⟩) (52 - 8*r) (52 - 8*r)),.eq (.slice A 16 c),
 .num g 8 (cN .i64 (tabN (numF (rowT key r)) 8)).toArray,.eq (.int .i64 (copQ r:Nat)),.eq (.int .i64 (8*r+copQ r:Nat)),.eq (.int .i64 (8*r+copQ r:Nat))]
set_option maxHeartbeats 4000000 in
theorem keys_any (A:Option Addr) (c:Nat) (key:List UInt8) (w:World) (h:Rd w w.heap.size A 16 key) :
  Calls Tryz.prog 53 #[.slice A 16 c] w (KeyRet w key):=by
 have HR:=hid h
 clear h
 go_enter Tryz.func53,Tryz.ntmps53
 go_wp2_with fail
 refine wp_scope_jumps2 0 (KeyJ key w) (fun a _=>52 - atOf a) rfl ?_ ?_
 ·rintro a w1 ⟨g,r,A1,c1,u6,u7,u8,u9,u10,u11,u12,u13,u14,u15,u16,u17,u18,u19,u20,u21,rfl,hS⟩
  have hr:=hS.hr
  have HS:=hid hS
  clear hS
  have hq:copQ r≤8∧8*r+copQ r≤52∧0 < copQ r:=by unfold copQ;omega
  go_wp2_with fail
  refine region_one 6 _ (fun w2=>Blk w2 g 3 (fillN (keyF key) 52 (8*r+copQ r))∧Ext w w2∧Rd w2 w2.heap.size A1 16 (rowT key r)) mixed rfl (by kernel_rfl) rfl rfl (kV (keyKs key g r A1 c1)) (kV_keep _)
   (fun w w' hx hh=>⟨hh.1.later hx,hh.2.1.trans hx,hh.2.2.later hx⟩) (forall_ops ⟨?_,?_,?_,?_,?_,?_,fun h=>absurd rfl h,?_,?_,trivial⟩) ?_ ?_
  ·intro _ a w2 hk _
   have s5:a.tmps.getD 5 undef=.int .i64 (8*r:Nat):=hk.was 5 (by kernel_rfl) rfl
   exact step_move rfl rfl s5 rfl
  ·intro _ a w2 hk _
   have s4:a.tmps.getD 4 undef=.slice (some ⟨g,0,none⟩) 52 52:=hk.was 4 (by kernel_rfl) rfl
   exact step_move rfl rfl s4 rfl
  ·intro _ a w2 hk _
   have s5:a.tmps.getD 5 undef=.int .i64 (8*r:Nat):=hk.was 5 (by kernel_rfl) rfl
   exact step_move rfl rfl s5 rfl
  ·intro _ a w2 hk _
   have s11:=hk.eq_ 1 11 (by kernel_rfl) rfl
   have s12:=hk.eq_ 2 12 (by kernel_rfl) rfl
   refine step_val (v:=.slice (some ⟨g,8*r,none⟩) (52 - 8*r) (52 - 8*r)) (w':=w2) rfl ?_ (Ext.refl w2) rfl
   have e:=slice_lo25 g 0 52 52 (8*r) w2 (by omega) (by omega)
   rw [Nat.zero_add] at e
   simp only [execOp,Act.eval,Option.map_some,Option.map_none,s11,s12,Sem.run_bind,e,Sem.run_pure,Result.andThen]
  ·intro _ a w2 hk _
   have s0:a.tmps.getD 0 undef=.slice A1 16 c1:=hk.was 0 (by kernel_rfl) rfl
   exact step_move rfl rfl s0 rfl
  ·intro _ a w2 hk hx
   have hx2:=hx (by kernel_rfl)
   have s14:=hk.eq_ 4 14 (by kernel_rfl) rfl
   have hgl:=HS.out.blk.lt
   have hz:=Below.size hx2
   exact step_call rfl rfl (by simp only [List.map_toArray,List.map_cons,List.map_nil,Act.eval,s14]<;>rfl) cf19 (numbers_any A1 8 c1 (rowT key r) w2 (HS.out.rd.later hx2) (by omega))
    (fun e w' hh=>⟨_,hh.1,hh.2.2,_,rfl,by omega,blk_of_own hh.2.1⟩)
  ·intro _ a w2 hk _
   have s10:=hk.eq_ 0 10 (by kernel_rfl) rfl
   have s16:=hk.eq_ 6 16 (by kernel_rfl) rfl
   refine step_val (v:=.int .i64 (8*r+copQ r:Nat)) (w':=w2) rfl ?_ (Ext.refl w2) rfl
   go_simp
   exact wrap_i64 (by omega) (by omega)
  ·intro _ a w2 hk _
   have s17:=hk.eq_ 7 17 (by kernel_rfl) rfl
   exact step_assign rfl rfl s17 rfl
  ·intro a w2 hk
   have s13:=hk.eq_ 3 13 (by kernel_rfl) rfl
   obtain ⟨b,s15,hbne,hbh⟩:=hk.val 5 15 (by kernel_rfl) rfl
   have hx:=hk.ext
   have hb1:=HS.out.blk.later hx
   have hb2:Blk w2 b 3 (tabN (numF (rowT key r)) 8):=hbh
   have hrd:=hb2.rd 0 8 (by rw [tabN_length];omega)
   refine wp_copy_blk (.tmp 13) (.tmp 15) rfl (8*r) (52 - 8*r) (52 - 8*r) 8 8 _ (copQ r) b 0 _ s13 s15 hb1 rfl (by rw [fillN_length];omega) hrd ?_
   intro w3 hb3 hg3
   have e:(List.drop 0 (tabN (numF (rowT key r)) 8)).take 8=tabN (numF (rowT key r)) 8:=by
    rw [List.drop_zero,List.take_of_length_le (by rw [tabN_length];omega)]
   rw [e,keys_fill key r hr] at hb3
   refine ⟨_,rfl,⟨hb3,(HS.out.ext.trans hx).below hg3 HS.out.lt,?_⟩,rfl,fun i v hv=>kV_grown (by simp [keyKs,K.okG]) hg3 i v hv⟩
   exact ((HS.out.rd.later hx).grown hg3 (Nat.le_refl _) HS.out.ne).more hg3.size
  ·intro a w2 hf hW
   have s10:=hf.eq_ 0 10 (by kernel_rfl) rfl
   have s11:=hf.eq_ 1 11 (by kernel_rfl) rfl
   have s12:=hf.eq_ 2 12 (by kernel_rfl) rfl
   have s13:=hf.eq_ 3 13 (by kernel_rfl) rfl
   have s14:=hf.eq_ 4 14 (by kernel_rfl) rfl
   obtain ⟨b,s15,hbne,hbh⟩:=hf.val 5 15 (by kernel_rfl) rfl
   have s16:=hf.eq_ 6 16 (by kernel_rfl) rfl
   have s17:=hf.eq_ 7 17 (by kernel_rfl) rfl
   have s5:=hf.eq_ 8 5 (by kernel_rfl) rfl
   have e:=hf.frame
   clear hf
   simp only [regFrame,Act.put,List.setIfInBounds_toArray,List.set_cons_zero,List.set_cons_succ,s10,s11,s12,s13,s14,s15,s16,s17,s5] at e
   clear s10 s11 s12 s13 s14 s15 s16 s17 s5 hbh hbne
   subst e
   have HW:=hid hW
   clear hW
   by_cases hlt:r < 6
   ·have e8:8*r+copQ r=8*(r+1):=by unfold copQ;omega
    rw [e8] at HW ⊢
    have hc1:((8*(r+1):Nat):Int) < 52:=by omega
    go_wp2_with fail
    refine (turn_any A1 16 c1 25 _ _ HW.out.2.2 (by omega) (by omega)).mono ?_
    rintro e w3 ⟨v,rfl,ho,hb⟩
    have hb:Ext w2 w3:=hb
    obtain ⟨A3,c3,rfl,hr3,_,hbase⟩:=ho.rd
    rw [show (turnL (rowT key r) 16 (tf 25 16) (ts 25)).length=16 from turnL_length _ _ _ _] at hr3 ⊢
    have hgl:=HW.out.1.lt
    have HS3:=hid (show KeyS key w g (r+1) A3 w3 from ⟨by omega,hr3,fun a ha=>by have:=hbase a ha;omega,HW.out.1.later hb,HS.out.lt,HW.out.2.1.trans hb⟩)
    clear ho hr3 hbase hb
    go_wp2_with fail
    go_step3
    refine ⟨rfl,⟨g,r+1,A3,c3,_,_,_,_,_,_,_,_,_,_,_,_,_,_,_,_,rfl,HS3.out⟩,?_⟩
    simp [atOf];omega
   ·obtain rfl:r=6:=by omega
    have e8:8*6+copQ 6=52:=rfl
    rw [e8] at HW ⊢
    go_wp2_with fail
    simp only [Exit.jump]
    go_ret2
    exact ⟨g,rfl,HS.out.lt,by have:=HW.out.1;rw [fillN_full] at this;exact this,HW.out.2.1⟩
 ·intro hfirst
  go_wp2_with (at_make;refine wpL_makeN rfl (.const (.int .i64 52)) (.const (.int .i64 52)) 40 rfl Tryz.underlying40 8 Tryz.info3 .i64 _ 52 rfl rfl rfl (by omega) (by unfold maxLen;omega) w.heap.size (Nat.le_refl _) ?_;intro w1 hown1 hb1)
  go_step3
  simp only [Exit.then]
  rename_i hK
  refine hK _ _ ?_
  have hblk:=blk_of_own hown1
  rw [← fillN_zero (keyF key)] at hblk
  exact hfirst.out _ _ ⟨_,0,A,c,_,_,_,_,_,_,_,_,_,_,_,_,_,_,_,_,rfl,⟨by omega,HR.out.later hb1,fun a ha=>by
   obtain ⟨b,o,e,hb,_⟩:=HR.out.at_ (by omega)
   rw [e] at ha;cases ha
   show b ≠ w.heap.size
   omega,hblk,Nat.le_refl _,hb1⟩⟩
end Go.Proofs.YtbgkmicelmenfaaGreatDoor.I
namespace Go.Proofs.YtbgkmicelmenfaaGreatDoor.I
open Go.RowKit
set_option maxRecDepth 100000
theorem tabN_succ (f:Nat→Nat) (k:Nat):tabN f (k+1)=tabN f k++[((f k:Nat):Int)]:=by simp [tabN,List.range_succ]
theorem num_key {key:List UInt8} {r j:Nat} (hj:j < 8):((keyF key (8*r+j):Nat):Int)=(nb (rowT key r) (2*j):Int)*256+nb (rowT key r) (2*j+1):=by
 rw [keyF_at key r j hj]
 unfold numF
 omega
theorem wpL_append1 {P:Program} (w:World) {ops:Array Oper} {rest:List Oper} {o:Oper} {a:Act} {Q:Exit→Act→World→Prop} (hgd:o.guard=none) (s x:Operand) (t:TypeId)
  (ho:o.op=.call { callee:=.builtin .append,args:=#[s,x],argTypes:=#[t,t] }) (hu:P.underlying t=some (.slice 3))
  (hin:(P.info? 3).map (fun i=>(i.zero,i.size,i.bytes))=some (some (.int .i64 0),1,8))
  (base:Nat) (v:Value) (xs:List Int) (hs:a.eval s=v) (hown:OwnN .i64 3 w base v xs)
  (g c:Nat) (X:Int) (hx:a.eval x=.slice (some ⟨g,0,none⟩) 1 c) (hc:w.cell? ⟨g,0,none⟩=some (.int .i64 X)) (hlen:xs.length≤1000) (hbase:base≤w.heap.size)
  (h:∀ v' w',OwnN .i64 3 w' base v' (xs++[X])→w.grownBy w' v.ownBlock→wpList P ops Q rest (a.put o.dst v') w'):wpList P ops Q (o::rest) a w:=by
 obtain ⟨i0,hi0,hz0,hz1,hz2⟩:=info_parts hin
 refine wpList_append_own w hgd s x t ho base 3 i0 (.int .i64 0) 1 8 hu hi0 hz0 hz1 hz2 rfl (by omega) v xs.length (cN .i64 xs) hs hown ⟨g,0,none⟩ 1 c [.int .i64 X] hx rfl ?_ (by intro y hy;simp at hy;subst hy;rfl) (by unfold maxLen;omega) (by omega) hbase ?_
 ·intro j y hy
  match j with
  | 0=>simp at hy;subst hy;rw [add_at];exact hc
  | j+1=>simp at hy
 ·intro v' w' h2 h3 _
  refine h v' w' ?_ h3
  unfold OwnN
  rw [cN_append,List.length_append]
  exact h2
theorem _root_.Go.Proofs.YtbgkmicelmenfaaGreatDoor.OwnN.block_ne {e:TypeId} {w:World} {base:Nat} {v:Value} {xs:List Int} (h:OwnN .i64 e w base v xs) {b:Nat} {cur:Array Value} {e2:TypeId} {f:Nat×Nat} (hb:w.heap[b]? = some (.cells cur e2 f)) (hne:e2 ≠ e):some b ≠ v.ownBlock:=by
 rcases h.2 with ⟨rfl,_⟩ | ⟨g,cap,cur2,rfl,_,hh,_⟩
 ·simp [Value.ownBlock]
 ·simp only [Value.ownBlock,ne_eq,Option.some.injEq]
  rintro rfl
  rw [hh] at hb
  cases hb
  exact hne rfl
theorem _root_.Go.Proofs.YtbgkmicelmenfaaGreatDoor.OwnN.block_ge {e:TypeId} {w:World} {base:Nat} {v:Value} {xs:List Int} (h:OwnN .i64 e w base v xs) {b:Nat} (hb:b < base):some b ≠ v.ownBlock:=by
 rcases h.2 with ⟨rfl,_⟩ | ⟨g,cap,cur2,rfl,hg,hh,_⟩
 ·simp [Value.ownBlock]
 ·simp only [Value.ownBlock,ne_eq,Option.some.injEq]
  omega
def KeyAt (w:World) (base:Nat) (A:Option Addr) (c:Nat) (bs:List UInt8):Prop:=base≤w.heap.size∧(Rd w base A 16 bs∨(bs.length=16∧Own w base (.slice A 16 c) bs))
theorem KeyAt.rd {w:World} {base c:Nat} {A:Option Addr} {bs:List UInt8} (h:KeyAt w base A c bs):Rd w w.heap.size A 16 bs:=by
 rcases h with ⟨hz,h | ⟨hl,h⟩⟩
 ·exact h.more hz
 ·obtain ⟨A1,c1,e,hr,_⟩:=h.rdn hl
  cases e
  exact hr
theorem KeyAt.later {w w':World} {base c:Nat} {A:Option Addr} {bs:List UInt8} (h:KeyAt w base A c bs) (hx:Ext w w'):KeyAt w' base A c bs:=by
 refine ⟨Nat.le_trans h.1 (Below.size hx),?_⟩
 rcases h with ⟨hz,h | ⟨hl,h⟩⟩
 ·exact .inl (h.below hx hz)
 ·exact .inr ⟨hl,h.kept hx⟩
theorem KeyAt.grown {w w':World} {base base2 c:Nat} {A:Option Addr} {bs:List UInt8} {v:Value} {xs:List Int} (h:KeyAt w base A c bs) (hv:OwnN .i64 3 w base2 v xs) (hb:base≤base2) (hg:w.grownBy w' v.ownBlock):KeyAt w' base A c bs:=by
 refine ⟨Nat.le_trans h.1 hg.size,?_⟩
 rcases h with ⟨hz,h | ⟨hl,h⟩⟩
 ·exact .inl ⟨h.len,fun hn=>by
   obtain ⟨b,o,rfl,hb1,hc⟩:=h.at_ hn
   exact ⟨b,o,rfl,hb1,fun k hk=>hg.cell (hc k hk) (hv.block_ge (by show b < base2;omega))⟩⟩
 ·refine .inr ⟨hl,h.1,?_⟩
  rcases h.2 with hn | ⟨b,cap,cur,e,hbg,hh,rr⟩
  ·exact .inl hn
  ·exact .inr ⟨b,cap,cur,e,hbg,by rw [hg.block b (Array.getElem?_eq_some_iff.1 hh).1 (hv.block_ne hh (by decide))];exact hh,rr⟩
def lenOfV:Value→Nat
 | .slice _ n _=>n
 | _=>0
def RKeyRet (w:World) (key:List UInt8) (e:Ending) (w':World):Prop :=
 ∃ A c,e=.returned (.tuple #[.slice A 52 c,.int .i64 0])∧52≤c∧RdN .i64 w' w'.heap.size A 52 (tabN (keyF key) 52)∧Ext w w'
def refKs (r j b1 o1 c1 x y:Nat) (A3:Option Addr) (c3:Nat):List K:=[.eq (.slice A3 (8*r+j) c3),.eq (.slice (some ⟨b1,o1,none⟩) 16 c1),.eq (.int .i64 (2*j:Nat)),.eq (.pointer (some ⟨b1,o1+2*j,none⟩)),.eq (.int .u8 x),.eq (.int .i64 x),.eq (.int .i64 ((x:Int)*256)),.eq (.slice (some ⟨b1,o1,none⟩) 16 c1),.eq (.int .i64 (2*j:Nat)),.eq (.int .i64 (2*j+1:Nat)),.eq (.pointer (some ⟨b1,o1+(2*j+1),none⟩)),.eq (.int .u8 y),.eq (.int .i64 y),.eq (.int .i64 ((x:Int)*256+y)),.row 1 [.int .i64 ((x:Int)*256+y)],.any,.any]
theorem step_build1 {ops:Array Oper} {V:Nat→World→Value→Prop} {i:Nat} {a:Act} {w:World} {Q:Exit→Act→World→Prop} {o:Oper} {x:Operand} {X:Int} (hw:Region.wanted o (yielded ops a.tmps)=true)
  (hop:o.op=.buildSlice 40 1 #[(0,x)]) (hx:a.eval x=.int .i64 X) (hV:V i (w.alloc (.cells #[.int .i64 X] 3)) (.slice (some ⟨w.heap.size,0,none⟩) 1 1)):Step Tryz.prog ops V Q i o a w:=by
 have e:(Instr.buildSlice 40 1 #[(0,.int .i64 X)]).run Tryz.prog w=.ok (.slice (some ⟨w.heap.size,0,none⟩) 1 1) (w.alloc (.cells #[.int .i64 X] 3)):=by go_simp
 refine step_val hw ?_ (Ext.alloc _ _) hV
 simp only [execOp,hop,List.map_toArray,List.map_cons,List.map_nil,hx,Sem.run_bind,e,Sem.run_pure,Result.andThen]
theorem cell_later {w w':World} {p:Addr} {v:Value} (hx:Ext w w') (h:w.cell? p=some v):w'.cell? p=some v:=(Below.cell hx (World.block_lt_of_cell? w _ h)).trans h
set_option maxHeartbeats 4000000 in
theorem rkeys_any (A:Option Addr) (c:Nat) (key:List UInt8) (w:World) (h:Rd w w.heap.size A 16 key) :
  Calls Tryz.prog 77 #[.slice A 16 c] w (RKeyRet w key):=by
 have HR:=hid h
 clear h
 go_enter Tryz.func77,Tryz.ntmps77
 go_wp2_with fail
 go_loopw [0,4] (fun s v wr=>∃ (r n:Nat) (A1:Option Addr) (c1:Nat),r≤7∧n=min (8*r) 52∧s=.slice A1 16 c1∧KeyAt wr w.heap.size A1 c1 (rowT key r)∧(∃ A2 c2,v=.slice A2 n c2∧OwnN .i64 3 wr w.heap.size (.slice A2 n c2) (tabN (keyF key) n))∧Below w.heap.size w wr) (fun _ v _=>52 - lenOfV v)
 case atStart=>exact ⟨0,0,A,c,by omega,by omega,rfl,⟨Nat.le_refl _,.inl HR.out⟩,⟨none,0,rfl,World.ownsRow_nil _ _ _ _⟩,Below.refl _ _⟩
 case round =>
  obtain ⟨r,n,A1,c1,hr,hn,rfl,hrd,⟨A2,c2,rfl,hown⟩,hb⟩:=hrel
  have HRD:=hid hrd
  have HOWN:=hid hown
  have HB:=hid hb
  clear hrd hown hb
  by_cases hlt:n < 52
  ·have hn8:n=8*r:=by omega
   have hr6:r≤6:=by omega
   clear hn
   subst hn8
   go_wp2_with fail
   rw [show decide (8*(r:Int) < 52)=true by simp;omega]
   go_loopw [4,5] (fun v i wr=>∃ (j:Nat) (A2:Option Addr) (c2:Nat),j≤8∧8*r+j≤52∧i=.int .i64 (2*j:Nat)∧v=.slice A2 (8*r+j) c2∧OwnN .i64 3 wr w.heap.size (.slice A2 (8*r+j) c2) (tabN (keyF key) (8*r+j))∧Below w.heap.size w wr∧KeyAt wr w.heap.size A1 c1 (rowT key r)) (fun v _ _=>52 - lenOfV v)
   case atStart=>exact ⟨0,A2,c2,by omega,by omega,rfl,rfl,HOWN.out,HB.out,HRD.out⟩
   case round =>
    clear HOWN HB HRD
    obtain ⟨j,A3,c3,hj,hjn,rfl,rfl,hown,hb,hrd⟩:=hrel
    have hz:=hb.size
    by_cases hgo:j < 8∧8*r+j < 52
    ·obtain ⟨hj8,hj52⟩:=hgo
     have h1:2*(j:Int) < 16:=by omega
     have h2:2*(j:Int)+1 < 16:=by omega
     have h3:(0:Int)≤2*(j:Int):=by omega
     have h4:(0:Int)≤2*(j:Int)+1:=by omega
     have h5:(2*(j:Int)).toNat=2*j:=by omega
     have h6:(2*(j:Int)+1).toNat=2*j+1:=by omega
     have h7:IntKind.i64.wrap (2*(j:Int)+1)=2*(j:Int)+1:=wrap_i64 (by omega) (by omega)
     obtain ⟨b1,o1,rfl,_,hc1⟩:=hrd.rd.at_ (by omega)
     have hck1:=hc1 (2*j) (by omega)
     have hck2:=hc1 (2*j+1) (by omega)
     rw [byteAt_nb] at hck1 hck2
     have r1:=nb_lt (rowT key r) (2*j)
     have r2:=nb_lt (rowT key r) (2*j+1)
     have HV:=hid (num_key (key:=key) (r:=r) hj8)
     obtain ⟨x,hx⟩:∃ x,nb (rowT key r) (2*j)=x:=⟨_,rfl⟩
     obtain ⟨y,hy⟩:∃ y,nb (rowT key r) (2*j+1)=y:=⟨_,rfl⟩
     rw [hx] at hck1 r1 HV
     rw [hy] at hck2 r2 HV
     have hor:=or_pair r1 r2
     have HO:=hid hown
     have HB:=hid hb
     have HK:=hid hrd
     have HC1:=hid hck1
     have HC2:=hid hck2
     have HOR:=hid hor
     clear hx hy hc1 hown hb hrd hck1 hck2 hor
     go_wp2_with fail
     refine region_upto 15 mixed rfl (by kernel_rfl) (by kernel_rfl) (by kernel_rfl) (kV (refKs r j b1 o1 c1 x y A3 c3)) (kV_keep _) (forall_ops ⟨?_,?_,?_,?_,?_,?_,?_,?_,?_,?_,?_,?_,?_,?_,?_,trivial⟩) ?_
     ·intro a w hk
      have s4:a.tmps.getD 4 undef=.slice A3 (8*r+j) c3:=hk.was 4 (by kernel_rfl) rfl
      exact step_move rfl rfl s4 rfl
     ·intro a w hk
      have s0:a.tmps.getD 0 undef=.slice (some ⟨b1,o1,none⟩) 16 c1:=hk.was 0 (by kernel_rfl) rfl
      exact step_move rfl rfl s0 rfl
     ·intro a w hk
      have s5:a.tmps.getD 5 undef=.int .i64 (2*j:Nat):=hk.was 5 (by kernel_rfl) rfl
      exact step_move rfl rfl s5 rfl
     ·intro a w hk
      have s22:=hk.eq_ 1 22 (by kernel_rfl) rfl
      have s23:=hk.eq_ 2 23 (by kernel_rfl) rfl
      refine step_val (v:=.pointer (some ⟨b1,o1+2*j,none⟩)) (w':=w) rfl ?_ (Ext.refl w) rfl
      go_simp
     ·intro a w hk
      have s24:=hk.eq_ 3 24 (by kernel_rfl) rfl
      refine step_val (v:=.int .u8 x) (w':=w) rfl ?_ (Ext.refl w) rfl
      have hc:=cell_later hk.ext HC1.out
      go_simp
     ·intro a w hk
      have s25:=hk.eq_ 4 25 (by kernel_rfl) rfl
      refine step_val (v:=.int .i64 x) (w':=w) rfl ?_ (Ext.refl w) rfl
      go_simp
      exact wrap_i64 (by omega) (by omega)
     ·intro a w hk
      have s26:=hk.eq_ 5 26 (by kernel_rfl) rfl
      refine step_val (v:=.int .i64 ((x:Int)*256)) (w':=w) rfl ?_ (Ext.refl w) rfl
      go_simp
      exact wrap_i64 (by omega) (by omega)
     ·intro a w hk
      have s0:a.tmps.getD 0 undef=.slice (some ⟨b1,o1,none⟩) 16 c1:=hk.was 0 (by kernel_rfl) rfl
      exact step_move rfl rfl s0 rfl
     ·intro a w hk
      have s5:a.tmps.getD 5 undef=.int .i64 (2*j:Nat):=hk.was 5 (by kernel_rfl) rfl
      exact step_move rfl rfl s5 rfl
     ·intro a w hk
      have s29:=hk.eq_ 8 29 (by kernel_rfl) rfl
      refine step_val (v:=.int .i64 (2*j+1:Nat)) (w':=w) rfl ?_ (Ext.refl w) rfl
      go_simp
     ·intro a w hk
      have s28:=hk.eq_ 7 28 (by kernel_rfl) rfl
      have s30:=hk.eq_ 9 30 (by kernel_rfl) rfl
      refine step_val (v:=.pointer (some ⟨b1,o1+(2*j+1),none⟩)) (w':=w) rfl ?_ (Ext.refl w) rfl
      go_simp
     ·intro a w hk
      have s31:=hk.eq_ 10 31 (by kernel_rfl) rfl
      refine step_val (v:=.int .u8 y) (w':=w) rfl ?_ (Ext.refl w) rfl
      have hc:=cell_later hk.ext HC2.out
      go_simp
     ·intro a w hk
      have s32:=hk.eq_ 11 32 (by kernel_rfl) rfl
      refine step_val (v:=.int .i64 y) (w':=w) rfl ?_ (Ext.refl w) rfl
      go_simp
      exact wrap_i64 (by omega) (by omega)
     ·intro a w hk
      have s27:=hk.eq_ 6 27 (by kernel_rfl) rfl
      have s33:=hk.eq_ 12 33 (by kernel_rfl) rfl
      refine step_val (v:=.int .i64 ((x:Int)*256+y)) (w':=w) rfl ?_ (Ext.refl w) rfl
      have hor:=HOR.out
      go_simp
     ·intro a w hk
      have s34:=hk.eq_ 13 34 (by kernel_rfl) rfl
      exact step_build1 rfl rfl s34 ⟨w.heap.size,rfl,by simp,fun k hk=>by obtain rfl:k=0:=(by omega);exact (show Blk (w.alloc (.cells #[.int .i64 ((x:Int)*256+y)] 3)) w.heap.size 3 [(x:Int)*256+y] from heap_alloc_new w _).cell 0 (by simp)⟩
     ·intro a w1 hf
      have s21:=hf.eq_ 0 21 (by kernel_rfl) rfl
      have s22:=hf.eq_ 1 22 (by kernel_rfl) rfl
      have s23:=hf.eq_ 2 23 (by kernel_rfl) rfl
      have s24:=hf.eq_ 3 24 (by kernel_rfl) rfl
      have s25:=hf.eq_ 4 25 (by kernel_rfl) rfl
      have s26:=hf.eq_ 5 26 (by kernel_rfl) rfl
      have s27:=hf.eq_ 6 27 (by kernel_rfl) rfl
      have s28:=hf.eq_ 7 28 (by kernel_rfl) rfl
      have s29:=hf.eq_ 8 29 (by kernel_rfl) rfl
      have s30:=hf.eq_ 9 30 (by kernel_rfl) rfl
      have s31:=hf.eq_ 10 31 (by kernel_rfl) rfl
      have s32:=hf.eq_ 11 32 (by kernel_rfl) rfl
      have s33:=hf.eq_ 12 33 (by kernel_rfl) rfl
      have s34:=hf.eq_ 13 34 (by kernel_rfl) rfl
      obtain ⟨b35,s35,h35,g35⟩:=hf.val 14 35 (by kernel_rfl) rfl
      have hx:=hf.ext
      have e:=hf.frame
      clear hf
      simp only [List.take_succ_cons,List.take_zero,regFrame,Act.put,List.setIfInBounds_toArray,List.set_cons_zero,List.set_cons_succ,s21,s22,s23,s24,s25,s26,s27,s28,s29,s30,s31,s32,s33,s34,s35] at e
      clear s21 s22 s23 s24 s25 s26 s27 s28 s29 s30 s31 s32 s33 s34 s35
      subst e
      simp only [List.drop_succ_cons,List.drop_zero]
      have hc35:=g35 0 (by omega)
      have hown1:=HO.out.kept hx
      have hl1:=tabN_length (keyF key) (8*r+j)
      have HK1:=hid (HK.out.later hx)
      have HB1:=hid (HB.out.trans (Below.mono hx hz))
      have hz1:=Below.size hx
      have HT:=hid (tabN_succ (keyF key) (8*r+j))
      clear hx g35 h35
      go_wp2_with (at_builtin;refine wpL_append1 _ rfl (.tmp 21) (.tmp 35) 40 rfl Tryz.underlying40 Tryz.info3 w.heap.size _ (tabN (keyF key) (8*r+j)) rfl hown1 b35 1 ((x:Int)*256+y) rfl hc35 (by omega) (by omega) ?_;intro v2 w2 hown2 hg2)
      have HB2:=hid (HB1.out.grown hg2 HB1.out.size (fun q hq=>by have:=(World.ownsRow.lt hown1 q hq).1;omega))
      have HK2:=hid (HK1.out.grown hown1 (Nat.le_refl _) hg2)
      have hlen:(tabN (keyF key) (8*r+j)++[(x:Int)*256+y]).length=8*r+(j+1):=by rw [List.length_append,tabN_length];rfl
      obtain ⟨A4,c4,rfl,_,hown2⟩:=hown2.rdn hlen
      have HO2:=hid (show OwnN .i64 3 w2 w.heap.size (.slice A4 (8*r+(j+1)) c4) (tabN (keyF key) (8*r+(j+1))) by
       rw [show 8*r+(j+1)=8*r+j+1 by omega,HT.out,HV.out];exact hown2)
      clear hown1 hown2 hg2 hc35
      go_wp2_with fail
      go_roundw
      case rel=>exact ⟨j+1,A4,c4,by omega,by omega,by rw [show ((2*(j+1):Nat):Int)=2*(j:Int)+2 by omega],rfl,HO2.out,HB2.out,HK2.out⟩
      case measure=>simp [lenOfV];omega
    ·have HO:=hid hown
     have HB:=hid hb
     have HK:=hid hrd
     clear hown hb hrd
     by_cases hj8:j < 8
     ·have h1:2*(j:Int) < 16:=by omega
      clear h1
      obtain ⟨rfl,rfl⟩:r=6∧j=4:=by omega
      go_wp2_with fail
      refine (rturn_any A1 16 c1 25 _ _ HK.out.rd (by omega) (by omega)).mono ?_
      rintro e w5 ⟨v5,rfl,ho5,hb5⟩
      have hx5:Ext wr w5:=hb5
      obtain ⟨A5,c5,rfl,_,ho5⟩:=ho5.rdn (n:=16) (turnL_length _ _ _ _)
      have HH:=hid (show KeyAt w5 w.heap.size A5 c5 (rowT key (6+1))∧OwnN .i64 3 w5 w.heap.size (.slice A3 (8*6+4) c3) (tabN (keyF key) (8*6+4))∧Below w.heap.size w w5 from
       ⟨⟨by have:=Below.size hx5;omega,.inr ⟨turnL_length _ _ _ _,ho5.base_mono hz⟩⟩,HO.out.kept hx5,HB.out.trans (Below.mono hx5 hz)⟩)
      clear ho5 hb5 hx5
      go_wp2_with fail
      go_roundw
      case rel=>exact ⟨7,_,A5,c5,by omega,by omega,rfl,HH.out.1,⟨A3,c3,rfl,HH.out.2.1⟩,HH.out.2.2⟩
      case measure=>simp [lenOfV]
     ·obtain rfl:j=8:=by omega
      go_wp2_with fail
      refine (rturn_any A1 16 c1 25 _ _ HK.out.rd (by omega) (by omega)).mono ?_
      rintro e w5 ⟨v5,rfl,ho5,hb5⟩
      have hx5:Ext wr w5:=hb5
      obtain ⟨A5,c5,rfl,_,ho5⟩:=ho5.rdn (n:=16) (turnL_length _ _ _ _)
      have HH:=hid (show KeyAt w5 w.heap.size A5 c5 (rowT key (r+1))∧OwnN .i64 3 w5 w.heap.size (.slice A3 (8*r+8) c3) (tabN (keyF key) (8*r+8))∧Below w.heap.size w w5 from
       ⟨⟨by have:=Below.size hx5;omega,.inr ⟨turnL_length _ _ _ _,ho5.base_mono hz⟩⟩,HO.out.kept hx5,HB.out.trans (Below.mono hx5 hz)⟩)
      clear ho5 hb5 hx5
      go_wp2_with fail
      go_roundw
      case rel=>exact ⟨r+1,8*r+8,A5,c5,by omega,by omega,rfl,HH.out.1,⟨A3,c3,rfl,HH.out.2.1⟩,HH.out.2.2⟩
      case measure=>simp [lenOfV];omega
  ·obtain rfl:n=52:=by omega
   obtain ⟨A9,c9,e9,hc9,hr9,_⟩:=HOWN.out.rdc (tabN_length _ _)
   cases e9
   have HH:=hid (And.intro hr9 (show Ext w wr from HB.out))
   clear hr9 hn hlt
   go_wp2_with fail
   go_ret2
   exact ⟨A2,c2,rfl,hc9,HH.out.1,HH.out.2⟩
end Go.Proofs.YtbgkmicelmenfaaGreatDoor.I
namespace Go.Proofs.YtbgkmicelmenfaaGreatDoor.I
open Go.RowKit
set_option maxRecDepth 100000
theorem cf15 (vs:Array Value) (w:World):(callFunc 99 vs).run Tryz.prog w=.ok (.enter 99 vs) w:=by go_simp
theorem cf25 (vs:Array Value) (w:World):(callFunc 54 vs).run Tryz.prog w=.ok (.enter 54 vs) w:=by go_simp
theorem cf29 (vs:Array Value) (w:World):(callFunc 100 vs).run Tryz.prog w=.ok (.enter 100 vs) w:=by go_simp
theorem retE {w:World} {v:Value} (e:Ending) (w':World) (h:e=.returned v∧w=w'):∃ u,e=.returned u∧Ext w w'∧K.holds (.eq v) w' u:=by
 obtain ⟨rfl,rfl⟩:=h
 exact ⟨_,rfl,Ext.refl _,rfl⟩
theorem retX {w:World} {v:Value} (e:Ending) (w':World) (h:e=.returned v∧Ext w w'):∃ u,e=.returned u∧Ext w w'∧K.holds (.eq v) w' u:=by
 obtain ⟨rfl,hx⟩:=h
 exact ⟨_,rfl,hx,rfl⟩
def KAt (w:World) (b o n:Nat) (k:Nat→Nat):Prop:=b < w.heap.size∧∀ j,j < n→w.cell? ⟨b,o+j,none⟩=some (.int .i64 (k j:Nat))
theorem KAt.later {w w':World} {b o n:Nat} {k:Nat→Nat} (h:KAt w b o n k) (hx:Ext w w'):KAt w' b o n k :=
 ⟨Nat.lt_of_lt_of_le h.1 (Below.size hx),fun j hj=>cell_later hx (h.2 j hj)⟩
theorem KAt.drew {w:World} {b o n:Nat} {k:Nat→Nat} (h:KAt w b o n k):KAt w.drew b o n k:=h
theorem _root_.Go.Proofs.YtbgkmicelmenfaaGreatDoor.Blk.kat {w:World} {g n:Nat} {e:TypeId} {k:Nat→Nat} (h:Blk w g e (tabN k n)):KAt w g 0 n k :=
 ⟨h.lt,fun j hj=>by rw [Nat.zero_add,h.cell j (by rw [tabN_length];exact hj),tabN_get _ _ _ hj]⟩
def F4.list (x:F4):List Int:=[((x.a:Nat):Int),((x.b:Nat):Int),((x.c:Nat):Int),((x.d:Nat):Int)]
theorem F4.size (x:F4):(Tryz.prog.info? 111).map (·.size)=some x.cells.size:=by
 have h:(Tryz.prog.info? 111).map (·.size)=some 4:=by kernel_rfl
 rw [h];rfl
theorem F4.all (x:F4):x.cells.all (·.oneCell')=true:=cN_all x.list
def B4 (w:World) (g:Nat) (x:F4):Prop:=Blk w g 111 x.list
theorem B4.heap {w:World} {g:Nat} {x:F4} (h:B4 w g x):w.heap[g]? = some (.cells x.cells 111 (0,0)):=h
theorem B4.alloc (w:World) (x:F4):B4 (w.alloc (.cells x.cells 111)) w.heap.size x:=heap_alloc_new w _
theorem B4.later {w w':World} {g:Nat} {x:F4} (h:B4 w g x) (hx:Ext w w'):B4 w' g x:=Blk.later h hx
theorem B4.put {w:World} {g:Nat} {x:F4} (h:B4 w g x) (y:F4):B4 (w.setRow g y.cells) g y:=Blk.put h y.list
theorem B4.cb {w:World} {g:Nat} {x:F4} (h:B4 w g x):w.cell? ⟨g,1,none⟩=some (.int .i64 (x.b:Nat)):=Blk.cell h 1 (by simp [F4.list])
theorem B4.cc {w:World} {g:Nat} {x:F4} (h:B4 w g x):w.cell? ⟨g,2,none⟩=some (.int .i64 (x.c:Nat)):=Blk.cell h 2 (by simp [F4.list])
theorem ret_cell {fn:Func} {R:Ending→World→Prop} {a:Act} {w:World} {p:Tmp} {ty e:TypeId} {N:Nat} (hres:fn.results=#[.cell p ty]) (hd:a.defers = []) (g:Nat) (t:TypeId) (cs:Array Value) (fr:Nat×Nat)
  (hp:a.tmps.getD p undef=.pointer (some ⟨g,0,none⟩)) (hg:w.heap[g]? = some (.cells cs t fr)) (hu:Tryz.prog.underlying ty=some (.array N e))
  (hi:(Tryz.prog.info? ty).map (·.size)=some cs.size) (h:R (.returned (.agg cs)) w) :
  bodyPost Tryz.prog fn R .ret a w:=bodyPost_ret (results_cell_row hres _ _ g t cs fr _ hp hg hu rfl hi) hd h
end Go.Proofs.YtbgkmicelmenfaaGreatDoor.I
namespace Go.Proofs.YtbgkmicelmenfaaGreatDoor.I
open Go.RowKit
set_option maxRecDepth 100000
theorem arr53_l (g l:Nat) (w:World) (hl:l < 52) :
  (Instr.sliceAt 106 (.pointer (some ⟨g,0,none⟩)) (some (.int .i64 (l:Int))) none none).run Tryz.prog w=.ok (.slice (some ⟨g,l,none⟩) (52 - l) (52 - l)) w:=by
 have hN:Tryz.prog.arrayLen 106 = 52:=by kernel_rfl
 have hs:(sizeOf (Tryz.prog.elem 106)).run Tryz.prog w=.ok 1 w:=by kernel_rfl
 rw [run_sliceAt_array_l w 106 ⟨g,0,none⟩ (by kernel_rfl) .i64 l (by omega) (by rw [hN];omega),hs,hN]
 simp only [Result.andThen,slicedAt,Int.toNat_natCast]
 rw [if_neg (by omega)]
 simp [add_off]
theorem arr53_lh (g l h:Nat) (w:World) (hl:l < 52) (hh:h≤52) (hlh:l≤h) :
  (Instr.sliceAt 106 (.pointer (some ⟨g,0,none⟩)) (some (.int .i64 (l:Int))) (some (.int .i64 (h:Int))) none).run Tryz.prog w=.ok (.slice (some ⟨g,l,none⟩) (h - l) (52 - l)) w:=by
 have hN:Tryz.prog.arrayLen 106 = 52:=by kernel_rfl
 have hs:(sizeOf (Tryz.prog.elem 106)).run Tryz.prog w=.ok 1 w:=by kernel_rfl
 rw [run_sliceAt_array_lh w 106 ⟨g,0,none⟩ (by kernel_rfl) .i64 .i64 l h (by omega) (by omega) (by rw [hN];omega),hs,hN]
 simp only [Result.andThen,slicedAt,Int.toNat_natCast]
 rw [if_neg (by omega)]
 simp [add_off]
theorem arr57_all (g:Nat) (w:World) :
  (Instr.sliceAt 111 (.pointer (some ⟨g,0,none⟩)) none none none).run Tryz.prog w=.ok (.slice (some ⟨g,0,none⟩) 4 4) w:=by
 have hN:Tryz.prog.arrayLen 111 = 4:=by kernel_rfl
 have hs:(sizeOf (Tryz.prog.elem 111)).run Tryz.prog w=.ok 1 w:=by kernel_rfl
 rw [run_sliceAt_array_all w 111 ⟨g,0,none⟩ (by kernel_rfl),hs,hN]
 simp [Result.andThen,slicedAt,add_off]
theorem size53 (L:List Int) (h:L.length=52):(Tryz.prog.info? 106).map (·.size)=some (cN .i64 L).toArray.size:=by
 have e:(Tryz.prog.info? 106).map (·.size)=some 52:=by kernel_rfl
 rw [e,cN_size,h]
theorem sizes (L M:List Int) (h:L.length=M.length):(cN .i64 L).toArray.size=(cN .i64 M).toArray.size:=by rw [cN_size,cN_size,h]
theorem fill_spl (F:Nat→Nat) (n o:Nat) (ys:List Int) (m:Nat) (hm:ys.length=m) (h:o+m≤n) (hy:∀ j,j < m→ys.getD j 0=(F (o+j):Nat)):spl (fillN F n o) o ys=fillN F n (o+m):=by
 subst hm
 refine int_ext (n:=n) (by rw [spl_length (by rw [fillN_length];omega),fillN_length]) (fillN_length _ _ _) fun j hj=>?_
 rw [spl_get (by rw [fillN_length];omega)]
 have hg:∀ k,(fillN F n k).getD j 0=if j < k then ((F j:Nat):Int) else 0:=fun k=>by simp [fillN,List.getD,hj]
 rw [hg,hg]
 by_cases h1:j < o
 ·rw [if_pos h1,if_pos h1,if_pos (by omega)]
 ·rw [if_neg h1,if_neg h1]
  by_cases h2:j < o+ys.length
  ·rw [if_pos h2,if_pos h2,hy (j - o) (by omega),show o+(j - o)=j by omega]
  ·rw [if_neg h2,if_neg h2]
def undU (k:Nat→Nat) (f:Nat):F4:=(F4.mk (invF (k f)) (negF (k (f+1))) (negF (k (f+2))) (invF (k (f+3))))
theorem und_first (k:Nat→Nat) (r f:Nat) (hr:r≤8) (hf:f=48 - 6*r) (x:F4) (hx:x=if 0 < r∧r < 8 then swF (undU k f) else undU k f) :
  spl (fillN (undF k) 52 (6*r)) (6*r) (((x.list.drop 0).take 4).take 4)=fillN (undF k) 52 (6*r+4):=by
 have e:((x.list.drop 0).take 4).take 4=x.list:=rfl
 rw [e]
 refine fill_spl _ _ _ _ 4 rfl (by omega) fun j hj=>?_
 have hq:(6*r+j) / 6=r:=by omega
 have hm:(6*r+j) % 6=j:=by omega
 subst hf
 by_cases hc:0 < r∧r < 8
 ·rw [if_pos hc] at hx
  subst hx
  unfold undF
  simp only [hq,hm,if_pos hc]
  match j,hj with
  | 0,_=>rfl
  | 1,_=>rfl
  | 2,_=>rfl
  | 3,_=>rfl
 ·rw [if_neg hc] at hx
  subst hx
  unfold undF
  simp only [hq,hm,if_neg hc]
  match j,hj with
  | 0,_=>rfl
  | 1,_=>rfl
  | 2,_=>rfl
  | 3,_=>rfl
theorem und_second (k:Nat→Nat) (r f:Nat) (hr:r < 8) (hf:f=48 - 6*r) :
  spl (fillN (undF k) 52 (6*r+4)) (6*r+4) ((((tabN k 52).drop (f - 2)).take 2).take 2)=fillN (undF k) 52 (6*r+6):=by
 refine fill_spl _ _ _ _ 2 (by simp [tabN_length];omega) (by omega) fun j hj=>?_
 have e:((((tabN k 52).drop (f - 2)).take 2).take 2).getD j 0=(tabN k 52).getD (f - 2+j) 0:=by simp [List.getD,hj]
 rw [e,tabN_get _ _ _ (by omega)]
 have hq:(6*r+4+j) / 6=r:=by omega
 have hm:(6*r+4+j) % 6=4+j:=by omega
 subst hf
 unfold undF
 simp only [hq,hm]
 match j,hj with
 | 0,_=>rfl
 | 1,_ =>
   rw [show 48 - 6*r - 2+1=48 - 6*r - 1 by omega]
   rfl
theorem wpL_copy_blk {ops:Array Oper} {rest:List Oper} {o:Oper} {a:Act} {w:World} {Q:Exit→Act→World→Prop} {g:Nat} {e:TypeId} {L:List Int} (hgd:o.guard=none) (d s:Operand) (ho:o.op=.call { callee:=.builtin .copy,args:=#[d,s],argTypes:=#[40,40] })
  (off nd cap ns cs B q:Nat) (b0 o0:Nat) (ys:List Int) (hd:a.eval d=.slice (some ⟨g,off,none⟩) nd cap) (hs:a.eval s=.slice (some ⟨b0,o0,none⟩) ns cs)
  (hb:Blk w g e L) (hq:q=min ns nd) (hfit:off+q≤L.length) (hr:RdN .i64 w B (some ⟨b0,o0,none⟩) ns ys)
  (h:∀ w',Blk w' g e (spl L off (ys.take q))→w.grownBy w' (some g)→wpList Tryz.prog ops Q rest (a.put o.dst (goInt q)) w'):wpList Tryz.prog ops Q (o::rest) a w :=
 wpList_plain hgd fun _ hK=>wp_copy_blk d s ho off nd cap ns cs B q b0 o0 ys hd hs hb hq hfit hr fun w' h1 h2=>hK _ _ (h w' h1 h2)
theorem step_build4 {ops:Array Oper} {V:Nat→World→Value→Prop} {i:Nat} {a:Act} {w:World} {Q:Exit→Act→World→Prop} {o:Oper} {x0 x1 x2 x3:Operand} {n0 n1 n2 n3:Int} (hw:Region.wanted o (yielded ops a.tmps)=true)
  (hop:o.op=.build 111 #[(0,x0),(1,x1),(2,x2),(3,x3)]) (h0:a.eval x0=.int .i64 n0) (h1:a.eval x1=.int .i64 n1) (h2:a.eval x2=.int .i64 n2) (h3:a.eval x3=.int .i64 n3)
  (hV:V i w (.agg #[.int .i64 n0,.int .i64 n1,.int .i64 n2,.int .i64 n3])):Step Tryz.prog ops V Q i o a w:=by
 have e:(Instr.build 111 #[(0,.int .i64 n0),(1,.int .i64 n1),(2,.int .i64 n2),(3,.int .i64 n3)]).run Tryz.prog w=.ok (.agg #[.int .i64 n0,.int .i64 n1,.int .i64 n2,.int .i64 n3]) w:=by go_simp
 refine step_val hw ?_ (Ext.refl _) hV
 simp only [execOp,hop,List.map_toArray,List.map_cons,List.map_nil,h0,h1,h2,h3,Sem.run_bind,e,Sem.run_pure,Result.andThen]
def und7 (G f Hz v0 v1 v2 v3:Nat) (k:Nat→Nat):List K:=[.eq (.slice (some ⟨G,f,none⟩) (52 - f) (52 - f)),.eq (.pointer (some ⟨G,f,none⟩)),.eq (.int .i64 (k (f):Nat)),.eq (.int .i64 (v0:Nat)),.eq (.slice (some ⟨G,f,none⟩) (52 - f) (52 - f)),.eq (.pointer (some ⟨G,f+1,none⟩)),.eq (.int .i64 (k (f+1):Nat)),.eq (.int .i64 (v1:Nat)),.eq (.slice (some ⟨G,f,none⟩) (52 - f) (52 - f)),.eq (.pointer (some ⟨G,f+2,none⟩)),.eq (.int .i64 (k (f+2):Nat)),.eq (.int .i64 (v2:Nat)),.eq (.slice (some ⟨G,f,none⟩) (52 - f) (52 - f)),.eq (.pointer (some ⟨G,f+3,none⟩)),.eq (.int .i64 (k (f+3):Nat)),.eq (.int .i64 (v3:Nat)),.eq (.agg (F4.mk v0 v1 v2 v3).cells),.new Hz (F4.mk 0 0 0 0).cells 111,.any]
def und10 (G r b7:Nat):List K:=[.eq (.int .i64 (6*r:Nat)),.eq (.slice (some ⟨G+1+1,6*r,none⟩) (52 - 6*r) (52 - 6*r)),.eq (.slice (some ⟨b7,0,none⟩) 4 4),.any]
def und12 (G r f:Nat):List K:=[.eq (.int .i64 (6*r:Nat)),.eq (.int .i64 (6*r+4:Nat)),.eq (.slice (some ⟨G+1+1,6*r+4,none⟩) (52 - (6*r+4)) (52 - (6*r+4))),.eq (.int .i64 f),.eq (.int .i64 (f - 2:Nat)),.eq (.int .i64 f),.eq (.slice (some ⟨G,f - 2,none⟩) 2 (52 - (f - 2))),.any]
set_option maxHeartbeats 8000000 in
theorem undoing_any (k:Nat→Nat) (w:World) (hl:∀ i,k i < 65536) :
  Calls Tryz.prog 54 #[.agg (cN .i64 (tabN k 52)).toArray] w fun e w'=>e=.returned (.agg (cN .i64 (tabN (undF k) 52)).toArray)∧Ext w w':=by
 have HL:=hid hl
 have a1:=Blk.alloc w 106 (tabN k 52)
 have x1:=Ext.alloc w (.cells (cN .i64 (tabN k 52)).toArray 106)
 obtain ⟨W2,hW2⟩:∃ W2,w.alloc (.cells (cN .i64 (tabN k 52)).toArray 106)=W2:=⟨_,rfl⟩
 have z2:W2.heap.size=w.heap.size+1:=by rw [← hW2];simp
 have a2:=Blk.alloc W2 106 (fillN (undF k) 52 0)
 have x2:=Ext.alloc W2 (.cells (cN .i64 (fillN (undF k) 52 0)).toArray 106)
 obtain ⟨W3,hW3⟩:∃ W3,W2.alloc (.cells (cN .i64 (fillN (undF k) 52 0)).toArray 106)=W3:=⟨_,rfl⟩
 have z3:W3.heap.size=w.heap.size+1+1:=by rw [← hW3];simp [z2]
 have a3:=Blk.alloc W3 106 (fillN (undF k) 52 0)
 have x3:=Ext.alloc W3 (.cells (cN .i64 (fillN (undF k) 52 0)).toArray 106)
 obtain ⟨W4,hW4⟩:∃ W4,W3.alloc (.cells (cN .i64 (fillN (undF k) 52 0)).toArray 106)=W4:=⟨_,rfl⟩
 rw [hW2] at a1 x1
 rw [hW3] at a2 x2
 rw [hW4] at a3 x3
 rw [z2] at a2
 rw [z3] at a3
 have HALL:=hid (show ((w.alloc (.cells (cN .i64 (tabN k 52)).toArray 106)).alloc (.cells #[.int .i64 0,.int .i64 0,.int .i64 0,.int .i64 0,.int .i64 0,.int .i64 0,.int .i64 0,.int .i64 0,.int .i64 0,.int .i64 0,.int .i64 0,.int .i64 0,.int .i64 0,.int .i64 0,.int .i64 0,.int .i64 0,.int .i64 0,.int .i64 0,.int .i64 0,.int .i64 0,.int .i64 0,.int .i64 0,.int .i64 0,.int .i64 0,.int .i64 0,.int .i64 0,.int .i64 0,.int .i64 0,.int .i64 0,.int .i64 0,.int .i64 0,.int .i64 0,.int .i64 0,.int .i64 0,.int .i64 0,.int .i64 0,.int .i64 0,.int .i64 0,.int .i64 0,.int .i64 0,.int .i64 0,.int .i64 0,.int .i64 0,.int .i64 0,.int .i64 0,.int .i64 0,.int .i64 0,.int .i64 0,.int .i64 0,.int .i64 0,.int .i64 0,.int .i64 0] 106)).alloc (.cells #[.int .i64 0,.int .i64 0,.int .i64 0,.int .i64 0,.int .i64 0,.int .i64 0,.int .i64 0,.int .i64 0,.int .i64 0,.int .i64 0,.int .i64 0,.int .i64 0,.int .i64 0,.int .i64 0,.int .i64 0,.int .i64 0,.int .i64 0,.int .i64 0,.int .i64 0,.int .i64 0,.int .i64 0,.int .i64 0,.int .i64 0,.int .i64 0,.int .i64 0,.int .i64 0,.int .i64 0,.int .i64 0,.int .i64 0,.int .i64 0,.int .i64 0,.int .i64 0,.int .i64 0,.int .i64 0,.int .i64 0,.int .i64 0,.int .i64 0,.int .i64 0,.int .i64 0,.int .i64 0,.int .i64 0,.int .i64 0,.int .i64 0,.int .i64 0,.int .i64 0,.int .i64 0,.int .i64 0,.int .i64 0,.int .i64 0,.int .i64 0,.int .i64 0,.int .i64 0] 106)=W4 by rw [← hW4,← hW3,← hW2,fillN_zero];rfl)
 have HA0:=hid (a1.later (x2.trans x3))
 have HR0:=hid (a2.later x3)
 have HV0:=hid a3
 have HE0:=hid ((x1.trans x2).trans x3)
 clear hl a1 x1 hW2 z2 a2 x2 hW3 z3 a3 x3 hW4
 go_enter Tryz.func54,Tryz.ntmps54
 go_wp2_with fail
 rw [HALL.out]
 obtain ⟨G,hG⟩:∃ G,w.heap.size=G:=⟨_,rfl⟩
 rw [hG] at HA0 HR0 HV0 ⊢
 have HG:=hid hG
 clear HALL hG
 go_loopw [4] (fun i wr=>∃ (r:Nat),r≤9∧i=.int .i64 (6*r:Nat)∧Blk wr G 106 (tabN k 52)∧Blk wr (G+1+1) 106 (fillN (undF k) 52 (min (6*r) 52))∧Blk wr (G+1) 106 (fillN (undF k) 52 0)∧Ext w wr) (fun i _=>60 - (intOf i).toNat)
 case atStart=>exact ⟨0,by omega,rfl,HA0.out,HV0.out,HR0.out,HE0.out⟩
 case round =>
  clear HA0 HR0 HV0 HE0
  obtain ⟨r,hr,rfl,ha,hv,hrr,he⟩:=hrel
  by_cases hlt:r≤8
  ·obtain ⟨f,hf⟩:∃ f,f=48 - 6*r:=⟨_,rfl⟩
   have hfi:(48:Int) - 6*(r:Int)=(f:Int):=by omega
   have hwf:IntKind.i64.wrap ((48:Int) - 6*(r:Int))=(f:Int):=by rw [wrap_i64 (by omega) (by omega)];exact hfi
   have h52:6*(r:Int) < 52:=by omega
   have HSL:=hid (fun w=>arr53_l G f w (by omega))
   have HKA:=hid (ha.kat)
   have HN:=hid (show ¬ 52 - f=0∧(1:Int) < ((52 - f:Nat):Int)∧(2:Int) < ((52 - f:Nat):Int)∧(3:Int) < ((52 - f:Nat):Int) from ⟨by omega,by omega,by omega,by omega⟩)
   obtain ⟨Hz,hHz⟩:∃ Hz,wr.heap.size=Hz:=⟨_,rfl⟩
   have HZ:=hid hHz
   have hGz:G+1+1 < Hz:=by have:=hv.lt;omega
   rw [show min (6*r) 52=6*r by omega] at hv
   have HA:=hid ha
   have HV:=hid hv
   have HRR:=hid hrr
   have HE:=hid he
   have HF:=hid hf
   have HFI:=hid hfi
   have hfb:f≤48:=by omega
   clear ha hv hrr he hHz hfi hf
   go_wp2_with (rw [HSL.out];simp only [Result.andThen];rw [Oper.upon_value])
   obtain ⟨v0,hv0⟩:∃ v,invF (k f)=v:=⟨_,rfl⟩
   obtain ⟨v1,hv1⟩:∃ v,negF (k (f+1))=v:=⟨_,rfl⟩
   obtain ⟨v2,hv2⟩:∃ v,negF (k (f+2))=v:=⟨_,rfl⟩
   obtain ⟨v3,hv3⟩:∃ v,invF (k (f+3))=v:=⟨_,rfl⟩
   have C0:=hid (fun w=>show Calls Tryz.prog 99 #[.int .i64 (k f:Nat)] w fun e w'=>e=.returned (.int .i64 (v0:Nat))∧w=w' by rw [← hv0];exact inv_any _ _ (HL.out _))
   have C1:=hid (fun w=>show Calls Tryz.prog 100 #[.int .i64 (k (f+1):Nat)] w fun e w'=>e=.returned (.int .i64 (v1:Nat))∧w=w' by rw [← hv1];exact minus_any _ _ (HL.out _))
   have C2:=hid (fun w=>show Calls Tryz.prog 100 #[.int .i64 (k (f+2):Nat)] w fun e w'=>e=.returned (.int .i64 (v2:Nat))∧w=w' by rw [← hv2];exact minus_any _ _ (HL.out _))
   have C3:=hid (fun w=>show Calls Tryz.prog 99 #[.int .i64 (k (f+3):Nat)] w fun e w'=>e=.returned (.int .i64 (v3:Nat))∧w=w' by rw [← hv3];exact inv_any _ _ (HL.out _))
   have HUU:=hid (show undU k f=(F4.mk v0 v1 v2 v3) by unfold undU;rw [hv0,hv1,hv2,hv3])
   clear hv0 hv1 hv2 hv3
   go_wp2_with fail
   refine region_upto 18 mixed rfl (by kernel_rfl) (by kernel_rfl) (by kernel_rfl) (kV (und7 G f Hz v0 v1 v2 v3 k)) (kV_keep _) (forall_ops ⟨?_,?_,?_,?_,?_,?_,?_,?_,?_,?_,?_,?_,?_,?_,?_,?_,?_,?_,trivial⟩) ?_
   ·intro a w hk
    have s6:a.tmps.getD 6 undef=.slice (some ⟨G,f,none⟩) (52 - f) (52 - f):=hk.was 6 (by kernel_rfl) rfl
    exact step_move rfl rfl s6 rfl
   ·intro a w hk
    have s16:=hk.eq_ 0 16 (by kernel_rfl) rfl
    refine step_val (v:=.pointer (some ⟨G,f,none⟩)) (w':=w) rfl ?_ (Ext.refl w) rfl
    obtain ⟨hn0,hn1,hn2,hn3⟩:=HN.out
    go_simp
   ·intro a w hk
    have s17:=hk.eq_ 1 17 (by kernel_rfl) rfl
    refine step_val (v:=.int .i64 (k (f):Nat)) (w':=w) rfl ?_ (Ext.refl w) rfl
    have hc:=(HKA.out.later hk.ext).2 (f) (by omega)
    rw [Nat.zero_add] at hc
    go_simp
   ·intro a w hk
    have s18:=hk.eq_ 2 18 (by kernel_rfl) rfl
    exact step_call rfl rfl (by simp only [List.map_toArray,List.map_cons,List.map_nil,Act.eval,s18]<;>rfl) cf15 (C0.out w) (fun e w1 h=>retE e w1 h)
   ·intro a w hk
    have s6:a.tmps.getD 6 undef=.slice (some ⟨G,f,none⟩) (52 - f) (52 - f):=hk.was 6 (by kernel_rfl) rfl
    exact step_move rfl rfl s6 rfl
   ·intro a w hk
    have s20:=hk.eq_ 4 20 (by kernel_rfl) rfl
    refine step_val (v:=.pointer (some ⟨G,f+1,none⟩)) (w':=w) rfl ?_ (Ext.refl w) rfl
    obtain ⟨hn0,hn1,hn2,hn3⟩:=HN.out
    go_simp
   ·intro a w hk
    have s21:=hk.eq_ 5 21 (by kernel_rfl) rfl
    refine step_val (v:=.int .i64 (k (f+1):Nat)) (w':=w) rfl ?_ (Ext.refl w) rfl
    have hc:=(HKA.out.later hk.ext).2 (f+1) (by omega)
    rw [Nat.zero_add] at hc
    go_simp
   ·intro a w hk
    have s22:=hk.eq_ 6 22 (by kernel_rfl) rfl
    exact step_call rfl rfl (by simp only [List.map_toArray,List.map_cons,List.map_nil,Act.eval,s22]<;>rfl) cf29 (C1.out w) (fun e w1 h=>retE e w1 h)
   ·intro a w hk
    have s6:a.tmps.getD 6 undef=.slice (some ⟨G,f,none⟩) (52 - f) (52 - f):=hk.was 6 (by kernel_rfl) rfl
    exact step_move rfl rfl s6 rfl
   ·intro a w hk
    have s24:=hk.eq_ 8 24 (by kernel_rfl) rfl
    refine step_val (v:=.pointer (some ⟨G,f+2,none⟩)) (w':=w) rfl ?_ (Ext.refl w) rfl
    obtain ⟨hn0,hn1,hn2,hn3⟩:=HN.out
    go_simp
   ·intro a w hk
    have s25:=hk.eq_ 9 25 (by kernel_rfl) rfl
    refine step_val (v:=.int .i64 (k (f+2):Nat)) (w':=w) rfl ?_ (Ext.refl w) rfl
    have hc:=(HKA.out.later hk.ext).2 (f+2) (by omega)
    rw [Nat.zero_add] at hc
    go_simp
   ·intro a w hk
    have s26:=hk.eq_ 10 26 (by kernel_rfl) rfl
    exact step_call rfl rfl (by simp only [List.map_toArray,List.map_cons,List.map_nil,Act.eval,s26]<;>rfl) cf29 (C2.out w) (fun e w1 h=>retE e w1 h)
   ·intro a w hk
    have s6:a.tmps.getD 6 undef=.slice (some ⟨G,f,none⟩) (52 - f) (52 - f):=hk.was 6 (by kernel_rfl) rfl
    exact step_move rfl rfl s6 rfl
   ·intro a w hk
    have s28:=hk.eq_ 12 28 (by kernel_rfl) rfl
    refine step_val (v:=.pointer (some ⟨G,f+3,none⟩)) (w':=w) rfl ?_ (Ext.refl w) rfl
    obtain ⟨hn0,hn1,hn2,hn3⟩:=HN.out
    go_simp
   ·intro a w hk
    have s29:=hk.eq_ 13 29 (by kernel_rfl) rfl
    refine step_val (v:=.int .i64 (k (f+3):Nat)) (w':=w) rfl ?_ (Ext.refl w) rfl
    have hc:=(HKA.out.later hk.ext).2 (f+3) (by omega)
    rw [Nat.zero_add] at hc
    go_simp
   ·intro a w hk
    have s30:=hk.eq_ 14 30 (by kernel_rfl) rfl
    exact step_call rfl rfl (by simp only [List.map_toArray,List.map_cons,List.map_nil,Act.eval,s30]<;>rfl) cf15 (C3.out w) (fun e w1 h=>retE e w1 h)
   ·intro a w hk
    have s19:=hk.eq_ 3 19 (by kernel_rfl) rfl
    have s23:=hk.eq_ 7 23 (by kernel_rfl) rfl
    have s27:=hk.eq_ 11 27 (by kernel_rfl) rfl
    have s31:=hk.eq_ 15 31 (by kernel_rfl) rfl
    exact step_build4 rfl rfl s19 s23 s27 s31 rfl
   ·intro a w hk
    refine step_val (v:=.pointer (some ⟨w.heap.size,0,none⟩)) (w':=w.alloc (.cells (F4.mk 0 0 0 0).cells 111)) rfl ?_ (Ext.alloc _ _) ⟨w.heap.size,rfl,by have:=HZ.out;have:=Below.size hk.ext;omega,heap_alloc_new w _⟩
    go_simp
    rfl
   ·intro a w1 hf
    have s16:=hf.eq_ 0 16 (by kernel_rfl) rfl
    have s17:=hf.eq_ 1 17 (by kernel_rfl) rfl
    have s18:=hf.eq_ 2 18 (by kernel_rfl) rfl
    have s19:=hf.eq_ 3 19 (by kernel_rfl) rfl
    have s20:=hf.eq_ 4 20 (by kernel_rfl) rfl
    have s21:=hf.eq_ 5 21 (by kernel_rfl) rfl
    have s22:=hf.eq_ 6 22 (by kernel_rfl) rfl
    have s23:=hf.eq_ 7 23 (by kernel_rfl) rfl
    have s24:=hf.eq_ 8 24 (by kernel_rfl) rfl
    have s25:=hf.eq_ 9 25 (by kernel_rfl) rfl
    have s26:=hf.eq_ 10 26 (by kernel_rfl) rfl
    have s27:=hf.eq_ 11 27 (by kernel_rfl) rfl
    have s28:=hf.eq_ 12 28 (by kernel_rfl) rfl
    have s29:=hf.eq_ 13 29 (by kernel_rfl) rfl
    have s30:=hf.eq_ 14 30 (by kernel_rfl) rfl
    have s31:=hf.eq_ 15 31 (by kernel_rfl) rfl
    have s32:=hf.eq_ 16 32 (by kernel_rfl) rfl
    obtain ⟨b7,s7,h7,g7⟩:=hf.val 17 7 (by kernel_rfl) rfl
    have hx:=hf.ext
    have e:=hf.frame
    clear hf
    simp only [List.take_succ_cons,List.take_zero,regFrame,Act.put,List.setIfInBounds_toArray,List.set_cons_zero,List.set_cons_succ,s16,s17,s18,s19,s20,s21,s22,s23,s24,s25,s26,s27,s28,s29,s30,s31,s32,s7] at e
    clear s16 s17 s18 s19 s20 s21 s22 s23 s24 s25 s26 s27 s28 s29 s30 s31 s32 s7
    subst e
    simp only [List.drop_succ_cons,List.drop_zero]
    have HG7:=hid g7
    have ha1:=HA.out.later hx
    have hv1:=HV.out.later hx
    have hr1:=HRR.out.later hx
    have he1:=HE.out.trans hx
    have hu1:B4 w1 b7 ⟨0,0,0,0⟩:=g7
    obtain ⟨W2,hW2⟩:∃ W2,w1.setRow b7 (F4.mk v0 v1 v2 v3).cells=W2:=⟨_,rfl⟩
    have HU2:=hid (show B4 W2 b7 (F4.mk v0 v1 v2 v3) by rw [← hW2];exact hu1.put _)
    have HA2:=hid (show Blk W2 G 106 (tabN k 52) by rw [← hW2];exact ha1.putne _ _ (by omega))
    have HV2:=hid (show Blk W2 (G+1+1) 106 (fillN (undF k) 52 (6*r)) by rw [← hW2];exact hv1.putne _ _ (by omega))
    have HRR2:=hid (show Blk W2 (G+1) 106 (fillN (undF k) 52 0) by rw [← hW2];exact hr1.putne _ _ (by omega))
    have HE2:=hid (show Ext w W2 by rw [← hW2];exact Below.setRow_ he1 (by have:=HG.out;omega) _)
    have HW2:=hid hW2
    clear ha1 hv1 hr1 he1 hu1 g7 hx hW2
    have hcond:r=0∨(0 < r∧r < 8)∨r=8:=by omega
    rcases hcond with hr0 | hrm | hr8
    ·have hd1:decide (0 < 6*(r:Int))=false:=by simp;omega
     have hd2:¬ (0 < 6*(r:Int)):=by omega
     have hd3:(0:Int) < (f:Int):=by have:=HF.out;omega
     have HF1:=hid (und_first k r f hlt HF.out (F4.mk v0 v1 v2 v3) (by rw [if_neg (by omega),HUU.out]))
     have HF2:=hid (und_second k r f (by omega) HF.out)
     have hf2:2≤f:=by have:=HF.out;omega
     have hrl:r < 8:=by omega
     clear hr0
     go_wp2_with (refine wpList_store_row rfl 111 (.tmp 7) (.tmp 32) rfl b7 (F4.mk v0 v1 v2 v3).cells rfl rfl 111 _ HG7.out (F4.size _) rfl (F4.all _) ?_)
     rw [HW2.out]
     refine region_upto 3 mixed rfl (by kernel_rfl) (by kernel_rfl) (by kernel_rfl) (kV (und10 G r b7)) (kV_keep _) (forall_ops ⟨?_,?_,?_,trivial⟩) ?_
     ·intro a w hk
      have s4:a.tmps.getD 4 undef=.int .i64 (6*r:Nat):=hk.was 4 (by kernel_rfl) rfl
      exact step_move rfl rfl s4 rfl
     ·intro a w hk
      have s3:a.tmps.getD 3 undef=.pointer (some ⟨G+1+1,0,none⟩):=hk.was 3 (by kernel_rfl) rfl
      have s45:=hk.eq_ 0 45 (by kernel_rfl) rfl
      refine step_val (v:=.slice (some ⟨G+1+1,6*r,none⟩) (52 - 6*r) (52 - 6*r)) (w':=w) rfl ?_ (Ext.refl w) rfl
      have e:=arr53_l (G+1+1) (6*r) w (by omega)
      simp only [execOp,Act.eval,Option.map_some,Option.map_none,s3,s45,Sem.run_bind,e,Sem.run_pure,Result.andThen]
     ·intro a w hk
      have s7:a.tmps.getD 7 undef=.pointer (some ⟨b7,0,none⟩):=hk.was 7 (by kernel_rfl) rfl
      refine step_val (v:=.slice (some ⟨b7,0,none⟩) 4 4) (w':=w) rfl ?_ (Ext.refl w) rfl
      have e:=arr57_all b7 w
      simp only [execOp,Act.eval,Option.map_none,s7,Sem.run_bind,e,Sem.run_pure,Result.andThen]
     ·intro a w1 hf
      have s45:=hf.eq_ 0 45 (by kernel_rfl) rfl
      have s46:=hf.eq_ 1 46 (by kernel_rfl) rfl
      have s47:=hf.eq_ 2 47 (by kernel_rfl) rfl
      have hx:=hf.ext
      have e:=hf.frame
      clear hf
      simp only [List.take_succ_cons,List.take_zero,regFrame,Act.put,List.setIfInBounds_toArray,List.set_cons_zero,List.set_cons_succ,s45,s46,s47] at e
      clear s45 s46 s47
      subst e
      simp only [List.drop_succ_cons,List.drop_zero]
      have hv1:=HV2.out.later hx
      have hu1:=B4.later HU2.out hx
      have ha1:=HA2.out.later hx
      have hr1:=HRR2.out.later hx
      have he1:=HE2.out.trans hx
      clear hx
      refine wpL_copy_blk rfl (.tmp 46) (.tmp 47) rfl (6*r) (52 - 6*r) (52 - 6*r) 4 4 _ 4 b7 0 _ rfl rfl hv1 (by omega) (by rw [fillN_length];omega) (Blk.rd hu1 0 4 (by simp [F4.list])) ?_
      intro w5 hb5 hg5
      rw [HF1.out] at hb5
      have HV5:=hid hb5
      have HA5:=hid (ha1.grown hg5 (by omega))
      have HR5:=hid (hr1.grown hg5 (by omega))
      have HE5:=hid (he1.below hg5 (by have:=HG.out;omega))
      clear hv1 hu1 ha1 hr1 he1 hb5 hg5 HV2 HU2 HA2 HRR2 HE2
      go_wp2_with fail
      refine region_upto 7 mixed rfl (by kernel_rfl) (by kernel_rfl) (by kernel_rfl) (kV (und12 G r f)) (kV_keep _) (forall_ops ⟨?_,?_,?_,?_,?_,?_,?_,trivial⟩) ?_
      ·intro a w hk
       have s4:a.tmps.getD 4 undef=.int .i64 (6*r:Nat):=hk.was 4 (by kernel_rfl) rfl
       exact step_move rfl rfl s4 rfl
      ·intro a w hk
       have s51:=hk.eq_ 0 51 (by kernel_rfl) rfl
       refine step_val (v:=.int .i64 (6*r+4:Nat)) (w':=w) rfl ?_ (Ext.refl w) rfl
       go_simp
       exact wrap_i64 (by omega) (by omega)
      ·intro a w hk
       have s3:a.tmps.getD 3 undef=.pointer (some ⟨G+1+1,0,none⟩):=hk.was 3 (by kernel_rfl) rfl
       have s52:=hk.eq_ 1 52 (by kernel_rfl) rfl
       refine step_val (v:=.slice (some ⟨G+1+1,6*r+4,none⟩) (52 - (6*r+4)) (52 - (6*r+4))) (w':=w) rfl ?_ (Ext.refl w) rfl
       have e:=arr53_l (G+1+1) (6*r+4) w (by omega)
       simp only [execOp,Act.eval,Option.map_some,Option.map_none,s3,s52,Sem.run_bind,e,Sem.run_pure,Result.andThen]
      ·intro a w hk
       have s5:a.tmps.getD 5 undef=.int .i64 f:=hk.was 5 (by kernel_rfl) rfl
       exact step_move rfl rfl s5 rfl
      ·intro a w hk
       have s54:=hk.eq_ 3 54 (by kernel_rfl) rfl
       refine step_val (v:=.int .i64 (f - 2:Nat)) (w':=w) rfl ?_ (Ext.refl w) rfl
       have e2:IntKind.i64.wrap ((f:Int) - 2)=((f - 2:Nat):Int):=by rw [wrap_i64 (by omega) (by omega)];omega
       go_simp
      ·intro a w hk
       have s5:a.tmps.getD 5 undef=.int .i64 f:=hk.was 5 (by kernel_rfl) rfl
       exact step_move rfl rfl s5 rfl
      ·intro a w hk
       have s1:a.tmps.getD 1 undef=.pointer (some ⟨G,0,none⟩):=hk.was 1 (by kernel_rfl) rfl
       have s55:=hk.eq_ 4 55 (by kernel_rfl) rfl
       have s56:=hk.eq_ 5 56 (by kernel_rfl) rfl
       refine step_val (v:=.slice (some ⟨G,f - 2,none⟩) 2 (52 - (f - 2))) (w':=w) rfl ?_ (Ext.refl w) rfl
       have e:=arr53_lh G (f - 2) f w (by omega) (by omega) (by omega)
       rw [show f - (f - 2)=2 by omega] at e
       simp only [execOp,Act.eval,Option.map_some,Option.map_none,s1,s55,s56,Sem.run_bind,e,Sem.run_pure,Result.andThen]
      ·intro a w1 hf
       have s51:=hf.eq_ 0 51 (by kernel_rfl) rfl
       have s52:=hf.eq_ 1 52 (by kernel_rfl) rfl
       have s53:=hf.eq_ 2 53 (by kernel_rfl) rfl
       have s54:=hf.eq_ 3 54 (by kernel_rfl) rfl
       have s55:=hf.eq_ 4 55 (by kernel_rfl) rfl
       have s56:=hf.eq_ 5 56 (by kernel_rfl) rfl
       have s57:=hf.eq_ 6 57 (by kernel_rfl) rfl
       have hx:=hf.ext
       have e:=hf.frame
       clear hf
       simp only [List.take_succ_cons,List.take_zero,regFrame,Act.put,List.setIfInBounds_toArray,List.set_cons_zero,List.set_cons_succ,s51,s52,s53,s54,s55,s56,s57] at e
       clear s51 s52 s53 s54 s55 s56 s57
       subst e
       simp only [List.drop_succ_cons,List.drop_zero]
       have hv1:=HV5.out.later hx
       have ha1:=HA5.out.later hx
       have hr1:=HR5.out.later hx
       have he1:=HE5.out.trans hx
       clear hx
       refine wpL_copy_blk rfl (.tmp 53) (.tmp 57) rfl (6*r+4) (52 - (6*r+4)) (52 - (6*r+4)) 2 (52 - (f - 2)) _ 2 G (f - 2) _ rfl rfl hv1 (by omega) (by rw [fillN_length];omega) (ha1.rd (f - 2) 2 (by rw [tabN_length];omega)) ?_
       intro w6 hb6 hg6
       rw [HF2.out] at hb6
       have HV6:=hid hb6
       have HA6:=hid (ha1.grown hg6 (by omega))
       have HR6:=hid (hr1.grown hg6 (by omega))
       have HE6:=hid (he1.below hg6 (by have:=HG.out;omega))
       clear hv1 ha1 hr1 he1 hb6 hg6 HV5 HA5 HR5 HE5
       go_wp2_with fail
       go_roundw
       case rel=>exact ⟨r+1,by omega,by rw [show ((6*(r+1):Nat):Int)=6*(r:Int)+6 by omega],HA6.out,by rw [show min (6*(r+1)) 52=6*r+6 by omega];exact HV6.out,HR6.out,HE6.out⟩
       case measure=>simp [intOf];omega
    ·have hd1:(0:Int) < 6*(r:Int):=by omega
     have hd3:(0:Int) < (f:Int):=by have:=HF.out;omega
     have HF1:=hid (und_first k r f hlt HF.out ⟨v0,v2,v1,v3⟩ (by rw [if_pos hrm,HUU.out];rfl))
     have HF2:=hid (und_second k r f (by omega) HF.out)
     have hfl:2≤f:=by have:=HF.out;omega
     have hrl:r < 8:=by omega
     have hu2:=HU2.out
     have hcb:=B4.cb hu2
     have hcc:=B4.cc hu2
     have hf1:=Blk.frozen hu2 1
     have hf2:=Blk.frozen hu2 2
     have hsw:=Blk.set_ (Blk.set_ hu2 1 (v2:Nat)) 2 (v1:Nat)
     have ha3:=Blk.setne (Blk.setne HA2.out ⟨b7,1,none⟩ (.int .i64 (v2:Nat)) (by simp;omega)) ⟨b7,2,none⟩ (.int .i64 (v1:Nat)) (by simp;omega)
     have hv3:=Blk.setne (Blk.setne HV2.out ⟨b7,1,none⟩ (.int .i64 (v2:Nat)) (by simp;omega)) ⟨b7,2,none⟩ (.int .i64 (v1:Nat)) (by simp;omega)
     have hr3:=Blk.setne (Blk.setne HRR2.out ⟨b7,1,none⟩ (.int .i64 (v2:Nat)) (by simp;omega)) ⟨b7,2,none⟩ (.int .i64 (v1:Nat)) (by simp;omega)
     have he3:=Below.setCell (Below.setCell HE2.out (p:=⟨b7,1,none⟩) (by have:=HG.out;simp;omega) (.int .i64 (v2:Nat))) (p:=⟨b7,2,none⟩) (by have:=HG.out;simp;omega) (.int .i64 (v1:Nat))
     have HSW:=hid hsw
     have HA3:=hid ha3
     have HV3:=hid hv3
     have HR3:=hid hr3
     have HE3:=hid he3
     clear hsw ha3 hv3 hr3 he3 hu2 hrm
     go_wp2_with (refine wpList_store_row rfl 111 (.tmp 7) (.tmp 32) rfl b7 (F4.mk v0 v1 v2 v3).cells rfl rfl 111 _ HG7.out (F4.size _) rfl (F4.all _) ?_;rw [HW2.out])
     obtain ⟨W3,hW3⟩:∃ W3,(W2.setCell ⟨b7,1,none⟩ (.int .i64 (v2:Nat))).setCell ⟨b7,2,none⟩ (.int .i64 (v1:Nat))=W3:=⟨_,rfl⟩
     rw [hW3] at HSW HA3 HV3 HR3 HE3 ⊢
     have HU2:=hid (show B4 W3 b7 ⟨v0,v2,v1,v3⟩ from HSW.out)
     have HA2:=HA3
     have HV2:=HV3
     have HRR2:=HR3
     have HE2:=hid (show Ext w W3 from HE3.out)
     clear hW3 HSW HA3 HV3 HR3 HE3 hcb hcc hf1 hf2
     refine region_upto 3 mixed rfl (by kernel_rfl) (by kernel_rfl) (by kernel_rfl) (kV (und10 G r b7)) (kV_keep _) (forall_ops ⟨?_,?_,?_,trivial⟩) ?_
     ·intro a w hk
      have s4:a.tmps.getD 4 undef=.int .i64 (6*r:Nat):=hk.was 4 (by kernel_rfl) rfl
      exact step_move rfl rfl s4 rfl
     ·intro a w hk
      have s3:a.tmps.getD 3 undef=.pointer (some ⟨G+1+1,0,none⟩):=hk.was 3 (by kernel_rfl) rfl
      have s45:=hk.eq_ 0 45 (by kernel_rfl) rfl
      refine step_val (v:=.slice (some ⟨G+1+1,6*r,none⟩) (52 - 6*r) (52 - 6*r)) (w':=w) rfl ?_ (Ext.refl w) rfl
      have e:=arr53_l (G+1+1) (6*r) w (by omega)
      simp only [execOp,Act.eval,Option.map_some,Option.map_none,s3,s45,Sem.run_bind,e,Sem.run_pure,Result.andThen]
     ·intro a w hk
      have s7:a.tmps.getD 7 undef=.pointer (some ⟨b7,0,none⟩):=hk.was 7 (by kernel_rfl) rfl
      refine step_val (v:=.slice (some ⟨b7,0,none⟩) 4 4) (w':=w) rfl ?_ (Ext.refl w) rfl
      have e:=arr57_all b7 w
      simp only [execOp,Act.eval,Option.map_none,s7,Sem.run_bind,e,Sem.run_pure,Result.andThen]
     ·intro a w1 hf
      have s45:=hf.eq_ 0 45 (by kernel_rfl) rfl
      have s46:=hf.eq_ 1 46 (by kernel_rfl) rfl
      have s47:=hf.eq_ 2 47 (by kernel_rfl) rfl
      have hx:=hf.ext
      have e:=hf.frame
      clear hf
      simp only [List.take_succ_cons,List.take_zero,regFrame,Act.put,List.setIfInBounds_toArray,List.set_cons_zero,List.set_cons_succ,s45,s46,s47] at e
      clear s45 s46 s47
      subst e
      simp only [List.drop_succ_cons,List.drop_zero]
      have hv1:=HV2.out.later hx
      have hu1:=B4.later HU2.out hx
      have ha1:=HA2.out.later hx
      have hr1:=HRR2.out.later hx
      have he1:=HE2.out.trans hx
      clear hx
      refine wpL_copy_blk rfl (.tmp 46) (.tmp 47) rfl (6*r) (52 - 6*r) (52 - 6*r) 4 4 _ 4 b7 0 _ rfl rfl hv1 (by omega) (by rw [fillN_length];omega) (Blk.rd hu1 0 4 (by simp [F4.list])) ?_
      intro w5 hb5 hg5
      rw [HF1.out] at hb5
      have HV5:=hid hb5
      have HA5:=hid (ha1.grown hg5 (by omega))
      have HR5:=hid (hr1.grown hg5 (by omega))
      have HE5:=hid (he1.below hg5 (by have:=HG.out;omega))
      clear hv1 hu1 ha1 hr1 he1 hb5 hg5 HV2 HU2 HA2 HRR2 HE2
      go_wp2_with fail
      refine region_upto 7 mixed rfl (by kernel_rfl) (by kernel_rfl) (by kernel_rfl) (kV (und12 G r f)) (kV_keep _) (forall_ops ⟨?_,?_,?_,?_,?_,?_,?_,trivial⟩) ?_
      ·intro a w hk
       have s4:a.tmps.getD 4 undef=.int .i64 (6*r:Nat):=hk.was 4 (by kernel_rfl) rfl
       exact step_move rfl rfl s4 rfl
      ·intro a w hk
       have s51:=hk.eq_ 0 51 (by kernel_rfl) rfl
       refine step_val (v:=.int .i64 (6*r+4:Nat)) (w':=w) rfl ?_ (Ext.refl w) rfl
       go_simp
       exact wrap_i64 (by omega) (by omega)
      ·intro a w hk
       have s3:a.tmps.getD 3 undef=.pointer (some ⟨G+1+1,0,none⟩):=hk.was 3 (by kernel_rfl) rfl
       have s52:=hk.eq_ 1 52 (by kernel_rfl) rfl
       refine step_val (v:=.slice (some ⟨G+1+1,6*r+4,none⟩) (52 - (6*r+4)) (52 - (6*r+4))) (w':=w) rfl ?_ (Ext.refl w) rfl
       have e:=arr53_l (G+1+1) (6*r+4) w (by omega)
       simp only [execOp,Act.eval,Option.map_some,Option.map_none,s3,s52,Sem.run_bind,e,Sem.run_pure,Result.andThen]
      ·intro a w hk
       have s5:a.tmps.getD 5 undef=.int .i64 f:=hk.was 5 (by kernel_rfl) rfl
       exact step_move rfl rfl s5 rfl
      ·intro a w hk
       have s54:=hk.eq_ 3 54 (by kernel_rfl) rfl
       refine step_val (v:=.int .i64 (f - 2:Nat)) (w':=w) rfl ?_ (Ext.refl w) rfl
       have e2:IntKind.i64.wrap ((f:Int) - 2)=((f - 2:Nat):Int):=by rw [wrap_i64 (by omega) (by omega)];omega
       go_simp
      ·intro a w hk
       have s5:a.tmps.getD 5 undef=.int .i64 f:=hk.was 5 (by kernel_rfl) rfl
       exact step_move rfl rfl s5 rfl
      ·intro a w hk
       have s1:a.tmps.getD 1 undef=.pointer (some ⟨G,0,none⟩):=hk.was 1 (by kernel_rfl) rfl
       have s55:=hk.eq_ 4 55 (by kernel_rfl) rfl
       have s56:=hk.eq_ 5 56 (by kernel_rfl) rfl
       refine step_val (v:=.slice (some ⟨G,f - 2,none⟩) 2 (52 - (f - 2))) (w':=w) rfl ?_ (Ext.refl w) rfl
       have e:=arr53_lh G (f - 2) f w (by omega) (by omega) (by omega)
       rw [show f - (f - 2)=2 by omega] at e
       simp only [execOp,Act.eval,Option.map_some,Option.map_none,s1,s55,s56,Sem.run_bind,e,Sem.run_pure,Result.andThen]
      ·intro a w1 hf
       have s51:=hf.eq_ 0 51 (by kernel_rfl) rfl
       have s52:=hf.eq_ 1 52 (by kernel_rfl) rfl
       have s53:=hf.eq_ 2 53 (by kernel_rfl) rfl
       have s54:=hf.eq_ 3 54 (by kernel_rfl) rfl
       have s55:=hf.eq_ 4 55 (by kernel_rfl) rfl
       have s56:=hf.eq_ 5 56 (by kernel_rfl) rfl
       have s57:=hf.eq_ 6 57 (by kernel_rfl) rfl
       have hx:=hf.ext
       have e:=hf.frame
       clear hf
       simp only [List.take_succ_cons,List.take_zero,regFrame,Act.put,List.setIfInBounds_toArray,List.set_cons_zero,List.set_cons_succ,s51,s52,s53,s54,s55,s56,s57] at e
       clear s51 s52 s53 s54 s55 s56 s57
       subst e
       simp only [List.drop_succ_cons,List.drop_zero]
       have hv1:=HV5.out.later hx
       have ha1:=HA5.out.later hx
       have hr1:=HR5.out.later hx
       have he1:=HE5.out.trans hx
       clear hx
       refine wpL_copy_blk rfl (.tmp 53) (.tmp 57) rfl (6*r+4) (52 - (6*r+4)) (52 - (6*r+4)) 2 (52 - (f - 2)) _ 2 G (f - 2) _ rfl rfl hv1 (by omega) (by rw [fillN_length];omega) (ha1.rd (f - 2) 2 (by rw [tabN_length];omega)) ?_
       intro w6 hb6 hg6
       rw [HF2.out] at hb6
       have HV6:=hid hb6
       have HA6:=hid (ha1.grown hg6 (by omega))
       have HR6:=hid (hr1.grown hg6 (by omega))
       have HE6:=hid (he1.below hg6 (by have:=HG.out;omega))
       clear hv1 ha1 hr1 he1 hb6 hg6 HV5 HA5 HR5 HE5
       go_wp2_with fail
       go_roundw
       case rel=>exact ⟨r+1,by omega,by rw [show ((6*(r+1):Nat):Int)=6*(r:Int)+6 by omega],HA6.out,by rw [show min (6*(r+1)) 52=6*r+6 by omega];exact HV6.out,HR6.out,HE6.out⟩
       case measure=>simp [intOf];omega
    ·have hd1:(0:Int) < 6*(r:Int):=by omega
     have hd2:decide ((0:Int) < (f:Int))=false:=by have:=HF.out;simp;omega
     have hd3:¬ ((0:Int) < (f:Int)):=by have:=HF.out;omega
     have HF1:=hid (und_first k r f hlt HF.out (F4.mk v0 v1 v2 v3) (by rw [if_neg (by omega),HUU.out]))
     have hre:8≤r:=by omega
     clear hr8
     go_wp2_with (refine wpList_store_row rfl 111 (.tmp 7) (.tmp 32) rfl b7 (F4.mk v0 v1 v2 v3).cells rfl rfl 111 _ HG7.out (F4.size _) rfl (F4.all _) ?_)
     rw [HW2.out]
     refine region_upto 3 mixed rfl (by kernel_rfl) (by kernel_rfl) (by kernel_rfl) (kV (und10 G r b7)) (kV_keep _) (forall_ops ⟨?_,?_,?_,trivial⟩) ?_
     ·intro a w hk
      have s4:a.tmps.getD 4 undef=.int .i64 (6*r:Nat):=hk.was 4 (by kernel_rfl) rfl
      exact step_move rfl rfl s4 rfl
     ·intro a w hk
      have s3:a.tmps.getD 3 undef=.pointer (some ⟨G+1+1,0,none⟩):=hk.was 3 (by kernel_rfl) rfl
      have s45:=hk.eq_ 0 45 (by kernel_rfl) rfl
      refine step_val (v:=.slice (some ⟨G+1+1,6*r,none⟩) (52 - 6*r) (52 - 6*r)) (w':=w) rfl ?_ (Ext.refl w) rfl
      have e:=arr53_l (G+1+1) (6*r) w (by omega)
      simp only [execOp,Act.eval,Option.map_some,Option.map_none,s3,s45,Sem.run_bind,e,Sem.run_pure,Result.andThen]
     ·intro a w hk
      have s7:a.tmps.getD 7 undef=.pointer (some ⟨b7,0,none⟩):=hk.was 7 (by kernel_rfl) rfl
      refine step_val (v:=.slice (some ⟨b7,0,none⟩) 4 4) (w':=w) rfl ?_ (Ext.refl w) rfl
      have e:=arr57_all b7 w
      simp only [execOp,Act.eval,Option.map_none,s7,Sem.run_bind,e,Sem.run_pure,Result.andThen]
     ·intro a w1 hf
      have s45:=hf.eq_ 0 45 (by kernel_rfl) rfl
      have s46:=hf.eq_ 1 46 (by kernel_rfl) rfl
      have s47:=hf.eq_ 2 47 (by kernel_rfl) rfl
      have hx:=hf.ext
      have e:=hf.frame
      clear hf
      simp only [List.take_succ_cons,List.take_zero,regFrame,Act.put,List.setIfInBounds_toArray,List.set_cons_zero,List.set_cons_succ,s45,s46,s47] at e
      clear s45 s46 s47
      subst e
      simp only [List.drop_succ_cons,List.drop_zero]
      have hv1:=HV2.out.later hx
      have hu1:=B4.later HU2.out hx
      have ha1:=HA2.out.later hx
      have hr1:=HRR2.out.later hx
      have he1:=HE2.out.trans hx
      clear hx
      refine wpL_copy_blk rfl (.tmp 46) (.tmp 47) rfl (6*r) (52 - 6*r) (52 - 6*r) 4 4 _ 4 b7 0 _ rfl rfl hv1 (by omega) (by rw [fillN_length];omega) (Blk.rd hu1 0 4 (by simp [F4.list])) ?_
      intro w5 hb5 hg5
      rw [HF1.out] at hb5
      have HV5:=hid hb5
      have HA5:=hid (ha1.grown hg5 (by omega))
      have HR5:=hid (hr1.grown hg5 (by omega))
      have HE5:=hid (he1.below hg5 (by have:=HG.out;omega))
      clear hv1 hu1 ha1 hr1 he1 hb5 hg5 HV2 HU2 HA2 HRR2 HE2
      go_wp2_with fail
      go_roundw
      case rel=>exact ⟨r+1,by omega,by rw [show ((6*(r+1):Nat):Int)=6*(r:Int)+6 by omega],HA5.out,by rw [show min (6*(r+1)) 52=6*r+4 by omega];exact HV5.out,HR5.out,HE5.out⟩
      case measure=>simp [intOf];omega
  ·obtain rfl:r=9:=by omega
   rw [show min (6*9) 52=52 from rfl,fillN_full] at hv
   have h53:=size53 (tabN (undF k) 52) (tabN_length _ _)
   have hss:=sizes (fillN (undF k) 52 0) (tabN (undF k) 52) (by rw [fillN_length,tabN_length])
   have HV:=hid hv
   have HRR:=hid hrr
   have HR2:=hid (hrr.put (tabN (undF k) 52))
   have HE2:=hid (Below.setRow_ he (g:=G+1) (by have:=HG.out;omega) (cN .i64 (tabN (undF k) 52)).toArray)
   have HS53:=hid (And.intro h53 hss)
   clear ha hv hrr he h53 hss
   go_wp2_with (first
    | (refine wpList_load_row rfl 106 (.tmp 3) rfl (G+1+1) rfl 106 (cN .i64 (tabN (undF k) 52)).toArray (0,0) _ HV.out Tryz.underlying106 rfl HS53.out.1 ?_)
    | (refine wpList_store_row rfl 106 (.tmp 2) (.tmp 59) rfl (G+1) (cN .i64 (tabN (undF k) 52)).toArray rfl rfl 106 _ HRR.out HS53.out.1 HS53.out.2 (cN_all _) ?_))
   refine ret_cell rfl rfl (G+1) 106 _ (0,0) rfl HR2.out Tryz.underlying106 HS53.out.1 ⟨rfl,HE2.out⟩
end Go.Proofs.YtbgkmicelmenfaaGreatDoor.I
namespace Go.Proofs.YtbgkmicelmenfaaGreatDoor.I
open Go.RowKit
set_option maxRecDepth 100000
theorem build56 (k l:Nat→Nat) (w:World):(Instr.build 109 #[(0,.agg (cN .i64 (tabN k 52)).toArray),(1,.agg (cN .i64 (tabN l 52)).toArray)]).run Tryz.prog w=.ok (.agg (cN .i64 (tabN k 52++tabN l 52)).toArray) w:=by kernel_rfl
theorem s53 (k:Nat→Nat):(Tryz.prog.info? 106).map (·.size)=some (cN .i64 (tabN k 52)).toArray.size:=size53 _ (tabN_length _ _)
theorem exec_load53 {o:Oper} {a:Act} {w:World} {t:Tmp} {B:Nat} {e:TypeId} {k:Nat→Nat} (ho:o.op=.load 106 (.tmp t)) (ht:a.tmps.getD t undef=.pointer (some ⟨B,0,none⟩)) (hA:Blk w B e (tabN k 52)) :
  (execOp a.eval o).run Tryz.prog w=.ok (.value (.agg (cN .i64 (tabN k 52)).toArray)) w:=by
 have h:=run_loadVar_row (P:=Tryz.prog) w B e 106 (cN .i64 (tabN k 52)).toArray (0,0) _ hA Tryz.underlying106 rfl (s53 k)
 unfold execOp
 simp only [ho,Act.eval,ht,Instr.loadAt,Instr.sureAddr,Sem.run_bind,Sem.run_pure,Result.andThen_ok,h]
def IsIdea (w:World) (p:Nat) (k:Nat→Nat):Prop:=Blk w p 109 (tabN k 52++tabN (undF k) 52)
theorem IsIdea.later {w w':World} {p:Nat} {k:Nat→Nat} (h:IsIdea w p k) (hx:Ext w w'):IsIdea w' p k:=Blk.later h hx
def NewRet (w:World) (key:List UInt8) (e:Ending) (w':World):Prop :=
 ∃ p,e=.returned (.tuple #[.pointer (some ⟨p,0,none⟩),.int .i64 0])∧IsIdea w' p (keyF key)∧Ext w w'
def newKs (Hz:Nat) (k:Nat→Nat):List K:=[.eq (.agg (cN .i64 (tabN k 52)).toArray),.eq (.agg (cN .i64 (tabN k 52)).toArray),.eq (.agg (cN .i64 (tabN (undF k) 52)).toArray),.eq (.agg (cN .i64 (tabN k 52++tabN (undF k) 52)).toArray),.new Hz (cN .i64 (tabN k 52++tabN (undF k) 52)).toArray 109,.new Hz (cN .i64 (tabN k 52++tabN (undF k) 52)).toArray 109,.eq (Value.int IntKind.i64 0)]
set_option maxHeartbeats 4000000 in
theorem new_any (A:Option Addr) (c:Nat) (key:List UInt8) (w:World) (h:Rd w w.heap.size A 16 key) :
  Calls Tryz.prog 30 #[.slice A 16 c] w (NewRet w key):=by
 have HR:=hid h
 have HL:=hid (keyF_lt key)
 clear h
 go_enter Tryz.func30,Tryz.ntmps30
 go_wp2_with fail
 refine (keys_any A c key _ HR.out).mono ?_
 obtain ⟨k,hk⟩:∃ k,keyF key=k:=⟨_,rfl⟩
 rintro e w1 ⟨g,rfl,hg,hb,hx⟩
 rw [hk] at HL hb
 have HKK:=hid hk
 clear hk
 have HG:=hid hb
 have HX1:=hid hx
 have HAT:=hid (fun w=>run_arrayAt (P:=Tryz.prog) w 106 3 52 (some ⟨g,0,none⟩) 52 52 Tryz.underlying106 (Nat.le_refl _))
 have HS:=hid (s53 k)
 clear hb hx hg
 go_wp2_with (first
  | (rw [HAT.out];simp only [Result.andThen];rw [Oper.upon_value])
  | (refine wpList_load_row rfl 106 (.tmp 16) rfl g rfl 3 (cN .i64 (tabN k 52)).toArray (0,0) _ HG.out Tryz.underlying106 rfl HS.out ?_)
  | (refine wpList_store_row rfl 106 (.tmp 6) (.tmp 17) rfl w1.heap.size (cN .i64 (tabN k 52)).toArray rfl rfl 106 _ (heap_alloc_new _ _) HS.out (by rw [cN_size,tabN_length];rfl) (cN_all _) ?_))
 obtain ⟨W2,hW2⟩:∃ W2,(w1.alloc (.cells #[.int .i64 0,.int .i64 0,.int .i64 0,.int .i64 0,.int .i64 0,.int .i64 0,.int .i64 0,.int .i64 0,.int .i64 0,.int .i64 0,.int .i64 0,.int .i64 0,.int .i64 0,.int .i64 0,.int .i64 0,.int .i64 0,.int .i64 0,.int .i64 0,.int .i64 0,.int .i64 0,.int .i64 0,.int .i64 0,.int .i64 0,.int .i64 0,.int .i64 0,.int .i64 0,.int .i64 0,.int .i64 0,.int .i64 0,.int .i64 0,.int .i64 0,.int .i64 0,.int .i64 0,.int .i64 0,.int .i64 0,.int .i64 0,.int .i64 0,.int .i64 0,.int .i64 0,.int .i64 0,.int .i64 0,.int .i64 0,.int .i64 0,.int .i64 0,.int .i64 0,.int .i64 0,.int .i64 0,.int .i64 0,.int .i64 0,.int .i64 0,.int .i64 0,.int .i64 0] 106)).setRow w1.heap.size (cN .i64 (tabN k 52)).toArray=W2:=⟨_,rfl⟩
 have hb2:Blk W2 w1.heap.size 106 (tabN k 52):=by rw [← hW2];exact setRow_heap _ _ _ _ _ _ (heap_alloc_new w1 (.cells #[.int .i64 0,.int .i64 0,.int .i64 0,.int .i64 0,.int .i64 0,.int .i64 0,.int .i64 0,.int .i64 0,.int .i64 0,.int .i64 0,.int .i64 0,.int .i64 0,.int .i64 0,.int .i64 0,.int .i64 0,.int .i64 0,.int .i64 0,.int .i64 0,.int .i64 0,.int .i64 0,.int .i64 0,.int .i64 0,.int .i64 0,.int .i64 0,.int .i64 0,.int .i64 0,.int .i64 0,.int .i64 0,.int .i64 0,.int .i64 0,.int .i64 0,.int .i64 0,.int .i64 0,.int .i64 0,.int .i64 0,.int .i64 0,.int .i64 0,.int .i64 0,.int .i64 0,.int .i64 0,.int .i64 0,.int .i64 0,.int .i64 0,.int .i64 0,.int .i64 0,.int .i64 0,.int .i64 0,.int .i64 0,.int .i64 0,.int .i64 0,.int .i64 0,.int .i64 0] 106))
 have hx2:Ext w W2:=by rw [← hW2];exact Below.setRow_ (HX1.out.trans (Ext.alloc _ _)) (by have:=Below.size HX1.out;omega) _
 rw [hW2]
 obtain ⟨g6,hg6⟩:∃ g,w1.heap.size=g:=⟨_,rfl⟩
 rw [hg6] at hb2 ⊢
 obtain ⟨Hz,hHz⟩:∃ Hz,W2.heap.size=Hz:=⟨_,rfl⟩
 have HB:=hid hb2
 have HX2:=hid hx2
 have HZ:=hid hHz
 clear hb2 hx2 hW2 hg6 hHz HX1 HG HR
 refine region_inv mixed rfl (by kernel_rfl) (kV (newKs Hz k)) (kV_keep _) (forall_ops ⟨?_,?_,?_,?_,?_,?_,?_,trivial⟩) ?_
 ·intro a w hk
  have s6:a.tmps.getD 6 undef=.pointer (some ⟨g6,0,none⟩):=hk.was 6 (by kernel_rfl) rfl
  refine step_val (v:=.agg (cN .i64 (tabN k 52)).toArray) (w':=w) rfl ?_ (Ext.refl w) rfl
  exact exec_load53 rfl s6 (HB.out.later hk.ext)
 ·intro a w hk
  have s6:a.tmps.getD 6 undef=.pointer (some ⟨g6,0,none⟩):=hk.was 6 (by kernel_rfl) rfl
  refine step_val (v:=.agg (cN .i64 (tabN k 52)).toArray) (w':=w) rfl ?_ (Ext.refl w) rfl
  exact exec_load53 rfl s6 (HB.out.later hk.ext)
 ·intro a w hk
  have s19:=hk.eq_ 1 19 (by kernel_rfl) rfl
  exact step_call rfl rfl (by simp only [List.map_toArray,List.map_cons,List.map_nil,Act.eval,s19]<;>rfl) cf25 (undoing_any k w HL.out) (fun e w1 h=>retX e w1 h)
 ·intro a w hk
  have s18:=hk.eq_ 0 18 (by kernel_rfl) rfl
  have s20:=hk.eq_ 2 20 (by kernel_rfl) rfl
  refine step_val (v:=.agg (cN .i64 (tabN k 52++tabN (undF k) 52)).toArray) (w':=w) rfl ?_ (Ext.refl w) rfl
  have e:=build56 k (undF k) w
  simp only [execOp,Act.eval,List.map_toArray,List.map_cons,List.map_nil,s18,s20,Sem.run_bind,e,Sem.run_pure,Result.andThen]
 ·intro a w hk
  have s21:=hk.eq_ 3 21 (by kernel_rfl) rfl
  refine step_val (v:=.pointer (some ⟨w.heap.size,0,none⟩)) (w':=w.alloc (.cells (cN .i64 (tabN k 52++tabN (undF k) 52)).toArray 109)) rfl ?_ (Ext.alloc _ _) ⟨w.heap.size,rfl,by have:=HZ.out;have:=Below.size hk.ext;omega,heap_alloc_new w _⟩
  go_simp
 ·intro a w hk
  obtain ⟨b22,s22,h22,g22⟩:=hk.val 4 22 (by kernel_rfl) rfl
  exact step_assign rfl rfl s22 ⟨_,rfl,h22,g22⟩
 ·intro a w hk
  exact step_assign rfl rfl rfl rfl
 ·intro a w1 hf
  have s18:=hf.eq_ 0 18 (by kernel_rfl) rfl
  have s19:=hf.eq_ 1 19 (by kernel_rfl) rfl
  have s20:=hf.eq_ 2 20 (by kernel_rfl) rfl
  have s21:=hf.eq_ 3 21 (by kernel_rfl) rfl
  obtain ⟨b22,s22,h22,g22⟩:=hf.val 4 22 (by kernel_rfl) rfl
  obtain ⟨b2,s2,h2,g2⟩:=hf.val 5 2 (by kernel_rfl) rfl
  have s3:=hf.eq_ 6 3 (by kernel_rfl) rfl
  have hx:=hf.ext
  have e:=hf.frame
  clear hf
  simp only [regFrame,Act.put,List.setIfInBounds_toArray,List.set_cons_zero,List.set_cons_succ,s18,s19,s20,s21,s22,s2,s3] at e
  clear s18 s19 s20 s21 s22 s2 s3
  subst e
  have HH:=hid (show IsIdea w1 b2 k∧Ext w w1 from ⟨g2,HX2.out.trans hx⟩)
  clear g22 g2 hx
  go_wp2_with fail
  go_ret2
  exact ⟨b2,rfl,by rw [HKK.out];exact HH.out.1,HH.out.2⟩
end Go.Proofs.YtbgkmicelmenfaaGreatDoor.I
namespace Go.Proofs.YtbgkmicelmenfaaGreatDoor.I
open Go.RowKit
set_option maxRecDepth 100000
theorem IsIdea.back {w:World} {p:Nat} {k:Nat→Nat} (h:IsIdea w p k):w.rangeAt p 52 (cN .i64 (tabN (undF k) 52)):=fun j v hv=>by
 rw [cell_of_row w p (52+j) _ _ _ h,cN_append,List.getElem?_toArray,List.getElem?_append_right (by rw [cN_length,tabN_length];omega),cN_length,tabN_length,show 52+j - 52=j by omega]
 exact hv
end Go.Proofs.YtbgkmicelmenfaaGreatDoor.I
namespace Go.Proofs.YtbgkmicelmenfaaGreatDoor.I
open Go.RowKit
set_option maxRecDepth 100000
set_option maxRecDepth 100000
def IsRI (w:World) (p:Nat) (k:Nat→Nat):Prop:=∃ A c,w.cell? ⟨p,0,none⟩=some (.slice A 52 c)∧52≤c∧RdN .i64 w w.heap.size A 52 (tabN k 52)
set_option maxHeartbeats 1000000 in
theorem rnew_any (A:Option Addr) (c:Nat) (key:List UInt8) (w:World) (h:Rd w w.heap.size A 16 key) :
  Calls Tryz.prog 41 #[.slice A 16 c] w fun e w'=>∃ p,e=.returned (.tuple #[.pointer (some ⟨p,0,none⟩),.int .i64 0])∧IsRI w' p (keyF key)∧Ext w w':=by
 have HC:=hid (rkeys_any A c key w h)
 clear h
 go_enter Tryz.func41,Tryz.ntmps41
 go_wp2_with fail
 refine HC.out.mono ?_
 rintro e w1 ⟨A1,c1,rfl,hc1,hr1,hx1⟩
 have h3:=heap_alloc_new w1 (.cells #[.slice A1 52 c1] 158)
 have x3:=Ext.alloc w1 (.cells #[.slice A1 52 c1] 158)
 have HH:=hid (show IsRI _ w1.heap.size (keyF key)∧Ext w _ from ⟨⟨A1,c1,by rw [cell_of_row _ _ _ _ _ _ h3];rfl,hc1,hr1.later x3⟩,hx1.trans x3⟩)
 clear hr1 h3 x3 hx1 HC
 go_wp2_with fail
 go_ret2
 exact ⟨_,rfl,HH.out⟩
end Go.Proofs.YtbgkmicelmenfaaGreatDoor.I
