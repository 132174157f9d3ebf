/- Own lemmas of the verifier on memory, numbers and the functions that the laws call; no statement is proved here. -/
import Derived.Test.YtokbbmngfogbbaaGreatDoorQH
import Derived.Deep.QuietTactic
import Derived.BigQuiet
import Derived.Laws.BitsAllLaws
import Derived.WalkMore
import Derived.ScopeJumps
import Derived.Laws.Rows
import Derived.Laws.Tables
import Derived.Deep.DeepCutAuto
import Derived.Deep.CutBlock
import Derived.RangeFuncNested
import Derived.RangeFuncBound
import Derived.RangeFuncCalls
import Derived.RangeFuncLeaves
import Derived.RangeFuncBox
import Derived.OwnWalkIn
import Derived.TacticsInMore
import Derived.LoopNIn
import Derived.LoopIn
import Derived.ArgAppend
import Derived.Maps.AppendAt
import Derived.Shelf.Abstract
import Derived.WalkKit
import Derived.RegionTactic
namespace Go.Proofs.YtokbbmngfogbbaaGreatDoor.T
open Go.RowKit
set_option maxRecDepth 100000
set_option maxHeartbeats 8000000
theorem Tryz.info5:(Tryz.prog.info? 5).map (fun i=>(i.zero,i.size,i.bytes))=some (some (.int .u8 0),1,1):=by kernel_rfl
theorem zef(a n:Int)(hn:0<n) : - n<a.tmod n:=by
 have h:=@Int.tmod_eq_emod a n;have h1:=Int.emod_nonneg a (Int.ne_of_gt hn);have h2:=Int.emod_lt_of_pos a hn;split at h<;>omega
theorem zbm(a n:Int)(hn:0<n):(a.tmod n+n)%n=a%n:=by
 have h:=@Int.tmod_eq_emod a n;rw[Int.add_emod_right];split at h
 ·rw[h];simp
 ·rw[h,Int.sub_emod];
  have:(n.natAbs:Int)%n=0:=by rw[Int.natAbs_of_nonneg (by omega)];simp
  rw[this];simp
theorem zcH(a n:Int)(w:World)(h0:0<n)(h1:n<=4611686018427387903):
  Calls Tryz.prog 116 #[.int .i64 a,.int .i64 n] w fun e w'=>e=.returned (.int .i64 (a%n))/\w=w':=by
 have b1:=Int.tmod_lt_of_pos a h0;have b2:=zef a n h0;have hf:=zbm a n h0;have HF:=hid hf;clear hf;go_enter Tryz.func116,Tryz.ntmps116;go_wp2;go_ret;exact⟨zak HF.out,rfl⟩
theorem rl32(a n:Int)(w:World):
  Calls Tryz.prog 174 #[.int .u32 a,.int .i64 n] w fun e w'=>e=.returned (.int .u32 (zf7 a (n%32).toNat))/\w=w':=by
 have hs:=zrd n;obtain⟨s,hsn⟩:∃s:Nat,n%32=s:=⟨(n%32).toNat,by omega⟩;have hs1:s<=31:=by omega
 rw[hsn] at hs;have HS:=hid (show(n%32).toNat=s by omega);clear hsn;go_enter Tryz.func174,Tryz.ntmps174;go_wp2;go_ret;exact⟨zak (by rw[HS.out];rfl),rfl⟩
theorem zsb(a n:Int)(w:World):
  Calls Tryz.prog 75 #[.int .u32 a,.int .i64 n] w fun e w'=>e=.returned (.int .u32 (zf7 a (n%32).toNat))/\w=w':=by
 obtain⟨s,hsn⟩:∃s:Nat,n%32=s:=⟨(n%32).toNat,by omega⟩;have hs1:s<=31:=by omega
 have HS:=hid (show(n%32).toNat=s by omega);go_enter Tryz.func75,Tryz.ntmps75;go_wp2_with (go_at_call 116;refine(zcH _ _ _ (by omega) (by omega)).mono ?_;rintro e w' ⟨rfl,rfl⟩)
 go_ret;exact⟨zak (by rw[HS.out];rfl),rfl⟩
theorem zfR(a n:Int)(w:World):
  Calls Tryz.prog 141 #[.int .u32 a,.int .i64 n] w fun e w'=>e=.returned (.int .u32 (zf7 a (n%32).toNat))/\w=w':=by
 go_enter Tryz.func141,Tryz.ntmps141;go_wp2_with (go_at_call 174;refine(rl32 _ _ _).mono ?_;rintro e w' ⟨rfl,rfl⟩)
 go_ret;exact⟨rfl,rfl⟩
theorem zbp(A:Option Addr)(n c B:Nat)(bs:List UInt8)(w:World)(h:Rd w B A n bs)(hn:n<=140737488355328):
  Calls Tryz.prog 189 #[.slice A n c] w fun e w'=>e=.returned (.int .u64 (be bs n))/\w=w':=by
 go_enter Tryz.func189,Tryz.ntmps189;go_wp2;go_loop [3,8] (fun v i=>∃k:Nat,k<=n/\i=.int .i64 k/\v=.int .u64 (be bs k)) (fun _ i=>n-(intOf i).toNat)
 case atStart=>exact⟨0,Nat.zero_le _,rfl,rfl⟩
 case round =>
  obtain⟨k,hk,rfl,rfl⟩:=hrel;by_cases hlt:k<n
  ·obtain⟨b,o,rfl,hb,hc⟩:=h.at_ (by omega);have hck:=hc k hlt;have h1:=zae bs k;have h2:=zaf bs k;clear h hc;go_wp2;go_round
   case rel=>exact⟨k+1,by omega,by go_num,rfl⟩
   case measure=>simp[intOf];omega
  ·go_wp2;go_ret;obtain rfl:k=n:=by omega
   exact⟨rfl,rfl⟩
theorem zeI(A:Option Addr)(n c B:Nat)(bs:List UInt8)(w:World)(h:Rd w B A n bs)(hn:n<=140737488355328):
  Calls Tryz.prog 73 #[.slice A n c] w fun e w'=>e=.returned (.int .u64 (le bs n n))/\w=w':=by
 go_enter Tryz.func73,Tryz.ntmps73;go_wp2;go_loop [3,4] (fun v i=>∃k:Nat,k<=n/\i=.int .i64 ((n:Int)-k)/\v=.int .u64 (le bs n k)) (fun _ i=>(intOf i).toNat)
 case atStart=>exact⟨0,Nat.zero_le _,by simp,rfl⟩
 case round =>
  obtain⟨k,hk,rfl,rfl⟩:=hrel;by_cases hlt:k<n
  ·obtain⟨b,o,rfl,hb,hc⟩:=h.at_ (by omega);have hck:=hc (n-1-k) (by omega);have e:o+(n-1-k)=o+(n-k-1):=by omega
   rw[e] at hck;have h1:=zae bs (n-1-k);have h2:=zaf bs (n-1-k);have hpos:(0:Int)<(n:Int)-k:=by omega
   clear h hc e;go_wp2;go_round
   case rel=>exact⟨k+1,by omega,by go_num,rfl⟩
   case measure=>simp[intOf];omega
  ·go_wp2;go_ret;obtain rfl:k=n:=by omega
   exact⟨rfl,rfl⟩
theorem zch(v:Int)(n:Nat)  (w:World)(hn:n<=8):
  Calls Tryz.prog 193 #[.int .u64 v,.int .i64 n] w (RetB w (zay v n)):=by
 go_enter Tryz.func193,Tryz.ntmps193;go_wp2_with (at_make;refine zaP rfl (.tmp 7) (.tmp 7) 22 rfl Tryz.underlying22 Tryz.info5 .i64 n n rfl rfl rfl (by omega) w.heap.size (Nat.le_refl _) ?_;intro w1 hown1 hb1 _)
 go_loopw [11] (fun i wr=>∃k:Nat,k<=n/\i=.int .i64 k/\Own wr w.heap.size (.slice (some ⟨w.heap.size,0,none⟩) n n) (zao (za6 v n) n k)/\Below w.heap.size w wr) (fun i _=>n-(intOf i).toNat)
 case atStart=>exact⟨0,Nat.zero_le _,rfl,by rw[zaG];exact hown1,hb1⟩
 case round =>
  obtain⟨k,hk,rfl,hown,hb⟩:=hrel;by_cases hlt:k<n
  ·obtain⟨cur,hcur⟩:∃cur,zao (za6 v n) n k=cur:=⟨_,rfl⟩;have hcl:cur.length=n:=by rw[<-hcur];exact zad _ _ _
   rw[hcur] at hown;have hown0:Own wr w.heap.size (.slice (some ⟨w.heap.size,0,none⟩) cur.length n) cur:=by rw[hcl];exact hown
   have hcell:=hown0.cell k (by omega);have hfree:=hown0.free k;have hset:=hown0.set_ k (za6 v n k);rw[<-hcur,zaO _ _ _ _ rfl,zad] at hset;have hval:((za6 v n k).toNat:Int)=v/2^(8*(n-1-k))%256:=by unfold za6;exact zbB _
   rw[hval] at hset;have HH:=hid hset;have HB:=hid hb;clear hset hval hown0 hown hb hcl hcur hown1 hb1;go_wp2;go_roundw
   case rel=>exact⟨k+1,by omega,by go_num,HH.out,HB.out.setCell (by simp) _⟩
   case measure=>simp[intOf];omega
  ·obtain rfl:k=n:=by omega
   have HH:=hid (And.intro hown hb);clear hown hb hown1 hb1;go_wp2;go_ret;exact⟨_,rfl,by have:=HH.out.1;rw[zaE] at this;exact this,HH.out.2⟩
theorem zcg(v:Int)(w:World)(h0:0<=v)(h1:v<4294967296):
  Calls Tryz.prog 195 #[.int .u32 v] w (RetB w (zct v)):=by
 go_enter Tryz.func195,Tryz.ntmps195;go_wp2_with (go_at_call 193;refine(zch _ 4 _ (by omega)).mono ?_;rintro e w' ⟨x,rfl,hx,hb⟩)
 go_ret;exact⟨_,rfl,by rw[<-zje];exact hx,hb⟩
theorem zcG(v:Int)(w:World)(h0:0<=v)(h1:v<4294967296):
  Calls Tryz.prog 192 #[.int .u32 v] w (RetB w (zco v)):=by
 have hr:=zf4 v h0 h1;go_enter Tryz.func192,Tryz.ntmps192;go_wp2_with (first
  | (go_at_call 180;refine(zhM _ _).mono ?_;rintro e w' ⟨rfl,rfl⟩)
  | (go_at_call 195;refine(zcg _ _ hr.1 hr.2).mono ?_;rintro e w' ⟨x,rfl,hx,hb⟩))
 go_ret;exact⟨_,rfl,by rw[<-znW v h0 h1];exact hx,hb⟩
theorem zdW(A:Option Addr)(n c B:Nat)(bs:List UInt8)(w:World)(h:Rd w B A n bs)(hn:n<=140737488355328):
  Calls Tryz.prog 173 #[.slice A n c] w fun e w'=>e=.returned (.tuple #[.int .u32 (zeo bs n),.bool (isLen 4 n)])/\w=w':=by
 by_cases h4:n=4
 ·subst h4;go_enter Tryz.func173,Tryz.ntmps173;go_wp2_with (go_at_call 189;refine(zbp _ _ _ _ _ _ h hn).mono ?_;rintro e w' ⟨rfl,rfl⟩)
  go_ret2;exact⟨zcj (by have:=zev bs;unfold zeo;rw[if_pos rfl];omega) rfl,rfl⟩
 ·have h5:((n:Int) != 4)=true:=by simp;omega
  go_enter Tryz.func173,Tryz.ntmps173;go_wp2_with (go_at_call 189;refine(zbp _ _ _ _ _ _ h hn).mono ?_;rintro e w' ⟨rfl,rfl⟩)
  go_ret2;exact⟨zcj (by simp[zeo,h4]) (by simp[isLen,h4]),rfl⟩
theorem zh1(A:Option Addr)(n c B:Nat)(bs:List UInt8)(w:World)(h:Rd w B A n bs)(hn:n<=140737488355328):
  Calls Tryz.prog 165 #[.slice A n c] w fun e w'=>e=.returned (.tuple #[.int .u32 (zj0 bs n),.bool (isLen 4 n)])/\w=w':=by
 go_enter Tryz.func165,Tryz.ntmps165;go_wp2_with (first
  | (go_at_call 173;refine(zdW _ _ _ _ _ _ h hn).mono ?_;rintro e w' ⟨rfl,rfl⟩)
  | (go_at_call 180;refine(zhM _ _).mono ?_;rintro e w' ⟨rfl,rfl⟩))
 go_ret2;exact⟨zcj (zi4 bs n) rfl,rfl⟩
theorem zfY(w a i j:Nat)(ha:a<2^w)(hi:i<w)(hj:j<w):rolN w (rolN w a i) j=rolN w a ((i+j)%w):=by
 have hl:(i+j)%w<w:=Nat.mod_lt _ (by omega);refine ze0 w _ _ (zcD _ _ _ (zcD _ _ _ ha)) (zcD _ _ _ ha) fun k hk=>?_
 have hm:(k+w-j)%w<w:=Nat.mod_lt _ (by omega);rw[zdk w _ j k (zcD _ _ _ ha) hj hk,zdk w a i _ ha hi hm,zdk w a _ k ha hl hk];congr 1
 -- all are k-i-j,by w
 rcases Nat.lt_or_ge (i+j) w with h|h
 ·rw[Nat.mod_eq_of_lt h];rcases Nat.lt_or_ge k j with h1|h1
  ·rw[Nat.mod_eq_of_lt (show k+w-j<w by omega),show k+w-j+w-i=k+w-(i+j)+w by omega,Nat.add_mod_right]
  ·rw[show k+w-j=(k-j)+w by omega,Nat.add_mod_right,Nat.mod_eq_of_lt (show k-j<w by omega)];congr 1;omega
 ·rw[show(i+j)%w=i+j-w by rw[Nat.mod_eq_sub_mod h,Nat.mod_eq_of_lt (by omega)]];rcases Nat.lt_or_ge k j with h1|h1
  ·rw[Nat.mod_eq_of_lt (show k+w-j<w by omega)];congr 1;omega
  ·rw[show k+w-j=(k-j)+w by omega,Nat.add_mod_right,Nat.mod_eq_of_lt (show k-j<w by omega),show k+w-(i+j-w)=k-j+w-i+w by omega,Nat.add_mod_right]
end Go.Proofs.YtokbbmngfogbbaaGreatDoor.T
namespace Go.Proofs.YtokbbmngfogbbaaGreatDoor.T
set_option maxRecDepth 100000
set_option maxHeartbeats 8000000
theorem zjh(x y:Nat):2*(x^^^y)=(2*x)^^^(2*y):=by
 have h:=Nat.shiftLeft_xor_distrib (a:=x) (b:=y) (i:=1);simp only[Nat.shiftLeft_eq,Nat.pow_one] at h;rw[Nat.mul_comm 2,Nat.mul_comm 2,Nat.mul_comm 2];exact h
theorem zgk{x y:Nat}(hx:256<=x)(hx':x<512)(hy:256<=y)(hy':y<512):x^^^y<256:=by
 have h:=ze1 x y 8;rw[show x/2^8=1 by omega,show y/2^8=1 by omega,Nat.xor_self] at h;omega
theorem ziL{x y:Nat}(hx:x<256)(hy:256<=y)(hy':y<512):256<=x^^^y:=by
 have h:=ze1 x y 8;rw[show x/2^8=0 by omega,show y/2^8=1 by omega,Nat.zero_xor] at h;omega
theorem zsr{m x:Nat}(hm:zal m)(hx:x<256):xt m x<256:=by
 unfold xt;split
 ·exact zgk (by omega) (by omega) hm.lo hm.hi
 ·omega
theorem zlc{m x y:Nat}(hx:x<256)(hy:y<256):xt m (x^^^y)=xt m x^^^xt m y:=by
 unfold xt;rw[zjh];by_cases h1:256<=2*x
 ·by_cases h2:256<=2*y
  ·have:=zgk h1 (by omega) h2 (by omega);rw[if_pos h1,if_pos h2,if_neg (by omega),zci,Nat.xor_self,Nat.xor_zero]
  ·have:=ziL (x:=2*y) (by omega) h1 (by omega);rw[Nat.xor_comm] at this;rw[if_pos h1,if_neg h2,if_pos this]
   ac_rfl
 ·by_cases h2:256<=2*y
  ·have:=ziL (x:=2*x) (by omega) h2 (by omega);rw[if_neg h1,if_pos h2,if_pos this]
   ac_rfl
  ·have:=zbj (x:=2*x) (y:=2*y) (by omega) (by omega);rw[if_neg h1,if_neg h2,if_neg (by omega)]
theorem zbW{m x:Nat}(hm:zal m)(hx:x<256):∀k,xtk m k x<256
 | 0=>hx
 | k+1=>zsr hm (zbW hm hx k)
theorem zgg{m x y:Nat}(hm:zal m)(hx:x<256)(hy:y<256):∀k,xtk m k (x^^^y)=xtk m k x^^^xtk m k y
 | 0=>rfl
 | k+1=>by rw[xtk,xtk,xtk,zgg hm hx hy k,zlc (zbW hm hx k) (zbW hm hy k)]
theorem zdq{m a:Nat}(hm:zal m)(ha:a<256)(b:Nat):∀k,gmk m a b k<256
 | 0=>by simp[gmk]
 | k+1=>by
   rw[gmk];split
   ·exact zbj (zdq hm ha b k) (zbW hm ha k)
   ·exact zdq hm ha b k
theorem zc7{m a:Nat}(hm:zal m)(ha:a<256)(b:Nat):gm m a b<256:=zdq hm ha b 8
theorem zcq{m x y:Nat}(hm:zal m)(hx:x<256)(hy:y<256)(b:Nat):∀k,gmk m (x^^^y) b k=gmk m x b k^^^gmk m y b k
 | 0=>by simp[gmk]
 | k+1=>by
   rw[gmk,gmk,gmk,zcq hm hx hy b k];split
   ·rw[zgg hm hx hy,zci]
   ·rfl
theorem zcJ{m x y:Nat}(hm:zal m)(hx:x<256)(hy:y<256)(b:Nat):gm m (x^^^y) b=gm m x b^^^gm m y b:=zcq hm hx hy b 8
theorem zjx(b c k:Nat):(b^^^c)/2^k%2=(b/2^k%2+c/2^k%2)%2:=by
 rw[ze1,<-Go.nat_mask1,Nat.and_xor_distrib_right,Go.nat_mask1,Go.nat_mask1];have h1:=Nat.mod_lt (b/2^k) (show 0<2 by omega);have h2:=Nat.mod_lt (c/2^k) (show 0<2 by omega);generalize b/2^k%2=u at *;generalize c/2^k%2=v at *
 match u,v,h1,h2 with
 | 0,0,_,_=>rfl
 | 0,1,_,_=>rfl
 | 1,0,_,_=>rfl
 | 1,1,_,_=>rfl
theorem zb3(m a b c:Nat):∀k,gmk m a (b^^^c) k=gmk m a b k^^^gmk m a c k
 | 0=>by simp[gmk]
 | k+1=>by
   rw[gmk,gmk,gmk,zb3 m a b c k,zjx];have h1:=Nat.mod_lt (b/2^k) (show 0<2 by omega);have h2:=Nat.mod_lt (c/2^k) (show 0<2 by omega);by_cases hb:b/2^k%2=1
   ·by_cases hc:c/2^k%2=1
    ·rw[if_pos hb,if_pos hc,if_neg (by omega),zci,Nat.xor_self,Nat.xor_zero]
    ·rw[if_pos hb,if_neg hc,if_pos (by omega)];ac_rfl
   ·by_cases hc:c/2^k%2=1
    ·rw[if_neg hb,if_pos hc,if_pos (by omega)];ac_rfl
    ·rw[if_neg hb,if_neg hc,if_neg (by omega)]
theorem zbl(m a b c:Nat):gm m a (b^^^c)=gm m a b^^^gm m a c:=zb3 m a b c 8
theorem ze7(f g:Nat->Nat)(hf:∀x y,x<256->y<256->f (x^^^y)=f x^^^f y)(hg:∀x y,x<256->y<256->g (x^^^y)=g x^^^g y)
  (h:∀k,k<8->f (2^k)=g (2^k)) (b:Nat) (hb:b<256):f b=g b:=by
 have f0:f 0=0:=by have:=hf 0 0 (by omega) (by omega);rw[Nat.xor_self,Nat.xor_self] at this;exact this
 have g0:g 0=0:=by have:=hg 0 0 (by omega) (by omega);rw[Nat.xor_self,Nat.xor_self] at this;exact this
 have key:∀(p:Prop) [Decidable p] (k:Nat),k<8->f (if p then 2^k else 0)=g (if p then 2^k else 0):=by
  intro p _ k hk;split
  ·exact h k hk
  ·rw[f0,g0]
 have lt:∀(p:Prop) [Decidable p] (k:Nat),k<8->(if p then 2^k else 0)<256:=by
  intro p _ k hk;split
  ·exact Nat.lt_of_lt_of_le (Nat.pow_lt_pow_right (by omega) hk) (by omega:2^8<=256)
  ·omega
 have step:∀x y,x<256->y<256->f x=g x->f y=g y->f (x^^^y)=g (x^^^y):=by intro x y hx hy h1 h2;rw[hf x y hx hy,hg x y hx hy,h1,h2]
 rw[zil b hb];have l0:=lt (b/2^0%2=1) 0 (by omega);have e0:=key (b/2^0%2=1) 0 (by omega);have l1:=lt (b/2^1%2=1) 1 (by omega);have e1:=key (b/2^1%2=1) 1 (by omega);have l2:=lt (b/2^2%2=1) 2 (by omega);have e2:=key (b/2^2%2=1) 2 (by omega);have l3:=lt (b/2^3%2=1) 3 (by omega);have e3:=key (b/2^3%2=1) 3 (by omega);have l4:=lt (b/2^4%2=1) 4 (by omega);have e4:=key (b/2^4%2=1) 4 (by omega);have l5:=lt (b/2^5%2=1) 5 (by omega);have e5:=key (b/2^5%2=1) 5 (by omega);have l6:=lt (b/2^6%2=1) 6 (by omega);have e6:=key (b/2^6%2=1) 6 (by omega);have l7:=lt (b/2^7%2=1) 7 (by omega);have e7:=key (b/2^7%2=1) 7 (by omega);have a1:=step _ _ l0 l1 e0 e1;have m1:=zbj l0 l1;have a2:=step _ _ m1 l2 a1 e2;have m2:=zbj m1 l2;have a3:=step _ _ m2 l3 a2 e3;have m3:=zbj m2 l3
 have a4:=step _ _ m3 l4 a3 e4;have m4:=zbj m3 l4;have a5:=step _ _ m4 l5 a4 e5;have m5:=zbj m4 l5;have a6:=step _ _ m5 l6 a5 e6;have m6:=zbj m5 l6;exact step _ _ m6 l7 a6 e7
theorem zeQ{m:Nat}(hm:zal m){a b:Nat}(ha:a<256)(hb:b<256):gm m a b=gm m b a:=by
 refine ze7 (fun b=>gm m a b) (fun b=>gm m b a) (fun x y _ _=>zbl m a x y) (fun x y hx hy=>zcJ hm hx hy a) (fun k hk=>?_) b hb;show gm m a (2^k)=gm m (2^k) a;refine ze7 (fun a=>gm m a (2^k)) (fun a=>gm m (2^k) a) (fun x y hx hy=>zcJ hm hx hy _) (fun x y _ _=>zbl m _ x y) (fun j hj=>?_) a ha;show gm m (2^j) (2^k)=gm m (2^k) (2^j);rw[zeb _ _ _ hk,zeb _ _ _ hj,<-zhJ m j hj,<-zhJ m k hk,<-zeh,<-zeh,Nat.add_comm]
end Go.Proofs.YtokbbmngfogbbaaGreatDoor.T
namespace Go.Proofs.YtokbbmngfogbbaaGreatDoor.T
open Go.RowKit
set_option maxRecDepth 100000
set_option maxHeartbeats 8000000
theorem zce(a b:Nat)(ha:a<1024)(hb:b<1024):bits .xor .i64 (a:Int) (b:Int)=((a^^^b:Nat):Int):=by
 have e0:bits .xor .i64 (a:Int) (b:Int)=IntKind.i64.wrap ((BitVec.ofInt 64 (a:Int)^^^BitVec.ofInt 64 (b:Int)).toNat:Int):=rfl;have h:a^^^b<2^10:=Nat.xor_lt_two_pow ha hb;have e:(BitVec.ofInt 64 (a:Int)^^^BitVec.ofInt 64 (b:Int)).toNat=a^^^b:=by
  rw[BitVec.toNat_xor,BitVec.toNat_ofInt,BitVec.toNat_ofInt];have h1:((a:Int)%((2^64:Nat):Int)).toNat=a:=by omega
  have h2:((b:Int)%((2^64:Nat):Int)).toNat=b:=by omega
  rw[h1,h2]
 rw[e0,e];simp[IntKind.wrap,IntKind.bits,IntKind.signed];omega
theorem zjf{m a b k:Nat}(hk:k<=8)(h:b/2^k=0):gm m a b=gmk m a b k:=by
 have:=zid (m:=m) (a:=a) h (8-k);rw[show k+(8-k)=8 by omega] at this;exact this
structure MulS (m a b k:Nat) (s x q:Int):Prop where
 hk:k<8
 hs:s=(gmk m a b k:Nat)
 hx:x=(xtk m k a:Nat)
 hq:q=(b/2^k:Nat)
theorem MulS.bnd{m a b k:Nat}{s x q:Int}(h:MulS m a b k s x q)(_hm:zal m)(_ha:a<256)(_hb:b<256):0<=s/\s<256/\0<=x/\x<256/\0<=q/\q<256:=by
 have h1:=zdq _hm _ha b k;have h2:=zbW _hm _ha k;have h3:b/2^k<256:=Nat.lt_of_le_of_lt (Nat.div_le_self _ _) _hb;have e1:=h.hs;have e2:=h.hx;have e3:=h.hq;generalize gmk m a b k=S at *;generalize xtk m k a=X at *;generalize b/2^k=Q at *;omega
theorem MulS.and1{m a b k:Nat}{s x q:Int}(h:MulS m a b k s x q)(_hm:zal m)(_ha:a<256)(_hb:b<256):bits .and .u8 q 1=((b/2^k%2:Nat):Int):=by
 rw[h.hq];exact ze6 _ (Nat.lt_of_le_of_lt (Nat.div_le_self _ _) _hb)
theorem MulS.odd{m a b k:Nat}{s x q:Int}(h:MulS m a b k s x q)(_hm:zal m)(_ha:a<256)(_hb:b<256)(c:(bits .and .u8 q 1 != 0)=true):bits .xor .i64 s x=(gmk m a b (k+1):Nat):=by
 rw[h.and1 _hm _ha _hb] at c;have c:b/2^k%2=1:=by
  have:b/2^k%2≠0:=by intro h0;rw[h0] at c;simp at c
  omega
 rw[gmk,if_pos c,h.hs,h.hx];have:=zdq _hm _ha b k;have:=zbW _hm _ha k;exact zce _ _ (by omega) (by omega)
theorem MulS.even{m a b k:Nat}{s x q:Int}(h:MulS m a b k s x q)(_hm:zal m)(_ha:a<256)(_hb:b<256)(c:(bits .and .u8 q 1 != 0)=false):s=(gmk m a b (k+1):Nat):=by
 rw[h.and1 _hm _ha _hb] at c;have c:¬b/2^k%2=1:=by intro h0;rw[h0] at c;simp at c
 rw[gmk,if_neg c,h.hs]
theorem MulS.over{m a b k:Nat}{s x q:Int}(h:MulS m a b k s x q)(_hm:zal m)(_ha:a<256)(_hb:b<256)(c:255<x*2):bits .xor .i64 (x*2) m=(xtk m (k+1) a:Nat):=by
 have:=zbW _hm _ha k;have hm1:=_hm.hi;rw[h.hx] at c ⊢;rw[xtk,xt,if_pos (by omega),show(xtk m k a:Int)*2=((2*xtk m k a:Nat):Int) by omega];exact zce _ _ (by omega) (by omega)
theorem MulS.under{m a b k:Nat}{s x q:Int}(h:MulS m a b k s x q)(_hm:zal m)(_ha:a<256)(_hb:b<256)(c:x*2<=255):x*2=(xtk m (k+1) a:Nat):=by
 rw[h.hx] at c ⊢;rw[xtk,xt,if_neg (by omega)];omega
theorem MulS.half{m a b k:Nat}{s x q:Int}(h:MulS m a b k s x q)(_hm:zal m)(_ha:a<256)(_hb:b<256):q/2=(b/2^(k+1):Nat):=by
 rw[h.hq,Nat.pow_succ,<-Nat.div_div_eq_div_mul];omega
theorem MulS.more{m a b k:Nat}{s x q:Int}(h:MulS m a b k s x q)(_hm:zal m)(_ha:a<256)(_hb:b<256)(c:(q/2 != 0)=true):k+1<8:=by
 have hk:=h.hk;rw[h.half _hm _ha _hb] at c;rcases Nat.lt_or_ge (k+1) 8 with h8|h8
 ·exact h8
 ·have:b/2^(k+1)=0:=by rw[show k+1=8 by omega];omega
  rw[this] at c;simp at c
theorem MulS.stop{m a b k:Nat}{s x q:Int}(h:MulS m a b k s x q)(_hm:zal m)(_ha:a<256)(_hb:b<256)(c:(q/2 != 0)=false):gmk m a b (k+1)=gm m a b:=by
 have hk:=h.hk;rw[h.half _hm _ha _hb] at c;refine(zjf (by omega) ?_).symm;simp only[bne_eq_false_iff_eq] at c
 exact_mod_cast c
theorem MulS.less{m a b k:Nat}{s x q:Int}(h:MulS m a b k s x q)(_hm:zal m)(_ha:a<256)(_hb:b<256)(c:(q/2 != 0)=true):(q/2).toNat<q.toNat:=by
 have:=h.bnd _hm _ha _hb;have:q/2≠0:=by simpa using c
 omega
theorem MulS.fin1{m a b k:Nat}{s x q:Int}(h:MulS m a b k s x q)(_hm:zal m)(_ha:a<256)(_hb:b<256)(c:(bits .and .u8 q 1 != 0)=true)(c':(q/2 != 0)=false):bits .xor .i64 s x%256=(gm m a b:Nat):=by
 rw[h.odd _hm _ha _hb c,h.stop _hm _ha _hb c'];have:=zc7 _hm _ha b;omega
theorem MulS.fin2{m a b k:Nat}{s x q:Int}(h:MulS m a b k s x q)(_hm:zal m)(_ha:a<256)(_hb:b<256)(c:(bits .and .u8 q 1 != 0)=false)(c':(q/2 != 0)=false):s%256=(gm m a b:Nat):=by
 rw[h.even _hm _ha _hb c,h.stop _hm _ha _hb c'];have:=zc7 _hm _ha b;omega
theorem MulS.odd1{m a b k:Nat}{s x:Int}(h:MulS m a b k s x (b/2^k:Nat))(hm:zal m)(ha:a<256)(hb:b<256)(c:(bits .and .u8 ((b:Int)/2^k) 1==1)=true):bits .xor .i64 s x=(gmk m a b (k+1):Nat):=by
 refine h.odd hm ha hb ?_;have e:((b/2^k:Nat):Int)=(b:Int)/2^k:=by simp
 rw[e];have:bits .and .u8 ((b:Int)/2^k) 1=1:=by simpa using c
 rw[this];rfl
theorem MulS.even1{m a b k:Nat}{s x:Int}(h:MulS m a b k s x (b/2^k:Nat))(hm:zal m)(ha:a<256)(hb:b<256)(c:(bits .and .u8 ((b:Int)/2^k) 1==1)=false):s=(gmk m a b (k+1):Nat):=by
 refine h.even hm ha hb ?_;have h1:=h.and1 hm ha hb;have e:((b/2^k:Nat):Int)=(b:Int)/2^k:=by simp
 rw[e] at h1 ⊢;rw[h1] at c ⊢;have h2:=Nat.mod_lt (b/2^k) (show 0<2 by omega);generalize b/2^k%2=g at *
 match g,h2 with
 | 0,_=>rfl
 | 1,_=>simp at c
def MulJ(m a b:Nat)(w:World)(a':Act)(w':World):Prop :=
 w=w'/\∃(k:Nat) (s x q:Int) (u14 u15 u16 u17 u18 u19 u20 u21 u22 u23 u24 u25 u26 u27 u28 u29 u30:Value),
  a' = { tmps:=#[.int .u8 a,.int .u8 q,.int .i64 m,undef,undef,undef,.int .u8 0,.int .i64 s,.int .i64 x,.int .i64 m,.bool true,.bool false,.int .u8 a,.int .i64 a,
   u14,u15,u16,u17,u18,u19,u20,u21,u22,u23,u24,u25,u26,u27,u28,u29,u30,undef,undef],defers:=[] }/\MulS m a b k s x q
theorem zbO(a b m:Nat)(w:World)(hm:zal m)(ha:a<256)(hb:b<256):
  Calls Tryz.prog 181 #[.int .u8 a,.int .u8 b,.int .i64 m] w fun e w'=>e=.returned (.int .u8 (gm m a b:Nat))/\w=w':=by
 have h0:=hm.lo;have h1:=hm.hi;go_enter Tryz.func181,Tryz.ntmps181;go_wp2_with fail
 refine wp_scope_jumps 0 (MulJ m a b w) (fun a' _=>qOf a') rfl ?_ ?_
 ·have HS:=hid (show MulS m a b 0 0 a b from⟨by omega,rfl,rfl,by simp⟩);have HM:=hid hm;clear hm;go_wp2_with (go_at_call 184;refine(zgD _ _ (by omega) (by omega)).mono ?_;rintro e w' ⟨rfl,rfl⟩)
  go_step3;go_wp2;all_goals (try go_step3)
  all_goals first
   | (refine⟨rfl,rfl,ex8 (ex8 ⟨_,_,_,_,_,rfl,⟨HS.out.more HM.out ha hb (by assumption),(by first|exact HS.out.odd HM.out ha hb (by assumption) | exact HS.out.even HM.out ha hb (by assumption)),(by first|exact HS.out.over HM.out ha hb (by assumption) | exact HS.out.under HM.out ha hb (by assumption)),HS.out.half HM.out ha hb⟩⟩)⟩)
   | (simp only[Exit.jump]
      go_ret;refine⟨zak ?_,rfl⟩;first
       | exact HS.out.fin1 HM.out ha hb (by assumption) (by assumption)
       | exact HS.out.fin2 HM.out ha hb (by assumption) (by assumption)
       | exact(HS.out.even HM.out ha hb (by assumption)).trans (by rw[HS.out.stop HM.out ha hb (by assumption)]))
 ·rintro a' w' ⟨rfl,k,s,x,q,u14,u15,u16,u17,u18,u19,u20,u21,u22,u23,u24,u25,u26,u27,u28,u29,u30,rfl,hS⟩;have hB:=hS.bnd hm ha hb;obtain⟨hb0,hb1,hb2,hb3,hb4,hb5⟩:=hB;have HS:=hid hS;have HM:=hid hm;clear hS hm;go_wp2;all_goals (try go_step3)
  all_goals first
   | (refine⟨rfl,⟨rfl,ex8 (ex8 ⟨_,_,_,_,_,rfl,⟨HS.out.more HM.out ha hb (by assumption),(by first|exact HS.out.odd HM.out ha hb (by assumption) | exact HS.out.even HM.out ha hb (by assumption)),(by first|exact HS.out.over HM.out ha hb (by assumption) | exact HS.out.under HM.out ha hb (by assumption)),HS.out.half HM.out ha hb⟩⟩)⟩,HS.out.less HM.out ha hb (by assumption)⟩)
   | (simp only[Exit.jump]
      go_ret;refine⟨zak ?_,rfl⟩;first
       | exact HS.out.fin1 HM.out ha hb (by assumption) (by assumption)
       | exact HS.out.fin2 HM.out ha hb (by assumption) (by assumption)
       | exact(HS.out.even HM.out ha hb (by assumption)).trans (by rw[HS.out.stop HM.out ha hb (by assumption)]))
theorem zdS(a b m:Nat)(w:World)(hm:zal m)(ha:a<256)(hb:b<256):
  Calls Tryz.prog 144 #[.int .u8 a,.int .u8 b,.int .i64 m] w fun e w'=>e=.returned (.int .u8 (gm m a b:Nat))/\w=w':=by
 have h0:=hm.lo;have h1:=hm.hi;go_enter Tryz.func144,Tryz.ntmps144;go_wp2_with fail
 go_loop [7,8,9] (fun s x i=>∃(k:Nat) (S X:Int),k<=8/\i=.int .u64 k/\s=.int .i64 S/\x=.int .i64 X/\S=(gmk m a b k:Nat)/\X=(xtk m k a:Nat)) (fun _ _ i=>(8-intOf i).toNat)
 case atStart=>exact⟨0,_,_,by omega,rfl,rfl,rfl,rfl,rfl⟩
 case round =>
  obtain⟨k,S,X,hk,rfl,rfl,rfl,hS,hX⟩:=hrel;by_cases hlt:k<8
  ·have hS':MulS m a b k S X (b/2^k:Nat):=⟨hlt,hS,hX,rfl⟩;obtain⟨hb0,hb1,hb2,hb3,hb4,hb5⟩:=hS'.bnd hm ha hb;have h1':=hid (hS'.and1 hm ha hb);have HS:=hid hS';have HM:=hid hm;clear hS hX hS' hm hb4 hb5;go_wp2;all_goals refine⟨⟨k+1,_,_,by omega,by go_num,rfl,rfl,(by first|exact HS.out.odd1 HM.out ha hb (by assumption) | exact HS.out.even1 HM.out ha hb (by assumption)),(by first|exact HS.out.over HM.out ha hb (by omega) | exact HS.out.under HM.out ha hb (by omega))⟩,by simp[intOf];omega⟩
  ·obtain rfl:k=8:=by omega
   have HF:=hid (show S=(gm m a b:Nat) from hS);have hl:=zc7 hm ha b;have hX2:=zbW hm ha 8;have hS0:0<=S/\S<256:=by have:=HF.out;generalize gm m a b=G at *;omega
   clear hS hX hm hl hX2;go_wp2;go_ret;exact⟨zak (by rw[HF.out]),rfl⟩
theorem zgp(x:UInt32)(i j:Nat)(hi:i<32)(hj:j<32):rolW (rolW x i) j=rolW x ((i+j)%32):=by
 apply UInt32.toNat_inj.1;rw[zbR,zbR,zbR,zfY 32 _ _ _ (wlt x) hi hj]
theorem zdz(x:UInt32)(m n:Int):rolI (rolI x m) n=rolI x (m+n):=by
 unfold rolI;rw[zgp _ _ _ (by omega) (by omega)];congr 1;omega
theorem zeq(x:UInt32)(n:Int):rolI (rolI x n) (-n)=x:=by rw[zdz,show n + -n=0 by omega,zeu]
theorem zdR(x:UInt32)(n:Int):rolI (rolI x (-n)) n=x:=by rw[zdz,show -n+n=0 by omega,zeu]
theorem zfb(a b:UInt32):bits .xor .u32 (a.toNat:Int) (b.toNat:Int)=((a^^^b).toNat:Int):=by
 rw[u32_xor_nat _ _ (wlt a) (wlt b),UInt32.toNat_xor]
theorem zeP(x:UInt32)(n:Int)(w:World):
  Calls Tryz.prog 141 #[.int .u32 (x.toNat:Nat),.int .i64 n] w fun e w'=>e=.returned (.int .u32 ((rolI x n).toNat:Nat))/\w=w':=by
 refine(zfR _ _ _).mono ?_;rintro e w' ⟨rfl,rfl⟩;exact⟨zak (zhZ _ _ (by omega)),rfl⟩
theorem ziN(x:UInt32)(n:Int)(w:World):
  Calls Tryz.prog 75 #[.int .u32 (x.toNat:Nat),.int .i64 n] w fun e w'=>e=.returned (.int .u32 ((rolI x n).toNat:Nat))/\w=w':=by
 refine(zsb _ _ _).mono ?_;rintro e w' ⟨rfl,rfl⟩;exact⟨zak (zhZ _ _ (by omega)),rfl⟩
def zc0:List (List Nat):=[[0x817D6F320B59ECA4,0xECB81235F4A6709D,0xBA5E6D90C8F32471,0xD7F4126E9B3085CA],[0x28BDF76E31940AC5,0x1E2B4C376DA5F908,0x4C75169A0ED82B3F,0xB951C3DE647F208A]]
def rowQ(q i:Nat):Nat:=(zc0.getD q []).getD i 0
theorem zdx:∀q,q<2->∀i,i<4->rowQ q i<18446744073709551616:=by decide +kernel
def nibQ(q i f:Nat):Nat:=rowQ q i/2^(60-4*f)%16
theorem zia(q i f:Nat):nibQ q i f<16:=Nat.mod_lt _ (by omega)
def eQ(a c:Nat):Nat:=a^^^c
def fQ(a c:Nat):Nat:=a^^^((c/2|||c*8)%16)^^^(a*8%16)
theorem znr{a c:Nat}(ha:a<16)(hc:c<16):eQ a c<16:=Nat.xor_lt_two_pow (n:=4) ha hc
theorem zmt{a c:Nat}(ha:a<16)(_hc:c<16):fQ a c<16 :=
 Nat.xor_lt_two_pow (n:=4) (Nat.xor_lt_two_pow (n:=4) ha (Nat.mod_lt _ (by omega))) (Nat.mod_lt _ (by omega))
def qAC(q x:Nat):Nat->Nat×Nat
 | 0=>(x/16,x%16)
 | k+1=>(nibQ q (2*k) (eQ (qAC q x k).1 (qAC q x k).2),nibQ q (2*k+1) (fQ (qAC q x k).1 (qAC q x k).2))
theorem zmG{q x:Nat}(hx:x<256):∀k,(qAC q x k).1<16/\(qAC q x k).2<16
 | 0=>⟨by simp[qAC];omega,by simp[qAC];omega⟩
 | k+1=>⟨zia _ _ _,zia _ _ _⟩
def qF(q x:Nat):Nat:=(qAC q x 2).2*16+(qAC q x 2).1
theorem zu7(q x:Nat):qF q x<256:=by
 have h1:(qAC q x 2).1<16:=zia _ _ _;have h2:(qAC q x 2).2<16:=zia _ _ _;unfold qF;omega
def wdN(f:Nat->Nat):Nat->Nat
 | 0=>0
 | i+1=>wdN f i+f i*256^i
theorem zdt{f:Nat->Nat}(hf:∀i,f i<256):∀n,wdN f n<256^n
 | 0=>by simp[wdN]
 | n+1=>by have h1:=zdt hf n;have h2:=hf n;have h3:f n*256^n<=255*256^n:=Nat.mul_le_mul_right _ (by omega);rw[wdN,Nat.pow_succ];omega
theorem zkM{f:Nat->Nat}(hf:∀i,f i<256):∀n j,j<n->wdN f n/256^j%256=f j
 | 0,j,h=>by omega
 | n+1,j,h=>by
   have h1:=zdt hf n;rw[wdN];rcases Nat.lt_or_ge j n with hj|hj
   ·have ih:=zkM hf n j hj;have e:f n*256^n=256^j*(256*(f n*256^(n-j-1))):=by
     have:256^n=256^j*(256*256^(n-j-1)):=by rw[<-Nat.pow_succ',<-Nat.pow_add];congr 1;omega
     rw[this,<-Nat.mul_assoc,Nat.mul_comm (f n) (256^j),Nat.mul_assoc];congr 1;rw[Nat.mul_left_comm]
    rw[e,Nat.add_mul_div_left _ _ (Nat.pow_pos (by omega)),Nat.add_mul_mod_self_left];exact ih
   ·obtain rfl:j=n:=by omega
    rw[Nat.add_mul_div_right _ _ (Nat.pow_pos (by omega)),Nat.div_eq_of_lt h1,Nat.zero_add,Nat.mod_eq_of_lt (hf _)]
theorem zfW{f g:Nat->Nat}:∀n,(∀i,i<n->f i=g i)->wdN f n=wdN g n
 | 0,_=>rfl
 | n+1,h=>by rw[wdN,wdN,zfW n fun i hi=>h i (by omega),h n (by omega)]
theorem zun{f:Nat->Nat}(hf:∀i,f i<256)(n:Nat):wdN f n|||f n*256^n=wdN f (n+1):=by
 have h4:(256:Nat)^n=2^(8*n):=by rw[Nat.pow_mul]
 have h1:=zdt hf n;rw[h4] at h1;rw[wdN,h4,Nat.mul_comm,Nat.or_comm,Nat.add_comm];exact(Nat.two_pow_add_eq_or_of_lt h1 (f n)).symm
def wd4(f:Nat->Nat):UInt32:=UInt32.ofNat (wdN f 4)
theorem zcL{f:Nat->Nat}(hf:∀i,f i<256):(wd4 f).toNat=wdN f 4:=zbJ (zdt hf 4)
def bw(x:UInt32)(i:Nat):Nat:=x.toNat/2^(8*i)%256
theorem zf0(x:UInt32)(i:Nat):bw x i<256:=Nat.mod_lt _ (by omega)
theorem zmJ(x:UInt32)(i:Nat):bw x i=x.toNat/256^i%256:=by unfold bw;rw[Nat.pow_mul]
theorem zmF{f:Nat->Nat}(hf:∀i,f i<256)(j:Nat)(hj:j<4):bw (wd4 f) j=f j:=by
 rw[zmJ,zcL hf,zkM hf 4 j hj]
theorem zlj{a b:Nat}:∀i,a<256^i->b<256^i->(∀j,j<i->a/256^j%256=b/256^j%256)->a=b
 | 0,ha,hb,_=>by simp at ha hb;omega
 | i+1,ha,hb,h=>by
   have h0:=h 0 (by omega);simp at h0;have h1:a/256=b/256:=zlj i (by rw[Nat.pow_succ] at ha;omega) (by rw[Nat.pow_succ] at hb;omega) fun j hj=>by have:=h (j+1) (by omega);rw[Nat.pow_succ',<-Nat.div_div_eq_div_mul,<-Nat.div_div_eq_div_mul] at this;exact this
   omega
theorem zuf{x y:UInt32}(h:∀j,j<4->bw x j=bw y j):x=y:=by
 apply UInt32.toNat_inj.1;exact zlj 4 (wlt x) (wlt y) fun j hj=>by rw[<-zmJ,<-zmJ];exact h j hj
theorem zs9(x y:UInt32)(i:Nat):bw (x^^^y) i=bw x i^^^bw y i:=by
 unfold bw;rw[UInt32.toNat_xor,Nat.xor_div_two_pow];exact Nat.xor_mod_two_pow (n:=8)
def znm:List (List Nat):=[[1,0,1,0],[0,0,1,1],[0,1,0,1],[1,1,0,0],[1,0,0,1]]
def ordN(left i:Nat):Nat:=(znm.getD left []).getD i 0
theorem zob:∀left,left<5->∀i,i<4->ordN left i<2:=by decide
def zdv(x:UInt32)(left i:Nat):Nat:=qF (ordN left i) (bw x i)
theorem zdU(x:UInt32)(left i:Nat):zdv x left i<256:=zu7 _ _
def zbN(x:UInt32)(left:Nat):UInt32:=wd4 (zdv x left)
def sumG(m:Nat)(row b:Nat->Nat):Nat->Nat
 | 0=>0
 | j+1=>sumG m row b j^^^gm m (b j) (row j)
theorem zf{m:Nat}(hm:zal m){row b:Nat->Nat}(hb:∀j,b j<256):∀n,sumG m row b n<256
 | 0=>by simp[sumG]
 | n+1=>zbj (zf hm hb n) (zc7 hm (hb n) _)
theorem zhk{m:Nat}{row b c:Nat->Nat}:∀n,(∀j,j<n->b j=c j)->sumG m row b n=sumG m row c n
 | 0,_=>rfl
 | n+1,h=>by rw[sumG,sumG,zhk n fun j hj=>h j (by omega),h n (by omega)]
def zlW:List (List Nat):=[[0x01,0xEF,0x5B,0x5B],[0x5B,0xEF,0xEF,0x01],[0xEF,0x5B,0x01,0xEF],[0xEF,0x01,0xEF,0x5B]]
def mixR(i j:Nat):Nat:=(zlW.getD i []).getD j 0
theorem r361:zal 361:=⟨by omega,by omega⟩
theorem r333:zal 333:=⟨by omega,by omega⟩
def mixB(x:UInt32)(i:Nat):Nat:=sumG 361 (mixR i) (bw x) 4
theorem zed(x:UInt32)(i:Nat):mixB x i<256:=zf r361 (zf0 x) 4
def mixW(x:UInt32):UInt32:=wd4 (mixB x)
def zlB:List (List Nat):=[[0x01,0xA4,0x55,0x87,0x5A,0x58,0xDB,0x9E],[0xA4,0x56,0x82,0xF3,0x1E,0xC6,0x68,0xE5],[0x02,0xA1,0xFC,0xC1,0x47,0xAE,0x3D,0x19],[0xA4,0x55,0x87,0x5A,0x58,0xDB,0x9E,0x03]]
def shrR(i j:Nat):Nat:=(zlB.getD i []).getD j 0
def bl(m:List UInt8)(j:Nat):Nat:=(m.getD j 0).toNat
theorem zgL(m:List UInt8)(j:Nat):bl m j<256:=(m.getD j 0).toNat_lt
def shrB(m:List UInt8)(i:Nat):Nat:=sumG 333 (shrR i) (bl m) 8
theorem zea(m:List UInt8)(i:Nat):shrB m i<256:=zf r333 (zgL m) 8
def shrW(m:List UInt8):UInt32:=wd4 (shrB m)
def zio{α β:Type}(f:Nat->α->α)(g:α->β):Nat->α->β
 | 0,x=>g x
 | n+1,x=>zio f g n (f n x)
theorem zjt{α β:Type}(f:Nat->α->α)(g:α->β)(x:α):zio f g 0 x=g x:=rfl
theorem zjE{α β:Type}(f:Nat->α->α)(g:α->β)(n:Nat)(x:α):zio f g (n+1) x=zio f g n (f n x):=rfl
def zbY(l:List UInt32)(n:Nat)(x:UInt32):UInt32:=zbN x (n+1)^^^l.getD n 0
def hEnd(x:UInt32):UInt32:=mixW (zbN x 0)
def hW(l:List UInt32)(n:Nat)(x:UInt32):UInt32:=zio (zbY l) hEnd n x
theorem znJ(l:List UInt32)(x:UInt32):hW l 0 x=hEnd x:=by unfold hW;rw[zjt]
theorem zgx(l:List UInt32)(n:Nat)(x:UInt32):hW l (n+1) x=hW l n (zbY l n x):=by unfold hW;rw[zjE]
def HW(x:UInt32)(l:List UInt32):UInt32:=hW l l.length x
def wdL(m:List UInt8)(o:Nat):UInt32:=wd4 fun i=>bl m (o+i)
def evL(key:List UInt8):List UInt32:=(List.range (key.length/8)).map fun i=>wdL key (8*i)
def odL(key:List UInt8):List UInt32:=(List.range (key.length/8)).map fun i=>wdL key (8*i+4)
def sU(key:List UInt8):List UInt32:=(List.range (key.length/8)).map fun i=>shrW ((key.drop (8*i)).take 8)
def sL(key:List UInt8):List UInt32:=(sU key).reverse
def kA(e:List UInt32)(n:Nat):UInt32:=HW (UInt32.ofNat (2*n)*0x01010101) e
def kB(o:List UInt32)(n:Nat):UInt32:=rolI (HW (UInt32.ofNat (2*n+1)*0x01010101) o) 8
def kL(e o:List UInt32):Nat->List UInt32
 | 0=>[]
 | n+1=>kL e o n++[kA e n+kB o n,rolI (kA e n+2*kB o n) 9]
theorem zdH(e o:List UInt32):∀n,(kL e o n).length=2*n
 | 0=>rfl
 | n+1=>by rw[kL,List.length_append,zdH e o n];rfl
def zdo(key:List UInt8):List UInt32:=kL (evL key) (odL key) 20
structure W4 where
 a:UInt32
 b:UInt32
 c:UInt32
 d:UInt32
deriving DecidableEq
def W4.xor(r:W4)(k:List UInt32)(o:Nat):W4:=⟨r.a^^^k.getD o 0,r.b^^^k.getD (o+1) 0,r.c^^^k.getD (o+2) 0,r.d^^^k.getD (o+3) 0⟩
def W4.cross(r:W4):W4:=⟨r.c,r.d,r.a,r.b⟩
def mF(k s:List UInt32)(x y:UInt32)(i:Nat):UInt32:=HW x s+HW (rolI y 8) s+k.getD (8+2*i) 0
def mG(k s:List UInt32)(x y:UInt32)(i:Nat):UInt32:=HW x s+2*HW (rolI y 8) s+k.getD (9+2*i) 0
def rnd(k s:List UInt32)(i:Nat)(r:W4):W4:=⟨rolI (r.c^^^mF k s r.a r.b i) (-1),rolI r.d 1^^^mG k s r.a r.b i,r.a,r.b⟩
def rndB(k s:List UInt32)(i:Nat)(r:W4):W4:=⟨r.c,r.d,rolI r.a 1^^^mF k s r.c r.d i,rolI (r.b^^^mG k s r.c r.d i) (-1)⟩
def upto{α:Type}(f:Nat->α->α)(r:α):Nat->α
 | 0=>r
 | i+1=>f i (upto f r i)
theorem ziu{α:Type}(f:Nat->α->α)(r:α)(i:Nat):upto f r (i+1)=f i (upto f r i):=rfl
def fwd(k s:List UInt32)(r:W4)(i:Nat):W4:=upto (rnd k s) r i
theorem zhu(k s:List UInt32)(r:W4)(i:Nat):fwd k s r (i+1)=rnd k s i (fwd k s r i):=by unfold fwd;rw[ziu]
def bwd(k s:List UInt32)(r:W4)(j:Nat):W4:=upto (fun j=>rndB k s (15-j)) r j
theorem zhw(k s:List UInt32)(r:W4)(j:Nat):bwd k s r (j+1)=rndB k s (15-j) (bwd k s r j):=by unfold bwd;rw[ziu]
def zbG(k s:List UInt32)(r:W4):W4:=(fwd k s (r.xor k 0) 16).cross.xor k 4
def zcZ(k s:List UInt32)(r:W4):W4:=(bwd k s (r.xor k 4).cross 16).xor k 0
def inW(m:List UInt8):W4:=⟨wdL m 0,wdL m 4,wdL m 8,wdL m 12⟩
def outB(x:UInt32):List UInt8:=zco (x.toNat:Nat)
def outL(r:W4):List UInt8:=outB r.a++outB r.b++outB r.c++outB r.d
def zaF(k s:List UInt32)(back:Bool)(m:List UInt8):List UInt8:=outL (if back then zcZ k s (inW m) else zbG k s (inW m))
theorem zjl:∀i,i<4->∀j,j<4->mixR i j<256:=by decide
theorem zfv(R f:Nat)(w:World)(_hR:R<18446744073709551616)(hf:f<16):
  Calls Tryz.prog 194 #[.int .u64 R,.int .u8 f] w fun e w'=>e=.returned (.int .u8 (R/2^(60-4*f)%16:Nat))/\w=w':=by
 go_enter Tryz.func194,Tryz.ntmps194;go_wp2;go_ret;refine⟨zak ?_,rfl⟩;have e:(R:Int)/2^(60-4*f)=((R/2^(60-4*f):Nat):Int):=by rw[zdV]
 rw[e];omega
structure GT (w:World):Prop where
 rows:∀q,q<2->∀i,i<4->w.cell? ⟨10,q*4+i,none⟩=some (.int .u64 (rowQ q i:Nat))
 shrs:∀j,j<32->w.cell? ⟨4,j,none⟩=some (.int .u8 (shrR (j/8) (j%8):Nat))
 ords:∀l,l<5->∀i,i<4->w.cell? ⟨8,l*4+i,none⟩=some (.int .i64 (ordN l i:Nat))
 mixs:∀j,j<16->w.cell? ⟨9,j,none⟩=some (.int .u8 (mixR (j/4) (j%4):Nat))
theorem zan{w w':World}{p:Addr}{v:Value}(hx:Ext w w')(h:w.cell? p=some v):w'.cell? p=some v:=(Below.cell hx (World.block_lt_of_cell? w _ h)).trans h
theorem GT.later{w w':World}(h:GT w)(hx:Ext w w'):GT w' :=
 ⟨fun q hq i hi=>zan hx (h.rows q hq i hi),fun j hj=>zan hx (h.shrs j hj),fun l hl i hi=>zan hx (h.ords l hl i hi),fun j hj=>zan hx (h.mixs j hj)⟩
theorem zaZ{P:Program}{f:FuncId}{args:Array Value}{w:World}{n:Nat}{v:Value}
  (h:Calls P f args (w.drewN n) fun e w'=>e=.returned v/\w.drewN n=w'):Calls P f args (w.drewN n) fun e w''=>e=.returned v/\∃m,w''=w.drewN m :=
 h.mono fun _ _ ⟨he,hm⟩=>⟨he,n,hm.symm⟩
theorem zcA(w:World)(a b:Nat):(w.drewN a).drewN b=w.drewN (a+b):=by
 unfold World.drewN;simp[Nat.add_assoc]
theorem q_e:∀a:Nat,a<16->∀c:Nat,c<16->bits .xor .u8 (a:Int) (c:Int)=(eQ a c:Nat):=by
 intro a ha c hc;rw[u8_xor_nat _ _ (by omega) (by omega)];rfl
theorem q_f:∀a:Nat,a<16->∀c:Nat,c<16->bits .xor .u8 (bits .xor .u8 (a:Int) (bits .and .u8 (bits .or .u8 ((c:Int)/2) ((c:Int)*8)) 15)) ((a:Int)*8%16)=(fQ a c:Nat):=by
 decide +kernel
theorem ztZ(x:Nat)(w:World)(hx:x<256)(hG:GT w):
  Calls Tryz.prog 191 #[.int .i64 0,.int .u8 x] w fun e w'=>e=.returned (.int .u8 (qF 0 x:Nat))/\∃n,w'=w.drewN n:=by
 have HG:=hid hG;clear hG;go_enter Tryz.func191,Tryz.ntmps191;go_wp2_with fail
 go_loopw [5,6,7] (fun a c i wr=>∃(k A C:Nat),k<=2/\i=.int .i64 (2*k:Nat)/\a=.int .u8 A/\c=.int .u8 C/\A=(qAC 0 x k).1/\C=(qAC 0 x k).2/\∃n,wr=w.drewN n) (fun _ _ i _=>4-(intOf i).toNat)
 case atStart=>exact⟨0,x/16,x%16,by omega,rfl,by simp,by simp,rfl,rfl,0,rfl⟩
 case round =>
  obtain⟨k,A,C,hk,rfl,rfl,rfl,hA,hC,n,hw⟩:=hrel;have hl:=zmG (q:=0) hx k;rw[<-hA,<-hC] at hl;obtain⟨hA16,hC16⟩:=hl;have HW:=hid hw;have HG2:=hid (show GT wr by rw[hw];exact HG.out.later ((Ext.refl w).drewN n));rcases (show k=0\/k=1\/k=2 by omega) with h|h|h
  ·subst h;have h1:wr.cell? ⟨10,0*4+0,none⟩=_:=HG2.out.rows 0 (by omega) 0 (by omega);have h2:wr.cell? ⟨10,0*4+1,none⟩=_:=HG2.out.rows 0 (by omega) 1 (by omega);have e1:=q_e A hA16 C hC16;have e2:=q_f A hA16 C hC16;have l1:=znr hA16 hC16;have l2:=zmt hA16 hC16;have R1:=zdx 0 (by omega) 0 (by omega);have R2:=zdx 0 (by omega) 1 (by omega);have HST:=hid (show qAC 0 x 1=(rowQ 0 0/2^(60-4*eQ A C)%16,rowQ 0 1/2^(60-4*fQ A C)%16) by rw[hA,hC];rfl);clear hA hC hw;generalize rowQ 0 0=r1 at *;generalize rowQ 0 1=r2 at *;generalize eQ A C=E at *;generalize fQ A C=F at *;go_wp2_with fail
   go_quiet (exact zaZ (zfv _ _ _ (by assumption) (by assumption)))
   go_wp2_with fail
   go_roundw
   case rel=>exact⟨1,_,_,by omega,by go_num,by go_num,by go_num,(by rw[HST.out]),(by rw[HST.out]),n+nq,by rw[HW.out];exact zcA w n nq⟩
   case measure=>simp[intOf]
  ·subst h;have h1:wr.cell? ⟨10,0*4+2,none⟩=_:=HG2.out.rows 0 (by omega) 2 (by omega);have h2:wr.cell? ⟨10,0*4+3,none⟩=_:=HG2.out.rows 0 (by omega) 3 (by omega);have e1:=q_e A hA16 C hC16;have e2:=q_f A hA16 C hC16;have l1:=znr hA16 hC16;have l2:=zmt hA16 hC16;have R1:=zdx 0 (by omega) 2 (by omega);have R2:=zdx 0 (by omega) 3 (by omega);have HST:=hid (show qAC 0 x 2=(rowQ 0 2/2^(60-4*eQ A C)%16,rowQ 0 3/2^(60-4*fQ A C)%16) by rw[hA,hC];rfl);clear hA hC hw;generalize rowQ 0 2=r1 at *;generalize rowQ 0 3=r2 at *;generalize eQ A C=E at *;generalize fQ A C=F at *;go_wp2_with fail
   go_quiet (exact zaZ (zfv _ _ _ (by assumption) (by assumption)))
   go_wp2_with fail
   go_roundw
   case rel=>exact⟨2,_,_,by omega,by go_num,by go_num,by go_num,(by rw[HST.out]),(by rw[HST.out]),n+nq,by rw[HW.out];exact zcA w n nq⟩
   case measure=>simp[intOf]
  ·subst h;have e1:bits .or .u8 ((C:Int)*16) (A:Int)=(qF 0 x:Nat):=by
    have:qF 0 x=C*16+A:=by rw[hA,hC];rfl
    rw[this,show(C:Int)*16=((C*16:Nat):Int) by omega,u8_or_nat _ _ (by omega) (by omega)];have h3:=Nat.two_pow_add_eq_or_of_lt (i:=4) (b:=A) hA16 C;rw[Nat.mul_comm C 16,show(16:Nat)=2^4 from rfl,<-h3]
   clear hA hC hw;obtain⟨r,hr⟩:∃r,qF 0 x=r:=⟨_,rfl⟩;rw[hr] at e1;have HR:=hid hr;clear hr;go_wp2_with fail
   go_ret;exact⟨zak (by rw[HR.out]),n,HW.out⟩
theorem zsH(x:Nat)(w:World)(hx:x<256)(hG:GT w):
  Calls Tryz.prog 191 #[.int .i64 1,.int .u8 x] w fun e w'=>e=.returned (.int .u8 (qF 1 x:Nat))/\∃n,w'=w.drewN n:=by
 have HG:=hid hG;clear hG;go_enter Tryz.func191,Tryz.ntmps191;go_wp2_with fail
 go_loopw [5,6,7] (fun a c i wr=>∃(k A C:Nat),k<=2/\i=.int .i64 (2*k:Nat)/\a=.int .u8 A/\c=.int .u8 C/\A=(qAC 1 x k).1/\C=(qAC 1 x k).2/\∃n,wr=w.drewN n) (fun _ _ i _=>4-(intOf i).toNat)
 case atStart=>exact⟨0,x/16,x%16,by omega,rfl,by simp,by simp,rfl,rfl,0,rfl⟩
 case round =>
  obtain⟨k,A,C,hk,rfl,rfl,rfl,hA,hC,n,hw⟩:=hrel;have hl:=zmG (q:=1) hx k;rw[<-hA,<-hC] at hl;obtain⟨hA16,hC16⟩:=hl;have HW:=hid hw;have HG2:=hid (show GT wr by rw[hw];exact HG.out.later ((Ext.refl w).drewN n));rcases (show k=0\/k=1\/k=2 by omega) with h|h|h
  ·subst h;have h1:wr.cell? ⟨10,1*4+0,none⟩=_:=HG2.out.rows 1 (by omega) 0 (by omega);have h2:wr.cell? ⟨10,1*4+1,none⟩=_:=HG2.out.rows 1 (by omega) 1 (by omega);have e1:=q_e A hA16 C hC16;have e2:=q_f A hA16 C hC16;have l1:=znr hA16 hC16;have l2:=zmt hA16 hC16;have R1:=zdx 1 (by omega) 0 (by omega);have R2:=zdx 1 (by omega) 1 (by omega);have HST:=hid (show qAC 1 x 1=(rowQ 1 0/2^(60-4*eQ A C)%16,rowQ 1 1/2^(60-4*fQ A C)%16) by rw[hA,hC];rfl);clear hA hC hw;generalize rowQ 1 0=r1 at *;generalize rowQ 1 1=r2 at *;generalize eQ A C=E at *;generalize fQ A C=F at *;go_wp2_with fail
   go_quiet (exact zaZ (zfv _ _ _ (by assumption) (by assumption)))
   go_wp2_with fail
   go_roundw
   case rel=>exact⟨1,_,_,by omega,by go_num,by go_num,by go_num,(by rw[HST.out]),(by rw[HST.out]),n+nq,by rw[HW.out];exact zcA w n nq⟩
   case measure=>simp[intOf]
  ·subst h;have h1:wr.cell? ⟨10,1*4+2,none⟩=_:=HG2.out.rows 1 (by omega) 2 (by omega);have h2:wr.cell? ⟨10,1*4+3,none⟩=_:=HG2.out.rows 1 (by omega) 3 (by omega);have e1:=q_e A hA16 C hC16;have e2:=q_f A hA16 C hC16;have l1:=znr hA16 hC16;have l2:=zmt hA16 hC16;have R1:=zdx 1 (by omega) 2 (by omega);have R2:=zdx 1 (by omega) 3 (by omega);have HST:=hid (show qAC 1 x 2=(rowQ 1 2/2^(60-4*eQ A C)%16,rowQ 1 3/2^(60-4*fQ A C)%16) by rw[hA,hC];rfl);clear hA hC hw;generalize rowQ 1 2=r1 at *;generalize rowQ 1 3=r2 at *;generalize eQ A C=E at *;generalize fQ A C=F at *;go_wp2_with fail
   go_quiet (exact zaZ (zfv _ _ _ (by assumption) (by assumption)))
   go_wp2_with fail
   go_roundw
   case rel=>exact⟨2,_,_,by omega,by go_num,by go_num,by go_num,(by rw[HST.out]),(by rw[HST.out]),n+nq,by rw[HW.out];exact zcA w n nq⟩
   case measure=>simp[intOf]
  ·subst h;have e1:bits .or .u8 ((C:Int)*16) (A:Int)=(qF 1 x:Nat):=by
    have:qF 1 x=C*16+A:=by rw[hA,hC];rfl
    rw[this,show(C:Int)*16=((C*16:Nat):Int) by omega,u8_or_nat _ _ (by omega) (by omega)];have h3:=Nat.two_pow_add_eq_or_of_lt (i:=4) (b:=A) hA16 C;rw[Nat.mul_comm C 16,show(16:Nat)=2^4 from rfl,<-h3]
   clear hA hC hw;obtain⟨r,hr⟩:∃r,qF 1 x=r:=⟨_,rfl⟩;rw[hr] at e1;have HR:=hid hr;clear hr;go_wp2_with fail
   go_ret;exact⟨zak (by rw[HR.out]),n,HW.out⟩
theorem zuE(q x:Nat)(w:World)(hq:q<2)(hx:x<256)(hG:GT w):
  Calls Tryz.prog 191 #[.int .i64 q,.int .u8 x] w fun e w'=>e=.returned (.int .u8 (qF q x:Nat))/\∃n,w'=w.drewN n:=by
 rcases (show q=0\/q=1 by omega) with rfl|rfl
 ·exact ztZ x w hx hG
 ·exact zsH x w hx hG
theorem znf{w w':World}(h:∃n,w'=w.drewN n):Ext w w':=by
 obtain⟨n,rfl⟩:=h;exact(Ext.refl w).drewN n
theorem zqc(x:UInt32)(i:Nat):(x.toNat:Int)/2^(8*i)%256=(bw x i:Nat):=by
 unfold bw;rw[<-zdV];omega
theorem pow8(i:Nat):(256:Nat)^i=2^(8*i):=by rw[Nat.pow_mul]
theorem w_or(f:Nat->Nat)(hf:∀i,f i<256)(i:Nat)(hi:i<4):bits .or .u32 ((wdN f i:Nat):Int) ((f i:Int)*2^(8*i)%4294967296)=((wdN f (i+1):Nat):Int):=by
 have h1:=zdt hf i;have h2:=hf i;have h3:(256:Nat)^(i+1)<=256^4:=Nat.pow_le_pow_right (by omega) (by omega);have h4:f i*256^i<256^(i+1):=by rw[Nat.pow_succ,Nat.mul_comm];exact Nat.mul_lt_mul_of_pos_left h2 (Nat.pow_pos (by omega))
 have h5:(256:Nat)^i<=256^4:=Nat.pow_le_pow_right (by omega) (by omega);have e:(f i:Int)*2^(8*i)%4294967296=((f i*256^i:Nat):Int):=by
  have:(f i:Int)*2^(8*i)=((f i*256^i:Nat):Int):=by rw[Int.natCast_mul,Int.natCast_pow,Int.pow_mul];rfl
  rw[this];omega
 rw[e,u32_or_nat _ _ (by omega) (by omega),zun hf]
theorem zhG{ty e:TypeId}{n:Nat}{cs:Array Value}{v:Value}{k:Nat}(w:World)(hu:Tryz.prog.underlying ty=some (.array n e))(hs:∀w,(sizeOf e).run Tryz.prog w=.ok 1 w)(ha:∀w,(isAgg e).run Tryz.prog w=.ok false w)
  (hk:k<n) (hv:cs[k]? = some v):(Instr.index ty (.agg cs) (.int .i64 k)).run Tryz.prog w=.ok v w:=by
 simp only[Instr.index,asIntOf,Sem.run_bind,Sem.run_pure,Result.andThen_ok,run_underlying hu];rw[if_pos ⟨by omega,by omega⟩];simp only[Go.part,Sem.run_bind,ha,hs,Result.andThen_ok,Int.toNat_natCast,Nat.mul_one];simp[hv]
theorem zel{ty e:TypeId}{n s:Nat}{cs:Array Value}{k:Nat}(w:World)(hu:Tryz.prog.underlying ty=some (.array n e))(hs:∀w,(sizeOf e).run Tryz.prog w=.ok s w)(ha:∀w,(isAgg e).run Tryz.prog w=.ok true w)
  (hk:k<n):(Instr.index ty (.agg cs) (.int .i64 k)).run Tryz.prog w=.ok (.agg (cs.extract (k*s) (k*s+s))) w:=by
 simp only[Instr.index,asIntOf,Sem.run_bind,Sem.run_pure,Result.andThen_ok,run_underlying hu];rw[if_pos ⟨by omega,by omega⟩];simp only[Sem.run_bind,hs,Go.part,ha,Result.andThen_ok,Int.toNat_natCast,Sem.run_pure,if_true]
theorem sz3:∀w,(sizeOf 3).run Tryz.prog w=.ok 1 w:=by intro w;kernel_rfl
theorem ag3:∀w,(isAgg 3).run Tryz.prog w=.ok false w:=by intro w;kernel_rfl
theorem sz82:∀w,(sizeOf 184).run Tryz.prog w=.ok 8 w:=by intro w;kernel_rfl
theorem ag82:∀w,(isAgg 184).run Tryz.prog w=.ok true w:=by intro w;kernel_rfl
theorem sz68:∀w,(sizeOf 216).run Tryz.prog w=.ok 4 w:=by intro w;kernel_rfl
theorem ag68:∀w,(isAgg 216).run Tryz.prog w=.ok true w:=by intro w;kernel_rfl
theorem zoF(x:UInt32)(left:Nat)(w:World)(hl:left<5)(hG:GT w):
  Calls Tryz.prog 182 #[.int .u32 (x.toNat:Nat),.int .i64 left] w fun e w'=>e=.returned (.int .u32 ((zbN x left).toNat:Nat))/\Ext w w':=by
 have HG:=hid hG;have h0:w.cell? ⟨8,left*4,none⟩=_:=hG.ords left hl 0 (by omega);have h1:=hG.ords left hl 1 (by omega);have h2:=hG.ords left hl 2 (by omega);have h3:=hG.ords left hl 3 (by omega);clear hG;go_enter Tryz.func182,Tryz.ntmps182;go_wp2_with fail
 go_loopw [5,11] (fun v i wr=>∃k:Nat,k<=4/\i=.int .i64 k/\v=.int .u32 (wdN (zdv x left) k:Nat)/\Ext w wr) (fun _ i _=>4-(intOf i).toNat)
 case atStart=>exact⟨0,by omega,rfl,rfl,Ext.refl _⟩
 case round =>
  obtain⟨k,hk,rfl,rfl,hx⟩:=hrel;by_cases hlt:k<4
  ·have HX:=hid hx;have HGR:=hid (HG.out.later hx);clear hx;have hI:∀w,(Instr.index 131 (.agg #[.int .i64 (ordN left 0:Nat),.int .i64 (ordN left 1:Nat),.int .i64 (ordN left 2:Nat),.int .i64 (ordN left 3:Nat)]) (.int .i64 k)).run Tryz.prog w=.ok (.int .i64 (ordN left k:Nat)) w:=fun w =>
    zhG w Tryz.underlying131 sz3 ag3 hlt (by rcases (show k=0\/k=1\/k=2\/k=3 by omega) with rfl|rfl|rfl|rfl<;>rfl)
   have hO:=zob left hl k hlt;have hb:=zqc x k;have hbl:=zf0 x k;have hor:=w_or (zdv x left) (zdU x left) k hlt;have HR:=hid (show zdv x left k=qF (ordN left k) (bw x k) from rfl);have hrl:=zdU x left k;have hwl:=zdt (zdU x left) k;have hpw:(256:Nat)^k<=256^4:=Nat.pow_le_pow_right (by omega) (by omega);have hwn:=hid (rfl:wdN (zdv x left) (k+1)=wdN (zdv x left) (k+1));rw[HR.out] at hor hrl;have HO:=hid hor;have hx32:=wlt x;obtain⟨S,hS⟩:∃S,wdN (zdv x left) k=S:=⟨_,rfl⟩;have hSl:S<4294967296:=by omega
   obtain⟨R,hRe⟩:∃R,qF (ordN left k) (bw x k)=R:=⟨_,rfl⟩;obtain⟨S1,hS1⟩:∃S1,wdN (zdv x left) (k+1)=S1:=⟨_,rfl⟩;have HS1:=hid hS1;have HRE:=hid hRe;rw[hRe] at hrl;rw[hS,hRe,hS1] at HO;rw[hS];obtain⟨q,hqe⟩:∃q,ordN left k=q:=⟨_,rfl⟩;have hI2:∀w,(Instr.index 131 (.agg #[.int .i64 (ordN left 0:Nat),.int .i64 (ordN left 1:Nat),.int .i64 (ordN left 2:Nat),.int .i64 (ordN left 3:Nat)]) (.int .i64 k)).run Tryz.prog w=.ok (.int .i64 q) w:=by rw[<-hqe];exact hI
   rw[hqe] at hO HRE;obtain⟨b,hbe⟩:∃b,bw x k=b:=⟨_,rfl⟩;rw[hbe] at hb hbl HRE;have HC:=hid (fun w hG=>zuE q b w hO hbl hG);clear hor hI hqe hbe hS hS1 hRe hwl hpw hwn HR;go_wp2_with (first
    | (rw[hI2];simp only[Result.andThen];rw[Oper.upon_value])
    | (go_at_call 191;refine(HC.out _ HGR.out).mono ?_;rintro e w' ⟨rfl,hw2⟩;rw[HRE.out];have HX2:=hid (Ext.trans HX.out (znf hw2));clear hw2))
   exact⟨⟨k+1,by omega,by go_num,by rw[HO.out,HS1.out],HX2.out⟩,by simp[intOf];omega⟩
  ·obtain rfl:k=4:=by omega
   have HX:=hid hx;clear hx;have e1:=zcL (zdU x left);rw[<-e1];go_wp2;go_ret;exact⟨rfl,HX.out⟩
theorem zf5(bs:List UInt8)(k:Nat):zah bs k=(bl bs k:Nat):=rfl
theorem u8x(a b:Nat)(ha:a<256)(hb:b<256):bits .xor .u8 (a:Int) (b:Int)=((a^^^b:Nat):Int):=u8_xor_nat _ _ ha hb
theorem zd7(m:Nat)(A1 A2:Option Addr)(n c1 c2 B1 B2:Nat)(row bs:List UInt8)(w:World)(hm:zal m)(h1:Rd w B1 A1 n row)(h2:Rd w B2 A2 n bs)(hn:n<=1000):
  Calls Tryz.prog 166 #[.slice A1 n c1,.slice A2 n c2,.int .i64 m] w fun e w'=>e=.returned (.int .u8 (sumG m (bl row) (bl bs) n:Nat))/\w=w':=by
 have hb:=zf hm (row:=bl row) (zgL bs);go_enter Tryz.func166,Tryz.ntmps166;go_wp2_with fail
 go_loop [7,12] (fun v i=>∃k:Nat,k<=n/\i=.int .i64 k/\v=.int .u8 (sumG m (bl row) (bl bs) k:Nat)) (fun _ i=>n-(intOf i).toNat)
 case atStart=>exact⟨0,by omega,rfl,rfl⟩
 case round =>
  obtain⟨k,hk,rfl,rfl⟩:=hrel;have hs:=hb k;by_cases hlt:k<n
  ·obtain⟨b1,o1,rfl,_,hc1⟩:=h1.at_ (by omega);obtain⟨b2,o2,rfl,_,hc2⟩:=h2.at_ (by omega);have k1:=hc1 k hlt;have k2:=hc2 k hlt;rw[zf5] at k1 k2;have l1:=zgL row k;have l2:=zgL bs k;have hst:=hid (show sumG m (bl row) (bl bs) (k+1)=sumG m (bl row) (bl bs) k^^^gm m (bl bs k) (bl row k) from rfl);have hg:=zc7 hm l2 (bl row k);obtain⟨S,hS⟩:∃S,sumG m (bl row) (bl bs) k=S:=⟨_,rfl⟩;rw[hS] at hs hst ⊢;obtain⟨x1,hx1⟩:∃x1,bl row k=x1:=⟨_,rfl⟩;obtain⟨x2,hx2⟩:∃x2,bl bs k=x2:=⟨_,rfl⟩;rw[hx1] at k1 l1 hst hg;rw[hx2] at k2 l2 hst hg;have hxx:=u8x S _ hs hg;have HM:=hid (fun w=>zbO x2 x1 m w hm l2 l1);obtain⟨G,hG⟩:∃G,gm m x2 x1=G:=⟨_,rfl⟩;rw[hG] at hxx hst hg HM;have HXX:=hid hxx;have hlo:=hm.lo;have hhi:=hm.hi;clear hS hx1 hx2 hG hb h1 h2 hc1 hc2 hm hxx;go_wp2_with (go_at_call 181;refine(HM.out _).mono ?_;rintro e w' ⟨rfl,rfl⟩)
   go_round
   case rel=>exact⟨k+1,by omega,by go_num,by rw[hst.out,HXX.out]⟩
   case measure=>simp[intOf];omega
  ·obtain rfl:k=n:=by omega
   clear hb h1 h2;go_wp2;go_ret;exact⟨rfl,rfl⟩
def mixC:List Value:=(List.range 16).map fun j=>.int .u8 (mixR (j/4) (j%4):Nat)
def shrC:List Value:=(List.range 32).map fun j=>.int .u8 (shrR (j/8) (j%8):Nat)
theorem zhW{ty:TypeId}{g n:Nat}{cs:List Value}{w:World}(hs:∀w,(sizeOf ty).run Tryz.prog w=.ok n w)(ha:∀w,(isAgg ty).run Tryz.prog w=.ok true w)(hn:cs.length=n)
  (h:∀j v,cs[j]? = some v->w.cell? ⟨g,j,none⟩=some v):(loadVar ty ⟨g,0,none⟩).run Tryz.prog w=.ok (.agg cs.toArray) w:=by
 have hl:(loadCells ⟨g,0,none⟩ cs.length).run Tryz.prog w=.ok cs.toArray w :=
  run_loadCells_list (P:=Tryz.prog) w ⟨g,0,none⟩ cs (fun j v hv=>by rw[za2,Nat.zero_add];exact h j v hv)
 rw[hn] at hl;unfold loadVar;simp only[Sem.run_bind,ha,hs,Result.andThen_ok,if_true,hl,Sem.run_pure]
theorem zhd{ops:Array Oper}{rest:List Oper}{o:Oper}{a:Act}{w:World}{Q:Exit->Act->World->Prop}{ty:TypeId}{g:Nat}{cs:List Value}(hgd:o.guard=none)(ho:o.op=.load ty (.global g))
  (h:(loadVar ty ⟨g,0,none⟩).run Tryz.prog w=.ok (.agg cs.toArray) w)
  (hk:wpList Tryz.prog ops Q rest (a.put o.dst (.agg cs.toArray)) w):wpList Tryz.prog ops Q (o::rest) a w:=by
 refine wpList_plain hgd fun K hK'=>?_
 have he:(execOp a.eval o).run Tryz.prog w=.ok (.value (.agg cs.toArray)) w:=by unfold execOp;simp only[ho,Act.eval,Instr.loadAt,Instr.sureAddr,Sem.run_bind,Sem.run_pure,Result.andThen_ok,h]
 unfold Oper.wp;rw[he];exact hK' _ _ hk
theorem sz72:∀w,(sizeOf 219).run Tryz.prog w=.ok 16 w:=by intro w;kernel_rfl
theorem ag72:∀w,(isAgg 219).run Tryz.prog w=.ok true w:=by intro w;kernel_rfl
theorem sz83:∀w,(sizeOf 214).run Tryz.prog w=.ok 32 w:=by intro w;kernel_rfl
theorem ag83:∀w,(isAgg 214).run Tryz.prog w=.ok true w:=by intro w;kernel_rfl
theorem GT.mixT{w:World}(h:GT w):(loadVar 219 ⟨9,0,none⟩).run Tryz.prog w=.ok (.agg mixC.toArray) w :=
 zhW sz72 ag72 rfl fun j v hv=>by
  have hj:j<16:=by
   rcases Nat.lt_or_ge j 16 with hj|hj
   ·exact hj
   ·rw[List.getElem?_eq_none (by simpa [mixC] using hj)] at hv;cases hv
  have e:mixC[j]? = some (.int .u8 (mixR (j/4) (j%4):Nat)):=by simp[mixC,hj]
  rw[e] at hv;rw[h.mixs j hj];exact hv
theorem GT.shrT{w:World}(h:GT w):(loadVar 214 ⟨4,0,none⟩).run Tryz.prog w=.ok (.agg shrC.toArray) w :=
 zhW sz83 ag83 rfl fun j v hv=>by
  have hj:j<32:=by
   rcases Nat.lt_or_ge j 32 with hj|hj
   ·exact hj
   ·rw[List.getElem?_eq_none (by simpa [shrC] using hj)] at hv;cases hv
  have e:shrC[j]? = some (.int .u8 (shrR (j/8) (j%8):Nat)):=by simp[shrC,hj]
  rw[e] at hv;rw[h.shrs j hj];exact hv
def mixL(k:Nat):List UInt8:=(zlW.getD k []).map UInt8.ofNat
def shrL(k:Nat):List UInt8:=(zlB.getD k []).map UInt8.ofNat
theorem zsm:∀k,k<4->∀j,j<4->bl (mixL k) j=mixR k j:=by decide
theorem zq2:∀k,k<4->∀j,j<8->bl (shrL k) j=shrR k j:=by decide
theorem zpO:∀k,k<4->(mixL k).length=4:=by decide
theorem zp1:∀k,k<4->(shrL k).length=8:=by decide
theorem zpe(k:Nat)(hk:k<4):mixC.toArray.extract (k*4) (k*4+4)=(cellsOf (mixL k)).toArray:=by
 rcases (show k=0\/k=1\/k=2\/k=3 by omega) with rfl|rfl|rfl|rfl<;>rfl
theorem zp3(k:Nat)(hk:k<4):shrC.toArray.extract (k*8) (k*8+8)=(cellsOf (shrL k)).toArray:=by
 rcases (show k=0\/k=1\/k=2\/k=3 by omega) with rfl|rfl|rfl|rfl<;>rfl
theorem zf1{m:Nat}{r s b:Nat->Nat}:∀n,(∀j,j<n->r j=s j)->sumG m r b n=sumG m s b n
 | 0,_=>rfl
 | n+1,h=>by rw[sumG,sumG,zf1 n fun j hj=>h j (by omega),h n (by omega)]
theorem zpo(v:Int):((u8 v).toNat:Int)=v%256:=zbB v
theorem zka(x:UInt32):∀j,j<4->bl (outB x) j=bw x j:=by
 intro j hj;have hx:=wlt x;rcases (show j=0\/j=1\/j=2\/j=3 by omega) with rfl|rfl|rfl|rfl
 ·have:=zpo (x.toNat:Int);show(u8 (x.toNat:Int)).toNat=x.toNat/1%256;omega
 ·have:=zpo ((x.toNat:Int)/256);show(u8 ((x.toNat:Int)/256)).toNat=x.toNat/256%256;omega
 ·have:=zpo ((x.toNat:Int)/65536);show(u8 ((x.toNat:Int)/65536)).toNat=x.toNat/65536%256;omega
 ·have:=zpo ((x.toNat:Int)/16777216);show(u8 ((x.toNat:Int)/16777216)).toNat=x.toNat/16777216%256;omega
theorem zrB(x:UInt32)(k:Nat)(hk:k<4):sumG 361 (bl (mixL k)) (bl (outB x)) 4=mixB x k:=by
 rw[zf1 4 (zsm k hk),zhk 4 (zka x)];rfl
theorem zra(m:List UInt8)(k:Nat)(hk:k<4):sumG 333 (bl (shrL k)) (bl m) 8=shrB m k:=by
 rw[zf1 8 (zq2 k hk)];rfl
theorem zbk(bs:List UInt8):(cellsOf bs).toArray.all (·.oneCell')=true:=by
 rw[Array.all_eq_true_iff_forall_mem];intro v hv;exact zby bs v (by simpa using hv)
theorem zl1{w:World}{g n:Nat}{bs:List UInt8}{e:TypeId}(h:w.heap[g]? = some (.cells (cellsOf bs).toArray e (0,0)))(hn:bs.length=n):Rd w w.heap.size (some ⟨g,0,none⟩) n bs :=
 ⟨hn,fun _=>⟨g,0,rfl,(Array.getElem?_eq_some_iff.1 h).1,fun k hk=>by rw[Nat.zero_add,cell_of_row w g k _ _ _ h];simpa using zam bs k (by omega)⟩⟩
theorem zdJ(w:World)(zs cs:Array Value)(e:TypeId):((w.alloc (.cells zs e)).setRow w.heap.size cs).heap[w.heap.size]? = some (.cells cs e (0,0))/\Ext w ((w.alloc (.cells zs e)).setRow w.heap.size cs) :=
 ⟨setRow_heap _ _ _ _ e (0,0) (heap_alloc_new w _),Below.setRow_ (Ext.alloc w _) (Nat.le_refl _) cs⟩
theorem zdG(x:UInt32)(w:World)(hG:GT w):
  Calls Tryz.prog 183 #[.int .u32 (x.toNat:Nat)] w fun e w'=>e=.returned (.int .u32 ((mixW x).toNat:Nat))/\Ext w w':=by
 have HG:=hid hG;clear hG;have HP:=hid (fun w=>zcG (x.toNat:Nat) w (by omega) (by have:=wlt x;omega));go_enter Tryz.func183,Tryz.ntmps183;go_wp2_with (first
  | (go_at_call 192;refine(HP.out _).mono ?_;rintro e w1 ⟨y,rfl,hy,hb⟩;obtain⟨A,c,rfl,hrd,_⟩:=hy.rdn (show(zco (x.toNat:Nat)).length=4 from rfl);have HRD:=hid hrd;have HX1:=hid (show Ext w w1 from hb);have HG1:=hid (HG.out.later hb);clear hy hb hrd)
  | (refine zhd rfl rfl HG1.out.mixT ?_))
 go_loopw [4,10] (fun v i wr=>∃k:Nat,k<=4/\i=.int .i64 k/\v=.int .u32 (wdN (mixB x) k:Nat)/\Ext w1 wr) (fun _ i _=>4-(intOf i).toNat)
 case atStart=>exact⟨0,by omega,rfl,rfl,Ext.refl _⟩
 case round =>
  obtain⟨k,hk,rfl,rfl,hx⟩:=hrel;by_cases hlt:k<4
  ·have hI:∀w,(Instr.index 219 (.agg mixC.toArray) (.int .i64 k)).run Tryz.prog w=.ok (.agg (cellsOf (mixL k)).toArray) w:=fun w=>by rw[zel w Tryz.underlying219 sz68 ag68 hlt,zpe k hlt]
   have HX:=hid (Ext.trans HX1.out hx);have HR2:=hid (HRD.out.later hx);have HXX:=hid hx;have hor:=w_or (mixB x) (zed x) k hlt;have hm:=zrB x k hlt;have hml:=zed x k;have hl:=hid (zpO k hlt);have hwl:=zdt (zed x) k;have hpw:(256:Nat)^k<=256^4:=Nat.pow_le_pow_right (by omega) (by omega);obtain⟨S,hS⟩:∃S,wdN (mixB x) k=S:=⟨_,rfl⟩;have hSl:S<4294967296:=by omega
   obtain⟨S1,hS1⟩:∃S1,wdN (mixB x) (k+1)=S1:=⟨_,rfl⟩;have HS1:=hid hS1;obtain⟨R,hR⟩:∃R,mixB x k=R:=⟨_,rfl⟩;rw[hS,hS1,hR] at hor;rw[hR] at hm hml;rw[hS];have HO:=hid hor;have HM:=hid hm;obtain⟨L,hL⟩:∃L,mixL k=L:=⟨_,rfl⟩;rw[hL] at hI hl HM;have HM2:=hid (show sumG 361 (bl L) (bl (zco (x.toNat:Nat))) 4=R from HM.out);clear hor hm hR hS hS1 hwl hpw hL hx;have h4:(cellsOf L).toArray.size=4:=by simp[cellsOf,hl.out]
   go_wp2_with (first
    | (rw[hI];simp only[Result.andThen];rw[Oper.upon_value])
    | (refine wpList_store_row rfl 216 (.tmp 6) (.tmp 13) rfl wr.heap.size (cellsOf L).toArray rfl rfl 216 _ (heap_alloc_new _ _) (by rw[h4];kernel_rfl) (by rw[h4];rfl) (zbk L) ?_)
    | (go_at_call 166;refine(zd7 361 _ _ 4 _ _ _ _ L (zco (x.toNat:Nat)) _ r361 (zl1 (zdJ wr _ (cellsOf L).toArray 216).1 hl.out) (HR2.out.later (zdJ wr _ (cellsOf L).toArray 216).2) (by omega)).mono ?_;rintro e w' ⟨rfl,rfl⟩;rw[HM2.out]))
   exact⟨⟨k+1,by omega,by go_num,by rw[HO.out,HS1.out],Ext.trans HXX.out (zdJ wr _ (cellsOf L).toArray 216).2⟩,by simp[intOf];omega⟩
  ·obtain rfl:k=4:=by omega
   have HX:=hid (Ext.trans HX1.out hx);clear hx;have e1:=zcL (zed x);rw[<-e1];go_wp2;go_ret;exact⟨rfl,HX.out⟩
theorem zrs(m:List UInt8)(A:Option Addr)(c:Nat)(w:World)(hG:GT w)(hm:Rd w w.heap.size A 8 m):
  Calls Tryz.prog 130 #[.slice A 8 c] w fun e w'=>e=.returned (.int .u32 ((shrW m).toNat:Nat))/\Ext w w':=by
 have HG:=hid hG;have HRD:=hid hm;clear hG hm;go_enter Tryz.func130,Tryz.ntmps130;go_wp2_with (refine zhd rfl rfl HG.out.shrT ?_)
 go_loopw [3,7] (fun v i wr=>∃k:Nat,k<=4/\i=.int .i64 k/\v=.int .u32 (wdN (shrB m) k:Nat)/\Ext w wr) (fun _ i _=>4-(intOf i).toNat)
 case atStart=>exact⟨0,by omega,rfl,rfl,Ext.refl _⟩
 case round =>
  obtain⟨k,hk,rfl,rfl,hx⟩:=hrel;by_cases hlt:k<4
  ·have hI:∀w,(Instr.index 214 (.agg shrC.toArray) (.int .i64 k)).run Tryz.prog w=.ok (.agg (cellsOf (shrL k)).toArray) w:=fun w=>by rw[zel w Tryz.underlying214 sz82 ag82 hlt,zp3 k hlt]
   have HR2:=hid (HRD.out.later hx);have HXX:=hid hx;have hor:=w_or (shrB m) (zea m) k hlt;have hm:=zra m k hlt;have hml:=zea m k;have hl:=hid (zp1 k hlt);have hwl:=zdt (zea m) k;have hpw:(256:Nat)^k<=256^4:=Nat.pow_le_pow_right (by omega) (by omega);obtain⟨S,hS⟩:∃S,wdN (shrB m) k=S:=⟨_,rfl⟩;have hSl:S<4294967296:=by omega
   obtain⟨S1,hS1⟩:∃S1,wdN (shrB m) (k+1)=S1:=⟨_,rfl⟩;have HS1:=hid hS1;obtain⟨R,hR⟩:∃R,shrB m k=R:=⟨_,rfl⟩;rw[hS,hS1,hR] at hor;rw[hR] at hm hml;rw[hS];have HO:=hid hor;have HM:=hid hm;obtain⟨L,hL⟩:∃L,shrL k=L:=⟨_,rfl⟩;rw[hL] at hI hl HM;clear hor hm hR hS hS1 hwl hpw hL hx;have h4:(cellsOf L).toArray.size=8:=by simp[cellsOf,hl.out]
   go_wp2_with (first
    | (rw[hI];simp only[Result.andThen];rw[Oper.upon_value])
    | (refine wpList_store_row rfl 184 (.tmp 5) (.tmp 10) rfl wr.heap.size (cellsOf L).toArray rfl rfl 184 _ (heap_alloc_new _ _) (by rw[h4];kernel_rfl) (by rw[h4];rfl) (zbk L) ?_)
    | (go_at_call 166;refine(zd7 333 _ _ 8 _ _ _ _ L m _ r333 (zl1 (zdJ wr _ (cellsOf L).toArray 184).1 hl.out) (HR2.out.later (zdJ wr _ (cellsOf L).toArray 184).2) (by omega)).mono ?_;rintro e w' ⟨rfl,rfl⟩;rw[HM.out]))
   exact⟨⟨k+1,by omega,by go_num,by rw[HO.out,HS1.out],Ext.trans HXX.out (zdJ wr _ (cellsOf L).toArray 184).2⟩,by simp[intOf];omega⟩
  ·obtain rfl:k=4:=by omega
   have HX:=hid hx;clear hx;have e1:=zcL (zea m);rw[<-e1];go_wp2;go_ret;exact⟨rfl,HX.out⟩
theorem zjF(a b:UInt32):a^^^b^^^b=a:=by rw[UInt32.xor_assoc,UInt32.xor_self,UInt32.xor_zero]
theorem zpR(k s:List UInt32)(i:Nat)(r:W4):rndB k s i (rnd k s i r)=r:=by
 unfold rndB rnd;simp only[zdR,zeq,zjF]
theorem zp7(k s:List UInt32)(i:Nat)(r:W4):rnd k s i (rndB k s i r)=r:=by
 unfold rndB rnd;simp only[zdR,zeq,zjF]
theorem zge(k s:List UInt32)(r:W4):∀j,j<=16->bwd k s (fwd k s r 16) j=fwd k s r (16-j)
 | 0,_=>rfl
 | j+1,h=>by rw[zhw,zge k s r j (by omega),show 16-j=15-j+1 by omega,zhu,zpR,show 15-j=16-(j+1) by omega]
theorem zgq(k s:List UInt32)(r:W4):∀j,j<=16->fwd k s (bwd k s r 16) j=bwd k s r (16-j)
 | 0,_=>rfl
 | j+1,h=>by rw[zhu,zgq k s r j (by omega),show 16-j=15-j+1 by omega,zhw,show 15-(15-j)=j by omega,zp7,show 15-j=16-(j+1) by omega]
theorem W4.xor_xor(r:W4)(k:List UInt32)(o:Nat):(r.xor k o).xor k o=r:=by
 unfold W4.xor;simp only[zjF]
theorem W4.cross_cross(r:W4):r.cross.cross=r:=rfl
theorem ze5(k s:List UInt32)(r:W4):zcZ k s (zbG k s r)=r:=by
 unfold zcZ zbG;rw[W4.xor_xor,W4.cross_cross,zge k s _ 16 (by omega),show fwd k s (r.xor k 0) (16-16)=r.xor k 0 from rfl,W4.xor_xor]
theorem ze2(k s:List UInt32)(r:W4):zbG k s (zcZ k s r)=r:=by
 unfold zcZ zbG;rw[W4.xor_xor,zgq k s _ 16 (by omega),show bwd k s (r.xor k 4).cross (16-16)=(r.xor k 4).cross from rfl,W4.cross_cross,W4.xor_xor]
theorem ztO{l m:List UInt8}{n:Nat}(hl:l.length=n)(hm:m.length=n)(h:∀i,i<n->bl l i=bl m i):l=m:=by
 apply List.ext_getElem (by omega);intro i h1 h2;have:=h i (by omega);unfold bl at this;rw[List.getD_eq_getElem?_getD,List.getD_eq_getElem?_getD,List.getElem?_eq_getElem h1,List.getElem?_eq_getElem h2] at this;exact UInt8.toNat_inj.1 this
theorem zeT{j:Nat}(h:j<4):j=0\/j=1\/j=2\/j=3:=by omega
theorem zhC(r:W4)(x:UInt32)(o:Nat)(h:∀j,j<4->bl (outL r) (o+j)=bl (outB x) j):wdL (outL r) o=x:=by
 refine zuf fun j hj=>?_
 unfold wdL;rw[zmF (fun i=>zgL _ _) j hj,h j hj,zka x j hj]
theorem zgm(r:W4):inW (outL r)=r:=by
 unfold inW;rw[zhC r r.a 0 (fun j hj=>by rcases zeT hj with rfl|rfl|rfl|rfl<;>rfl),zhC r r.b 4 (fun j hj=>by rcases zeT hj with rfl|rfl|rfl|rfl<;>rfl),
  zhC r r.c 8 (fun j hj=>by rcases zeT hj with rfl|rfl|rfl|rfl<;>rfl),zhC r r.d 12 (fun j hj=>by rcases zeT hj with rfl|rfl|rfl|rfl<;>rfl)]
theorem zoQ(r:W4):(outL r).length=16:=rfl
theorem zps(m:List UInt8)(o j:Nat)(hj:j<4):bl (outB (wdL m o)) j=bl m (o+j):=by
 rw[zka _ j hj];unfold wdL;rw[zmF (fun i=>zgL _ _) j hj]
theorem zgu(m:List UInt8)(hm:m.length=16):outL (inW m)=m:=by
 refine ztO (zoQ _) hm fun i hi=>?_
 obtain⟨q,j,rfl,hq,hj⟩:∃q j,i=4*q+j/\q<4/\j<4:=⟨i/4,i%4,by omega,by omega,by omega⟩;refine Eq.trans ?_ (zps m (4*q) j hj);rcases zeT hq with rfl|rfl|rfl|rfl<;>rcases zeT hj with rfl|rfl|rfl|rfl<;>rfl
theorem zdM(k s:List UInt32)(back:Bool)(m:List UInt8):(zaF k s back m).length=16:=rfl
theorem zck(k s:List UInt32)(m:List UInt8)(hm:m.length=16):zaF k s true (zaF k s false m)=m/\zaF k s false (zaF k s true m)=m:=by
 constructor
 ·show outL (zcZ k s (inW (outL (zbG k s (inW m)))))=m;rw[zgm,ze5,zgu m hm]
 ·show outL (zbG k s (inW (outL (zcZ k s (inW m)))))=m;rw[zgm,ze2,zgu m hm]
theorem Tryz.info37:(Tryz.prog.info? 133).map (fun i=>(i.zero,i.size,i.bytes))=some (some (.int .u32 0),1,4):=by kernel_rfl
theorem zkX(ks:List UInt32)(j:Nat)(x:UInt32):(nW ks).set j (x.toNat:Nat)=nW (ks.set j x):=by simp[nW,List.map_set]
def OwnW(w:World)(base:Nat)(v:Value)(ks:List UInt32):Prop:=OwnN .u32 133 w base v (nW ks)
theorem OwnW.set_{w:World}{base g n c:Nat}{ks:List UInt32}(h:OwnW w base (.slice (some ⟨g,0,none⟩) n c) ks)(hn:ks.length=n)(j:Nat)(x:UInt32):
  OwnW (w.setCell ⟨g,j,none⟩ (.int .u32 (x.toNat:Nat))) base (.slice (some ⟨g,0,none⟩) n c) (ks.set j x):=by
 have:=OwnN.setn h (by rw[zac];exact hn) j (x.toNat:Nat);rw[zkX] at this;exact this
theorem OwnW.rd{w:World}{base n:Nat}{v:Value}{ks:List UInt32}(h:OwnW w base v ks)(hn:ks.length=n):∃A c,v=.slice A n c/\n<=c/\RdN .u32 w w.heap.size A n (nW ks) :=
 let ⟨A,c,e,h1,h2,_⟩:=OwnN.rdc h (by rw[zac];exact hn)
 ⟨A,c,e,h1,h2⟩
def HJ(x:UInt32)(l:List UInt32)(A:Option Addr)(c:Nat)(w:World)(a:Act)(w1:World):Prop :=
 ∃(X:UInt32) (left:Nat) (u6 u7 u8 u9 u10 u11 u12 u13 u14 u15 u16 u17 u18 u19 u20 u21 u22 u23 u24 u25 u26 u27 u28:Value),
  a = { tmps:=#[.int .u32 (X.toNat:Nat),.slice A l.length c,undef,undef,.int .u32 0,.int .i64 left,u6,u7,u8,u9,u10,u11,u12,u13,u14,u15,u16,u17,u18,u19,u20,u21,u22,u23,u24,u25,u26,u27,u28,undef,undef],defers:=[] } /\
  left<=l.length/\hW l left X=HW x l/\Ext w w1
def zqk(a:Act):Nat:=match a.tmps.getD 5 undef with | .int _ q=>q.toNat|_=>0
theorem zo1(x:UInt32)(l:List UInt32)(A:Option Addr)(n c:Nat)(w:World)(hG:GT w)(hl:RdN .u32 w w.heap.size A n (nW l))(h2:2<=n)(h4:n<=4):
  Calls Tryz.prog 167 #[.int .u32 (x.toNat:Nat),.slice A n c] w fun e w'=>e=.returned (.int .u32 ((HW x l).toNat:Nat))/\Ext w w':=by
 have HG:=hid hG;have HL:=hid hl;have hn:=hl.len;rw[zac] at hn;subst hn;clear hG hl;go_enter Tryz.func167,Tryz.ntmps167;go_wp2_with fail
 refine zat 0 (HJ x l A c w) (fun a _=>zqk a) rfl ?_ ?_
 ·rintro a w1 ⟨X,left,u6,u7,u8,u9,u10,u11,u12,u13,u14,u15,u16,u17,u18,u19,u20,u21,u22,u23,u24,u25,u26,u27,u28,rfl,hle,hst,hx⟩;have HX:=hid hx;have HST:=hid hst;have hR:=fun w hG=>zoF X left w (by omega) hG
  have HG1:=hid (HG.out.later hx);rcases left with _|k
  ·rw[znJ] at hst;have HE:=hid (show(mixW (zbN X 0)).toNat=(HW x l).toNat by rw[<-hst];rfl);have HR:=hid hR;clear hx hst HG HL HST hR;go_wp2_with (first
    | (go_at_call 182;refine(HR.out _ HG1.out).mono ?_;rintro e w2 ⟨rfl,hx2⟩;have HX2:=hid (Ext.trans HX.out hx2);have HG2:=hid (HG1.out.later hx2);clear hx2)
    | (go_at_call 183;refine(zdG (zbN X 0) _ HG2.out).mono ?_;rintro e w3 ⟨rfl,hx3⟩;have HX3:=hid (Ext.trans HX2.out hx3);clear hx3))
   (try simp only[Exit.jump])
   go_ret;exact⟨zak (by rw[HE.out]),HX3.out⟩
  ·obtain⟨b,o,rfl,hb,hc⟩:=HL.out.at_ (by omega);have hck:=zan hx (hc k (by omega));rw[zfs l k (by omega)] at hck;have hx32:=zfb (zbN X (k+1)) (l.getD k 0);have HST2:=hid (show hW l k (zbY l k X)=HW x l by rw[<-hst,zgx]);have HXX:=hid (show bits .xor .u32 ((zbN X (k+1)).toNat:Int) ((l.getD k 0).toNat:Int)=((zbY l k X).toNat:Int) from hx32);have HR:=hid hR;obtain⟨y,hy⟩:∃y,l.getD k 0=y:=⟨_,rfl⟩;rw[hy] at hck HXX;have HCK:=hid hck;clear hx hst HG HL HST hR hx32 hck hc hy;go_wp2_with (go_at_call 182;refine(HR.out _ HG1.out).mono ?_;rintro e w2 ⟨rfl,hx2⟩;have HX2:=hid (Ext.trans HX.out hx2);have hck2:=zan hx2 HCK.out;clear hx2)
   go_step3
   (try simp only[Exit.jump])
   rw[HXX.out];refine⟨rfl,⟨zbY l k X,k,ex8 (ex8 ⟨_,_,_,_,_,_,_,rfl,by omega,HST2.out,HX2.out⟩)⟩,?_⟩;simp[zqk]
 ·intro hfirst;go_wp2_with fail
  go_step3;simp only[Exit.then];rename_i hK;refine hK _ _ ?_;exact hfirst.out _ _ ⟨x,l.length,ex8 (ex8 ⟨_,_,_,_,_,_,_,rfl,by omega,rfl,Ext.refl _⟩)⟩
def dig(c:Nat):Nat:=if 65<=c then c-65+10 else c-48
def zkR(c:Nat):Bool:=(decide (48<=c)&&decide (c<=57)) || (decide (65<=c)&&decide (c<=70))
def zoM(d:ByteArray)(q i:Nat):Bool:=decide (d.size=16)&&(List.range 16).all fun p=>zkR (d.data.getD p 0).toNat&&decide (dig (d.data.getD p 0).toNat=nibQ q i p)
theorem znk(c:Nat)(w:World)(hc:zkR c=true):Calls Tryz.prog 176 #[.int .u8 c] w fun e w'=>e=.returned (.int .i64 (dig c:Nat))/\w=w':=by
 unfold zkR at hc;simp only[Bool.or_eq_true,Bool.and_eq_true,decide_eq_true_eq] at hc;by_cases h:65<=c
 ·have hd:dig c=c-65+10:=by unfold dig;rw[if_pos h]
  have hc2:c<=70:=by omega
  rw[hd];clear hd hc;go_enter Tryz.func176,Tryz.ntmps176;go_wp2;go_ret;exact⟨zak (by omega),rfl⟩
 ·have hd:dig c=c-48:=by unfold dig;rw[if_neg h]
  have hc2:48<=c:=by omega
  rw[hd];clear hd hc;go_enter Tryz.func176,Tryz.ntmps176;go_wp2;go_ret;exact⟨zak (by omega),rfl⟩
theorem zst{d:ByteArray}{q i p:Nat}(h:zoM d q i=true)(hp:p<16):∃hs:p<d.size,zkR (d[p]'hs).toNat=true/\dig (d[p]'hs).toNat=nibQ q i p:=by
 unfold zoM at h;simp only[Bool.and_eq_true,decide_eq_true_eq] at h;obtain⟨h1,h2⟩:=h;have hs:p<d.size:=by omega
 have h3:=List.all_eq_true.1 h2 p (List.mem_range.2 hp);simp only[Bool.and_eq_true,decide_eq_true_eq] at h3;have e:d.data.getD p 0=d[p]'hs:=by rw[Array.getD_eq_getD_getElem?,Array.getElem?_eq_getElem (show p<d.data.size from hs)];rfl
 rw[e] at h3;exact⟨hs,h3⟩
theorem ztq(d:ByteArray)(q i p:Nat)(w:World)(h:zoM d q i=true)(hp:p<16):
  Calls Tryz.prog 153 #[.string d,.int .i64 p] w fun e w'=>e=.returned (.int .i64 (nibQ q i p:Nat))/\w=w':=by
 obtain⟨hs,h1,h2⟩:=zst h hp;have HG:=hid h2;clear h2 h;go_enter Tryz.func153,Tryz.ntmps153;go_wp2_with (go_at_call 176;refine(znk _ _ h1).mono ?_;rintro e w' ⟨rfl,rfl⟩)
 go_ret;exact⟨zak (by rw[HG.out]),rfl⟩
structure Four (q b:Nat) (w:World):Prop where
 at_:∀i,i<4->∃d,w.cell? ⟨b,i,none⟩=some (.string d)/\zoM d q i=true
theorem Four.later{q b:Nat}{w w':World}(h:Four q b w)(hx:Ext w w'):Four q b w':=⟨fun i hi=>let ⟨d,h1,h2⟩:=h.at_ i hi;⟨d,zan hx h1,h2⟩⟩
def zrp(q:Nat)(w:World)(e:Ending)(w':World):Prop:=∃b,e=.returned (.slice (some ⟨b,0,none⟩) 4 4)/\Four q b w'/\Ext w w'
theorem znv(q:Nat)(w:World)(hq:q<2):Calls Tryz.prog 190 #[.int .i64 q] w (zrp q w):=by
 rcases (show q=0\/q=1 by omega) with rfl|rfl
 all_goals
  go_enter Tryz.func190,Tryz.ntmps190;go_wp2;go_ret;refine⟨_,rfl,⟨fun i hi=>?_⟩,Ext.alloc _ _⟩;rcases (show i=0\/i=1\/i=2\/i=3 by omega) with rfl|rfl|rfl|rfl
  all_goals exact⟨_,by rw[cell_of_row _ _ _ _ _ _ (heap_alloc_new _ _)];rfl,by decide +kernel⟩
theorem rq_f:∀a:Nat,a<16->∀c:Nat,c<16->bits .xor .i64 (bits .xor .i64 (a:Int) (bits .or .i64 ((c:Int)/2) (bits .and .i64 ((c:Int)*8) 8))) (8*(a:Int)%16)=(fQ a c:Nat):=by
 decide +kernel
theorem zsI(q x:Nat)(w:World)(hq:q<2)(hx:x<256):
  Calls Tryz.prog 175 #[.int .i64 q,.int .u8 x] w fun e w'=>e=.returned (.int .u8 (qF q x:Nat))/\Ext w w':=by
 go_enter Tryz.func175,Tryz.ntmps175;go_wp2_with (go_at_call 190;refine(znv q _ hq).mono ?_;rintro e w1 ⟨b,rfl,h4,hx1⟩;have HF:=hid h4;have HX1:=hid hx1;clear h4 hx1)
 go_loopw [6,7,8] (fun a c i wr=>∃(k A C:Nat),k<=2/\i=.int .i64 k/\a=.int .i64 A/\c=.int .i64 C/\A=(qAC q x k).1/\C=(qAC q x k).2/\∃n,wr=w1.drewN n) (fun _ _ i _=>2-(intOf i).toNat)
 case atStart=>exact⟨0,x/16,x%16,by omega,rfl,by go_num,by go_num,rfl,rfl,0,rfl⟩
 case round =>
  obtain⟨k,A,C,hk,rfl,rfl,rfl,hA,hC,n,hw⟩:=hrel;have hl:=zmG (q:=q) hx k;rw[<-hA,<-hC] at hl;obtain⟨hA16,hC16⟩:=hl;have HW:=hid hw;by_cases hlt:k<2
  ·obtain⟨d1,c1,g1⟩:=HF.out.at_ (2*k) (by omega);obtain⟨d2,c2,g2⟩:=HF.out.at_ (2*k+1) (by omega);have k1:wr.cell? ⟨b,2*k,none⟩=some (.string d1):=by rw[hw];exact c1
   have k2:wr.cell? ⟨b,2*k+1,none⟩=some (.string d2):=by rw[hw];exact c2
   have l1:=znr hA16 hC16;have l2:=zmt hA16 hC16;have HST:=hid (show qAC q x (k+1)=(nibQ q (2*k) (eQ A C),nibQ q (2*k+1) (fQ A C)) by rw[hA,hC];rfl);clear hA hC hw c1 c2;have e1:bits .xor .i64 (A:Int) (C:Int)=(eQ A C:Nat):=zce _ _ (by omega) (by omega);have e2:=rq_f A hA16 C hC16;obtain⟨E,hE⟩:∃E,eQ A C=E:=⟨_,rfl⟩;obtain⟨F,hF⟩:∃F,fQ A C=F:=⟨_,rfl⟩;rw[hE] at e1 l1 HST;rw[hF] at e2 l2 HST;have HE2:=hid hE;have HF2:=hid hF;clear hE hF;go_wp2_with fail
   go_quiet (exact zaZ (ztq _ _ _ _ _ (by assumption) (by assumption)))
   go_wp2_with fail
   go_roundw
   case rel=>exact⟨k+1,_,_,by omega,by go_num,rfl,rfl,(by rw[HST.out]),(by rw[HST.out]),n+nq,by rw[HW.out];exact zcA w1 n nq⟩
   case measure=>simp[intOf];omega
  ·obtain rfl:k=2:=by omega
   have hr:qF q x=C*16+A:=by rw[hA,hC];rfl
   have HR:=hid hr;have HX:=hid (show Ext w wr by rw[hw];exact HX1.out.drewN n);clear hA hC hw hr;go_wp2_with fail
   go_ret;exact⟨zak (by rw[HR.out];omega),HX.out⟩
def byF(x:UInt32)(i:Nat):UInt8:=UInt8.ofNat (bw x i)
def byB(x:UInt32):List UInt8:=(List.range 4).map (byF x)
theorem zez(x:UInt32)(i:Nat):(byF x i).toNat=bw x i:=by
 have:=zf0 x i;unfold byF;rw[UInt8.toNat_ofNat'];omega
theorem ztp(x:UInt32)(j:Nat)(hj:j<4):bl (byB x) j=bw x j:=by
 have:(byB x).getD j 0=byF x j:=by simp[byB,hj]
 unfold bl;rw[this,zez]
def zdu(f g:Nat->UInt8)(k:Nat):List UInt8:=(List.range 4).map fun i=>if i<k then f i else g i
theorem zfg(f g:Nat->UInt8)(k:Nat):(zdu f g k).length=4:=by simp[zdu]
theorem zhh(f g:Nat->UInt8):zdu f g 0=(List.range 4).map g:=by simp[zdu]
theorem zhg(f g:Nat->UInt8):zdu f g 4=(List.range 4).map f:=by
 unfold zdu;apply List.map_congr_left;intro i hi;rw[if_pos (List.mem_range.1 hi)]
theorem zin(f g:Nat->UInt8)(k:Nat)(hk:k<4):(zdu f g k).getD k 0=g k:=by simp[zdu,hk]
theorem zi1(f g:Nat->UInt8)(k:Nat):(zdu f g k).set k (f k)=zdu f g (k+1):=by
 apply List.ext_getElem
 ·simp[zdu]
 ·intro i h1 h2;simp only[zdu,List.getElem_set,List.getElem_map,List.getElem_range];by_cases h:k=i
  ·subst h;simp
  ·rw[if_neg h];by_cases h':i<k
   ·rw[if_pos h',if_pos (by omega)]
   ·rw[if_neg h',if_neg (by omega)]
def BB(w:World)(g:Nat)(e:TypeId)(L:List UInt8):Prop:=w.heap[g]? = some (.cells (cellsOf L).toArray e (0,0))
section
variable {w w':World} {g:Nat} {e:TypeId} {L:List UInt8}
theorem BB.lt(h:BB w g e L):g<w.heap.size:=(Array.getElem?_eq_some_iff.1 h).1
theorem BB.later(h:BB w g e L)(hx:Ext w w'):BB w' g e L:=(hx.block g h.lt).trans h
theorem BB.cell(h:BB w g e L)(k:Nat)(hk:k<L.length):w.cell? ⟨g,k,none⟩=some (.int .u8 (bl L k:Nat)):=by
 rw[cell_of_row w g k _ _ _ h];simpa [zf5] using zam L k hk
theorem BB.frozen(h:BB w g e L)(k:Nat):w.frozen? ⟨g,k,none⟩=false:=frozen_of_row w g k _ e h
theorem BB.set_(h:BB w g e L)(k:Nat)(x:UInt8):BB (w.setCell ⟨g,k,none⟩ (.int .u8 (x.toNat:Nat))) g e (L.set k x):=by
 have:=heap_setCell_same w g k _ e (.int .u8 (x.toNat:Nat)) h;unfold BB;rw[this];simp[cellsOf,List.map_set]
theorem BB.setne(h:BB w g e L)(p:Addr)(v:Value)(hne:g≠p.block):BB (w.setCell p v) g e L:=(heap_setCell_other w p g v hne).trans h
theorem BB.put(h:BB w g e L)(M:List UInt8):BB (w.setRow g (cellsOf M).toArray) g e M:=setRow_heap w g _ _ e (0,0) h
end
theorem zaU{fn:Func}{R:Ending->World->Prop}{a:Act}{w:World}{p:Tmp}{ty e:TypeId}{N:Nat}(hres:fn.results=#[.cell p ty])(hd:a.defers = [])(g:Nat)(t:TypeId)(cs:Array Value)(fr:Nat×Nat)
  (hp:a.tmps.getD p undef=.pointer (some ⟨g,0,none⟩)) (hg:w.heap[g]? = some (.cells cs t fr)) (hu:Tryz.prog.underlying ty=some (.array N e))
  (hi:(Tryz.prog.info? ty).map (·.size)=some cs.size) (h:R (.returned (.agg cs)) w):
  bodyPost Tryz.prog fn R .ret a w:=bodyPost_ret (results_cell_row hres _ _ g t cs fr _ hp hg hu rfl hi) hd h
theorem in68(L:List UInt8)(h:L.length=4):(Tryz.prog.info? 216).map (·.size)=some (cellsOf L).toArray.size:=by
 have h1:(cellsOf L).toArray.size=4:=by simp[cellsOf,h]
 have h2:(Tryz.prog.info? 216).map (·.size)=some 4:=by kernel_rfl
 rw[h1,h2]
def Ret4(w:World)(x:UInt32)(e:Ending)(w':World):Prop:=e=.returned (.agg (cellsOf (byB x)).toArray)/\Ext w w'
theorem zet(x y:UInt32)(w:World):
  Calls Tryz.prog 145 #[.agg (cellsOf (byB x)).toArray,.int .u32 (y.toNat:Nat)] w (Ret4 w (x^^^y)):=by
 have h1:=heap_alloc2_old w (.cells (cellsOf (byB x)).toArray 216) (.cells #[.int .u8 0,.int .u8 0,.int .u8 0,.int .u8 0] 216);have h2:=heap_alloc2_new w (.cells (cellsOf (byB x)).toArray 216) (.cells #[.int .u8 0,.int .u8 0,.int .u8 0,.int .u8 0] 216);have h3:=(Ext.alloc w (.cells (cellsOf (byB x)).toArray 216)).trans (Ext.alloc _ (.cells #[.int .u8 0,.int .u8 0,.int .u8 0,.int .u8 0] 216));go_enter Tryz.func145,Tryz.ntmps145;go_wp2_with fail
 obtain⟨W1,hW1⟩:∃W1,(w.alloc (.cells (cellsOf (byB x)).toArray 216)).alloc (.cells #[.int .u8 0,.int .u8 0,.int .u8 0,.int .u8 0] 216)=W1:=⟨_,rfl⟩;rw[hW1] at h1 h2 h3 ⊢;have HB:=hid (show BB W1 w.heap.size 216 (zdu (byF (x^^^y)) (byF x) 0) by rw[zhh];exact h1);have HR:=hid (show BB W1 (w.heap.size+1) 216 [0,0,0,0] from h2);have HX:=hid h3;clear h1 h2 h3 hW1;obtain⟨G,hG⟩:∃G,w.heap.size=G:=⟨_,rfl⟩;rw[hG] at HB HR ⊢;have HGE:=hid hG;clear hG;go_loopw [5] (fun i wr=>∃k:Nat,k<=4/\i=.int .i64 k/\BB wr G 216 (zdu (byF (x^^^y)) (byF x) k)/\BB wr (G+1) 216 [0,0,0,0]/\Ext w wr) (fun i _=>4-(intOf i).toNat)
 case atStart=>exact⟨0,by omega,rfl,HB.out,HR.out,HX.out⟩
 case round =>
  obtain⟨k,hk,rfl,hb,hr,hx⟩:=hrel;by_cases hlt:k<4
  ·have hc:=hb.cell k (by rw[zfg];exact hlt);have hf:=hb.frozen k;have hv:bl (zdu (byF (x^^^y)) (byF x) k) k=bw x k:=by unfold bl;rw[zin _ _ _ hlt,zez]
   rw[hv] at hc;have hs:=hb.set_ k (byF (x^^^y) k);rw[zi1,zez] at hs;have hxx:=hid (show bits .xor .u8 ((bw x k:Nat):Int) ((bw y k:Nat):Int)=(bw (x^^^y) k:Nat) by rw[u8x _ _ (zf0 x k) (zf0 y k),zs9]);have HS:=hid hs;have hby:=zqc y k;have hy32:=wlt y;have HR2:=hid (fun v=>hr.setne ⟨G,k,none⟩ v (by simp));have HX2:=hid (fun v=>hx.setCell (p:=⟨G,k,none⟩) (by have:=HGE.out;simp;omega) v);have l1:=zf0 x k;have l2:=zf0 y k;obtain⟨b1,hb1⟩:∃b1,bw x k=b1:=⟨_,rfl⟩;obtain⟨b2,hb2⟩:∃b2,bw y k=b2:=⟨_,rfl⟩;obtain⟨b3,hb3⟩:∃b3,bw (x^^^y) k=b3:=⟨_,rfl⟩;rw[hb1] at hc l1 hxx;rw[hb2] at l2 hby hxx;rw[hb3] at hxx HS;clear hb hr hx hs hv hb1 hb2 hb3;go_wp2_with fail
   rw[hxx.out];go_roundw
   case rel=>exact⟨k+1,by omega,by go_num,HS.out,HR2.out _,HX2.out _⟩
   case measure=>simp[intOf];omega
  ·obtain rfl:k=4:=by omega
   rw[zhg] at hb;have hL:(byB (x^^^y)).length=4:=by simp[byB]
   have HBB:=hid (show BB wr G 216 (byB (x^^^y)) from hb);have HRR:=hid hr;have HXX:=hid (Below.setRow_ hx (show w.heap.size<=G+1 by have:=HGE.out;omega) (cellsOf (byB (x^^^y))).toArray);have HFI:=hid (hr.put (byB (x^^^y)));have HL:=hid hL;obtain⟨Y,hY⟩:∃Y,byB (x^^^y)=Y:=⟨_,rfl⟩;have HY:=hid hY;rw[hY] at HBB HXX HFI HL;clear hb hr hx hL hY;go_wp2_with (first
    | (refine wpList_load_row rfl 216 (.tmp 2) rfl G rfl 216 _ (0,0) _ HBB.out Tryz.underlying216 rfl (in68 _ HL.out) ?_)
    | (refine wpList_store_row rfl 216 (.tmp 4) (.tmp 22) rfl (G+1) (cellsOf Y).toArray rfl rfl 216 _ HRR.out (in68 _ HL.out) (by simp[cellsOf,HL.out]) (zbk Y) ?_))
   (try simp only[Exit.jump])
   exact zaU rfl rfl (G+1) 216 _ (0,0) rfl HFI.out Tryz.underlying216 (in68 _ HL.out) ⟨by rw[HY.out],HXX.out⟩
theorem cf15(vs:Array Value)(w:World):(callFunc 175 vs).run Tryz.prog w=.ok (.enter 175 vs) w:=by go_simp
def stK(k G q b:Nat):List K:=[.eq (.int .i64 k),.eq (.int .i64 k),.eq (.pointer (some ⟨G+1,k,none⟩)),.eq (.int .i64 q),.eq (.int .i64 k),.eq (.pointer (some ⟨G,k,none⟩)),.eq (.int .u8 b),.eq (.int .u8 (qF q b:Nat)),.any,.any]
theorem zkc(x:UInt32)(left i:Nat):(UInt8.ofNat (zdv x left i)).toNat=zdv x left i:=by
 have:=zdU x left i;rw[UInt8.toNat_ofNat'];omega
theorem zpZ(x:UInt32)(left:Nat):(List.range 4).map (fun i=>UInt8.ofNat (zdv x left i))=byB (zbN x left):=by
 unfold byB;apply List.map_congr_left;intro i hi;unfold byF;rw[show bw (zbN x left) i=zdv x left i from zmF (zdU x left) i (List.mem_range.1 hi)]
theorem zdB(x:UInt32)(left:Nat)(q0 q1 q2 q3:Int)(w:World)(hl:left<5)(e0:q0=(ordN left 0:Nat))(e1:q1=(ordN left 1:Nat))(e2:q2=(ordN left 2:Nat))(e3:q3=(ordN left 3:Nat)):
  Calls Tryz.prog 146 #[.agg (cellsOf (byB x)).toArray,.agg #[.int .i64 q0,.int .i64 q1,.int .i64 q2,.int .i64 q3]] w (Ret4 w (zbN x left)):=by
 have h1:=heap_alloc2_old w (.cells (cellsOf (byB x)).toArray 216) (.cells #[.int .i64 q0,.int .i64 q1,.int .i64 q2,.int .i64 q3] 131);have h1b:=heap_alloc2_new w (.cells (cellsOf (byB x)).toArray 216) (.cells #[.int .i64 q0,.int .i64 q1,.int .i64 q2,.int .i64 q3] 131);have h3:=(Ext.alloc w (.cells (cellsOf (byB x)).toArray 216)).trans (Ext.alloc _ (.cells #[.int .i64 q0,.int .i64 q1,.int .i64 q2,.int .i64 q3] 131));have HE:=hid (And.intro e0 (And.intro e1 (And.intro e2 e3)));clear e0 e1 e2 e3;go_enter Tryz.func146,Tryz.ntmps146;go_wp2_with fail
 obtain⟨W1,hW1⟩:∃W1,(w.alloc (.cells (cellsOf (byB x)).toArray 216)).alloc (.cells #[.int .i64 q0,.int .i64 q1,.int .i64 q2,.int .i64 q3] 131)=W1:=⟨_,rfl⟩;have hs1:W1.heap.size=w.heap.size+1+1:=by rw[<-hW1];simp
 rw[hW1] at h1 h1b h3 ⊢;have h2:=heap_alloc_new W1 (.cells #[.int .u8 0,.int .u8 0,.int .u8 0,.int .u8 0] 216);have h4:=Ext.alloc W1 (.cells #[.int .u8 0,.int .u8 0,.int .u8 0,.int .u8 0] 216);rw[hs1] at h2;obtain⟨W2,hW2⟩:∃W2,W1.alloc (.cells #[.int .u8 0,.int .u8 0,.int .u8 0,.int .u8 0] 216)=W2:=⟨_,rfl⟩;rw[hW2] at h2 h4 ⊢;have HB:=hid (show BB W2 w.heap.size 216 (zdu (fun i=>UInt8.ofNat (zdv x left i)) (byF x) 0) by rw[zhh];exact BB.later (e:=216) (L:=byB x) h1 h4);have HQ4:=hid (show ∀i,i<4->W2.cell? ⟨w.heap.size+1,i,none⟩=some (.int .i64 (ordN left i:Nat)) from fun i hi=>by refine zan h4 ?_;rw[cell_of_row W1 _ i _ _ _ h1b];obtain⟨e0,e1,e2,e3⟩:=HE.out;subst e0 e1 e2 e3;rcases (show i=0\/i=1\/i=2\/i=3 by omega) with rfl|rfl|rfl|rfl<;>rfl)
 have HR:=hid (show BB W2 (w.heap.size+1+1) 216 [0,0,0,0] from h2);have HX:=hid (h3.trans h4);clear h1 h1b h2 h3 h4 hW1 hW2;obtain⟨G,hG⟩:∃G,w.heap.size=G:=⟨_,rfl⟩;rw[hG];rw[hG] at HB HR HQ4;have HGE:=hid hG;clear hG hs1;go_loopw [5] (fun i wr=>∃k:Nat,k<=4/\i=.int .i64 k/\BB wr G 216 (zdu (fun i=>UInt8.ofNat (zdv x left i)) (byF x) k)/\(∀i,i<4->wr.cell? ⟨G+1,i,none⟩=some (.int .i64 (ordN left i:Nat)))/\BB wr (G+1+1) 216 [0,0,0,0]/\Ext w wr) (fun i _=>4-(intOf i).toNat)
 case atStart=>exact⟨0,by omega,rfl,HB.out,HQ4.out,HR.out,HX.out⟩
 case round =>
  obtain⟨k,hk,rfl,hb,hq4,hr,hx⟩:=hrel;by_cases hlt:k<4
  ·have hc:=hb.cell k (by rw[zfg];exact hlt);have hv:bl (zdu (fun i=>UInt8.ofNat (zdv x left i)) (byF x) k) k=bw x k:=by unfold bl;rw[zin _ _ _ hlt,zez]
   rw[hv] at hc;have hqk:=hq4 k hlt;have hO:=zob left hl k hlt;have hrb:=hid (show qF (ordN left k) (bw x k)=zdv x left k from rfl);have l1:=zf0 x k;obtain⟨q,hq⟩:∃q,ordN left k=q:=⟨_,rfl⟩;obtain⟨b,hb1⟩:∃b,bw x k=b:=⟨_,rfl⟩;rw[hq] at hqk hO hrb;rw[hb1] at hc l1 hrb;have HQ:=hid (fun w=>zsI q b w hO l1);have HCQ:=hid hqk;have HCB:=hid hc;have HK:=hid hlt;have HBB:=hid hb;have HQQ:=hid hq4;have HRR:=hid hr;have HXX:=hid hx;clear hb hq4 hr hx hc hqk hO l1 hq hb1 hv;go_wp2_with fail
   refine zaD 8 (stK k G q b) (zab ⟨fun _ _ h=>h.mv,fun _ _ h=>h.mv,?_,?_,fun _ _ h=>h.mv,?_,?_,?_,trivial⟩) ?_
   ·intro a w hk;have s3:a.tmps.getD 3 undef=.pointer (some ⟨G+1,0,none⟩):=hk.was 3;have s11:=hk.eq_ 1 11;refine za ?_;have hk4:(k:Int)<4:=by have:=HK.out;omega
    go_simp
   ·intro a w hk;have s12:=hk.eq_ 2 12;refine za ?_;have hc:=zan hk.ext HCQ.out;go_simp
   ·intro a w hk;have s2:a.tmps.getD 2 undef=.pointer (some ⟨G,0,none⟩):=hk.was 2;have s14:=hk.eq_ 4 14;refine za ?_;have hk4:(k:Int)<4:=by have:=HK.out;omega
    go_simp
   ·intro a w hk;have s15:=hk.eq_ 5 15;refine za ?_;have hc:=zan hk.ext HCB.out;go_simp
   ·exact fun _ w h=>h.call cf15 (HQ.out w) (fun e w1 h=>by obtain⟨rfl,hx⟩:=h;exact⟨_,rfl,hx,rfl⟩)
   ·intro a w1 hf;have hx:=hf.ext;have e:=hf.fr;clear hf;simp only[List.take_succ_cons,List.take_zero,stK,frV,kPut,Act.put,List.setIfInBounds_toArray,List.set_cons_zero,List.set_cons_succ] at e;subst e;simp only[List.drop_succ_cons,List.drop_zero];have hB:=HBB.out.later hx;have hf:=hB.frozen k;have hc:=zan hx HCB.out;have HS:=hid (hB.set_ k (UInt8.ofNat (zdv x left k)));rw[zi1,zkc] at HS;have HQ2:=hid (show ∀v,∀i,i<4->(w1.setCell ⟨G,k,none⟩ v).cell? ⟨G+1,i,none⟩=some (.int .i64 (ordN left i:Nat)) from fun v i hi=>by rw[World.cell?_setCell_other _ _ _ _ (by intro h;simp only[Addr.mk.injEq] at h;omega)];exact zan hx (HQQ.out i hi));have HR2:=hid (fun v=>(HRR.out.later hx).setne ⟨G,k,none⟩ v (by simp;omega));have HX2:=hid (fun v=>(HXX.out.trans hx).setCell (p:=⟨G,k,none⟩) (by have:=HGE.out;simp;omega) v);rw[hrb.out];clear hx hB;go_wp2_with fail
    go_roundw
    case rel=>exact⟨k+1,by omega,by go_num,HS.out,HQ2.out _,HR2.out _,HX2.out _⟩
    case measure=>simp[intOf];omega
  ·obtain rfl:k=4:=by omega
   rw[zhg,zpZ] at hb;have HBB:=hid hb;have HRR:=hid hr;have HL:=hid (show(byB (zbN x left)).length=4 by simp[byB]);have HXX:=hid (Below.setRow_ hx (show w.heap.size<=G+1+1 by have:=HGE.out;omega) (cellsOf (byB (zbN x left))).toArray);have HFI:=hid (hr.put (byB (zbN x left)));obtain⟨Y,hY⟩:∃Y,byB (zbN x left)=Y:=⟨_,rfl⟩;have HY:=hid hY;rw[hY] at HBB HXX HFI HL;clear hb hr hx hY hq4;go_wp2_with (first
    | (refine wpList_load_row rfl 216 (.tmp 2) rfl G rfl 216 _ (0,0) _ HBB.out Tryz.underlying216 rfl (in68 _ HL.out) ?_)
    | (refine wpList_store_row rfl 216 (.tmp 4) (.tmp 19) rfl (G+1+1) (cellsOf Y).toArray rfl rfl 216 _ HRR.out (in68 _ HL.out) (by simp[cellsOf,HL.out]) (zbk Y) ?_))
   (try simp only[Exit.jump])
   exact zaU rfl rfl (G+1+1) 216 _ (0,0) rfl HFI.out Tryz.underlying216 (in68 _ HL.out) ⟨by rw[HY.out],HXX.out⟩
theorem zjn:∀i,i<4->∀j,j<8->shrR i j<256:=by decide
theorem zrR(L a b t:Nat)(h:L<2^t):(L+a*2^t)^^^(b*2^t)=L+(a^^^b)*2^t:=by
 have e:∀c,L+c*2^t=c*2^t|||L:=fun c=>by rw[Nat.mul_comm,Nat.add_comm];exact Nat.two_pow_add_eq_or_of_lt h c
 rw[e,e];apply Nat.eq_of_testBit_eq;intro k;simp only[Nat.testBit_xor,Nat.testBit_or,Nat.testBit_mul_two_pow];by_cases hk:t<=k
 ·rw[Nat.testBit_lt_two_pow (Nat.lt_of_lt_of_le h (Nat.pow_le_pow_right (by omega) hk))];simp[hk]
 ·simp[hk]
def zS(m:List UInt8)(i k:Nat):Nat:=wdN (shrB m) i+sumG 333 (shrR i) (bl m) k*256^i
theorem zsg(m:List UInt8)(i:Nat):zS m i 0=wdN (shrB m) i:=by simp[zS,sumG]
theorem zp4(m:List UInt8)(i:Nat):zS m i 8=wdN (shrB m) (i+1):=rfl
theorem ztE(m:List UInt8)(i k:Nat):zS m i k<256^(i+1):=by
 have h1:=zdt (zea m) i;have h2:=zf r333 (row:=shrR i) (zgL m) k;have h3:sumG 333 (shrR i) (bl m) k*256^i<=255*256^i:=Nat.mul_le_mul_right _ (by omega);unfold zS;rw[Nat.pow_succ];omega
theorem zr6(m:List UInt8)(i k:Nat)(hi:i<4)(hk:k<8):bits .xor .u32 ((zS m i k:Nat):Int) ((gm 333 (shrR i k) (bl m k):Int)*2^(8*i)%4294967296)=((zS m i (k+1):Nat):Int):=by
 have hg:=zc7 r333 (zjn i hi k hk) (bl m k);have hz:=ztE m i k;have hL:=zdt (zea m) i;have h3:(256:Nat)^(i+1)<=256^4:=Nat.pow_le_pow_right (by omega) (by omega);have h4:gm 333 (shrR i k) (bl m k)*256^i<256^(i+1):=by rw[Nat.pow_succ,Nat.mul_comm];exact Nat.mul_lt_mul_of_pos_left hg (Nat.pow_pos (by omega))
 have e:(gm 333 (shrR i k) (bl m k):Int)*2^(8*i)%4294967296=((gm 333 (shrR i k) (bl m k)*256^i:Nat):Int):=by
  have:(gm 333 (shrR i k) (bl m k):Int)*2^(8*i)=((gm 333 (shrR i k) (bl m k)*256^i:Nat):Int):=by rw[Int.natCast_mul,Int.natCast_pow,Int.pow_mul];rfl
  rw[this];omega
 rw[e,u32_xor_nat _ _ (by omega) (by omega)];congr 1;unfold zS;rw[pow8] at hL ⊢;rw[zrR _ _ _ _ hL,sumG,zeQ r333 (zjn i hi k hk) (zgL m k)]
theorem zlO{ops:Array Oper}{rest:List Oper}{o:Oper}{a:Act}{w:World}{Q:Exit->Act->World->Prop}(op:Op)(v:Value)(hgd:o.guard=none)(_ho:o.op=op)(he:(execOp a.eval o).run Tryz.prog w=.ok (.value v) w)
  (hk:wpList Tryz.prog ops Q rest (a.put o.dst v) w):wpList Tryz.prog ops Q (o::rest) a w:=by
 refine wpList_plain hgd fun K hK'=>?_
 unfold Oper.wp;rw[he];exact hK' _ _ hk
theorem zoJ:shrC.toArray.all (·.oneCell')=true:=by decide +kernel
theorem ziH:shrC.toArray.size=32:=rfl
theorem zoP(m:List UInt8)(A:Option Addr)(c:Nat)(w:World)(hr:Rd w w.heap.size A 8 m):
  Calls Tryz.prog 102 #[.slice A 8 c] w fun e w'=>e=.returned (.int .u32 ((shrW m).toNat:Nat))/\Ext w w':=by
 obtain⟨b,o,rfl,hb,hc⟩:=hr.at_ (by omega);have HCB:=hid (show ∀k,k<8->w.cell? ⟨b,o+k,none⟩=some (.int .u8 (bl m k:Nat)) from hc);clear hc hr hb;go_enter Tryz.func102,Tryz.ntmps102;go_wp2_with (first
  | (refine zlO (.build 214 #[(0,.tmp 7),(1,.tmp 8),(2,.tmp 9),(3,.tmp 10)]) (.agg shrC.toArray) rfl rfl (by kernel_rfl) ?_)
  | (refine wpList_store_row rfl 214 (.tmp 3) (.tmp 11) rfl w.heap.size shrC.toArray rfl rfl 214 _ (heap_alloc_new _ _) (by rw[ziH];kernel_rfl) (by rw[ziH];rfl) zoJ ?_))
 have hm:=zdJ w #[.int .u8 0,.int .u8 0,.int .u8 0,.int .u8 0,.int .u8 0,.int .u8 0,.int .u8 0,.int .u8 0,.int .u8 0,.int .u8 0,.int .u8 0,.int .u8 0,.int .u8 0,.int .u8 0,.int .u8 0,.int .u8 0,.int .u8 0,.int .u8 0,.int .u8 0,.int .u8 0,.int .u8 0,.int .u8 0,.int .u8 0,.int .u8 0,.int .u8 0,.int .u8 0,.int .u8 0,.int .u8 0,.int .u8 0,.int .u8 0,.int .u8 0,.int .u8 0] shrC.toArray 214;obtain⟨W5,h5⟩:∃W5,(w.alloc (Obj.cells #[.int .u8 0,.int .u8 0,.int .u8 0,.int .u8 0,.int .u8 0,.int .u8 0,.int .u8 0,.int .u8 0,.int .u8 0,.int .u8 0,.int .u8 0,.int .u8 0,.int .u8 0,.int .u8 0,.int .u8 0,.int .u8 0,.int .u8 0,.int .u8 0,.int .u8 0,.int .u8 0,.int .u8 0,.int .u8 0,.int .u8 0,.int .u8 0,.int .u8 0,.int .u8 0,.int .u8 0,.int .u8 0,.int .u8 0,.int .u8 0,.int .u8 0,.int .u8 0] 214)).setRow w.heap.size shrC.toArray=W5:=⟨_,rfl⟩;rw[h5] at hm ⊢;obtain⟨hm,hmx⟩:=hm
 obtain⟨M,hM⟩:∃M,w.heap.size=M:=⟨_,rfl⟩;rw[hM] at hm ⊢;have HMT:=hid (show ∀i,i<4->∀k,k<8->W5.cell? ⟨M,i*8+k,none⟩=some (.int .u8 (shrR i k:Nat)) from fun i hi k hk=>by
  rw[cell_of_row W5 M _ _ _ _ hm];have hj:i*8+k<32:=by omega
  have e:shrC[i*8+k]? = some (.int .u8 (shrR ((i*8+k)/8) ((i*8+k)%8):Nat)):=by simp[shrC,hj]
  rw[show(i*8+k)/8=i by omega,show(i*8+k)%8=k by omega] at e;simpa using e)
 have HBY:=hid (show ∀k,k<8->W5.cell? ⟨b,o+k,none⟩=some (.int .u8 (bl m k:Nat)) from fun k hk=>zan hmx (HCB.out k hk));have HX:=hid hmx;clear hm hmx h5 hM HCB;go_loopw [4,5] (fun z i wr=>∃I:Nat,I<=4/\i=.int .i64 I/\z=.int .u32 (wdN (shrB m) I:Nat)/\∃nd,wr=W5.drewN nd) (fun _ i _=>4-(intOf i).toNat)
 case atStart=>exact⟨0,by omega,rfl,rfl,0,rfl⟩
 case round =>
  obtain⟨I,hI,rfl,rfl,nd,hnd⟩:=hrel;by_cases hIl:I<4
  ·have hIl2:(I:Int)<4:=by omega
   go_wp2_with fail
   have HND:=hid hnd;have HIL:=hid hIl;clear hnd hIl hI;go_loopw [4,6] (fun z k wr=>∃K:Nat,K<=8/\k=.int .i64 K/\z=.int .u32 (zS m I K:Nat)/\∃nd,wr=W5.drewN nd) (fun _ k _=>8-(intOf k).toNat)
   case atStart=>exact⟨0,by omega,rfl,by rw[zsg],nd,by first|rfl|exact HND.out⟩
   case round =>
    obtain⟨K,hK,rfl,rfl,nd2,hnd2⟩:=hrel;by_cases hKl:K<8
    ·have hmc:wr.cell? ⟨M,I*8+K,none⟩=some (.int .u8 (shrR I K:Nat)):=by rw[hnd2];exact HMT.out I HIL.out K hKl
     have hbc:wr.cell? ⟨b,o+K,none⟩=some (.int .u8 (bl m K:Nat)):=by rw[hnd2];exact HBY.out K hKl
     have l1:=zjn I HIL.out K hKl;have l2:=zgL m K;have hz:=zr6 m I K HIL.out hKl;have hg:=zc7 r333 l1 (bl m K);have hzl:=ztE m I K;have h3:(256:Nat)^(I+1)<=256^4:=Nat.pow_le_pow_right (by omega) (by have:=HIL.out;omega);have HC:=hid (fun w=>zdS (shrR I K) (bl m K) 333 w r333 l1 l2);obtain⟨m1,hm1⟩:∃m1,shrR I K=m1:=⟨_,rfl⟩;obtain⟨b2,hb2⟩:∃b2,bl m K=b2:=⟨_,rfl⟩;rw[hm1,hb2] at hz hg HC;rw[hm1] at hmc l1;rw[hb2] at hbc l2;obtain⟨g,hge⟩:∃g,gm 333 m1 b2=g:=⟨_,rfl⟩;rw[hge] at hz hg HC;obtain⟨z,hze⟩:∃z,zS m I K=z:=⟨_,rfl⟩;have hz32:z<4294967296:=by omega
     rw[hze] at hz ⊢;have HZ:=hid hz;have HN2:=hid hnd2;have hIl3:I<4:=HIL.out;clear hm1 hb2 hge hze hzl h3 hz hnd2;go_wp2_with fail
     go_quiet ((go_at_call 144;exact zaZ (HC.out _)))
     go_wp2_with fail
     rw[HZ.out];exact⟨⟨K+1,by omega,by go_num,rfl,nd2+nq,by rw[HN2.out];exact zcA W5 nd2 nq⟩,by simp[intOf];omega⟩
    ·obtain rfl:K=8:=by omega
     have HN2:=hid hnd2;rw[zp4];clear hnd2;go_wp2_with fail
     exact⟨⟨I+1,by have:=HIL.out;omega,by go_num,rfl,nd2,by first|rfl|exact HN2.out⟩,by have:=HIL.out;simp[intOf];omega⟩
  ·obtain rfl:I=4:=by omega
   have e1:=zcL (zea m);have HX3:=hid (show Ext w wr by rw[hnd];exact HX.out.drewN nd);rw[<-e1];clear e1 hnd;go_wp2_with fail
   go_ret;exact⟨rfl,HX3.out⟩
theorem cf35(vs:Array Value)(w:World):(callFunc 145 vs).run Tryz.prog w=.ok (.enter 145 vs) w:=by go_simp
theorem cf36(vs:Array Value)(w:World):(callFunc 146 vs).run Tryz.prog w=.ok (.enter 146 vs) w:=by go_simp
theorem zbs(x:UInt32):(byB x).length=4:=by simp[byB]
theorem zma(x:UInt32)(w:World):Calls Tryz.prog 145 #[.agg #[.int .u8 0,.int .u8 0,.int .u8 0,.int .u8 0],.int .u32 (x.toNat:Nat)] w (Ret4 w x):=by
 have h:=zet 0 x w;rw[UInt32.zero_xor] at h;exact h
theorem zex{t g:Nat}{o:Oper}{a:Act}{w:World}{L:List UInt8}(ho:o.op=.load 216 (.tmp t))(hp:a.tmps.getD t undef=.pointer (some ⟨g,0,none⟩))(h:BB w g 216 L)(hl:L.length=4):
  (execOp a.eval o).run Tryz.prog w=.ok (.value (.agg (cellsOf L).toArray)) w:=by
 have h1:=zhW (ty:=216) (g:=g) (n:=4) (cs:=cellsOf L) (w:=w) sz68 ag68 (by rw[zaa];exact hl) (fun j v hv=>by rw[cell_of_row w g j _ _ _ h];simpa using hv);unfold execOp;simp only[ho,Act.eval,hp,Instr.loadAt,Instr.sureAddr,Sem.run_bind,Sem.run_pure,Result.andThen_ok,h1]
theorem _root_.Go.Proofs.YtokbbmngfogbbaaGreatDoor.RdN.cellW{w:World}{b o n B:Nat}{l:List UInt32}(h:RdN .u32 w B (some ⟨b,o,none⟩) n (nW l))(i:Nat)(hi:i<n)(h0:0<n):w.cell? ⟨b,o+i,none⟩=some (.int .u32 ((l.getD i 0).toNat:Nat)):=by
 obtain⟨b',o',e,_,hc⟩:=h.at_ h0;cases e
 have hn:=h.len;rw[zac] at hn;rw[hc i hi,zfs l i (by omega)]
theorem _root_.Go.Proofs.YtokbbmngfogbbaaGreatDoor.RdN.keepRow{kd:IntKind}{w:World}{b o n G K:Nat}{xs:List Int}(h:RdN kd w w.heap.size (some ⟨b,o,none⟩) n xs)(hG:b≠G/\K<=G)(cs:Array Value):RdN kd (w.setRow G cs) (w.setRow G cs).heap.size (some ⟨b,o,none⟩) n xs:=by
 refine⟨h.len,fun hn=>?_⟩;obtain⟨b',o',e,hb,hc⟩:=h.at_ hn;cases e
 refine⟨_,_,rfl,by rw[setRow_size];exact hb,fun j hj=>?_⟩;rw[<-hc j hj];exact World.cell?_of_block (w:=w) (setRow_other w G _ cs hG.1)
def zP(x:UInt32)(i k:Nat):Nat:=wdN (mixB x) i+sumG 361 (mixR i) (bw x) k*256^i
theorem zrI(x:UInt32)(i:Nat):zP x i 0=wdN (mixB x) i:=by simp[zP,sumG]
theorem zsu(x:UInt32)(i:Nat):zP x i 4=wdN (mixB x) (i+1):=rfl
theorem zuj(x:UInt32)(i k:Nat):zP x i k<256^(i+1):=by
 have h1:=zdt (zed x) i;have h2:=zf r361 (row:=mixR i) (zf0 x) k;have h3:sumG 361 (mixR i) (bw x) k*256^i<=255*256^i:=Nat.mul_le_mul_right _ (by omega);unfold zP;rw[Nat.pow_succ];omega
theorem zn2(L a b t:Nat)(h:L<2^t):(L+a*2^t)^^^(b*2^t)=L+(a^^^b)*2^t:=by
 have e:∀c,L+c*2^t=c*2^t|||L:=fun c=>by rw[Nat.mul_comm,Nat.add_comm];exact Nat.two_pow_add_eq_or_of_lt h c
 rw[e,e];apply Nat.eq_of_testBit_eq;intro k;simp only[Nat.testBit_xor,Nat.testBit_or,Nat.testBit_mul_two_pow];by_cases hk:t<=k
 ·rw[Nat.testBit_lt_two_pow (Nat.lt_of_lt_of_le h (Nat.pow_le_pow_right (by omega) hk))];simp[hk]
 ·simp[hk]
theorem zrl(x:UInt32)(i k:Nat)(hi:i<4)(hk:k<4):bits .xor .u32 ((zP x i k:Nat):Int) ((gm 361 (mixR i k) (bw x k):Int)*2^(8*i)%4294967296)=((zP x i (k+1):Nat):Int):=by
 have hg:=zc7 r361 (zjl i hi k hk) (bw x k);have hz:=zuj x i k;have hL:=zdt (zed x) i;have h3:(256:Nat)^(i+1)<=256^4:=Nat.pow_le_pow_right (by omega) (by omega);have h4:gm 361 (mixR i k) (bw x k)*256^i<256^(i+1):=by rw[Nat.pow_succ,Nat.mul_comm];exact Nat.mul_lt_mul_of_pos_left hg (Nat.pow_pos (by omega))
 have e:(gm 361 (mixR i k) (bw x k):Int)*2^(8*i)%4294967296=((gm 361 (mixR i k) (bw x k)*256^i:Nat):Int):=by
  have:(gm 361 (mixR i k) (bw x k):Int)*2^(8*i)=((gm 361 (mixR i k) (bw x k)*256^i:Nat):Int):=by rw[Int.natCast_mul,Int.natCast_pow,Int.pow_mul];rfl
  rw[this];omega
 rw[e,u32_xor_nat _ _ (by omega) (by omega)];congr 1;unfold zP;rw[pow8] at hL ⊢;rw[zn2 _ _ _ _ hL,sumG,zeQ r361 (zjl i hi k hk) (zf0 x k)]
def hK(j n oi:Nat)(ord:Value)(X y:UInt32)(b o c:Nat):List K:=[.eq (.agg (cellsOf (byB X)).toArray),.eq ord,.eq (.agg (cellsOf (byB (zbN X j))).toArray),.eq (.slice (some ⟨b,o,none⟩) n c),.eq (.pointer (some ⟨b,oi,none⟩)),.eq (.int .u32 (y.toNat:Nat)),.eq (.agg (cellsOf (byB (zbN X j^^^y))).toArray),.any]
theorem zqz(x:UInt32)(l:List UInt32)(A:Option Addr)(n c:Nat)(w:World)(hl:RdN .u32 w w.heap.size A n (nW l))(h2:2<=n)(h4:n<=4):
  Calls Tryz.prog 103 #[.int .u32 (x.toNat:Nat),.slice A n c] w fun e w'=>e=.returned (.int .u32 ((HW x l).toNat:Nat))/\Ext w w':=by
 obtain⟨b,o,rfl,hbl,_⟩:=hl.at_ (by omega);have HL0:=hid hl;have hn:=hl.len;rw[zac] at hn;have HST:=hid (show hW l (min n 4) x=HW x l by unfold HW;rw[hn,Nat.min_eq_left h4]);have HN:=hid (And.intro h2 h4);have HBL:=hid hbl;clear hl hn hbl;go_enter Tryz.func103,Tryz.ntmps103;go_upto_if 15 with(first
  | (go_at_call 145;refine(zma x _).mono ?_;rintro e w1 ⟨rfl,hx1⟩;have HX1:=hid hx1;clear hx1)
  | (refine wpList_store_row rfl 216 (.tmp 5) (.tmp 12) rfl w1.heap.size (cellsOf (byB x)).toArray rfl rfl 216 _ (heap_alloc_new _ _) (in68 _ (zbs _)) (by simp[cellsOf,zbs]) (zbk _) ?_))
 have hn:=zdJ w1 #[.int .u8 0,.int .u8 0,.int .u8 0,.int .u8 0] (cellsOf (byB x)).toArray 216;obtain⟨W,hWW⟩:∃W,(World.setRow (w1.alloc (.cells #[.int .u8 0,.int .u8 0,.int .u8 0,.int .u8 0] 216)) w1.heap.size (cellsOf (byB x)).toArray)=W:=⟨_,rfl⟩;rw[hWW] at hn ⊢;obtain⟨G,hG⟩:∃G,w1.heap.size=G:=⟨_,rfl⟩;rw[hG] at hn ⊢;have HB:=hid (show BB W G 216 (byB x) from hn.1);have HX:=hid (HX1.out.trans hn.2);have HL:=hid (HL0.out.later HX.out);have HG:=hid (show b≠G/\w.heap.size<=G by
  have h1:=Below.size HX1.out;have:=HBL.out;omega)
 obtain⟨X,hX⟩:∃X,x=X:=⟨_,rfl⟩;have HB2:=hid (show BB W G 216 (byB X) by rw[<-hX];exact HB.out);have HST2:=hid (show hW l (min n 4) X=HW x l by rw[<-hX];exact HST.out);clear hn hWW hG HX1 HL0 hX HB HST HBL;have HB:=HB2;have HST:=HST2;clear HB2 HST2;go_cut [] (fun wx=>∃X,BB wx G 216 (byB X)/\hW l (min n 3) X=HW x l/\Ext w wx/\RdN .u32 wx wx.heap.size (some ⟨b,o,none⟩) n (nW l))
 case first =>
  by_cases h4:4<=n
  ·have hb:decide ((4:Int)<=n)=true:=by simp;omega
   have HST:=hid (show hW l 4 X=HW x l by have:=HST.out;rwa[show min n 4=4 by omega] at this);go_wp2_with fail
   have hcy:=HL.out.cellW 3 (by omega) (by omega);obtain⟨y,hy⟩:∃y,l.getD 3 0=y:=⟨_,rfl⟩;rw[hy] at hcy;have HCY:=hid (show W.cell? ⟨b,o+3,none⟩=some (.int .u32 (y.toNat:Nat)) from hcy);have HY:=hid hy;clear hcy hy;refine zaD 7 (hK 4 n (o+3) (.agg #[.int .i64 1,.int .i64 0,.int .i64 0,.int .i64 1]) X y b o c) (zab ⟨?_,?_,?_,fun _ _ h=>h.mv,?_,?_,?_,trivial⟩) ?_
   ·intro a w hk;have s5:a.tmps.getD 5 undef=.pointer (some ⟨G,0,none⟩):=hk.was 5;refine za ?_;exact zex rfl s5 (HB.out.later hk.ext) (zbs X)
   ·intro a w hk;refine za ?_;go_simp
   ·exact fun _ w h=>h.call cf36 (zdB X 4 1 0 0 1 w (by omega) rfl rfl rfl rfl) (fun e w1 h=>by obtain⟨rfl,hx⟩:=h;exact⟨_,rfl,hx,rfl⟩)
   ·intro a w hk;have s19:=hk.eq_ 3 19;have hi:(3:Int)<n:=by have:=HN.out;omega
    refine za ?_;go_simp
   ·intro a w hk;have s20:=hk.eq_ 4 20;refine za ?_;have hc:=zan hk.ext HCY.out;go_simp
   ·exact fun _ w h=>h.call cf35 (zet (zbN X 4) y w) (fun e w1 h=>by obtain⟨rfl,hx⟩:=h;exact⟨_,rfl,hx,rfl⟩)
   ·intro a w1 hf;have hx:=hf.ext;have e:=hf.fr;clear hf;simp only[List.take_succ_cons,List.take_zero,hK,frV,kPut,Act.put,List.setIfInBounds_toArray,List.set_cons_zero,List.set_cons_succ] at e;subst e;simp only[List.drop_succ_cons,List.drop_zero];have HBX:=hid (HB.out.later hx);have HL2:=hid (HL.out.later hx);have HX2:=hid (Ext.trans HX.out hx);have HS:=hid (show zbN X 4^^^y=zbY l 3 X by rw[<-HY.out];rfl);rw[HS.out];clear hx;go_wp2_with (refine wpList_store_row rfl 216 (.tmp 5) (.tmp 22) rfl G (cellsOf (byB (zbY l 3 X))).toArray rfl rfl 216 _ HBX.out (in68 _ (zbs _)) (by simp[cellsOf,zbs]) (zbk _) ?_)
    have HB3:=hid (HBX.out.put (byB (zbY l 3 X)));have HL3:=hid (HL2.out.keepRow HG.out (cellsOf (byB (zbY l 3 X))).toArray);have HX3:=hid (Below.setRow_ HX2.out HG.out.2 (cellsOf (byB (zbY l 3 X))).toArray);have HST2:=hid (show hW l 3 (zbY l 3 X)=HW x l from(zgx l 3 X).symm.trans HST.out);go_meet
    exact⟨_,HB3.out,by rw[show min n 3=3 by omega];exact HST2.out,HX3.out,HL3.out⟩
  ·have hb:decide ((4:Int)<=n)=false:=by simp;omega
   go_wp2_with fail
   go_meet
   exact⟨X,HB.out,by have:=HST.out;rwa[show min n 4=min n 3 by omega] at this,HX.out,HL.out⟩
 case rest =>
  clear HB HST HX HL X;rename_i hQ;apply hQ;clear hQ;obtain⟨X,hB,hST,hX,hL⟩:=hcut;obtain⟨W,hW⟩:∃W,wc=W:=⟨_,rfl⟩;rw[hW] at hB hX hL ⊢;have HB:=hid hB;have HST:=hid hST;have HX:=hid hX;have HL:=hid hL;clear hB hST hX hL hW;go_upto_if 25 with fail
  go_cut [] (fun wx=>∃X,BB wx G 216 (byB X)/\hW l (min n 2) X=HW x l/\Ext w wx/\RdN .u32 wx wx.heap.size (some ⟨b,o,none⟩) n (nW l))
  case first =>
   by_cases h4:3<=n
   ·have hb:decide ((3:Int)<=n)=true:=by simp;omega
    have HST:=hid (show hW l 3 X=HW x l by have:=HST.out;rwa[show min n 3=3 by omega] at this);go_wp2_with fail
    have hcy:=HL.out.cellW 2 (by omega) (by omega);obtain⟨y,hy⟩:∃y,l.getD 2 0=y:=⟨_,rfl⟩;rw[hy] at hcy;have HCY:=hid (show W.cell? ⟨b,o+2,none⟩=some (.int .u32 (y.toNat:Nat)) from hcy);have HY:=hid hy;clear hcy hy;refine zaD 7 (hK 3 n (o+2) (.agg #[.int .i64 1,.int .i64 1,.int .i64 0,.int .i64 0]) X y b o c) (zab ⟨?_,?_,?_,fun _ _ h=>h.mv,?_,?_,?_,trivial⟩) ?_
    ·intro a w hk;have s5:a.tmps.getD 5 undef=.pointer (some ⟨G,0,none⟩):=hk.was 5;refine za ?_;exact zex rfl s5 (HB.out.later hk.ext) (zbs X)
    ·intro a w hk;refine za ?_;go_simp
    ·exact fun _ w h=>h.call cf36 (zdB X 3 1 1 0 0 w (by omega) rfl rfl rfl rfl) (fun e w1 h=>by obtain⟨rfl,hx⟩:=h;exact⟨_,rfl,hx,rfl⟩)
    ·intro a w hk;have s29:=hk.eq_ 3 29;have hi:(2:Int)<n:=by have:=HN.out;omega
     refine za ?_;go_simp
    ·intro a w hk;have s30:=hk.eq_ 4 30;refine za ?_;have hc:=zan hk.ext HCY.out;go_simp
    ·exact fun _ w h=>h.call cf35 (zet (zbN X 3) y w) (fun e w1 h=>by obtain⟨rfl,hx⟩:=h;exact⟨_,rfl,hx,rfl⟩)
    ·intro a w1 hf;have hx:=hf.ext;have e:=hf.fr;clear hf;simp only[List.take_succ_cons,List.take_zero,hK,frV,kPut,Act.put,List.setIfInBounds_toArray,List.set_cons_zero,List.set_cons_succ] at e;subst e;simp only[List.drop_succ_cons,List.drop_zero];have HBX:=hid (HB.out.later hx);have HL2:=hid (HL.out.later hx);have HX2:=hid (Ext.trans HX.out hx);have HS:=hid (show zbN X 3^^^y=zbY l 2 X by rw[<-HY.out];rfl);rw[HS.out];clear hx;go_wp2_with (refine wpList_store_row rfl 216 (.tmp 5) (.tmp 32) rfl G (cellsOf (byB (zbY l 2 X))).toArray rfl rfl 216 _ HBX.out (in68 _ (zbs _)) (by simp[cellsOf,zbs]) (zbk _) ?_)
     have HB3:=hid (HBX.out.put (byB (zbY l 2 X)));have HL3:=hid (HL2.out.keepRow HG.out (cellsOf (byB (zbY l 2 X))).toArray);have HX3:=hid (Below.setRow_ HX2.out HG.out.2 (cellsOf (byB (zbY l 2 X))).toArray);have HST2:=hid (show hW l 2 (zbY l 2 X)=HW x l from(zgx l 2 X).symm.trans HST.out);go_meet
     exact⟨_,HB3.out,by rw[show min n 2=2 by omega];exact HST2.out,HX3.out,HL3.out⟩
   ·have hb:decide ((3:Int)<=n)=false:=by simp;omega
    go_wp2_with fail
    go_meet
    exact⟨X,HB.out,by have:=HST.out;rwa[show min n 3=min n 2 by omega] at this,HX.out,HL.out⟩
  case rest =>
   clear HB HST HX HL X;rename_i hQ;apply hQ;clear hQ;obtain⟨X,hB,hST,hX,hL⟩:=hcut;obtain⟨W,hW⟩:∃W,wc=W:=⟨_,rfl⟩;rw[hW] at hB hX hL ⊢;have HB:=hid hB;have HST:=hid hST;have HX:=hid hX;have HL:=hid hL;clear hB hST hX hL hW;have HST:=hid (show hW l 2 X=HW x l by have:=HST.out;rwa[show min n 2=2 by omega] at this);have hb:decide ((n:Int)<2)=false:=by simp;omega
   go_wp2_with fail
   have hcy:=HL.out.cellW 1 (by omega) (by omega);obtain⟨y,hy⟩:∃y,l.getD 1 0=y:=⟨_,rfl⟩;rw[hy] at hcy;have HCY:=hid (show W.cell? ⟨b,o+1,none⟩=some (.int .u32 (y.toNat:Nat)) from hcy);have HY:=hid hy;clear hcy hy;refine zaD 7 (hK 2 n (o+1) (.agg #[.int .i64 0,.int .i64 1,.int .i64 0,.int .i64 1]) X y b o c) (zab ⟨?_,?_,?_,fun _ _ h=>h.mv,?_,?_,?_,trivial⟩) ?_
   ·intro a w hk;have s5:a.tmps.getD 5 undef=.pointer (some ⟨G,0,none⟩):=hk.was 5;refine za ?_;exact zex rfl s5 (HB.out.later hk.ext) (zbs X)
   ·intro a w hk;refine za ?_;go_simp
   ·exact fun _ w h=>h.call cf36 (zdB X 2 0 1 0 1 w (by omega) rfl rfl rfl rfl) (fun e w1 h=>by obtain⟨rfl,hx⟩:=h;exact⟨_,rfl,hx,rfl⟩)
   ·intro a w hk;have s39:=hk.eq_ 3 39;have hi:(1:Int)<n:=by have:=HN.out;omega
    refine za ?_;go_simp
   ·intro a w hk;have s40:=hk.eq_ 4 40;refine za ?_;have hc:=zan hk.ext HCY.out;go_simp
   ·exact fun _ w h=>h.call cf35 (zet (zbN X 2) y w) (fun e w1 h=>by obtain⟨rfl,hx⟩:=h;exact⟨_,rfl,hx,rfl⟩)
   ·intro a w1 hf;have hx:=hf.ext;have e:=hf.fr;clear hf;simp only[List.take_succ_cons,List.take_zero,hK,frV,kPut,Act.put,List.setIfInBounds_toArray,List.set_cons_zero,List.set_cons_succ] at e;subst e;simp only[List.drop_succ_cons,List.drop_zero];have HBX:=hid (HB.out.later hx);have HL2:=hid (HL.out.later hx);have HX2:=hid (Ext.trans HX.out hx);have HS:=hid (show zbN X 2^^^y=zbY l 1 X by rw[<-HY.out];rfl);rw[HS.out];clear hx;go_wp2_with (refine wpList_store_row rfl 216 (.tmp 5) (.tmp 42) rfl G (cellsOf (byB (zbY l 1 X))).toArray rfl rfl 216 _ HBX.out (in68 _ (zbs _)) (by simp[cellsOf,zbs]) (zbk _) ?_)
    have HB3:=hid (HBX.out.put (byB (zbY l 1 X)));have HL3:=hid (HL2.out.keepRow HG.out (cellsOf (byB (zbY l 1 X))).toArray);have HX3:=hid (Below.setRow_ HX2.out HG.out.2 (cellsOf (byB (zbY l 1 X))).toArray);obtain⟨W,hW2⟩:∃W2,w1.setRow G (cellsOf (byB (zbY l 1 X))).toArray=W2:=⟨_,rfl⟩;rw[hW2] at HB3 HL3 HX3 ⊢;have HST2:=hid (show hW l 1 (zbY l 1 X)=HW x l from(zgx l 1 X).symm.trans HST.out);obtain⟨X,hX2⟩:∃X2,zbY l 1 X=X2:=⟨_,rfl⟩;rw[hX2] at HB3 HST2 ⊢;clear hW2 hX2 HB HL HX HST HBX HL2 HX2 HS HCY HY;have HB:=HB3;have HL:=HL3;have HX:=HX3;have HST:=HST2;clear HB3 HL3 HX3 HST2;have hcy:=HL.out.cellW 0 (by omega) (by omega);obtain⟨y,hy⟩:∃y,l.getD 0 0=y:=⟨_,rfl⟩;rw[hy] at hcy;have HCY:=hid (show W.cell? ⟨b,o,none⟩=some (.int .u32 (y.toNat:Nat)) from hcy);have HY:=hid hy;clear hcy hy
    refine zaD 7 (hK 1 n (o) (.agg #[.int .i64 0,.int .i64 0,.int .i64 1,.int .i64 1]) X y b o c) (zab ⟨?_,?_,?_,fun _ _ h=>h.mv,?_,?_,?_,trivial⟩) ?_
    ·intro a w hk;have s5:a.tmps.getD 5 undef=.pointer (some ⟨G,0,none⟩):=hk.was 5;refine za ?_;exact zex rfl s5 (HB.out.later hk.ext) (zbs X)
    ·intro a w hk;refine za ?_;go_simp
    ·exact fun _ w h=>h.call cf36 (zdB X 1 0 0 1 1 w (by omega) rfl rfl rfl rfl) (fun e w1 h=>by obtain⟨rfl,hx⟩:=h;exact⟨_,rfl,hx,rfl⟩)
    ·intro a w hk;have s46:=hk.eq_ 3 46;have hi:¬n=0:=by have:=HN.out;omega
     refine za ?_;go_simp
    ·intro a w hk;have s47:=hk.eq_ 4 47;refine za ?_;have hc:=zan hk.ext HCY.out;go_simp
    ·exact fun _ w h=>h.call cf35 (zet (zbN X 1) y w) (fun e w1 h=>by obtain⟨rfl,hx⟩:=h;exact⟨_,rfl,hx,rfl⟩)
    ·intro a w1 hf;have hx:=hf.ext;have e:=hf.fr;clear hf;simp only[List.take_succ_cons,List.take_zero,hK,frV,kPut,Act.put,List.setIfInBounds_toArray,List.set_cons_zero,List.set_cons_succ] at e;subst e;simp only[List.drop_succ_cons,List.drop_zero];have HBX:=hid (HB.out.later hx);have HL2:=hid (HL.out.later hx);have HX2:=hid (Ext.trans HX.out hx);have HS:=hid (show zbN X 1^^^y=zbY l 0 X by rw[<-HY.out];rfl);rw[HS.out];clear hx;have HB3:=hid (HBX.out.put (byB (zbY l 0 X)));have HX3:=hid (Below.setRow_ HX2.out HG.out.2 (cellsOf (byB (zbY l 0 X))).toArray);have HST2:=hid (show hEnd (zbY l 0 X)=HW x l from((znJ l _).symm.trans (zgx l 0 X).symm).trans HST.out);obtain⟨Z,hZ⟩:∃Z,zbY l 0 X=Z:=⟨_,rfl⟩;rw[hZ] at HB3 HX3 HST2 ⊢;clear hZ HB HL HX HST HL2 HX2 HS HCY HY;go_wp2_with (first
      | (refine wpList_store_row rfl 216 (.tmp 5) (.tmp 49) rfl G (cellsOf (byB Z)).toArray rfl rfl 216 _ HBX.out (in68 _ (zbs _)) (by simp[cellsOf,zbs]) (zbk _) ?_)
      | (refine wpList_load_row rfl 216 (.tmp 5) rfl G rfl 216 _ (0,0) _ HB3.out Tryz.underlying216 rfl (in68 _ (zbs Z)) ?_)
      | (go_at_call 146;refine(zdB Z 0 1 0 1 0 _ (by omega) rfl rfl rfl rfl).mono ?_;rintro e w2 ⟨rfl,hx2⟩;have HB4:=hid (HB3.out.later hx2);have HX4:=hid (Ext.trans HX3.out hx2);clear hx2)
      | (refine wpList_store_row rfl 216 (.tmp 5) (.tmp 52) rfl G (cellsOf (byB (zbN Z 0))).toArray rfl rfl 216 _ HB4.out (in68 _ (zbs _)) (by simp[cellsOf,zbs]) (zbk _) ?_))
     have hm:=heap_alloc_new (w2.setRow G (cellsOf (byB (zbN Z 0))).toArray) (Obj.cells #[.int .u8 1,.int .u8 239,.int .u8 91,.int .u8 91,.int .u8 91,.int .u8 239,.int .u8 239,.int .u8 1,.int .u8 239,.int .u8 91,.int .u8 1,.int .u8 239,.int .u8 239,.int .u8 1,.int .u8 239,.int .u8 91] 219);have hmx:=Ext.alloc (w2.setRow G (cellsOf (byB (zbN Z 0))).toArray) (Obj.cells #[.int .u8 1,.int .u8 239,.int .u8 91,.int .u8 91,.int .u8 91,.int .u8 239,.int .u8 239,.int .u8 1,.int .u8 239,.int .u8 91,.int .u8 1,.int .u8 239,.int .u8 239,.int .u8 1,.int .u8 239,.int .u8 91] 219);have hby:=(HB4.out.put (byB (zbN Z 0))).later hmx;have hxx:=Ext.trans (Below.setRow_ HX4.out HG.out.2 (cellsOf (byB (zbN Z 0))).toArray) hmx;rw[setRow_size] at hm
     obtain⟨W5,h5⟩:∃W5,(w2.setRow G (cellsOf (byB (zbN Z 0))).toArray).alloc (Obj.cells #[.int .u8 1,.int .u8 239,.int .u8 91,.int .u8 91,.int .u8 91,.int .u8 239,.int .u8 239,.int .u8 1,.int .u8 239,.int .u8 91,.int .u8 1,.int .u8 239,.int .u8 239,.int .u8 1,.int .u8 239,.int .u8 91] 219)=W5:=⟨_,rfl⟩;rw[h5] at hm hby hxx ⊢;obtain⟨M,hM⟩:∃M,w2.heap.size=M:=⟨_,rfl⟩;rw[hM] at hm ⊢;obtain⟨Y,hY⟩:∃Y,zbN Z 0=Y:=⟨_,rfl⟩;rw[hY] at hby;have HST:=hid (show mixW Y=HW x l by rw[<-HST2.out,<-hY];rfl);have HMT:=hid (show ∀i,i<4->∀k,k<4->W5.cell? ⟨M,i*4+k,none⟩=some (.int .u8 (mixR i k:Nat)) from fun i hi k hk=>by rw[cell_of_row W5 M _ _ _ _ hm];rcases (show i=0\/i=1\/i=2\/i=3 by omega) with rfl|rfl|rfl|rfl<;>rcases (show k=0\/k=1\/k=2\/k=3 by omega) with rfl|rfl|rfl|rfl<;>rfl)
     have HBY:=hid (show ∀k,k<4->W5.cell? ⟨G,k,none⟩=some (.int .u8 (bw Y k:Nat)) from fun k hk=>by rw[hby.cell k (by rw[zbs];exact hk),ztp Y k hk]);have HX:=hid hxx;clear hm hmx hby hxx h5 hM hY HBX HX3 HB3 HB4 HX4 HST2;go_loopw [7,8] (fun z i wr=>∃I:Nat,I<=4/\i=.int .i64 I/\z=.int .u32 (wdN (mixB Y) I:Nat)/\∃nd,wr=W5.drewN nd) (fun _ i _=>4-(intOf i).toNat)
     case atStart=>exact⟨0,by omega,rfl,rfl,0,rfl⟩
     case round =>
      obtain⟨I,hI,rfl,rfl,nd,hnd⟩:=hrel;by_cases hIl:I<4
      ·have hIl2:(I:Int)<4:=by omega
       go_wp2_with fail
       have HND:=hid hnd;have HIL:=hid hIl;clear hnd hIl hI;go_loopw [7,9] (fun z k wr=>∃K:Nat,K<=4/\k=.int .i64 K/\z=.int .u32 (zP Y I K:Nat)/\∃nd,wr=W5.drewN nd) (fun _ k _=>4-(intOf k).toNat)
       case atStart=>exact⟨0,by omega,rfl,by rw[zrI],nd,by first|rfl|exact HND.out⟩
       case round =>
        obtain⟨K,hK,rfl,rfl,nd2,hnd2⟩:=hrel;by_cases hKl:K<4
        ·have hmc:wr.cell? ⟨M,I*4+K,none⟩=some (.int .u8 (mixR I K:Nat)):=by rw[hnd2];exact HMT.out I HIL.out K hKl
         have hbc:wr.cell? ⟨G,K,none⟩=some (.int .u8 (bw Y K:Nat)):=by rw[hnd2];exact HBY.out K hKl
         have l1:=zjl I HIL.out K hKl;have l2:=zf0 Y K;have hz:=zrl Y I K HIL.out hKl;have hg:=zc7 r361 l1 (bw Y K);have hzl:=zuj Y I K;have h3:(256:Nat)^(I+1)<=256^4:=Nat.pow_le_pow_right (by omega) (by have:=HIL.out;omega);have HC:=hid (fun w=>zdS (mixR I K) (bw Y K) 361 w r361 l1 l2);obtain⟨m1,hm1⟩:∃m1,mixR I K=m1:=⟨_,rfl⟩;obtain⟨b2,hb2⟩:∃b2,bw Y K=b2:=⟨_,rfl⟩;rw[hm1,hb2] at hz hg HC;rw[hm1] at hmc l1;rw[hb2] at hbc l2;obtain⟨g,hge⟩:∃g,gm 361 m1 b2=g:=⟨_,rfl⟩;rw[hge] at hz hg HC;obtain⟨z,hze⟩:∃z,zP Y I K=z:=⟨_,rfl⟩;have hz32:z<4294967296:=by omega
         rw[hze] at hz ⊢;have HZ:=hid hz;have HN2:=hid hnd2;have hIl3:I<4:=HIL.out;clear hm1 hb2 hge hze hzl h3 hz hnd2;go_wp2_with fail
         go_quiet ((go_at_call 144;exact zaZ (HC.out _)))
         go_wp2_with fail
         rw[HZ.out];exact⟨⟨K+1,by omega,by go_num,rfl,nd2+nq,by rw[HN2.out];exact zcA W5 nd2 nq⟩,by simp[intOf];omega⟩
        ·obtain rfl:K=4:=by omega
         have HN2:=hid hnd2;rw[zsu];clear hnd2;go_wp2_with fail
         exact⟨⟨I+1,by have:=HIL.out;omega,by go_num,rfl,nd2,by first|rfl|exact HN2.out⟩,by have:=HIL.out;simp[intOf];omega⟩
      ·obtain rfl:I=4:=by omega
       have e1:=zcL (zed Y);have HX3:=hid (show Ext w wr by rw[hnd];exact HX.out.drewN nd);rw[<-e1];clear e1 hnd;go_wp2_with fail
       go_ret;exact⟨zak (by rw[<-HST.out];rfl),HX3.out⟩
section
variable {P:Program} {ops:Array Oper} {Q:Exit->Act->World->Prop} {r n:Nat}
theorem zqm{o:Oper}{a:Act}{w:World}{K:Act->World->Prop}(hnd:∀c,o.op ≠ .defer c)(h:o.wp P a w K Q):o.wpIn (Fence.wide.inRound r) n P a w K Q:=by
 unfold Oper.wp at h;unfold Oper.wpIn;refine⟨fun _ _=>trivial,?_⟩;rw[Fence.inRound_round,Oper.semAt_some _ _ _ hnd];generalize (execOp a.eval o).run P w=res at *;cases res with
 | ok x w' =>
   cases x<;>simp only[Oper.upon,Oper.uponIn] at h ⊢
   case value=>exact h
   case skip=>exact h
   case defer=>exact h
   case enter=>exact⟨fun e=>by simp[Fence.wide] at e,CallsIn.inRound r (callsIn_wide.2 h)⟩
   case row=>exact⟨fun e=>by simp[Fence.wide] at e,fun c cs _=>let ⟨v,w',rr,s⟩:=h c cs;⟨v,w',rr,stepsIn_wide.2 s⟩⟩
 | halt x w'=>cases x<;>simp only[Oper.upon,Oper.uponIn] at h ⊢<;>exact h
def zdp(ops:Array Oper):Bool:=ops.all fun o=>match o.op with | .defer _=>false|_=>true
theorem zgV{i:Nat}{o:Oper}(h:zdp ops=true)(ho:ops[i]? = some o):∀c,o.op ≠ .defer c:=fun c e=>by
 unfold zdp at h;rw[Array.all_eq_true_iff_forall_mem] at h;have:=h o (Array.mem_of_getElem? ho);rw[e] at this;cases this
theorem opIn{i:Nat}{a:Act}{w:World}{K:Act->World->Prop}(hno:¬LetsOut Q)(hnd:zdp ops=true)(h:wpOp P ops Q i K a w):wpOpIn (Fence.wide.inRound r) n P ops Q i K a w:=by
 unfold wpOp at h;unfold wpOpIn;cases ho:ops[i]? with
 | none=>rw[ho] at h;exact h
 | some o =>
   rw[ho] at h;simp only at h ⊢;split
   ·rename_i hw;rw[if_pos hw] at h;exact zqm (zgV hnd ho) (h.resolve_right fun e=>hno e.2)
   ·rename_i hw;rw[if_neg hw] at h;exact⟨fun _ _=>trivial,h⟩
theorem zuB(hno:¬LetsOut Q)(hnd:zdp ops=true):∀(fuel:Nat) (listed:Array Bool) (a:Act) (w:World),wpAny P .any ops Q fuel listed a w->wpAnyIn (Fence.wide.inRound r) n P .any ops Q fuel listed a w:=by
 intro fuel;induction fuel with
 | zero=>intro listed a w h;exact h
 | succ fuel ih=>intro listed a w h;exact⟨h.1,fun i hi=>wpOpIn_mono (fun a w=>ih _ a w) (opIn hno hnd (h.2 i hi))⟩
theorem zth(hno:¬LetsOut Q){l0:Array Oper}(hnd:zdp l0=true):∀(l:List Oper),(∀o ∈ l,o ∈ l0)->∀(a:Act) (w:World),wpList P ops Q l a w->wpListIn (Fence.wide.inRound r) n P ops Q l a w:=by
 intro l;induction l with
 | nil=>intro _ a w h;exact h
 | cons o l ih =>
   intro hm a w h;unfold wpList at h;unfold wpListIn;obtain⟨i,hi⟩:=Array.getElem?_of_mem (hm o (by simp));split
   ·rename_i hw;rw[if_pos hw] at h;exact Oper.wpIn_mono (fun a w hh=>ih (fun o ho=>hm o (by simp[ho])) a w hh) (zqm (zgV hnd hi) (h.resolve_right fun e=>hno e.2))
   ·rename_i hw;rw[if_neg hw] at h;exact⟨fun _ _=>trivial,ih (fun o ho=>hm o (by simp[ho])) _ _ h⟩
theorem zpg{id:Nat}{l:List Oper}{a:Act}{w:World}(hno:¬LetsOut Q)(hnd:zdp l.toArray=true)(h:wpList P l.toArray Q l a w):(Code.region id l.toArray false).wpIn (Fence.wide.inRound r) n P Q a w :=
 wpIn_region_lit (zth hno hnd l (fun o ho=>by simpa using ho) a w h)
theorem zei{id:Nat}{a:Act}{w:World}(hm:P.follows .mixedOrders=true)(hno:¬LetsOut Q)(hnd:zdp ops=true)(h:wpAny P .any ops Q ops.size (Array.replicate ops.size false) a { w with drawn:=w.drawn+1 }):(Code.region id ops true).wpIn (Fence.wide.inRound r) n P Q a w :=
 wpIn_region_any hm (zuB hno hnd _ _ a _ h)
end
section
variable {P:Program} {l:List Oper} {V:Nat->World->Value->Prop} {a0:Act} {w0:World}
theorem zem:Inv l.toArray V a0 w0 (Array.replicate l.toArray.size false) a0 { w0 with drawn:=w0.drawn+1 }:=by
 refine⟨by simp,Ext.drew w0,rfl,rfl,?_,fun _ _=>rfl,?_⟩
 ·intro j x _ hl;rw[getD_replicate_false] at hl;cases hl
 ·intro j x t _ hl;rw[getD_replicate_false] at hl;cases hl
theorem zgN{Q:Exit->Act->World->Prop}{id n r m:Nat}(s:Nat)(hm:P.follows .mixedOrders=true)(hno:¬LetsOut Q)(hnd:zdp l.toArray=true)(hn:a0.tmps.size=n)(hok:zb1 l.toArray n=true)
  (hs:zcs l.toArray s=true) (hseq:Region.seqB .any l.toArray (l.length-s) s (za7 l.length s)=true)
  (V:Nat->World->Value->Prop) (hV:∀i w w' v,Ext w w'->V i w v->V i w' v)
  (step:∀i o,(l.take s).toArray[i]? = some o->∀a w,Kn l.toArray V a0 w0 i a w->Step P l.toArray V Q i o a w)
  (last:∀a w,Fin_ (l.take s).toArray V a0 w0 a w->wpList P l.toArray Q (l.drop s) a w):(Code.region id l.toArray true).wpIn (Fence.wide.inRound r) m P Q a0 w0:=by
 refine zei hm hno hnd (zhn (V:=V) hok hn hs hseq hV step last l.toArray.size _ _ _ ?_ ?_ zem)
 ·simp
 ·intro j hl;rw[getD_replicate_false] at hl;cases hl
structure InvO (l:List Oper) (V:Nat->World->Value->Prop) (a0:Act) (s1:Nat) (I1 I2:World->Prop) (listed:Array Bool) (a:Act) (w:World):Prop where
 inv:Inv l.toArray V a0 w listed a w
 pre:listed.getD s1 false=false->I1 w
 post:listed.getD s1 false=true->I2 w
theorem InvO.any{s1:Nat}{I1 I2:World->Prop}{listed:Array Bool}{a:Act}{w:World}(h:InvO l V a0 s1 I1 I2 listed a w):I1 w\/I2 w:=by
 cases hl:listed.getD s1 false with
 | false=>exact .inl (h.pre hl)
 | true=>exact .inr (h.post hl)
theorem zhs{Q:Exit->Act->World->Prop}{n s s1:Nat}{I1 I2:World->Prop}(hok:zb1 l.toArray n=true)(hn:a0.tmps.size=n)(hs:zcs l.toArray s=true)(hseq:Region.seqB .any l.toArray (l.length-s) s (za7 l.length s)=true)
  (hs1:s1<s) {os:Oper} (hos:l[s1]? = some os) (hg:os.guard=none)
  (hV:∀i w w' v,Ext w w'->V i w v->V i w' v) (h1:∀w w',Ext w w'->I1 w->I1 w') (h2:∀w w',Ext w w'->I2 w->I2 w')
  (step:∀i o,(l.take s).toArray[i]? = some o->i≠s1->∀a w,Kn l.toArray V a0 w i a w->(I1 w\/I2 w)->Step P l.toArray V Q i o a w)
  (wr:∀a w,Kn l.toArray V a0 w s1 a w->I1 w->os.wp P a w (fun a' w'=>∃v,a'=a.put os.dst v/\I2 w'/\V s1 w' v/\∀i v,i≠s1->V i w v->V i w' v) Q)
  (last:∀a w,Fin_ (l.take s).toArray V a0 w a w->I2 w->wpList P l.toArray Q (l.drop s) a w):
  ∀(fuel:Nat) (listed:Array Bool) (a:Act) (w:World),listed.toList.count false=fuel->(∀j,listed.getD j false=true->j<s)->InvO l V a0 s1 I1 I2 listed a w->wpAny P .any l.toArray Q fuel listed a w:=by
 have hsn:s<l.length:=by unfold zcs at hs;simp only[Bool.and_eq_true,decide_eq_true_eq,List.size_toArray] at hs;exact hs.1.1
 have hlast:∀(listed:Array Bool) (a:Act) (w:World),(∀j,listed.getD j false=true->j<s)->InvO l V a0 s1 I1 I2 listed a w->(∀j,j<s->listed.getD j false=true)->wpAny P .any l.toArray Q (listed.toList.count false) listed a w:=by
  intro listed a w hlo h hall;have hsz:listed.size=l.length:=by rw[h.inv.lsize,List.size_toArray]
  have e:=zew hsz (by omega) hall hlo;have hc:listed.toList.count false=(l.drop s).length:=by rw[e];simp[za7,List.count_append,List.count_replicate]
  rw[hc];refine wpAny_of_seq (l.drop s) s listed a w (fun j=>by simp) (by rw[List.length_drop,e];exact hseq) (last a w ⟨Ext.refl _,h.inv.defers,h.inv.size,fun t ht=>h.inv.old t fun j x hx hd=>?_,fun j x t hx hd=>?_⟩ (h.post (hall s1 hs1)))
  ·cases hl:listed.getD j false with
   | false=>rfl
   | true =>
     have hj:=hlo j hl;exact absurd hd (ht j x (by
      have:l[j]? = some x:=by simpa using hx
      simp[hj,this]))
  ·have hx2:(l.take s)[j]? = some x:=by simpa using hx
   have hj:j<s:=by
    rcases Nat.lt_or_ge j s with h1|h1
    ·exact h1
    ·rw[List.getElem?_eq_none (by simp;omega)] at hx2;cases hx2
   rw[List.getElem?_take,if_pos hj] at hx2;exact h.inv.new j x t (by simpa using hx2) (hall j hj) hd
 intro fuel;induction fuel with
 | zero =>
   intro listed a w hc hlo h;by_cases hall:∀j,j<s->listed.getD j false=true
   ·rw[<-hc];exact hlast listed a w hlo h hall
   ·exfalso;refine hall fun j hj=>?_
    have hjs:j<listed.size:=by rw[h.inv.lsize,List.size_toArray];omega
    cases hl:listed.getD j false with
    | true=>rfl
    | false =>
      have hm:false ∈ listed.toList:=by
       have:listed[j]=false:=by simpa [hjs] using hl
       rw[<-this];simp
      have:=List.count_pos_iff.2 hm;omega
 | succ fuel ih =>
   intro listed a w hc hlo h;by_cases hall:∀j,j<s->listed.getD j false=true
   ·rw[<-hc];exact hlast listed a w hlo h hall
   ·refine⟨fun hr=>absurd (fun j hj=>zbS hok h.inv.lsize hr j (by rw[List.size_toArray];omega)) hall,fun i hi=>?_⟩;have his:i<s:=(zdQ hs h.inv hlo hi).resolve_right hall;obtain⟨hun,o,ho,_⟩:=mem_ready.1 hi;have hcs:=count_set listed i hun;have ho2:(l.take s).toArray[i]? = some o:=by
     have:l[i]? = some o:=by simpa using ho
     simp[his,this]
    have hlo2:∀j,(listed.setIfInBounds i true).getD j false=true->j<s:=fun j hl=>by
     by_cases hj:j=i
     ·omega
     ·rw[getD_set_ne false (Ne.symm hj)] at hl;exact hlo j hl
    have hli:i<listed.size:=by rw[h.inv.lsize];exact(Array.getElem?_eq_some_iff.1 ho).1
    have hun':listed.getD i false=false:=by simpa [hli] using hun
    have hat:∀ {w1:World},Inv l.toArray V a0 w listed a w1->Inv l.toArray V a0 w1 listed a w1:=fun h=>⟨h.lsize,Ext.refl _,h.defers,h.size,h.closed,h.old,h.new⟩
    by_cases hi1:i=s1
    ·subst hi1;have hoe:o=os:=by
      have:l[i]? = some o:=by simpa using ho
      rw[hos] at this;exact(Option.some.inj this).symm
     subst hoe;have hwr:=wr a w (h.inv.kn hok hn hi) (h.pre hun');have hwant:Region.wanted o (yielded l.toArray a.tmps)=true:=by simp[Region.wanted,hg]
     unfold wpOp;simp only[ho];rw[if_pos hwant];refine .inl (Oper.wp_mono (fun a' w' hh=>?_) hwr);obtain⟨v,rfl,hi2,hv,hkeep⟩:=hh;have hI:Inv l.toArray V a0 w' listed a w':=⟨h.inv.lsize,Ext.refl _,h.inv.defers,h.inv.size,h.inv.closed,h.inv.old,fun j x t hx hl hd=>hkeep _ _ (fun e=>by subst e;rw[hun'] at hl;cases hl) (h.inv.new j x t hx hl hd)⟩;refine ih _ _ _ (by omega) hlo2 ⟨hI.put hok hn hV hi ho (Ext.refl _) hv,fun hl=>?_,fun _=>hi2⟩;simp[hli] at hl
    ·have hset:(listed.setIfInBounds i true).getD s1 false=listed.getD s1 false:=getD_set_ne false hi1;have hst:=step i o ho2 hi1 a w (h.inv.kn hok hn hi) h.any;unfold wpOp;simp only[ho];unfold Step at hst;split
     ·rename_i hw;rw[if_pos hw] at hst;refine .inl (Oper.wp_mono (fun a' w' hh=>?_) hst);obtain⟨v,rfl,he,hv⟩:=hh;have hp:=h.inv.put hok hn hV hi ho he hv;exact ih _ _ _ (by omega) hlo2 ⟨⟨hp.lsize,Ext.refl _,hp.defers,hp.size,hp.closed,hp.old,hp.new⟩,fun hl=>h1 _ _ he (h.pre (by rw[<-hset];exact hl)),fun hl=>h2 _ _ he (h.post (by rw[<-hset];exact hl))⟩
     ·rename_i hw;rw[if_neg hw] at hst;have hp:=h.inv.put hok hn hV hi ho (Ext.refl _) hst;exact ih _ _ _ (by omega) hlo2 ⟨⟨hp.lsize,Ext.refl _,hp.defers,hp.size,hp.closed,hp.old,hp.new⟩,fun hl=>h.pre (by rw[<-hset];exact hl),fun hl=>h.post (by rw[<-hset];exact hl)⟩
theorem ziI{Q:Exit->Act->World->Prop}{id n r m:Nat}(s s1:Nat)(os:Oper)(I1 I2:World->Prop)(hm:P.follows .mixedOrders=true)(hno:¬LetsOut Q)(hnd:zdp l.toArray=true)(hn:a0.tmps.size=n)(hok:zb1 l.toArray n=true)
  (hs:zcs l.toArray s=true) (hseq:Region.seqB .any l.toArray (l.length-s) s (za7 l.length s)=true)
  (hs1:s1<s) (hos:l[s1]? = some os) (hg:os.guard=none)
  (V:Nat->World->Value->Prop) (hV:∀i w w' v,Ext w w'->V i w v->V i w' v) (h1:∀w w',Ext w w'->I1 w->I1 w') (h2:∀w w',Ext w w'->I2 w->I2 w') (h0:I1 w0)
  (step:∀i o,(l.take s).toArray[i]? = some o->i≠s1->∀a w,Kn l.toArray V a0 w i a w->(I1 w\/I2 w)->Step P l.toArray V Q i o a w)
  (wr:∀a w,Kn l.toArray V a0 w s1 a w->I1 w->os.wp P a w (fun a' w'=>∃v,a'=a.put os.dst v/\I2 w'/\V s1 w' v/\∀i v,i≠s1->V i w v->V i w' v) Q)
  (last:∀a w,Fin_ (l.take s).toArray V a0 w a w->I2 w->wpList P l.toArray Q (l.drop s) a w):(Code.region id l.toArray true).wpIn (Fence.wide.inRound r) m P Q a0 w0:=by
 have hi:Inv l.toArray V a0 w0 (Array.replicate l.toArray.size false) a0 { w0 with drawn:=w0.drawn+1 }:=zem;refine zei hm hno hnd (zhs (V:=V) hok hn hs hseq hs1 hos hg hV h1 h2 step wr last l.toArray.size _ _ _ ?_ ?_ ⟨⟨hi.lsize,Ext.refl _,hi.defers,hi.size,hi.closed,hi.old,hi.new⟩,fun _=>h1 _ _ (Ext.drew w0) h0,fun hl=>?_⟩)
 ·simp
 ·intro j hl;rw[getD_replicate_false] at hl;cases hl
 ·rw[getD_replicate_false] at hl;cases hl
end
end Go.Proofs.YtokbbmngfogbbaaGreatDoor.T
namespace Go.Proofs.YtokbbmngfogbbaaGreatDoor.T
open Go.RowKit Go.Shelf
attribute [local go_sem] Oper.semAt_some
set_option maxRecDepth 100000
set_option maxHeartbeats 8000000
theorem ziD(A:Option Addr)(len cap k:Nat)(w:World)(hk:1<=k):
  Calls Tryz.prog 128 #[.slice A len cap,.int .i64 k] w fun e w'=>e=.returned (.func (.func 164) #[] #[.pointer (some ⟨w.heap.size,0,none⟩),.pointer (some ⟨w.heap.size+1,0,none⟩)])/\w'=(w.alloc (.cells #[.slice A len cap] 22)).alloc (.cells #[.int .i64 k] 3):=by
 have hk2:¬((k:Int)<1):=by omega
 go_enter Tryz.func128,Tryz.ntmps128;go_wp2;go_ret;exact⟨rfl,rfl⟩
def KpC(n₀ B1 B2:Nat)(W W':World):Prop:=∀p:Addr,(p.block<n₀\/p.block=B1\/p.block=B2)->W'.cell? p=W.cell? p
theorem KpC.refl{n₀ B1 B2:Nat}(W:World):KpC n₀ B1 B2 W W:=fun _ _=>rfl
theorem zoe{n₀ B1 B2:Nat}{A B C:World}(h:KpC n₀ B1 B2 A B)(k:KpC n₀ B1 B2 B C):KpC n₀ B1 B2 A C:=fun p hp=>(k p hp).trans (h p hp)
theorem zt3{n₀ B1 B2:Nat}{w:World}(hn:n₀<=w.heap.size)(h1:B1<w.heap.size)(h2:B2<w.heap.size)(W:World)(l:Nat)(o o':Obj)(hl:w.heap.size<=l)(_:W.heap[l]? = some o)(_:o.isCells=false)(_:o.isWalk=false):KpC n₀ B1 B2 W (W.putObj l o'):=fun p hp =>
 World.cell?_of_block (w:=W) (World.putObj_heap_other (by omega))
theorem znc(n l Bs Bn n₀ b o k m c:Nat)(hn:1<=n)(hk:1<=k)(hk2:k<=16)(hm:m<=1000)(hc:k*m<=c)(J Jx:List (Fin m)->World->Prop)(B0:Nat)(hJa:AbidesFrom B0 J)
  (hY:∀(pre:List (Fin m)) (x:Fin m) W,J pre W->pre.length<m->YieldAt Fence.wide (n-1) Tryz.prog l #[.slice (some ⟨b,o+k*x.1,none⟩) k k] W fun e W' =>
    (e=.returned (.bool true)/\J (pre++[x]) W'/\KpC n₀ Bs Bn W W')\/(e=.returned (.bool false)/\Jx (pre++[x]) W'))
  (W:World) (hBs:W.cell? ⟨Bs,0,none⟩=some (.slice (some ⟨b,o,none⟩) (k*m:Nat) c)) (hBn:W.cell? ⟨Bn,0,none⟩=some (.int .i64 k)) (h0:J [] W):
  CallsIn Fence.wide n Tryz.prog 164 #[.func (.yield l) #[] #[],.pointer (some ⟨Bs,0,none⟩),.pointer (some ⟨Bn,0,none⟩)] W fun e W'=>(∃v,e=.returned v) /\
   ((∃ys,ys=List.finRange m/\J ys W')\/(∃pre,True/\Jx pre W')):=by
 refine callsIn_of_wp Tryz.func164 rfl trivial ?_ rfl;simp only[Tryz.ntmps164,List.size_toArray,List.length_cons,List.length_nil,Nat.reduceAdd,Nat.reduceSub,Array.replicate_succ,Array.replicate_zero,List.push_toArray,List.append_toArray,List.nil_append,List.cons_append]
 gi_wp2
 gi_loopw [4] (fun i wr=>∃j:Nat,j<=m/\i=.int .i64 (k*j:Nat)/\J ((List.finRange m).take j) wr/\KpC n₀ Bs Bn W wr)
  (fun i _=>k*m-(intOf i).toNat)
 case atStart=>exact⟨0,Nat.zero_le _,by simp,by simpa using h0,KpC.refl _⟩
 case round =>
  obtain⟨j,hj,rfl,hJs,hkp⟩:=hrel;have cs:=(hkp ⟨Bs,0,none⟩ (.inr (.inl rfl))).trans hBs;have cn:=(hkp ⟨Bn,0,none⟩ (.inr (.inr rfl))).trans hBn;obtain⟨L,hL⟩:∃L,k*m=L:=⟨_,rfl⟩;obtain⟨I,hI⟩:∃I,k*j=I:=⟨_,rfl⟩;rw[hL] at cs hc ⊢;rw[hI];by_cases hlt:j<m
  ·have hIL:I+k<=L:=by rw[<-hL,<-hI,<-Nat.mul_succ];exact Nat.mul_le_mul_left _ hlt
   have hL2:L<=16000:=by rw[<-hL];exact Nat.mul_le_mul hk2 hm
   have hJq:=fun q=>hJa _ _ (wr.drewN q) none hJs ⟨rfl,rfl,rfl,Nat.le_refl _,fun _ _ _=>rfl⟩ (fun r e=>by cases e)
   have HYX:=hid (fun q=>hY _ ⟨j,hlt⟩ (wr.drewN q) (hJq q) (by simp;omega));have HKP:=hid hkp;have hT:(List.finRange m).take (j+1)=(List.finRange m).take j++[⟨j,hlt⟩]:=by rw[List.take_succ_eq_append_getElem (by simpa using hlt)];simp
   have HT:=hid hT;clear hY hkp hBs hBn hJq hT
   gi_wp2
   refine wpIn_wide.2 ?_;go_quiet (fail)
   obtain⟨fn,tmps,assign,body,hy,hR⟩:=HYX.out nq;have HR:=hid hR;rw[show o+k*(⟨j,hlt⟩:Fin m).1=o+I by rw[<-hI]] at hy;clear hR
   gi_wp2
   refine HR.out.mono ?_;rintro e W3 (⟨rfl,hJ3,hk3⟩|⟨rfl,hJx3⟩)
   ·have cn3:W3.cell? ⟨Bn,0,none⟩=some (.int .i64 k):=(hk3 ⟨Bn,0,none⟩ (.inr (.inr rfl))).trans cn;have HJ3:=hid hJ3;have HK3:=hid hk3;have HI:=hid hI;have HL:=hid hL;clear hJ3 hk3 hJs hI hL
    gi_wp2
    go_roundw
    case rel=>exact⟨j+1,by omega,by rw[Nat.mul_succ,HI.out];go_num,by rw[HT.out];exact HJ3.out,zoe HKP.out HK3.out⟩
    case measure=>simp[intOf];omega
   ·have HJX:=hid hJx3;clear hJx3 hJs
    gi_wp2
    refine bodyPost_ret (results_none rfl _ _ _) rfl ?_;exact⟨⟨_,rfl⟩,.inr ⟨_,trivial,HJX.out⟩⟩
  ·obtain rfl:j=m:=by omega
   have hIL:I=L:=by rw[<-hL,<-hI]
   subst hIL;rw[List.take_of_length_le (by simp)] at hJs;have HJS:=hid hJs;clear hJs hY
   gi_wp2
   go_end0
   exact⟨⟨_,rfl⟩,.inl ⟨_,rfl,HJS.out⟩⟩
theorem zf9(n Bs Bn n₀ b o k m c:Nat)(hn:1<=n)(hk:1<=k)(hk2:k<=16)(hm:m<=1000)(hc:k*m<=c)(w:World)(h1:Bs<w.heap.size)(h2:Bn<w.heap.size)
  (hBs:w.cell? ⟨Bs,0,none⟩=some (.slice (some ⟨b,o,none⟩) (k*m:Nat) c)) (hBn:w.cell? ⟨Bn,0,none⟩=some (.int .i64 k)):
  SeqStopsK Fence.wide n Tryz.prog 164 #[.pointer (some ⟨Bs,0,none⟩),.pointer (some ⟨Bn,0,none⟩)] (fun x:Fin m=>#[Value.slice (some ⟨b,o+k*x.1,none⟩) k k]) (KpC n₀ Bs Bn) (fun ys=>ys=List.finRange m) (fun _=>True) m w :=
 fun l J Jx W hW hJ _ hY h0 =>
  znc n l Bs Bn n₀ b o k m c hn hk hk2 hm hc J Jx W.heap.size hJ hY W ((hW.cell (p:=⟨Bs,0,none⟩) h1).trans hBs) ((hW.cell (p:=⟨Bn,0,none⟩) h2).trans hBn) h0
def gW(bs:List UInt8)(m:Nat):List UInt32:=(List.range m).map fun j=>wdL bs (4*j)
theorem zcU{α:Type}(m:Nat)(f:Nat->α):(List.finRange m).map (fun j=>f j.1)=(List.range m).map f:=by
 apply List.ext_getElem
 ·simp
 ·intro i h1 h2;simp
theorem zqn(L:List UInt8):le L 4 4=((wd4 (bl L)).toNat:Int):=by
 rw[zcL (zgL L),le4];simp only[wdN,zf5];omega
def WRet(w:World)(ks:List UInt32)(e:Ending)(w':World):Prop:=∃v,e=.returned v/\OwnW w' w.heap.size v ks/\Ext w w'
theorem zoo{w:World}{B n b o j:Nat}{bs:List UInt8}(h:Rd w B (some ⟨b,o,none⟩) n bs)(hj:4*j+4<=n):∃L:List UInt8,Rd w B (some ⟨b,o+4*j,none⟩) 4 L/\wd4 (bl L)=wdL bs (4*j):=by
 obtain⟨b',o',e,hb,hc⟩:=h.at_ (by omega);cases e
 have hl:=h.len;refine⟨(bs.drop (4*j)).take 4,⟨by simp;omega,fun _=>⟨b,o+4*j,rfl,hb,fun k hk=>?_⟩⟩,?_⟩
 ·have:=hc (4*j+k) (by omega);have e2:zah ((bs.drop (4*j)).take 4) k=zah bs (4*j+k):=by unfold zah;simp[List.getD,hk]
  rw[e2,<-this];congr 2;omega
 ·unfold wdL wd4;congr 1;exact zfW 4 fun i hi=>by unfold bl;simp[List.getD,hi]
theorem zjT{W w1:World}{tmp:Obj}{v v':Value}{B n₀ B1 B2:Nat}(hgrow:(W.alloc tmp).grownBy w1 v.ownBlock)(h:∀q,(q<n₀\/q=B1\/q=B2)->q≠B/\q<W.heap.size/\some q≠v.ownBlock):KpC n₀ B1 B2 W (w1.setCell ⟨B,0,none⟩ v'):=fun p hp=>by
 obtain⟨h1,h2,h3⟩:=h p.block hp;refine World.cell?_of_block (w:=W) ?_;rw[heap_setCell_other w1 ⟨B,0,none⟩ p.block v' h1,hgrow.block p.block (by rw[World.size_alloc];omega) h3];exact Below.heap_alloc W tmp p.block h2
def GI(m:Nat)(f:Nat->UInt32)(w:World)(B:Nat)(sv:Value)(pre:List (Fin m))(W:World):Prop :=
 (∃v,Boxed W B 116 v/\OwnN .u32 133 W w.heap.size v (nW (pre.map fun j=>f j.1)))/\(Boxed W (B+1) 22 sv/\Boxed W (B+1+1) 3 (.int .i64 4))/\Below w.heap.size w W
theorem zbX{B':Nat}{W W':World}{row:Option Nat}{B:Nat}{t:TypeId}{v:Value}(h:Boxed W B t v)(hg:W.grownBy W' row)(hr:∀r,row=some r->B'<=r/\∃o:Obj,W.heap[r]? = some o/\o.isCells=false):Boxed W' B t v :=
 h.kept hg (fun e'=>by obtain⟨_,o,ho,hc⟩:=hr _ e'.symm;rw[show W.heap[B]? = _ from h] at ho;cases ho;cases hc)
theorem zeF{B' base:Nat}{W W':World}{row:Option Nat}{kd:IntKind}{e:TypeId}{v:Value}{xs:List Int}(h:OwnN kd e W base v xs)(hg:W.grownBy W' row)(hr:∀r,row=some r->B'<=r/\∃o:Obj,W.heap[r]? = some o/\o.isCells=false):OwnN kd e W' base v xs:=by
 refine World.ownsRow.kept h hg ?_;rcases h.2 with⟨rfl,_⟩|⟨g,cap,cur,rfl,_,hgb,_⟩
 ·exact .inl rfl
 ·refine .inr fun e'=>?_
  obtain⟨_,o,ho,hc⟩:=hr g (by simpa [Value.ownBlock] using e'.symm);rw[hgb] at ho;cases ho;cases hc
theorem zug{m:Nat}{f:Nat->UInt32}{w W4:World}{B:Nat}{sv:Value}(h:w.heap.size<=W4.heap.size):OwnFrom W4.heap.size (GI m f w B sv):=by
 intro s W W' row hs hg hr;obtain⟨⟨v,hv,hrow⟩,⟨h2,h3⟩,h4⟩:=hs;exact⟨⟨v,zbX hv hg hr,zeF hrow hg hr⟩,⟨zbX h2 hg hr,zbX h3 hg hr⟩,h4.grown hg h4.size (fun k e=>Nat.le_trans h (hr k e).1)⟩
theorem zpV{m:Nat}{f:Nat->UInt32}{w W4:World}{B:Nat}{sv V0:Value}(h1:Boxed W4 B 116 V0)(h2:OwnN .u32 133 W4 w.heap.size V0 [])(h3:Boxed W4 (B+1) 22 sv/\Boxed W4 (B+1+1) 3 (.int .i64 4))(h4:Below w.heap.size w W4):GI m f w B sv [] W4 :=
 ⟨⟨V0,h1,h2⟩,h3,h4⟩
theorem zo4(b o m c:Nat)(f:Nat->UInt32)(w:World)(h:∀j,j<m->∃L:List UInt8,Rd w w.heap.size (some ⟨b,o+4*j,none⟩) 4 L/\le L 4 4=((f j).toNat:Int))(hm2:m<=1000)(hc:4*m<=c):
  Calls Tryz.prog 129 #[.slice (some ⟨b,o,none⟩) (4*m:Nat) c] w (WRet w ((List.range m).map f)):=by
 obtain⟨i0,hi,hz0,hz1,hz2⟩:=info_parts Tryz.info37;have HRD:=hid h;obtain⟨L,hL⟩:∃L,4*m=L:=⟨_,rfl⟩;have hLm:(L:Int)/4=(m:Int):=by omega
 rw[hL];have HL:=hid hL;clear h hL;refine(callsIn_wide (n:=6)).1 ?_;refine callsIn_of_wp_marks Tryz.func129 rfl trivial ?_ rfl;simp only[Tryz.ntmps129,List.size_toArray,List.length_cons,List.length_nil,Nat.reduceAdd,Nat.reduceSub,Array.replicate_succ,Array.replicate_zero,List.push_toArray,List.append_toArray,List.nil_append,List.cons_append]
 gi_wp2_with (first
  | (gi_at_make;refine wpListIn_make_own _ rfl (.const (.int .i64 0)) (.tmp 9) 116 rfl w.heap.size 133 i0 (.int .u32 0) 1 Tryz.underlying116 hi hz0 hz1 .i64 .i64 m m rfl rfl rfl (by rw[hz2];omega) (by unfold maxLen;omega) (Nat.le_refl _) ?_;intro w1 hown1 hg1;have HO:=hid hown1;have HG:=hid hg1;clear hown1 hg1)
  | (refine⟨trivial,?_⟩;gi_at_call 128;refine(callsIn_wide.2 (ziD _ _ _ 4 _ (by omega))).mono ?_;rintro e w' ⟨rfl,rfl⟩))
 have hB1:Below w.heap.size w w1:=(Below.refl _ _).grown HG.out (Nat.le_refl _) (fun k e=>by cases e);have hsz:=hB1.size;obtain⟨V0,hV0⟩:∃V0,Value.slice (some ⟨w.heap.size,0,none⟩) 0 m=V0:=⟨_,rfl⟩;have HO0:=hid (show w1.ownsRow w.heap.size 133 1 V0 0 [] by rw[<-hV0];exact HO.out);obtain⟨sv,hsv⟩:∃sv,Value.slice (some ⟨b,o,none⟩) (L:Nat) c=sv:=⟨_,rfl⟩;have bO:=Boxed.new w1 116 V0;have bS:=Boxed.new (w1.alloc (.cells #[V0] 116)) 22 sv;have bN:=Boxed.new ((w1.alloc (.cells #[V0] 116)).alloc (.cells #[sv] 22)) 3 (.int .i64 4);rw[World.size_alloc] at bS bN;rw[World.size_alloc] at bN;rw[hV0,hsv];obtain⟨W4,hW4⟩:∃W4,((w1.alloc (.cells #[V0] 116)).alloc (.cells #[sv] 22)).alloc (.cells #[.int .i64 4] 3)=W4:=⟨_,rfl⟩;have hs4:W4.heap.size=w1.heap.size+3:=by rw[<-hW4];simp
 have bO4:Boxed W4 w1.heap.size 116 V0:=by rw[<-hW4];exact(bO.alloc _).alloc _
 have bS4:Boxed W4 (w1.heap.size+1) 22 sv:=by rw[<-hW4];exact bS.alloc _
 have bN4:Boxed W4 (w1.heap.size+1+1) 3 (.int .i64 4):=by rw[<-hW4];exact bN
 have hB4:Below w.heap.size w W4:=by rw[<-hW4];exact((hB1.alloc (by omega) _).alloc (by simp;omega) _).alloc (by simp;omega) _
 have hO4:W4.ownsRow w.heap.size 133 1 V0 0 []:=by rw[<-hW4];exact((HO0.out.alloc _).alloc _).alloc _
 rw[hW4];have HB4:=hid hB4;have HBX:=hid (And.intro bO4 (And.intro bS4 bN4));have HO4:=hid hO4;have HS4:=hid hs4;obtain⟨B,hBe⟩:∃B,w1.heap.size=B:=⟨_,rfl⟩;rw[hBe] at bO4 bS4 bN4 hs4 hsz HBX ⊢;clear hW4 bO bS bN hB1 HO HG HO0 hBe HS4;have hmc:4*m<=c:=hc;have hcs:W4.cell? ⟨B+1,0,none⟩=some (.slice (some ⟨b,o,none⟩) (4*m:Nat) c):=by rw[HL.out,hsv];exact bS4.cell
 have hcn:=bN4.cell;have hq1:B+1<W4.heap.size:=by omega
 have hq2:B+1+1<W4.heap.size:=by omega
 have hq3:w.heap.size<=W4.heap.size:=by omega
 have hseq:=zf9 (6-1) (B+1) (B+1+1) w.heap.size b o 4 m c (by omega) (by omega) (by omega) hm2 hmc W4 hq1 hq2 hcs hcn;have hown:=@zug m f w W4 B sv hq3;have hI0:=@zpV m f w W4 B sv V0 HBX.out.1 HO4.out HBX.out.2 HB4.out;have hkb:=@zt3 w.heap.size (B+1) (B+1+1) W4 hq3 hq1 hq2;refine wpIn_rangeFunc_ownG (Kp:=KpC w.heap.size (B+1) (B+1+1)) rfl (by omega) (gf:=164) (lb:=#[.pointer (some ⟨B+1,0,none⟩),.pointer (some ⟨B+1+1,0,none⟩)]) rfl trivial (enters_of Tryz.func164 (by kernel_rfl) rfl)
  hseq zoe hkb (Below.refl _ _) (fun _=>rfl) (GI m f w B sv) (fun _ _ _=>False) hown (fun _ _ _ _ _ hs _ _=>hs) hI0
  (fun x=>{ tmps:=#[sv,undef,.slice none 0 0,.pointer (some ⟨B,0,none⟩),.slice (some ⟨b,o+4*x.1,none⟩) 4 4,undef,undef,sv,.int .i64 L,.int .i64 m,V0,sv,.func (.func 164) #[] #[.pointer (some ⟨B+1,0,none⟩),.pointer (some ⟨B+1+1,0,none⟩)],.slice (some ⟨b,o+4*x.1,none⟩) 4 4,undef,undef,undef,undef,undef,undef,undef,undef,undef,undef],defers:=[] }) ?assign ?body ?done ?stop
 case assign =>
  intro l x W K hK
  gi_wp2
  exact hK
 case body =>
  intro l pre x W hIW hlt;obtain⟨⟨v,hv,hrow⟩,⟨hbs,hbn⟩,hB⟩:=hIW;obtain⟨L4,hrd,hle⟩:=HRD.out x.1 x.2;have hrdW:=hrd.later (show Ext w W from hB);have hc:=hv.cell;have hle2:zj0 L4 4=((f x.1).toNat:Int):=by unfold zj0;rw[if_pos rfl];exact hle
  have hWs:=hB.size;obtain⟨xs,hxs⟩:∃xs,nW (pre.map fun j=>f j.1)=xs:=⟨_,rfl⟩;have hxl:xs.length=pre.length:=by rw[<-hxs];simp[nW]
  rw[hxs] at hrow;have hnx:nW ((pre++[x]).map fun j=>f j.1)=xs++[((f x.1).toNat:Int)]:=by rw[List.map_append,zaK,hxs];rfl
  obtain⟨y,hy⟩:∃y,f x.1=y:=⟨_,rfl⟩;rw[hy] at hle2 hnx;have HNX:=hid hnx;have HRW:=hid hrdW;have HLE:=hid hle2;have HBS:=hid hbs;have HBN:=hid hbn;have HBB:=hid hB;have hrow2:W.ownsRow w.heap.size 133 1 v xs.length (cN .u32 xs):=hrow;have hxm:xs.length+1<=1000:=by omega
  clear hle hle2 hnx hxs hy hrd hrdW hbs hbn hB hlt hxl
  gi_wp2_with (first
   | (refine⟨trivial,?_⟩;gi_at_call 165;refine(CallsIn.inRound l (callsIn_wide.2 (zh1 _ 4 _ _ L4 _ HRW.out (by omega)))).mono ?_;rintro e w' ⟨rfl,rfl⟩;rw[HLE.out])
   | (gi_at_builtin;refine wpListIn_append_own _ rfl _ _ 116 rfl w.heap.size 133 i0 (.int .u32 0) 1 4 Tryz.underlying116 hi hz0 hz1 hz2 rfl (by decide) _ _ _ rfl (hrow2.alloc _) ⟨W.heap.size,0,none⟩ 1 1 [.int .u32 (y.toNat:Nat)] rfl rfl (cell_one_new _ _ _) (by simp[Value.oneCell']) (by unfold maxLen;omega) (by omega) (by simp;omega) ?_;intro v' w1 hown' hgrow _;obtain⟨g',cap',rfl⟩:=ownsRow_succ hown';obtain⟨hv1,hv2,hr2,hk2,hb2⟩:=hv.appended (by decide) hrow2 hWs hsz hown' hgrow;have hc1:=hv1.cell;have hf1:=hv1.frozen))
  have hnr:∀ {q t u},Boxed W q t u->t≠133->some q≠v.ownBlock:=fun hb ht=>hb.not_row ht hrow2
  refine⟨hk2.from _,zjT hgrow (fun q hq=>?_),⟨⟨_,hv2,?_⟩,⟨?_,?_⟩,HBB.out.trans hb2⟩⟩
  ·rcases hq with hq|rfl|rfl
   ·refine⟨by omega,by omega,fun e=>?_⟩;have:=(World.ownsRow.lt hrow2 q e.symm).1;omega
   ·exact⟨by omega,HBS.out.lt,hnr HBS.out (by decide)⟩
   ·exact⟨by omega,HBN.out.lt,hnr HBN.out (by decide)⟩
  ·rw[HNX.out];unfold OwnN;rw[List.length_append,zcI];exact hr2
  ·exact((HBS.out.alloc _).kept hgrow (hnr HBS.out (by decide))).other (by omega) _
  ·exact((HBN.out.alloc _).kept hgrow (hnr HBN.out (by decide))).other (by omega) _
 case done =>
  rintro D ys W hD rfl hIW hK;obtain⟨⟨v,hv,hrow⟩,_,hB⟩:=hIW;have hc:=hv.cell
  gi_wp2
  refine⟨by simp,.inl ⟨_,_,rfl,run_takeDeferred hK,?_⟩⟩;rw[zcU m f] at hrow;exact⟨_,results_tmp rfl _ _ _,v,rfl,ownsRow_putObj hrow _ hK rfl,hB.trans (belowK_b (w:=w) (Nat.le_refl _) W D _ _ (by omega) hK rfl rfl)⟩
 case stop =>rintro D c pre W _ _ h _;exact h.elim
theorem zfD(b o m c:Nat)(bs:List UInt8)(w:World)(h:Rd w w.heap.size (some ⟨b,o,none⟩) (4*m) bs)(hm2:m<=1000)(hc:4*m<=c):
  Calls Tryz.prog 129 #[.slice (some ⟨b,o,none⟩) (4*m:Nat) c] w (WRet w (gW bs m)) :=
 zo4 b o m c (fun j=>wdL bs (4*j)) w (fun j hj=>by obtain⟨L,h1,h2⟩:=zoo (j:=j) h (by omega);exact⟨L,h1,by rw[zqn,h2]⟩) hm2 hc
end Go.Proofs.YtokbbmngfogbbaaGreatDoor.T
namespace Go.Proofs.YtokbbmngfogbbaaGreatDoor.T
open Go.RowKit
set_option maxRecDepth 100000
set_option maxHeartbeats 8000000
theorem zqJ(b:UInt32):(2*(b.toNat:Int))%4294967296=((2*b:UInt32).toNat:Int):=by
 rw[UInt32.toNat_mul,show(2:UInt32).toNat=2 from rfl];omega
theorem zku(k:Nat)(_h:k<64):((k:Int)*16843009)=((UInt32.ofNat k*0x01010101:UInt32).toNat:Int):=by
 rw[UInt32.toNat_mul,UInt32.toNat_ofNat',show(0x01010101:UInt32).toNat=16843009 from rfl];omega
theorem zoB(w:World)(a b:UInt32):RdN .u32 (w.alloc (.cells #[.int .u32 (a.toNat:Nat),.int .u32 (b.toNat:Nat)] 133)) (w.alloc (.cells #[.int .u32 (a.toNat:Nat),.int .u32 (b.toNat:Nat)] 133)).heap.size (some ⟨w.heap.size,0,none⟩) 2 (nW [a,b]):=by
 have h:=OwnN.lit (kd:=.u32) (e:=133) w (nW [a,b]) #[.int .u32 (a.toNat:Nat),.int .u32 (b.toNat:Nat)] 2 w.heap.size rfl rfl (by unfold maxLen;omega) (Nat.le_refl _);obtain⟨A,c,e,hr,_⟩:=OwnN.rdn h rfl;cases e
 exact hr
theorem zo3(A1 A2:Option Addr)(n c1 c2:Nat)(ev od:List UInt32)(w:World)(hG:GT w)(h1:RdN .u32 w w.heap.size A1 n (nW ev))(h2:RdN .u32 w w.heap.size A2 n (nW od))(hn2:2<=n)(hn4:n<=4):
  Calls Tryz.prog 132 #[.slice A1 n c1,.slice A2 n c2] w (WRet w (kL ev od 20)):=by
 obtain⟨i0,hi,hz0,hz1,hz2⟩:=info_parts Tryz.info37;have HG:=hid hG;have H1:=hid h1;have H2:=hid h2;clear hG h1 h2;go_enter Tryz.func132,Tryz.ntmps132;go_wp2_with (refine wpList_make_own _ rfl (.const (.int .i64 0)) (.const (.int .i64 40)) 116 rfl w.heap.size 133 i0 (.int .u32 0) 1 Tryz.underlying116 hi hz0 hz1 .i64 .i64 40 40 rfl rfl rfl (by rw[hz2];omega) (by unfold maxLen;omega) (Nat.le_refl _) ?_;intro w1 hown1 hg1)
 have HB1:=hid (show Ext w w1 from(Below.refl _ _).grown hg1 (Nat.le_refl _) (fun k e=>by cases e));have HO1:=hid (show OwnW w1 w.heap.size (.slice (some ⟨w.heap.size,0,none⟩) 0 40) (kL ev od 0) from hown1);clear hown1 hg1;go_loopw [5,6] (fun v i wr=>∃k:Nat,k<=20/\i=.int .u32 (2*k:Nat)/\OwnW wr w.heap.size v (kL ev od k)/\Ext w wr) (fun _ i _=>40-(intOf i).toNat)
 case atStart=>exact⟨0,by omega,rfl,HO1.out,HB1.out⟩
 case round =>
  obtain⟨k,hk,rfl,hown,hx⟩:=hrel;by_cases hlt:k<20
  ·have hd:((2*k:Nat):Int)<40:=by omega
   have e1:=zku (2*k) (by omega);have e2:=zku (2*k+1) (by omega);have HA:=hid (fun w hG hl=>zo1 (UInt32.ofNat (2*k)*0x01010101) ev A1 n c1 w hG hl hn2 hn4);have HBB:=hid (fun w hG hl=>zo1 (UInt32.ofNat (2*k+1)*0x01010101) od A2 n c2 w hG hl hn2 hn4);have hkA:HW (UInt32.ofNat (2*k)*0x01010101) ev=kA ev k:=rfl;have hkB:rolI (HW (UInt32.ofNat (2*k+1)*0x01010101) od) 8=kB od k:=rfl;have HKB:=hid hkB;obtain⟨T,hT⟩:∃T,HW (UInt32.ofNat (2*k+1)*0x01010101) od=T:=⟨_,rfl⟩;rw[hT] at HBB HKB;rw[hkA] at HA;obtain⟨X1,hX1⟩:∃X1,UInt32.ofNat (2*k)*0x01010101=X1:=⟨_,rfl⟩;obtain⟨X2,hX2⟩:∃X2,UInt32.ofNat (2*k+1)*0x01010101=X2:=⟨_,rfl⟩;rw[hX1] at e1 HA;rw[hX2] at e2 HBB;have HST:=hid (show kL ev od (k+1)=kL ev od k++[kA ev k+kB od k,rolI (kA ev k+2*kB od k) 9] by rw[kL]);obtain⟨a,ha⟩:∃a,kA ev k=a:=⟨_,rfl⟩;obtain⟨b,hb⟩:∃b,kB od k=b:=⟨_,rfl⟩;rw[ha] at HA HST;rw[hb] at HKB HST;have e3:=zcd a b
   have e4:=zqJ b;have e5:=zcd a (2*b);obtain⟨d,hd2⟩:∃d,2*b=d:=⟨_,rfl⟩;rw[hd2] at e4 e5 HST;obtain⟨r1,hr1⟩:∃r1,a+b=r1:=⟨_,rfl⟩;obtain⟨p,hp⟩:∃p,a+d=p:=⟨_,rfl⟩;rw[hr1] at e3 HST;rw[hp] at e5 HST;have ld:=wlt d;have la:=wlt a;have lb:=wlt b;have hkl:=zdH ev od k;have HX:=hid hx;have HO:=hid hown;obtain⟨q,hq⟩:∃q,2*k=q:=⟨_,rfl⟩;have hq38:q<=38:=by omega
   rw[hq] at e1 e2 hd hkl ⊢;rw[show((q+1:Nat):Int)=(q:Int)+1 by omega] at e2;have HQ:=hid hq;clear hr1 hp hd2 hkA hkB hT hX1 hX2 ha hb hx hown hq;go_wp2_with fail
   refine(HA.out _ (HG.out.later HX.out) (H1.out.later HX.out)).mono ?_;rintro e w2 ⟨rfl,hx2⟩;have HX2:=hid (Ext.trans HX.out hx2);have HO2:=hid (OwnN.kept HO.out hx2);clear hx2 e1;go_wp2_with fail
   refine(HBB.out _ (HG.out.later HX2.out) (H2.out.later HX2.out)).mono ?_;rintro e w3 ⟨rfl,hx3⟩;have HX3:=hid (Ext.trans HX2.out hx3);have HO3:=hid (OwnN.kept HO2.out hx3);clear hx3 e2;go_wp2_with fail
   refine(zeP T 8 _).mono ?_;rintro e w' ⟨rfl,rfl⟩;rw[HKB.out];go_wp2_with fail
   refine(zeP p 9 _).mono ?_;rintro e w' ⟨rfl,rfl⟩;obtain⟨r2,hr2⟩:∃r2,rolI p 9=r2:=⟨_,rfl⟩;rw[hr2] at HST ⊢;clear hr2;have HLT:=hid (zoB w3 r1 r2);have hsz3:=Below.size HX3.out;go_wp2_with (refine zaw _ rfl (.tmp 24) (.tmp 33) 116 rfl Tryz.underlying116 4 Tryz.info37 w.heap.size _ _ rfl (OwnN.kept HO3.out (Ext.alloc _ _)) _ _ 2 2 _ rfl HLT.out (by rw[zac,hkl];omega) (by rw[zac,hkl];unfold maxLen;omega) (by simp;omega) ?_;intro v' w4 hown4 hb4)
   have HO5:=hid (show OwnW w4 w.heap.size v' (kL ev od (k+1)) by
    rw[HST.out];unfold OwnW;rw[zaK];exact hown4)
   have HX5:=hid (show Ext w w4 from((show Below w.heap.size w w3 from HX3.out).alloc (by omega) _).trans hb4);clear hown4 hb4;go_wp2_with fail
   exact⟨⟨k+1,by omega,by have:=HQ.out;go_num,HO5.out,HX5.out⟩,by have:=HQ.out;simp[intOf];omega⟩
  ·obtain rfl:k=20:=by omega
   have HX:=hid hx;have HO:=hid hown;clear hx hown;go_wp2_with fail
   go_ret;exact⟨_,rfl,HO.out,HX.out⟩
theorem zbM{a b c:World}{g:Nat}(h:a.grownBy b (some g))(k:b.grownBy c (some g)):a.grownBy c (some g) :=
 ⟨k.os.trans h.os,k.tape.trans h.tape,k.output.trans h.output,Nat.le_trans h.size k.size,fun i hi hne=>(k.block i (Nat.lt_of_lt_of_le hi h.size) hne).trans (h.block i hi hne)⟩
theorem ze8{a b:World}{g:Option Nat}(h:a.grownBy b g):a.grownBy b.drew g:=⟨h.os,h.tape,h.output,h.size,h.block⟩
def revS(n:Nat)(ks:List UInt32):Nat->List UInt32
 | 0=>ks
 | i+1=>((revS n ks i).set i ((revS n ks i).getD (n-1-i) 0)).set (n-1-i) ((revS n ks i).getD i 0)
theorem zfL(n:Nat)(ks:List UInt32):∀i,(revS n ks i).length=ks.length
 | 0=>rfl
 | i+1=>by simp[revS,zfL n ks i]
theorem zn9(n:Nat)(ks:List UInt32)(h:ks.length=n)(h2:2<=n)(h4:n<=4):revS n ks (n/2)=ks.reverse:=by
 rcases (show n=2\/n=3\/n=4 by omega) with rfl|rfl|rfl
 ·match ks,h with
  | [a,b],_=>rfl
 ·match ks,h with
  | [a,b,c],_=>rfl
 ·match ks,h with
  | [a,b,c,d],_=>rfl
theorem zm1(g c n base:Nat)(ks:List UInt32)(w:World)(hb:OwnW w base (.slice (some ⟨g,0,none⟩) n c) ks)(hl:ks.length=n)(h2:2<=n)(h4:n<=4):
  Calls Tryz.prog 131 #[.slice (some ⟨g,0,none⟩) n c] w fun e w'=>e=.returned (.tuple #[])/\OwnW w' base (.slice (some ⟨g,0,none⟩) n c) ks.reverse/\w.grownBy w' (some g):=by
 have HB:=hid hb;clear hb;go_enter Tryz.func131,Tryz.ntmps131;go_wp2_with fail
 go_loopw [2,3] (fun i j wr=>∃k:Nat,k<=n/2/\i=.int .i64 k/\j=.int .i64 ((n:Int)-1-k)/\OwnW wr base (.slice (some ⟨g,0,none⟩) n c) (revS n ks k)/\w.grownBy wr (some g)) (fun i _ _=>4-(intOf i).toNat)
 case atStart=>exact⟨0,by omega,rfl,by simp,HB.out,⟨rfl,rfl,rfl,Nat.le_refl _,fun _ _ _=>rfl⟩⟩
 case round =>
  obtain⟨k,hk,rfl,rfl,hb,hg⟩:=hrel;have hlen:=zfL n ks k;rw[hl] at hlen;by_cases hlt:k<n/2
  ·have hc1:=OwnN.celln hb (by rw[zac];exact hlen) k (by omega);have hc2:=OwnN.celln hb (by rw[zac];exact hlen) (n-1-k) (by omega);have hf1:=OwnN.free hb k;have hf2:=OwnN.free hb (n-1-k);rw[zfs _ _ (by omega)] at hc1 hc2;obtain⟨x,hx⟩:∃x,(revS n ks k).getD k 0=x:=⟨_,rfl⟩;obtain⟨y,hy⟩:∃y,(revS n ks k).getD (n-1-k) 0=y:=⟨_,rfl⟩;have hst:revS n ks (k+1)=((revS n ks k).set k y).set (n-1-k) x:=by rw[revS,hx,hy]
   have hbn:=OwnW.set_ (OwnW.set_ hb hlen k y) (by rw[List.length_set];exact hlen) (n-1-k) x;rw[<-hst] at hbn;rw[hx] at hc1;rw[hy] at hc2;have HBN:=hid hbn;have HG:=hid hg;obtain⟨m,hm⟩:∃m,n-1-k=m:=⟨_,rfl⟩;rw[hm] at hc2 hf2 HBN;rw[show(n:Int)-1-(k:Int)=(m:Int) by omega];have HM:=hid hm;have hkm:(k:Int)<(m:Int):=by omega
   have hne:¬k=m:=by omega
   have hne2:¬m=k:=by omega
   have hk8:k<n:=by omega
   have hm8:m<n:=by omega
   clear hb hg hx hy hst hbn hlen hm;go_wp2_with fail
   go_region;go_wp2_with fail
   go_roundw
   case rel=>exact⟨k+1,by omega,by go_num,by have:=HM.out;go_num,HBN.out,(ze8 (zbM (zbM HG.out (zaz _ _ _ _)) (zaz _ _ _ _)))⟩
   case measure=>simp[intOf];omega
  ·obtain rfl:k=n/2:=by omega
   rw[zn9 n ks hl h2 h4] at hb;have HH:=hid (And.intro hb hg);have hnk:¬(((n/2:Nat):Int)<(n:Int)-1-((n/2:Nat):Int)):=by omega
   clear hb hg;go_wp2_with fail
   exact bodyPost_end (results_none rfl _ _ _) rfl ⟨rfl,HH.out.1,HH.out.2⟩
end Go.Proofs.YtokbbmngfogbbaaGreatDoor.T
namespace Go.Proofs.YtokbbmngfogbbaaGreatDoor.T
open Go.RowKit Go.Shelf
set_option maxRecDepth 100000
set_option maxHeartbeats 8000000
theorem zov{w:World}{base:Nat}{v:Value}{xs:List Int}{y:Int}{t c:Nat}(ty:TypeId)(hown:OwnN .u32 133 w base v xs)(hn:xs.length<=1000)(hy:w.cell? ⟨t,0,none⟩=some (.int .u32 y))(hb:base<=w.heap.size):
  ∃v' w',(Builtin.append_ #[116,116] ty #[v,.slice (some ⟨t,0,none⟩) 1 c]).run Tryz.prog w=.ok v' w'/\OwnN .u32 133 w' base v' (xs++[y])/\w.grownBy w' v.ownBlock /\
   (v'.ownBlock=v.ownBlock\/∃g,v'.ownBlock=some g/\w.heap.size<=g)/\∃g cap,v' = .slice (some ⟨g,0,none⟩) (xs.length+1) cap:=by
 obtain⟨i0,hi,hz0,hz1,hz2⟩:=info_parts Tryz.info37;have hnews:∀j u,[Value.int .u32 y][j]? = some u->w.cell? ((⟨t,0,none⟩:Addr).add j)=some u:=by
  intro j u hu
  match j,hu with
  | 0,hu=>rw[zd2];simp only[List.getElem?_cons_zero,Option.some.injEq] at hu;rw[hy,hu]
 have h1:∀u ∈ [Value.int .u32 y],u.oneCell'=true:=by simp[Value.oneCell']
 have hmax:xs.length+1<=maxLen:=by unfold maxLen;omega
 have hby:(xs.length+1)*4<=140737488355328:=by omega
 obtain⟨v',w',hrun,r1,r2,_⟩:=run_append_own (P:=Tryz.prog) w base 116 ty 133 i0 (.int .u32 0) 1 4 Tryz.underlying116 hi hz0 hz1 hz2 rfl (by decide) v xs.length (cN .u32 xs) hown ⟨t,0,none⟩ 1 c [.int .u32 y] rfl hnews h1 hmax hby hb;have hO:OwnN .u32 133 w' base v' (xs++[y]):=by unfold OwnN;rw[List.length_append,zcI];exact r1
 refine⟨v',w',hrun,hO,r2,?_,ownsRow_succ r1⟩;rcases hown.2 with⟨rfl,hx0⟩|⟨g,cap,cur,rfl,hbg,hg,hnc,hcm,hcs,htake⟩
 ·right;have hx:xs = []:=List.eq_nil_of_length_eq_zero hx0;subst hx;obtain⟨v2,w2,hrun2,q1,_,_⟩:=run_append_own (P:=Tryz.prog) w w.heap.size 116 ty 133 i0 (.int .u32 0) 1 4 Tryz.underlying116 hi hz0 hz1 hz2 rfl (by decide) (.slice none 0 0) 0 [] (World.ownsRow_nil w _ 133 1) ⟨t,0,none⟩ 1 c [.int .u32 y] rfl hnews h1 (by unfold maxLen;omega) (by omega) (Nat.le_refl _);have e:=hrun.symm.trans hrun2;simp only[Result.ok.injEq] at e;obtain⟨rfl,rfl⟩:=e;obtain⟨g,cap,rfl⟩:=ownsRow_succ q1;exact⟨g,rfl,(World.ownsRow.lt q1 _ rfl).1⟩
 ·by_cases hroom:xs.length+1<=cap
  ·left;have hfit:xs.length*i0.size + [Value.int .u32 y].length<=cur.size:=by rw[hz1,hcs];simp;omega
   have hr:=run_append_room (P:=Tryz.prog) w 116 ty 133 i0 Tryz.underlying116 hi g xs.length cap cur hg ⟨t,0,none⟩ 1 c [.int .u32 y] (by rw[hz1];rfl) hnews h1 hroom hfit;have e:=hrun.symm.trans hr;simp only[Result.ok.injEq] at e;rw[e.1];rfl
  ·right;obtain⟨v2,w2,hrun2,q1,_⟩:=run_append_arg_grows (P:=Tryz.prog) w 116 ty 133 i0 (.int .u32 0) 1 4 Tryz.underlying116 hi hz0 hz1 hz2 rfl (by decide) ⟨g,0,none⟩ xs.length cap (cN .u32 xs) (by rw[zaH];omega) (fun j u hu=>World.ownsRow.cells hown (g:=g) rfl j u hu) ⟨t,0,none⟩ 1 c [.int .u32 y] rfl hnews (by omega) hmax hby;have e:=hrun.symm.trans hrun2;simp only[Result.ok.injEq] at e;obtain⟨rfl,rfl⟩:=e;obtain⟨g2,cap2,rfl⟩:=ownsRow_succ q1;exact⟨g2,rfl,(World.ownsRow.lt q1 _ rfl).1⟩
theorem zdT{w:World}{ops:Array Oper}{rest:List Oper}{o:Oper}{a:Act}{Q:Exit->Act->World->Prop}(hgd:o.guard=none)(s x:Operand)
  (ho:o.op=.call { callee:=.builtin .append,args:=#[s,x],argTypes:=#[116,116] })
  {base:Nat} {v:Value} {xs:List Int} {y:Int} {t c:Nat} (hs:a.eval s=v) (hown:OwnN .u32 133 w base v xs) (hx:a.eval x=.slice (some ⟨t,0,none⟩) 1 c) (hn:xs.length<=1000) (hy:w.cell? ⟨t,0,none⟩=some (.int .u32 y)) (hb:base<=w.heap.size)
  (h:∀g cap w',OwnN .u32 133 w' base (.slice (some ⟨g,0,none⟩) (xs.length+1) cap) (xs++[y])->w.grownBy w' v.ownBlock->(some g=v.ownBlock\/w.heap.size<=g)->wpList Tryz.prog ops Q rest (a.put o.dst (.slice (some ⟨g,0,none⟩) (xs.length+1) cap)) w'):
  wpList Tryz.prog ops Q (o::rest) a w:=by
 obtain⟨v',w',hrun,r1,r2,r3,g,cap,rfl⟩:=zov (c:=c) o.type hown hn hy hb;refine wpList_plain hgd fun K hK'=>?_
 unfold Oper.wp;simp[execOp,ho,resolve,invoke,builtin,hs,hx,hrun,Result.andThen];exact hK' _ _ (h g cap w' r1 r2 (by
  rcases r3 with e|⟨g2,e,hle⟩
  ·exact .inl e
  ·simp only[Value.ownBlock,Option.some.injEq] at e;exact .inr (by omega)))
theorem ztv{w:World}{o:Oper}{a:Act}{K:Act->World->Prop}{Q:Exit->Act->World->Prop}(s x:Operand)
  (ho:o.op=.call { callee:=.builtin .append,args:=#[s,x],argTypes:=#[116,116] })
  {base:Nat} {v:Value} {xs:List Int} {y:Int} {t c:Nat} (hs:a.eval s=v) (hown:OwnN .u32 133 w base v xs) (hx:a.eval x=.slice (some ⟨t,0,none⟩) 1 c) (hn:xs.length<=1000) (hy:w.cell? ⟨t,0,none⟩=some (.int .u32 y)) (hb:base<=w.heap.size)
  (h:∀g cap w',OwnN .u32 133 w' base (.slice (some ⟨g,0,none⟩) (xs.length+1) cap) (xs++[y])->w.grownBy w' v.ownBlock->(some g=v.ownBlock\/w.heap.size<=g)->K (a.put o.dst (.slice (some ⟨g,0,none⟩) (xs.length+1) cap)) w'):
  o.wp Tryz.prog a w K Q:=by
 obtain⟨v',w',hrun,r1,r2,r3,g,cap,rfl⟩:=zov (c:=c) o.type hown hn hy hb;unfold Oper.wp;simp[execOp,ho,resolve,invoke,builtin,hs,hx,hrun,Result.andThen];exact h g cap w' r1 r2 (by
  rcases r3 with e|⟨g2,e,hle⟩
  ·exact .inl e
  ·simp only[Value.ownBlock,Option.some.injEq] at e;exact .inr (by omega))
structure Fr (X:Nat->Prop) (W w:World):Prop where
 os:w.os=W.os
 tape:w.tape=W.tape
 output:w.output=W.output
 size:W.heap.size<=w.heap.size
 block:∀q,q<W.heap.size->¬X q->w.heap[q]? = W.heap[q]?
section
variable {X:Nat->Prop} {W w w':World}
theorem Fr.refl:Fr X W W:=⟨rfl,rfl,rfl,Nat.le_refl _,fun _ _ _=>rfl⟩
theorem Fr.ext(h:Fr X W w)(hx:Ext w w'):Fr X W w' :=
 ⟨hx.os.trans h.os,hx.tape.trans h.tape,hx.output.trans h.output,Nat.le_trans h.size (Below.size hx),fun q hq hX=>(hx.block q (by have:=h.size;omega)).trans (h.block q hq hX)⟩
theorem Fr.grown(h:Fr X W w){row:Option Nat}(hg:w.grownBy w' row)(hr:∀r,row=some r->X r\/W.heap.size<=r):Fr X W w' :=
 ⟨hg.os.trans h.os,hg.tape.trans h.tape,hg.output.trans h.output,Nat.le_trans h.size hg.size,fun q hq hX=>(hg.block q (by have:=h.size;omega) (fun e=>by rcases hr q e.symm with h1|h1;exact hX h1;omega)).trans (h.block q hq hX)⟩
theorem Fr.set(h:Fr X W w){p:Addr}(hp:X p.block)(v:Value):Fr X W (w.setCell p v) :=
 ⟨h.os,h.tape,h.output,by simpa using h.size,fun q hq hX=>(heap_setCell_other w p q v (fun e=>hX (by rw[e];exact hp))).trans (h.block q hq hX)⟩
theorem Fr.boxed(h:Fr X W w){B:Nat}{t:TypeId}{v:Value}(hb:Boxed W B t v)(hX:¬X B):Boxed w B t v:=(h.block B hb.lt hX).trans hb
theorem Fr.own(h:Fr X W w){kd:IntKind}{e:TypeId}{base:Nat}{v:Value}{xs:List Int}(ho:OwnN kd e W base v xs)(hX:∀q,v.ownBlock=some q->¬X q):OwnN kd e w base v xs:=by
 refine⟨ho.1,?_⟩;rcases ho.2 with hn|⟨g,cap,cur,rfl,hbg,hh,r⟩
 ·exact .inl hn
 ·exact .inr ⟨g,cap,cur,rfl,hbg,(h.block g (Array.getElem?_eq_some_iff.1 hh).1 (hX g rfl)).trans hh,r⟩
theorem Fr.below(h:Fr X W w){B:Nat}{w0:World}(hb:Below B w0 W)(hB:B<=W.heap.size)(hX:∀q,X q->B<=q):Below B w0 w :=
 ⟨h.os.trans hb.os,h.tape.trans hb.tape,h.output.trans hb.output,Nat.le_trans hb.size h.size,fun q hq =>
  (h.block q (by omega) (fun hx=>by have:=hX q hx;omega)).trans (hb.block q hq)⟩
end
def Apart(a b:Value):Prop:=∀q,a.ownBlock=some q->b.ownBlock≠some q
theorem Apart.symm{a b:Value}(h:Apart a b):Apart b a:=fun q hq e=>h q e hq
theorem Apart.new{a b:Value}{g n c N:Nat}(h:Apart a b)(hg:some g=a.ownBlock\/N<=g)(hb:∀q,b.ownBlock=some q->q<N):Apart (.slice (some ⟨g,0,none⟩) n c) b:=fun q hq e=>by
 simp only[Value.ownBlock,Option.some.injEq] at hq;subst hq;rcases hg with hg|hg
 ·exact h _ hg.symm e
 ·have:=hb _ e;omega
theorem _root_.Go.Proofs.YtokbbmngfogbbaaGreatDoor.OwnN.lt{kd:IntKind}{e:TypeId}{w:World}{base:Nat}{v:Value}{xs:List Int}(h:OwnN kd e w base v xs):∀q,v.ownBlock=some q->base<=q/\q<w.heap.size:=World.ownsRow.lt h
theorem _root_.Go.Proofs.YtokbbmngfogbbaaGreatDoor.OwnN.grown{kd:IntKind}{e:TypeId}{w w':World}{base:Nat}{v u:Value}{xs:List Int}(h:OwnN kd e w base v xs)(hg:w.grownBy w' u.ownBlock)(ha:Apart v u):OwnN kd e w' base v xs:=by
 refine World.ownsRow.kept h hg ?_;cases hv:v.ownBlock with
 | none=>exact .inl rfl
 | some q=>exact .inr (fun e=>ha q hv e.symm)
theorem _root_.Go.Proofs.YtokbbmngfogbbaaGreatDoor.OwnN.setBox{kd:IntKind}{e:TypeId}{w:World}{base B:Nat}{v u t:Value}{ty:TypeId}{xs:List Int}(h:OwnN kd e w base v xs)(hb:Boxed w B ty t)(hne:ty≠e):OwnN kd e (w.setCell ⟨B,0,none⟩ u) base v xs :=
 World.ownsRow.kept h (grownBy_setCell' w B u) (.inr (hb.not_row hne h).symm)
end Go.Proofs.YtokbbmngfogbbaaGreatDoor.T
namespace Go.Proofs.YtokbbmngfogbbaaGreatDoor.T
open Go.RowKit Go.Shelf
attribute [local go_sem] Oper.semAt_some
set_option maxRecDepth 100000
set_option maxHeartbeats 8000000
theorem zgf(x:Int)(w:World):(Instr.buildSlice 116 1 #[(0,.int .u32 x)]).run Tryz.prog w=.ok (.slice (some ⟨w.heap.size,0,none⟩) 1 1) (w.alloc (.cells #[.int .u32 x] 133)):=by go_simp
theorem cf26(vs:Array Value)(w:World):(callFunc 130 vs).run Tryz.prog w=.ok (.enter 130 vs) w:=by go_simp
theorem cf28(vs:Array Value)(w:World):(callFunc 132 vs).run Tryz.prog w=.ok (.enter 132 vs) w:=by go_simp
def OneW(N:Nat)(x:Int)(w:World)(v:Value):Prop:=∃t,v=.slice (some ⟨t,0,none⟩) 1 1/\N<=t/\w.cell? ⟨t,0,none⟩=some (.int .u32 x)
theorem OneW.keep(N:Nat)(x:Int):∀w w' v,Ext w w'->OneW N x w v->OneW N x w' v:=fun _ _ _ hx ⟨t,h1,h2,h3⟩=>⟨t,h1,h2,zan hx h3⟩
def AppP(base N:Nat)(v0:Value)(xs:List Int)(x:Int)(w:World)(v:Value):Prop:=∃g cap,v=.slice (some ⟨g,0,none⟩) (xs.length+1) cap/\(some g=v0.ownBlock\/N<=g)/\OwnN .u32 133 w base (.slice (some ⟨g,0,none⟩) (xs.length+1) cap) (xs++[x])
theorem AppP.keep(base N:Nat)(v0:Value)(xs:List Int)(x:Int):∀w w' v,Ext w w'->AppP base N v0 xs x w v->AppP base N v0 xs x w' v:=fun _ _ _ hx ⟨g,cap,h1,h2,h3⟩=>⟨g,cap,h1,h2,h3.kept hx⟩
def WP(base:Nat)(ks:List UInt32)(w:World)(v:Value):Prop:=∃u,v=u/\OwnW w base u ks
theorem WP.keep(base:Nat)(ks:List UInt32):∀w w' v,Ext w w'->WP base ks w v->WP base ks w' v:=fun _ _ _ hx ⟨u,h1,h2⟩=>⟨u,h1,OwnN.kept h2 hx⟩
theorem zfK{kd:IntKind}{e:TypeId}{w:World}{b1 b2:Nat}{v:Value}{xs:List Int}(h:OwnN kd e w b1 v xs)(hb:b2<=b1):OwnN kd e w b2 v xs :=
 ⟨h.1,h.2.imp id fun⟨g,cap,cur,h1,h2,h3⟩=>⟨g,cap,cur,h1,by omega,h3⟩⟩
theorem retW{w:World}{ks:List UInt32}{H:Nat}(hH:H<=w.heap.size)(e:Ending)(w':World)(h:WRet w ks e w'):∃v,e=.returned v/\Ext w w'/\K.holds (.gen (WP H ks) (WP.keep _ _)) w' v:=by
 obtain⟨v,rfl,ho,hb⟩:=h;exact⟨v,rfl,hb,v,rfl,zfK ho hH⟩
def KRet(w:World)(ks ss:List UInt32)(e:Ending)(w':World):Prop:=∃v1 v2,e=.returned (.tuple #[v1,v2,.int .i64 0])/\OwnW w' w.heap.size v1 ks/\OwnW w' w.heap.size v2 ss/\Ext w w'
def XR(a b:Value)(q:Nat):Prop:=a.ownBlock=some q\/b.ownBlock=some q
structure I2K (X:Nat->Prop) (W:World) (gb:Nat) (x0 x1:UInt32) (base:Nat) (vo:Value) (xo:List Int) (w:World):Prop where
 fr:Fr X W w
 c0:w.cell? ⟨gb,0,none⟩=some (.int .u32 (x0.toNat:Nat))
 c1:w.cell? ⟨gb,1,none⟩=some (.int .u32 (x1.toNat:Nat))
 own:OwnN .u32 133 w base vo xo
structure I1K (X:Nat->Prop) (W:World) (gb:Nat) (x0 x1:UInt32) (base:Nat) (ve:Value) (xe:List Int) (vo:Value) (xo:List Int) (w:World):Prop where
 i2:I2K X W gb x0 x1 base vo xo w
 own:OwnN .u32 133 w base ve xe
section
variable {X:Nat->Prop} {W w w':World} {gb base:Nat} {x0 x1:UInt32} {ve vo:Value} {xe xo:List Int}
theorem I2K.ext(hx:Ext w w')(h:I2K X W gb x0 x1 base vo xo w):I2K X W gb x0 x1 base vo xo w':=⟨h.fr.ext hx,zan hx h.c0,zan hx h.c1,h.own.kept hx⟩
theorem I1K.ext(hx:Ext w w')(h:I1K X W gb x0 x1 base ve xe vo xo w):I1K X W gb x0 x1 base ve xe vo xo w':=⟨h.i2.ext hx,h.own.kept hx⟩
theorem I1K.write(h:I1K X W gb x0 x1 base ve xe vo xo w)(hg:w.grownBy w' ve.ownBlock)(hX:∀q,ve.ownBlock=some q->X q)(hgb:W.heap.size<=gb)(hlt:∀q,ve.ownBlock=some q->q<W.heap.size)(ha:Apart ve vo):I2K X W gb x0 x1 base vo xo w' :=
 ⟨h.i2.fr.grown hg (fun r e=>.inl (hX r e)),hg.cell h.i2.c0 (fun e=>by have:=hlt gb e.symm;omega),hg.cell h.i2.c1 (fun e=>by have:=hlt gb e.symm;omega),h.i2.own.grown hg ha.symm⟩
end
def k10(w W:World)(gb cb:Nat)(x0 x1:UInt32)(ve vo:Value)(xe:List Int):List K:=[.eq (ve),.eq (.slice (some ⟨gb,0,none⟩) 2 cb),.eq (.pointer (some ⟨gb,0,none⟩)),.eq (.int .u32 (x0.toNat:Nat)),.gen (OneW W.heap.size (x0.toNat:Nat)) (OneW.keep _ _),.gen (AppP w.heap.size W.heap.size ve xe (x0.toNat:Nat)) (AppP.keep _ _ _ _ _),.eq (vo),.eq (.slice (some ⟨gb,0,none⟩) 2 cb),.eq (.pointer (some ⟨gb,1,none⟩)),.eq (.int .u32 (x1.toNat:Nat)),.gen (OneW W.heap.size (x1.toNat:Nat)) (OneW.keep _ _),.any,.any,.any]
theorem zpv{w W w1 w2:World}{gb cb:Nat}{x0 x1:UInt32}{ve vo:Value}{xe:List Int}(hg:w1.grownBy w2 ve.ownBlock)(hlt:∀q,ve.ownBlock=some q->q<W.heap.size)(i:Nat)(v:Value)(hne:i≠5)(hv:kV (k10 w W gb cb x0 x1 ve vo xe) i w1 v):kV (k10 w W gb cb x0 x1 ve vo xe) i w2 v:=by
 have one:∀x:Int,OneW W.heap.size x w1 v->OneW W.heap.size x w2 v:=fun x ⟨t,h1,h2,h3⟩=>⟨t,h1,h2,hg.cell h3 (fun e=>by have:=hlt t e.symm;omega)⟩
 match i,hne,hv with
 | 0,_,hv=>exact hv
 | 1,_,hv=>exact hv
 | 2,_,hv=>exact hv
 | 3,_,hv=>exact hv
 | 4,_,hv=>exact one _ hv
 | 5,h,_=>exact absurd rfl h
 | 6,_,hv=>exact hv
 | 7,_,hv=>exact hv
 | 8,_,hv=>exact hv
 | 9,_,hv=>exact hv
 | 10,_,hv=>exact one _ hv
 | 11,_,_=>trivial
 | 12,_,_=>trivial
 | 13,_,_=>trivial
 | _+14,_,_=>trivial
def YR(a b:Value)(S:Nat)(q:Nat):Prop:=XR a b q\/q=S+1\/q=S+1+1
structure A10 (W w6:World) (base S:Nat) (ve vo v25 v31 vs:Value) (xe xo xv:List Int):Prop where
 fr:Fr (YR ve vo S) W w6
 be:Boxed w6 (S+1) 116 v25
 oe:OwnN .u32 133 w6 base v25 xe
 bo:Boxed w6 (S+1+1) 116 v31
 oo:OwnN .u32 133 w6 base v31 xo
 bs:Boxed w6 S 116 vs
 os:OwnN .u32 133 w6 base vs xv
 eo:Apart v25 v31
 es:Apart v25 vs
 ov:Apart v31 vs
theorem zdn{w w':World}{B:Nat}{t:TypeId}{v:Value}(h:Boxed w B t v)(hx:Ext w w'):Boxed w' B t v:=(hx.block B h.lt).trans h
theorem A10.ext{W w6 w7:World}{base S:Nat}{ve vo v25 v31 vs:Value}{xe xo xv:List Int}(h:A10 W w6 base S ve vo v25 v31 vs xe xo xv)(hx:Ext w6 w7):A10 W w7 base S ve vo v25 v31 vs xe xo xv :=
 ⟨h.fr.ext hx,zdn h.be hx,h.oe.kept hx,zdn h.bo hx,h.oo.kept hx,zdn h.bs hx,h.os.kept hx,h.eo,h.es,h.ov⟩
theorem zpF{W w3 w4:World}{base S g25 n25 c25 g31 n31 c31:Nat}{ve vo vs sv k8:Value}{xe xo xv ye yo:List Int}(hfr:Fr (XR ve vo) W w3)
  (hbx:Boxed W (S+1) 116 ve/\Boxed W (S+1+1) 116 vo/\Boxed W S 116 vs/\Boxed W (S+1+1+1) 22 sv/\Boxed W (S+1+1+1+1) 3 k8)
  (hov:OwnN .u32 133 W base ve xe/\OwnN .u32 133 W base vo xo/\OwnN .u32 133 W base vs xv) (hap:Apart ve vo) (haps:Apart ve vs/\Apart vo vs)
  (o25:OwnN .u32 133 w3 base (.slice (some ⟨g25,0,none⟩) n25 c25) ye) (h25:some g25=ve.ownBlock\/W.heap.size<=g25)
  (o31:OwnN .u32 133 w4 base (.slice (some ⟨g31,0,none⟩) n31 c31) yo) (hgr:w3.grownBy w4 vo.ownBlock) (h31:some g31=vo.ownBlock\/w3.heap.size<=g31) (h3:W.heap.size<=w3.heap.size) (_hN:base<=W.heap.size)
  (be4:Boxed w4 (S+1) 116 ve) (bo4:Boxed w4 (S+1+1) 116 vo):
  A10 W ((w4.setCell ⟨S+1,0,none⟩ (.slice (some ⟨g25,0,none⟩) n25 c25)).setCell ⟨S+1+1,0,none⟩ (.slice (some ⟨g31,0,none⟩) n31 c31)) base S ve vo (.slice (some ⟨g25,0,none⟩) n25 c25) (.slice (some ⟨g31,0,none⟩) n31 c31) vs ye yo xv:=by
 obtain⟨ove,ovo,ovs⟩:=hov;have lo:=fun q h=>(ovo.lt q h).2
 have lv:=fun q h=>(ovs.lt q h).2
 have a25o:Apart (.slice (some ⟨g25,0,none⟩) n25 c25) vo:=hap.new h25 lo;have a25v:Apart (.slice (some ⟨g25,0,none⟩) n25 c25) vs:=haps.1.new h25 lv;have a31v:Apart (.slice (some ⟨g31,0,none⟩) n31 c31) vs:=haps.2.new (h31.imp id (fun h=>Nat.le_trans h3 h)) lv;have a31e:Apart (.slice (some ⟨g31,0,none⟩) n31 c31) (.slice (some ⟨g25,0,none⟩) n25 c25):=a25o.symm.new h31 (fun q h=>(o25.lt q h).2);have o25':=o25.grown hgr a25o;have bo5:Boxed (w4.setCell ⟨S+1,0,none⟩ (.slice (some ⟨g25,0,none⟩) n25 c25)) (S+1+1) 116 vo:=bo4.other (by omega) _;have fr4:Fr (YR ve vo S) W w4 :=
  (show Fr (YR ve vo S) W w3 from⟨hfr.os,hfr.tape,hfr.output,hfr.size,fun q hq h=>hfr.block q hq (fun h'=>h (.inl h'))⟩).grown hgr (fun r e=>.inl (.inl (.inr e)))
 have fr6:=(fr4.set (p:=⟨S+1,0,none⟩) (.inr (.inl rfl)) (.slice (some ⟨g25,0,none⟩) n25 c25)).set (p:=⟨S+1+1,0,none⟩) (.inr (.inr rfl)) (.slice (some ⟨g31,0,none⟩) n31 c31);refine⟨fr6,(be4.set _).other (by omega) _,(o25'.setBox be4 (by decide)).setBox bo5 (by decide),bo5.set _,(o31.setBox be4 (by decide)).setBox bo5 (by decide),?_,?_,a31e.symm,a25v,a31v⟩
 ·refine fr6.boxed hbx.2.2.1 (fun h=>?_);rcases h with(h|h) | h|h
  ·exact hbx.2.2.1.not_row (by decide) ove h.symm
  ·exact hbx.2.2.1.not_row (by decide) ovo h.symm
  ·omega
  ·omega
 ·refine fr6.own ovs (fun q hq h=>?_);rcases h with(h|h) | rfl|rfl
  ·exact haps.1 q h hq
  ·exact haps.2 q h hq
  ·exact hbx.1.not_row (by decide) ovs hq.symm
  ·exact hbx.2.1.not_row (by decide) ovs hq.symm
def k11(b o:Nat)(xs2:UInt32)(vs:Value):List K:=[.eq (vs),.eq (.slice (some ⟨b,o,none⟩) 8 8),.eq (.int .u32 (xs2.toNat:Nat)),.gen (OneW 0 (xs2.toNat:Nat)) (OneW.keep _ _),.any,.any]
def KI(m:Nat)(fe fo fs:Nat->UInt32)(w:World)(S:Nat)(sv:Value)(pre:List (Fin m))(W:World):Prop :=
 ∃ve vo vs,(Boxed W (S+1) 116 ve/\OwnN .u32 133 W w.heap.size ve (nW (pre.map fun j=>fe j.1)))/\(Boxed W (S+1+1) 116 vo/\OwnN .u32 133 W w.heap.size vo (nW (pre.map fun j=>fo j.1))) /\
  (Boxed W S 116 vs/\OwnN .u32 133 W w.heap.size vs (nW (pre.map fun j=>fs j.1)))/\(Apart ve vo/\Apart ve vs/\Apart vo vs)/\(Boxed W (S+1+1+1) 22 sv/\Boxed W (S+1+1+1+1) 3 (.int .i64 8))/\Below w.heap.size w W
theorem zur{m:Nat}{fe fo fs:Nat->UInt32}{w W4:World}{S:Nat}{sv:Value}(h:w.heap.size<=W4.heap.size):OwnFrom W4.heap.size (KI m fe fo fs w S sv):=by
 intro s W W' row hs hg hr;obtain⟨ve,vo,vs,⟨a1,a2⟩,⟨b1,b2⟩,⟨c1,c2⟩,ap,⟨d1,d2⟩,hB⟩:=hs;exact⟨ve,vo,vs,⟨zbX a1 hg hr,zeF a2 hg hr⟩,⟨zbX b1 hg hr,zeF b2 hg hr⟩,⟨zbX c1 hg hr,zeF c2 hg hr⟩,ap,⟨zbX d1 hg hr,zbX d2 hg hr⟩,hB.grown hg hB.size (fun k e=>Nat.le_trans h (hr k e).1)⟩
theorem zrn{W:World}{base S:Nat}{ve vo vs sv k8:Value}{xe xo xv:List Int}(_hbx:Boxed W (S+1) 116 ve/\Boxed W (S+1+1) 116 vo/\Boxed W S 116 vs/\Boxed W (S+1+1+1) 22 sv/\Boxed W (S+1+1+1+1) 3 k8)
  (hov:OwnN .u32 133 W base ve xe/\OwnN .u32 133 W base vo xo/\OwnN .u32 133 W base vs xv) (_hN:base<=W.heap.size) (hS:base=S):∀q,YR ve vo S q->base<=q:=by
 intro q h;rcases h with(h|h) | h|h
 ·exact(hov.1.lt q h).1
 ·exact(hov.2.1.lt q h).1
 ·omega
 ·omega
theorem zep{kd:IntKind}{e:TypeId}{W:World}{base q:Nat}{v:Value}{xs:List Int}{ob:Obj}(h:OwnN kd e W base v xs)(hq:v.ownBlock=some q)(ho:W.heap[q]? = some ob)(hc:ob.isCells=false):False:=by
 rcases h.2 with⟨rfl,_⟩|⟨g,cap,cur,rfl,_,hgb,_⟩
 ·cases hq
 ·simp only[Value.ownBlock,Option.some.injEq] at hq;subst hq;rw[hgb] at ho;cases ho;cases hc
theorem zdb{W:World}{B:Nat}{t:TypeId}{v:Value}{ob:Obj}(h:Boxed W B t v)(ho:W.heap[B]? = some ob)(hc:ob.isCells=false):False:=by
 rw[show W.heap[B]? = _ from h] at ho;cases ho;cases hc
theorem znH{W w7 w8 w0:World}{S g36 n36 c36:Nat}{ve vo v25 v31 vs sv:Value}{xe xo xv ye yo yv:List Int}(hA:A10 W w7 w0.heap.size S ve vo v25 v31 vs ye yo xv)
  (hbx:Boxed W (S+1) 116 ve/\Boxed W (S+1+1) 116 vo/\Boxed W S 116 vs/\Boxed W (S+1+1+1) 22 sv/\Boxed W (S+1+1+1+1) 3 (.int .i64 8))
  (hov:OwnN .u32 133 W w0.heap.size ve xe/\OwnN .u32 133 W w0.heap.size vo xo/\OwnN .u32 133 W w0.heap.size vs xv) (_haps:Apart ve vs/\Apart vo vs) (hB:Below w0.heap.size w0 W) (hS:w0.heap.size=S) (hN:w0.heap.size<=W.heap.size)
  (o36:OwnN .u32 133 w8 w0.heap.size (.slice (some ⟨g36,0,none⟩) n36 c36) yv) (hgr:w7.grownBy w8 vs.ownBlock) (h36:some g36=vs.ownBlock\/w7.heap.size<=g36) (bs8:Boxed w8 S 116 vs) (B4:Nat):
  KeepsFrom B4 W (w8.setCell ⟨S,0,none⟩ (.slice (some ⟨g36,0,none⟩) n36 c36))/\KpC w0.heap.size (S+1+1+1) (S+1+1+1+1) W (w8.setCell ⟨S,0,none⟩ (.slice (some ⟨g36,0,none⟩) n36 c36)) /\
   ∃ve vo vs,(Boxed (w8.setCell ⟨S,0,none⟩ (.slice (some ⟨g36,0,none⟩) n36 c36)) (S+1) 116 ve/\OwnN .u32 133 (w8.setCell ⟨S,0,none⟩ (.slice (some ⟨g36,0,none⟩) n36 c36)) w0.heap.size ve ye)/\(Boxed (w8.setCell ⟨S,0,none⟩ (.slice (some ⟨g36,0,none⟩) n36 c36)) (S+1+1) 116 vo/\OwnN .u32 133 (w8.setCell ⟨S,0,none⟩ (.slice (some ⟨g36,0,none⟩) n36 c36)) w0.heap.size vo yo) /\
    (Boxed (w8.setCell ⟨S,0,none⟩ (.slice (some ⟨g36,0,none⟩) n36 c36)) S 116 vs/\OwnN .u32 133 (w8.setCell ⟨S,0,none⟩ (.slice (some ⟨g36,0,none⟩) n36 c36)) w0.heap.size vs yv)/\(Apart ve vo/\Apart ve vs/\Apart vo vs)/\(Boxed (w8.setCell ⟨S,0,none⟩ (.slice (some ⟨g36,0,none⟩) n36 c36)) (S+1+1+1) 22 sv/\Boxed (w8.setCell ⟨S,0,none⟩ (.slice (some ⟨g36,0,none⟩) n36 c36)) (S+1+1+1+1) 3 (.int .i64 8))/\Below w0.heap.size w0 (w8.setCell ⟨S,0,none⟩ (.slice (some ⟨g36,0,none⟩) n36 c36)):=by
 obtain⟨b1,b2,b3,b4,b5⟩:=hbx;obtain⟨ove,ovo,ovs⟩:=hov
 let Z:Nat->Prop:=fun q=>(YR ve vo S q\/vs.ownBlock=some q)\/q=S
 have f7:Fr Z W w7:=⟨hA.fr.os,hA.fr.tape,hA.fr.output,hA.fr.size,fun q hq h=>hA.fr.block q hq (fun h'=>h (.inl (.inl h')))⟩;have f8:Fr Z W w8:=f7.grown hgr (fun r e=>.inl (.inl (.inr e)));have f9:Fr Z W (w8.setCell ⟨S,0,none⟩ (.slice (some ⟨g36,0,none⟩) n36 c36)):=f8.set (p:=⟨S,0,none⟩) (.inr rfl) _;have zb:∀q,Z q->w0.heap.size<=q:=by
  intro q h;rcases h with(((h|h) | h|h) | h) | h
  ·exact(ove.lt q h).1
  ·exact(ovo.lt q h).1
  ·omega
  ·omega
  ·exact(ovs.lt q h).1
  ·omega
 have zn:∀q t u,Boxed W q t u->t≠133->q≠S->q≠S+1->q≠S+1+1->¬Z q:=by
  intro q t u hb ht n1 n2 n3 h;rcases h with(((h|h) | h|h) | h) | h
  ·exact hb.not_row ht ove h.symm
  ·exact hb.not_row ht ovo h.symm
  ·exact n2 h
  ·exact n3 h
  ·exact hb.not_row ht ovs h.symm
  ·exact n1 h
 have zc:∀q ob,W.heap[q]? = some ob->ob.isCells=false->¬Z q:=by
  intro q ob ho hc h;rcases h with(((h|h) | h|h) | h) | h
  ·exact zep ove h ho hc
  ·exact zep ovo h ho hc
  ·subst h;exact zdb b1 ho hc
  ·subst h;exact zdb b2 ho hc
  ·exact zep ovs h ho hc
  ·subst h;exact zdb b3 ho hc
 have z3:=zn _ _ _ b4 (by decide) (by omega) (by omega) (by omega);have z4:=zn _ _ _ b5 (by decide) (by omega) (by omega) (by omega);have lt7:∀ {v:Value} {xs:List Int},OwnN .u32 133 w7 w0.heap.size v xs->∀q,v.ownBlock=some q->q<w7.heap.size:=fun h q hq=>(h.lt q hq).2
 have e8:Apart (.slice (some ⟨g36,0,none⟩) n36 c36) v25:=hA.es.symm.new h36 (lt7 hA.oe);have o8:Apart (.slice (some ⟨g36,0,none⟩) n36 c36) v31:=hA.ov.symm.new h36 (lt7 hA.oo);have be8:=hA.be.kept hgr (hA.be.not_row (by decide) hA.os);have bo8:=hA.bo.kept hgr (hA.bo.not_row (by decide) hA.os);refine⟨⟨f9.size,fun k ob _ h0 hc=>(f9.block k (Array.getElem?_eq_some_iff.1 h0).1 (zc k ob h0 hc)).trans h0⟩,fun p hp=>?_,
  v25,v31,_,⟨be8.other (by omega) _,(hA.oe.grown hgr hA.es).setBox bs8 (by decide)⟩,⟨bo8.other (by omega) _,(hA.oo.grown hgr hA.ov).setBox bs8 (by decide)⟩,
  ⟨bs8.set _,o36.setBox bs8 (by decide)⟩,⟨hA.eo,e8.symm,o8.symm⟩,⟨f9.boxed b4 z3,f9.boxed b5 z4⟩,f9.below hB hN zb⟩
 rcases hp with hp|hp|hp
 ·exact World.cell?_of_block (w:=W) (f9.block p.block (by omega) (fun h=>by have:=zb _ h;omega))
 ·exact World.cell?_of_block (w:=W) (by rw[hp];exact f9.block _ b4.lt z3)
 ·exact World.cell?_of_block (w:=W) (by rw[hp];exact f9.block _ b5.lt z4)
def k13(m S gs c1 c2 cs:Nat)(A1 A2:Option Addr)(ev od:List UInt32):List K:=[.eq (.slice A1 m c1),.eq (.slice A2 m c2),.gen (WP S (kL ev od 20)) (WP.keep _ _),.eq (.slice (some ⟨gs,0,none⟩) m cs),.gen (WP S (kL ev od 20)) (WP.keep _ _),.any,.any]
theorem ztL(b o m n c:Nat)(fe fo fs:Nat->UInt32)(w:World)(hG:GT w)(hm:m=2\/m=3\/m=4)(hnm:n=8*m)(hc:n<=c)
  (hga:∀j,j<m->∀W,Ext w W->Calls Tryz.prog 129 #[.slice (some ⟨b,o+8*j,none⟩) 8 8] W (WRet W [fe j,fo j]))
  (hsh:∀j,j<m->∀W,Ext w W->Calls Tryz.prog 130 #[.slice (some ⟨b,o+8*j,none⟩) 8 8] W fun e w'=>e=.returned (.int .u32 ((fs j).toNat:Nat))/\Ext W w'):
  Calls Tryz.prog 88 #[.slice (some ⟨b,o,none⟩) n c] w (KRet w (kL ((List.range m).map fe) ((List.range m).map fo) 20) ((List.range m).map fs).reverse):=by
 refine(callsIn_wide (n:=9)).1 ?_;refine callsIn_of_wp_marks Tryz.func88 rfl trivial ?_ rfl;simp only[Tryz.ntmps88,List.size_toArray,List.length_cons,List.length_nil,Nat.reduceAdd,Nat.reduceSub,Array.replicate_succ,Array.replicate_zero,List.push_toArray,List.append_toArray,List.nil_append,List.cons_append];have HGA:=hid hga;have HSH:=hid hsh;clear hga hsh
 replace hm:(m=2/\n=16)\/(m=3/\n=24)\/(m=4/\n=32):=by omega
 rcases hm with⟨hm,rfl⟩|⟨hm,rfl⟩|⟨hm,rfl⟩
 all_goals
  gi_wp2_with (first
   | (refine⟨trivial,?_⟩;gi_at_call 128;refine(callsIn_wide.2 (ziD _ _ _ 8 _ (by omega))).mono ?_;rintro e w' ⟨rfl,rfl⟩))
  first
   | (obtain⟨sv,hsv⟩:∃sv,Value.slice (some ⟨b,o,none⟩) 16 c=sv:=⟨_,rfl⟩;rw[hsv])
   | (obtain⟨sv,hsv⟩:∃sv,Value.slice (some ⟨b,o,none⟩) 24 c=sv:=⟨_,rfl⟩;rw[hsv])
   | (obtain⟨sv,hsv⟩:∃sv,Value.slice (some ⟨b,o,none⟩) 32 c=sv:=⟨_,rfl⟩;rw[hsv])
  have b0:=Boxed.new w 116 (.slice none 0 0);have b1:=Boxed.new (w.alloc (.cells #[.slice none 0 0] 116)) 116 (.slice none 0 0);have b2:=Boxed.new ((w.alloc (.cells #[.slice none 0 0] 116)).alloc (.cells #[.slice none 0 0] 116)) 116 (.slice none 0 0);have b3:=Boxed.new (((w.alloc (.cells #[.slice none 0 0] 116)).alloc (.cells #[.slice none 0 0] 116)).alloc (.cells #[.slice none 0 0] 116)) 22 sv;have b4:=Boxed.new ((((w.alloc (.cells #[.slice none 0 0] 116)).alloc (.cells #[.slice none 0 0] 116)).alloc (.cells #[.slice none 0 0] 116)).alloc (.cells #[sv] 22)) 3 (.int .i64 8);simp only[World.size_alloc] at b1 b2 b3 b4;obtain⟨W4,hW4⟩:∃W4,((((w.alloc (.cells #[.slice none 0 0] 116)).alloc (.cells #[.slice none 0 0] 116)).alloc (.cells #[.slice none 0 0] 116)).alloc (.cells #[sv] 22)).alloc (.cells #[.int .i64 8] 3)=W4:=⟨_,rfl⟩;have hs4:W4.heap.size=w.heap.size+5:=by rw[<-hW4];simp
  have c0:Boxed W4 w.heap.size 116 (.slice none 0 0):=by rw[<-hW4];exact(((b0.alloc _).alloc _).alloc _).alloc _
  have c1:Boxed W4 (w.heap.size+1) 116 (.slice none 0 0):=by rw[<-hW4];exact((b1.alloc _).alloc _).alloc _
  have c2:Boxed W4 (w.heap.size+1+1) 116 (.slice none 0 0):=by rw[<-hW4];exact(b2.alloc _).alloc _
  have c3:Boxed W4 (w.heap.size+1+1+1) 22 sv:=by rw[<-hW4];exact b3.alloc _
  have c4:Boxed W4 (w.heap.size+1+1+1+1) 3 (.int .i64 8):=by rw[<-hW4];exact b4
  have hB4:Below w.heap.size w W4:=by rw[<-hW4];exact(((((Below.refl _ w).alloc (Nat.le_refl _) _).alloc (by simp) _).alloc (by simp;omega) _).alloc (by simp;omega) _).alloc (by simp;omega) _
  rw[hW4];obtain⟨S,hS⟩:∃S,w.heap.size=S:=⟨_,rfl⟩;rw[hS] at c0 c1 c2 c3 c4 hs4 ⊢;have HB4:=hid hB4;have HCC:=hid (And.intro c0 (And.intro c1 (And.intro c2 (And.intro c3 c4))));have HS:=hid hS;clear hW4 b0 b1 b2 b3 b4 c0 c1 c2 hB4;have hcs:W4.cell? ⟨S+1+1+1,0,none⟩=some (.slice (some ⟨b,o,none⟩) (8*m:Nat) c):=by rw[c3.cell,<-hsv,hnm]
  have hcn:=c4.cell;have hq1:S+1+1+1<W4.heap.size:=by omega
  have hq2:S+1+1+1+1<W4.heap.size:=by omega
  have hq3:w.heap.size<=W4.heap.size:=by omega
  have hseq:=zf9 (9-1) (S+1+1+1) (S+1+1+1+1) w.heap.size b o 8 m c (by omega) (by omega) (by omega) (by omega) (by omega) W4 hq1 hq2 hcs hcn;have hown:=@zur m fe fo fs w W4 S sv hq3;have hI0:KI m fe fo fs w S sv [] W4:=⟨_,_,_,⟨HCC.out.2.1,World.ownsRow_nil _ _ _ _⟩,⟨HCC.out.2.2.1,World.ownsRow_nil _ _ _ _⟩,⟨HCC.out.1,World.ownsRow_nil _ _ _ _⟩,⟨(fun q h=>by cases h),(fun q h=>by cases h),(fun q h=>by cases h)⟩,HCC.out.2.2.2,HB4.out⟩;have hkb:=@zt3 w.heap.size (S+1+1+1) (S+1+1+1+1) W4 hq3 hq1 hq2;clear hcs hcn c3 c4;first
   | (have hz:m=2:=by omega
      clear hz;refine wpIn_rangeFunc_ownG (Kp:=KpC w.heap.size (S+1+1+1) (S+1+1+1+1)) rfl (by omega) (gf:=164) (lb:=#[.pointer (some ⟨S+1+1+1,0,none⟩),.pointer (some ⟨S+1+1+1+1,0,none⟩)]) rfl trivial (enters_of Tryz.func164 (by kernel_rfl) rfl)
       hseq zoe hkb (Below.refl _ _) (fun _=>rfl) (KI m fe fo fs w S sv) (fun _ _ _=>False) hown (fun _ _ _ _ _ hs _ _=>hs) hI0
       (fun x=>{ tmps:=#[sv,undef,.slice none 0 0,.pointer (some ⟨S,0,none⟩),.int .i64 0,.pointer (some ⟨S+1,0,none⟩),.pointer (some ⟨S+1+1,0,none⟩),.slice (some ⟨b,o+8*x.1,none⟩) 8 8,undef,sv,.int .i64 16,.bool true,.bool true,undef,undef,sv,.func (.func 164) #[] #[.pointer (some ⟨S+1+1+1,0,none⟩),.pointer (some ⟨S+1+1+1+1,0,none⟩)],.slice (some ⟨b,o+8*x.1,none⟩) 8 8,undef,undef,undef,undef,undef,undef,undef,undef,undef,undef,undef,undef,undef,undef,undef,undef,undef,undef,undef,undef,undef,undef,undef,undef,undef],defers:=[] }) ?assign ?body ?done ?stop)
   | (have hz:m=3:=by omega
      clear hz;refine wpIn_rangeFunc_ownG (Kp:=KpC w.heap.size (S+1+1+1) (S+1+1+1+1)) rfl (by omega) (gf:=164) (lb:=#[.pointer (some ⟨S+1+1+1,0,none⟩),.pointer (some ⟨S+1+1+1+1,0,none⟩)]) rfl trivial (enters_of Tryz.func164 (by kernel_rfl) rfl)
       hseq zoe hkb (Below.refl _ _) (fun _=>rfl) (KI m fe fo fs w S sv) (fun _ _ _=>False) hown (fun _ _ _ _ _ hs _ _=>hs) hI0
       (fun x=>{ tmps:=#[sv,undef,.slice none 0 0,.pointer (some ⟨S,0,none⟩),.int .i64 0,.pointer (some ⟨S+1,0,none⟩),.pointer (some ⟨S+1+1,0,none⟩),.slice (some ⟨b,o+8*x.1,none⟩) 8 8,undef,sv,.int .i64 24,.bool true,.bool false,.bool true,undef,sv,.func (.func 164) #[] #[.pointer (some ⟨S+1+1+1,0,none⟩),.pointer (some ⟨S+1+1+1+1,0,none⟩)],.slice (some ⟨b,o+8*x.1,none⟩) 8 8,undef,undef,undef,undef,undef,undef,undef,undef,undef,undef,undef,undef,undef,undef,undef,undef,undef,undef,undef,undef,undef,undef,undef,undef,undef],defers:=[] }) ?assign ?body ?done ?stop)
   | (have hz:m=4:=by omega
      clear hz;refine wpIn_rangeFunc_ownG (Kp:=KpC w.heap.size (S+1+1+1) (S+1+1+1+1)) rfl (by omega) (gf:=164) (lb:=#[.pointer (some ⟨S+1+1+1,0,none⟩),.pointer (some ⟨S+1+1+1+1,0,none⟩)]) rfl trivial (enters_of Tryz.func164 (by kernel_rfl) rfl)
       hseq zoe hkb (Below.refl _ _) (fun _=>rfl) (KI m fe fo fs w S sv) (fun _ _ _=>False) hown (fun _ _ _ _ _ hs _ _=>hs) hI0
       (fun x=>{ tmps:=#[sv,undef,.slice none 0 0,.pointer (some ⟨S,0,none⟩),.int .i64 0,.pointer (some ⟨S+1,0,none⟩),.pointer (some ⟨S+1+1,0,none⟩),.slice (some ⟨b,o+8*x.1,none⟩) 8 8,undef,sv,.int .i64 32,.bool true,.bool false,.bool false,.bool true,sv,.func (.func 164) #[] #[.pointer (some ⟨S+1+1+1,0,none⟩),.pointer (some ⟨S+1+1+1+1,0,none⟩)],.slice (some ⟨b,o+8*x.1,none⟩) 8 8,undef,undef,undef,undef,undef,undef,undef,undef,undef,undef,undef,undef,undef,undef,undef,undef,undef,undef,undef,undef,undef,undef,undef,undef,undef],defers:=[] }) ?assign ?body ?done ?stop)
  case assign =>
   intro l x W K hK
   gi_wp2
   exact hK
  case body =>
   intro l pre x W hIW hlt;obtain⟨ve,vo,vs,⟨bve,ove⟩,⟨bvo,ovo⟩,⟨bvs,ovs⟩,⟨apeo,apes,apos⟩,⟨bbs,bbn⟩,hB⟩:=hIW;have hga:=HGA.out x.1 x.2;have hsh:=HSH.out x.1 x.2
   gi_wp2_with (refine⟨trivial,?_⟩;gi_at_call 129;refine(CallsIn.inRound l (callsIn_wide.2 (hga W hB))).mono ?_;rintro e w1 ⟨v8,rfl,ho8,hx1⟩)
   obtain⟨gb,cb,rfl,hcb,hgb⟩:∃gb cb,v8=.slice (some ⟨gb,0,none⟩) 2 cb/\2<=cb/\W.heap.size<=gb/\gb<w1.heap.size:=by obtain⟨g,c1,e,h1,h2,h3⟩:=OwnN.head (n:=2) ho8 rfl (by omega);exact⟨g,c1,e,h1,h2,h3⟩
   have x0c:=OwnN.celln ho8 rfl 0 (by simp);have x1c:=OwnN.celln ho8 rfl 1 (by simp);obtain⟨x0,hx0⟩:∃x0,fe x.1=x0:=⟨_,rfl⟩;obtain⟨x1,hx1e⟩:∃x1,fo x.1=x1:=⟨_,rfl⟩;obtain⟨xs2,hxs2⟩:∃xs2,fs x.1=xs2:=⟨_,rfl⟩;have hx0c:w1.cell? ⟨gb,0,none⟩=some (.int .u32 (x0.toNat:Nat)):=by rw[<-hx0];exact x0c
   have hx1c:w1.cell? ⟨gb,1,none⟩=some (.int .u32 (x1.toNat:Nat)):=by rw[<-hx1e];exact x1c
   obtain⟨xe,hxe⟩:∃xe,nW (pre.map fun j=>fe j.1)=xe:=⟨_,rfl⟩;obtain⟨xo,hxo⟩:∃xo,nW (pre.map fun j=>fo j.1)=xo:=⟨_,rfl⟩;obtain⟨xv,hxv⟩:∃xv,nW (pre.map fun j=>fs j.1)=xv:=⟨_,rfl⟩;have hxel:xe.length=pre.length:=by rw[<-hxe];simp[nW]
   have hxol:xo.length=pre.length:=by rw[<-hxo];simp[nW]
   have hxvl:xv.length=pre.length:=by rw[<-hxv];simp[nW]
   have hne:nW ((pre++[x]).map fun j=>fe j.1)=xe++[((x0.toNat:Nat):Int)]:=by rw[List.map_append,zaK,hxe,<-hx0];rfl
   have hno:nW ((pre++[x]).map fun j=>fo j.1)=xo++[((x1.toNat:Nat):Int)]:=by rw[List.map_append,zaK,hxo,<-hx1e];rfl
   have hnv:nW ((pre++[x]).map fun j=>fs j.1)=xv++[((xs2.toNat:Nat):Int)]:=by rw[List.map_append,zaK,hxv,<-hxs2];rfl
   rw[hxe] at ove;rw[hxo] at ovo;rw[hxv] at ovs;rw[hxs2] at hsh;have hNB:∀ {q t u},Boxed W q t u->t≠133->¬XR ve vo q:=fun hb ht h=>by
    rcases h with h|h
    ·exact hb.not_row ht ove h.symm
    ·exact hb.not_row ht ovo h.symm
   have HJA:=hid (show ∀w2,(I1K (XR ve vo) W gb x0 x1 w.heap.size ve xe vo xo w2\/I2K (XR ve vo) W gb x0 x1 w.heap.size vo xo w2)->I2K (XR ve vo) W gb x0 x1 w.heap.size vo xo w2 from fun w2 h=>h.elim (fun h=>h.i2) id);have HJE:=hid (show ∀w2,(I1K (XR ve vo) W gb x0 x1 w.heap.size ve xe vo xo w2\/I2K (XR ve vo) W gb x0 x1 w.heap.size vo xo w2)->Boxed w2 (S+1) 116 ve from fun w2 h=>(HJA.out w2 h).fr.boxed bve (hNB bve (by decide)));have HJO:=hid (show ∀w2,(I1K (XR ve vo) W gb x0 x1 w.heap.size ve xe vo xo w2\/I2K (XR ve vo) W gb x0 x1 w.heap.size vo xo w2)->Boxed w2 (S+1+1) 116 vo from fun w2 h=>(HJA.out w2 h).fr.boxed bvo (hNB bvo (by decide)));have HJ0:=hid (fun w2 h=>(HJA.out w2 h).c0);have HJ1:=hid (fun w2 h=>(HJA.out w2 h).c1);have HJN:=hid (fun w2 h=>(HJA.out w2 h).fr.size)
   have HI1:=hid (show I1K (XR ve vo) W gb x0 x1 w.heap.size ve xe vo xo w1 from⟨⟨Fr.refl.ext hx1,hx0c,hx1c,ovo.kept hx1⟩,ove.kept hx1⟩);have HXE:=hid (show ∀q,ve.ownBlock=some q->XR ve vo q from fun q h=>.inl h);have HGB:=hid hgb.1;have HLE:=hid (show ∀q,ve.ownBlock=some q->q<W.heap.size from fun q h=>(ove.lt q h).2);have HLO:=hid (show ∀q,vo.ownBlock=some q->q<W.heap.size from fun q h=>(ovo.lt q h).2);have HLV:=hid (show ∀q,vs.ownBlock=some q->q<W.heap.size from fun q h=>(ovs.lt q h).2);have HAP:=hid apeo;have HL:=hid (show xe.length<=1000/\xo.length<=1000/\xv.length<=1000 by omega);have HN:=hid hB.size;have HNE:=hid (And.intro hne (And.intro hno hnv));have HAPS:=hid (And.intro apes apos);have HBX:=hid (And.intro bve (And.intro bvo (And.intro bvs (And.intro bbs bbn))));have HOV:=hid (And.intro ove (And.intro ovo ovs));have HBB:=hid hB;have HSZ:=hid (show w.heap.size=S from HS.out)
   have HSHR:=hid hsh;have HX1:=hid hx1;clear hga hsh hxel hxol hxvl hne hno hnv hxe hxo hxv hx0 hx1e hxs2 x0c x1c hx0c hx1c hNB HJA ho8 hx1 bve bvo bvs bbs bbn ove ovo ovs apeo apes apos hB hlt
   gi_wp2
   refine ziI 11 5 _ (I1K (XR ve vo) W gb x0 x1 w.heap.size ve xe vo xo) (I2K (XR ve vo) W gb x0 x1 w.heap.size vo xo) mixed (fun⟨_,_,hl⟩=>hl) (by kernel_rfl) rfl (by kernel_rfl) (by kernel_rfl) (by kernel_rfl) (by omega) rfl rfl (kV (k10 w W gb cb x0 x1 ve vo xe)) (zdA _) (fun _ _=>I1K.ext) (fun _ _=>I2K.ext) HI1.out (zab ⟨?_,?_,?_,?_,?_,?_,?_,?_,?_,?_,?_,trivial⟩) ?_ ?_
   ·intro _ a w3 hk hI;have s5:a.tmps.getD 5 undef=.pointer (some ⟨S+1,0,none⟩):=hk.was 5;refine zai (v:=ve) (w':=w3) rfl ?_ (Ext.refl w3) rfl;have hc:=(HJE.out _ hI).cell;go_simp
   ·intro _ a w3 hk hI;have s8:a.tmps.getD 8 undef=.slice (some ⟨gb,0,none⟩) 2 cb:=hk.was 8;exact zau rfl rfl s8 rfl
   ·intro _ a w3 hk hI;have s21:=hk.eq_ 1 21;refine zai (v:=.pointer (some ⟨gb,0,none⟩)) (w':=w3) rfl ?_ (Ext.refl w3) rfl;go_simp
   ·intro _ a w3 hk hI;have s22:=hk.eq_ 2 22;refine zai (v:=.int .u32 (x0.toNat:Nat)) (w':=w3) rfl ?_ (Ext.refl w3) rfl;have hc:=HJ0.out _ hI;go_simp
   ·intro _ a w3 hk hI;have s23:=hk.eq_ 3 23;refine zai (v:=.slice (some ⟨w3.heap.size,0,none⟩) 1 1) (w':=w3.alloc (.cells #[.int .u32 (x0.toNat:Nat)] 133)) rfl ?_ (Ext.alloc _ _) ⟨_,rfl,(HJN.out _ hI),by rw[cell_of_row _ _ _ _ _ _ (heap_alloc_new _ _)];rfl⟩;have e:=zgf (x0.toNat:Nat) w3;simp only[execOp,Act.eval,List.map_toArray,List.map_cons,List.map_nil,s23,Sem.run_bind,e,Sem.run_pure,Result.andThen]
   ·intro h;exact absurd rfl h
   ·intro _ a w3 hk hI;have s6:a.tmps.getD 6 undef=.pointer (some ⟨S+1+1,0,none⟩):=hk.was 6;refine zai (v:=vo) (w':=w3) rfl ?_ (Ext.refl w3) rfl;have hc:=(HJO.out _ hI).cell;go_simp
   ·intro _ a w3 hk hI;have s8:a.tmps.getD 8 undef=.slice (some ⟨gb,0,none⟩) 2 cb:=hk.was 8;exact zau rfl rfl s8 rfl
   ·intro _ a w3 hk hI;have s27:=hk.eq_ 7 27;refine zai (v:=.pointer (some ⟨gb,1,none⟩)) (w':=w3) rfl ?_ (Ext.refl w3) rfl;go_simp
   ·intro _ a w3 hk hI;have s28:=hk.eq_ 8 28;refine zai (v:=.int .u32 (x1.toNat:Nat)) (w':=w3) rfl ?_ (Ext.refl w3) rfl;have hc:=HJ1.out _ hI;go_simp
   ·intro _ a w3 hk hI;have s29:=hk.eq_ 9 29;refine zai (v:=.slice (some ⟨w3.heap.size,0,none⟩) 1 1) (w':=w3.alloc (.cells #[.int .u32 (x1.toNat:Nat)] 133)) rfl ?_ (Ext.alloc _ _) ⟨_,rfl,(HJN.out _ hI),by rw[cell_of_row _ _ _ _ _ _ (heap_alloc_new _ _)];rfl⟩;have e:=zgf (x1.toNat:Nat) w3;simp only[execOp,Act.eval,List.map_toArray,List.map_cons,List.map_nil,s29,Sem.run_bind,e,Sem.run_pure,Result.andThen]
   ·intro a w3 hk hI;have s20:=hk.eq_ 0 20;obtain⟨t24,s24,h24,g24⟩:=hk.val 4 24;refine ztv (.tmp 20) (.tmp 24) rfl s20 hI.own s24 HL.out.1 g24 (Nat.le_trans HN.out hI.i2.fr.size) ?_;intro g cap w4 hown hgr hg;have hg2:some g=ve.ownBlock\/W.heap.size<=g:=hg.imp id (fun h=>Nat.le_trans hI.i2.fr.size h);refine⟨_,rfl,hI.write hgr HXE.out HGB.out HLE.out HAP.out,⟨g,cap,rfl,hg2,hown⟩,fun i v hne hv=>?_⟩;exact zpv hgr HLE.out i v hne hv
   ·intro a w3 hf hI2;have s20:=hf.eq_ 0 20;have s21:=hf.eq_ 1 21;have s22:=hf.eq_ 2 22;have s23:=hf.eq_ 3 23;obtain⟨t24,s24,h24,g24⟩:=hf.val 4 24;obtain⟨g25,c25,s25,h25,o25⟩:=hf.val 5 25;have s26:=hf.eq_ 6 26;have s27:=hf.eq_ 7 27;have s28:=hf.eq_ 8 28;have s29:=hf.eq_ 9 29;obtain⟨t30,s30,h30,g30⟩:=hf.val 10 30;have hx:=hf.ext;have e:=hf.frame;clear hf;simp only[List.take_succ_cons,List.take_zero,zaT,Act.put,List.setIfInBounds_toArray,List.set_cons_zero,List.set_cons_succ,s20,s21,s22,s23,s24,s25,s26,s27,s28,s29,s30] at e;clear s20 s21 s22 s23 s24 s25 s26 s27 s28 s29 s30;subst e;simp only[List.drop_succ_cons,List.drop_zero];have HO25:=hid o25;have HI2:=hid hI2;have HJE3:=hid (HJE.out _ (.inr hI2));have HJO3:=hid (HJO.out _ (.inr hI2));have HN3:=hid hI2.fr.size;clear o25 hI2 hx h24 g24 h30
    go_wp2_with (refine zdT rfl (.tmp 26) (.tmp 30) rfl rfl HI2.out.own rfl HL.out.2.1 g30 (Nat.le_trans HN.out HN3.out) ?_;intro g31 c31 w4 o31 hgr31 hg31;have be4:=HJE3.out.kept hgr31 (HBX.out.1.not_row (by decide) HOV.out.2.1);have bo4:=HJO3.out.kept hgr31 (HBX.out.2.1.not_row (by decide) HOV.out.2.1);have bo5:=bo4.other (show S+1+1≠S+1 by omega) (.slice (some ⟨g25,0,none⟩) (xe.length+1) c25);have hc1:=be4.cell;have hf1:=be4.frozen;have hc2:=bo5.cell;have hf2:=bo5.frozen)
    have HA:=hid (zpF HI2.out.fr HBX.out HOV.out HAP.out HAPS.out HO25.out h25 o31 hgr31 (hg31.imp id id) HN3.out HN.out be4 bo4);clear o31 hgr31 hg31 be4 bo4 bo5 hc1 hf1 hc2 hf2 g30;obtain⟨W6,hW6⟩:∃W6,(w4.setCell ⟨S+1,0,none⟩ (.slice (some ⟨g25,0,none⟩) (xe.length+1) c25)).setCell ⟨S+1+1,0,none⟩ (.slice (some ⟨g31,0,none⟩) (xo.length+1) c31)=W6:=⟨_,rfl⟩;rw[hW6] at HA ⊢;clear hW6
    gi_wp2
    have HW6:=hid (HA.out.fr.below HBB.out HN.out (zrn HBX.out HOV.out HN.out HSZ.out));refine zgN 4 mixed (fun⟨_,_,hl⟩=>hl) (by kernel_rfl) rfl (by kernel_rfl) (by kernel_rfl) (by kernel_rfl) (kV (k11 b (o+8*x.1) xs2 vs)) (zdA _) (zab ⟨?_,?_,?_,?_,trivial⟩) ?_
    ·intro a w3 hk;have s3:a.tmps.getD 3 undef=.pointer (some ⟨S,0,none⟩):=hk.was 3;refine zai (v:=vs) (w':=w3) rfl ?_ (Ext.refl w3) rfl;have hc:=zan hk.ext HA.out.bs.cell;go_simp
    ·intro a w3 hk;have s7:a.tmps.getD 7 undef=.slice (some ⟨b,o+8*x.1,none⟩) 8 8:=hk.was 7;exact zau rfl rfl s7 rfl
    ·intro a w3 hk;have s33:=hk.eq_ 1 33;exact za0 rfl rfl (by simp only[List.map_toArray,List.map_cons,List.map_nil,Act.eval,s33]<;>rfl) cf26 (HSHR.out w3 (Ext.trans HW6.out hk.ext)) (fun e w1 h=>by obtain⟨rfl,hx⟩:=h;exact⟨_,rfl,hx,rfl⟩)
    ·intro a w3 hk;have s34:=hk.eq_ 2 34;refine zai (v:=.slice (some ⟨w3.heap.size,0,none⟩) 1 1) (w':=w3.alloc (.cells #[.int .u32 (xs2.toNat:Nat)] 133)) rfl ?_ (Ext.alloc _ _) ⟨_,rfl,Nat.zero_le _,by rw[cell_of_row _ _ _ _ _ _ (heap_alloc_new _ _)];rfl⟩;have e:=zgf (xs2.toNat:Nat) w3;simp only[execOp,Act.eval,List.map_toArray,List.map_cons,List.map_nil,s34,Sem.run_bind,e,Sem.run_pure,Result.andThen]
    ·intro a w7 hf;have s32:=hf.eq_ 0 32;have s33:=hf.eq_ 1 33;have s34:=hf.eq_ 2 34;obtain⟨t35,s35,h35,g35⟩:=hf.val 3 35;have hx:=hf.ext;have e:=hf.frame;clear hf;simp only[List.take_succ_cons,List.take_zero,zaT,Act.put,List.setIfInBounds_toArray,List.set_cons_zero,List.set_cons_succ,s32,s33,s34,s35] at e;clear s32 s33 s34 s35;subst e;simp only[List.drop_succ_cons,List.drop_zero];have HA7:=hid (HA.out.ext hx);clear hx h35;go_wp2_with (refine zdT rfl (.tmp 32) (.tmp 35) rfl rfl HA7.out.os rfl HL.out.2.2 g35 (Nat.le_trans HN.out HA7.out.fr.size) ?_;intro g36 c36 w8 o36 hgr36 hg36;have bs8:=HA7.out.bs.kept hgr36 (HA7.out.bs.not_row (by decide) HA7.out.os);have hc1:=bs8.cell;have hf1:=bs8.frozen)
     have HE:=znH HA7.out HBX.out HOV.out HAPS.out HBB.out HSZ.out HN.out o36 hgr36 hg36 bs8 W4.heap.size;refine⟨HE.1,HE.2.1,?_⟩;have h:=HE.2.2;rw[<-HNE.out.1,<-HNE.out.2.1,<-HNE.out.2.2] at h;exact h
  case done =>
   intro D ys W hD hys hIW hK;subst hys;obtain⟨ve,vo,vs,⟨bve,ove⟩,⟨bvo,ovo⟩,⟨bvs,ovs⟩,⟨apeo,apes,apos⟩,_,hB⟩:=hIW;rw[zcU m fe] at ove;rw[zcU m fo] at ovo;rw[zcU m fs] at ovs;obtain⟨gs,cs,rfl,hcs,hgs⟩:∃gs cs,vs=.slice (some ⟨gs,0,none⟩) m cs/\m<=cs/\w.heap.size<=gs/\gs<W.heap.size:=by obtain⟨g,c1,e,h1,h2,h3⟩:=OwnN.head (n:=m) ovs (by simp[nW]) (by omega);exact⟨g,c1,e,h1,h2,h3⟩
   have HRV:=hid (zm1 gs cs m w.heap.size _ W ovs (by simp) (by omega) (by omega));have hc:=bvs.cell;have HDN:=hid hK;have HM:=hid (show 2<=m/\m<=4 by omega);clear hm hnm
   gi_wp2_with (refine⟨trivial,?_⟩;gi_at_call 131;refine(callsIn_wide.2 HRV.out).mono ?_;rintro e w2 ⟨rfl,hr2,hgr2⟩)
   obtain⟨ev,hev⟩:∃ev,(List.range m).map fe=ev:=⟨_,rfl⟩;obtain⟨od,hod⟩:∃od,(List.range m).map fo=od:=⟨_,rfl⟩;have hle:ev.length=m:=by rw[<-hev];simp
   have hlo:od.length=m:=by rw[<-hod];simp
   rw[hev] at ove;rw[hod] at ovo;have hx2:Ext w w2:=hB.grown hgr2 hB.size (fun k e=>by cases e;exact hgs.1);obtain⟨A1,c1,e1,_,r1,_⟩:=OwnN.rdc (n:=m) (ove.grown hgr2 apes) (by rw[zac];exact hle);obtain⟨A2,c2,e2,_,r2,_⟩:=OwnN.rdc (n:=m) (ovo.grown hgr2 apos) (by rw[zac];exact hlo);have HB1:=hid (show Boxed w2 (S+1) 116 (.slice A1 m c1) by rw[<-e1];exact bve.kept hgr2 (bve.not_row (by decide) ovs));have HB2:=hid (show Boxed w2 (S+1+1) 116 (.slice A2 m c2) by rw[<-e2];exact bvo.kept hgr2 (bvo.not_row (by decide) ovs));have HB3:=hid (show Boxed w2 S 116 (.slice (some ⟨gs,0,none⟩) m cs) from bvs.kept hgr2 (bvs.not_row (by decide) ovs));have HR1:=hid r1;have HR2:=hid r2;have HGT:=hid (hG.later hx2);have HX2:=hid hx2;have HRS:=hid hr2;have HSW:=hid (show S<=w2.heap.size by have:=Below.size hx2;omega)
   have HD2:=hid (show w2.heap[D]? = some (.deferred (some [])) from(hgr2.block D (Array.getElem?_eq_some_iff.1 hK).1 (fun e=>by
    cases e
    exact zep ovs rfl hK rfl)).trans hK)
   have HDS:=hid (show w.heap.size<=D by omega);have HEO:=hid (And.intro hev hod);have HSS:=hid (show w.heap.size=S from HS.out);clear ove ovo ovs bve bvo bvs apeo apes apos hB hK HDN HRV hgr2 r1 r2 e1 e2 hx2 hr2 hev hod hc;refine wpIn_wide.2 ?_;refine zaD 5 (k13 m S gs c1 c2 cs A1 A2 ev od) (zab ⟨?_,?_,?_,?_,?_,trivial⟩) ?_
   ·intro a w3 hk;have s5:a.tmps.getD 5 undef=.pointer (some ⟨S+1,0,none⟩):=hk.was 5;refine zai (v:=.slice A1 m c1) (w':=w3) rfl ?_ (Ext.refl w3) rfl;have hc:=zan hk.ext HB1.out.cell;go_simp
   ·intro a w3 hk;have s6:a.tmps.getD 6 undef=.pointer (some ⟨S+1+1,0,none⟩):=hk.was 6;refine zai (v:=.slice A2 m c2) (w':=w3) rfl ?_ (Ext.refl w3) rfl;have hc:=zan hk.ext HB2.out.cell;go_simp
   ·intro a w3 hk;have s39:=hk.eq_ 0 39;have s40:=hk.eq_ 1 40;exact za0 rfl rfl (by simp only[List.map_toArray,List.map_cons,List.map_nil,Act.eval,s39,s40]<;>rfl) cf28 (zo3 A1 A2 m c1 c2 ev od w3 (HGT.out.later hk.ext) (HR1.out.later hk.ext) (HR2.out.later hk.ext) (by have:=HM.out;omega) (by have:=HM.out;omega)) (fun e w1 h=>retW (Nat.le_trans HSW.out (Below.size hk.ext)) e w1 h)
   ·intro a w3 hk;have s3:a.tmps.getD 3 undef=.pointer (some ⟨S,0,none⟩):=hk.was 3;refine zai (v:=.slice (some ⟨gs,0,none⟩) m cs) (w':=w3) rfl ?_ (Ext.refl w3) rfl;have hc:=zan hk.ext HB3.out.cell;go_simp
   ·intro a w3 hk;obtain⟨u41,s41,g41⟩:=hk.val 2 41;exact zaM rfl rfl s41 ⟨_,rfl,g41⟩
   ·intro a w7 hf;obtain⟨u41,s41,g41⟩:=hf.val 2 41;obtain⟨u2,s2,g2⟩:=hf.val 4 2;have hx:=hf.ext;have e:=hf.fr;clear hf;simp only[List.take_succ_cons,List.take_zero,k13,frV,kPut,Act.put,List.setIfInBounds_toArray,List.set_cons_zero,List.set_cons_succ,s41,s2] at e;clear s41 s2;subst e;simp only[List.drop_succ_cons,List.drop_zero];have hb7:=zdn HB3.out hx;have hc:=hb7.cell;have hf:=hb7.frozen;have HX7:=hid (Ext.trans HX2.out hx);have HD7:=hid (show w7.heap[D]? = some (.deferred (some [])) from(Below.block hx D (Array.getElem?_eq_some_iff.1 HD2.out).1).trans HD2.out);have HS7:=hid (OwnN.kept HRS.out hx);have HB7:=hid hb7;have HK7:=hid g2;clear hx hb7 g2 g41;go_wp2_with fail
    gi_wp2
    have hSD:S≠D:=fun e=>by subst e;exact zdb HB7.out HD7.out rfl
    have hK':(w7.setCell ⟨S,0,none⟩ (.slice (some ⟨gs,0,none⟩) m cs)).heap[D]? = some (.deferred (some [])):=(heap_setCell_other w7 ⟨S,0,none⟩ D _ (fun e=>hSD e.symm)).trans HD7.out;refine⟨by simp,.inl ⟨_,_,rfl,run_takeDeferred hK',?_⟩⟩;have hb8:=HB7.out.set (.slice (some ⟨gs,0,none⟩) m cs);have hc5:=cell_kept hb8.cell (grownBy_putObj' _ D (.deferred none)) (fun r e=>by cases e;exact⟨_,hK',rfl⟩);have hR1:=ownsRow_putObj (HK7.out.setBox HB7.out (by decide) (u:=.slice (some ⟨gs,0,none⟩) m cs)) (.deferred none) hK' rfl;have hR2:=ownsRow_putObj (HS7.out.setBox HB7.out (by decide) (u:=.slice (some ⟨gs,0,none⟩) m cs)) (.deferred none) hK' rfl;have hBel:Ext w ((w7.setCell ⟨S,0,none⟩ (.slice (some ⟨gs,0,none⟩) m cs)).putObj D (.deferred none)) :=
     ((show Below w.heap.size w w7 from HX7.out).setCell (p:=⟨S,0,none⟩) (by simp;have:=HSS.out;omega) _).trans (belowK_b (w:=w) (Nat.le_refl _) _ D _ _ HDS.out hK' rfl rfl)
    refine⟨.tuple #[u2,.slice (some ⟨gs,0,none⟩) m cs,.int .i64 0],?_,u2,_,rfl,?_,hR2,hBel⟩
    ·simp[results,Tryz.f88,go_sem,hc5]
    ·rw[HSS.out];rw[<-HEO.out.1,<-HEO.out.2] at hR1;exact hR1
  case stop =>intro D c pre W _ _ h _;exact h.elim
def pt(key:List UInt8)(j:Nat):List UInt8:=(key.drop (8*j)).take 8
theorem zhE{w:World}{B n b o j:Nat}{key:List UInt8}(h:Rd w B (some ⟨b,o,none⟩) n key)(hj:8*j+8<=n):Rd w B (some ⟨b,o+8*j,none⟩) 8 (pt key j):=by
 obtain⟨b',o',e,hb,hc⟩:=h.at_ (by omega);cases e
 have hl:=h.len;refine⟨by simp[pt];omega,fun _=>⟨b,o+8*j,rfl,hb,fun k hk=>?_⟩⟩;have:=hc (8*j+k) (by omega);have e2:zah (pt key j) k=zah key (8*j+k):=by unfold zah pt;simp[List.getD,hk]
 rw[e2,<-this];congr 2;omega
theorem zqF(key:List UInt8)(j i:Nat)(hi:i+4<=8):wdL (pt key j) i=wdL key (8*j+i):=by
 unfold wdL wd4;congr 1;refine zfW 4 fun k hk=>?_
 unfold bl pt;have:i+k<8:=by omega
 simp[List.getD,this,Nat.add_assoc]
theorem zvd(key:List UInt8)(j:Nat):gW (pt key j) 2 = [wdL key (8*j),wdL key (8*j+4)]:=by
 have e:gW (pt key j) 2 = [wdL (pt key j) 0,wdL (pt key j) 4]:=rfl;rw[e,zqF key j 0 (by omega),zqF key j 4 (by omega)];rfl
theorem zcv(A:Option Addr)(n c:Nat)(key:List UInt8)(w:World)(hG:GT w)(hr:Rd w w.heap.size A n key)(hn:n=16\/n=24\/n=32)(hc:n<=c):
  Calls Tryz.prog 88 #[.slice A n c] w (KRet w (zdo key) (sL key)):=by
 obtain⟨b,o,rfl,_,_⟩:=hr.at_ (by omega);have hl:=hr.len;have hga:∀j,8*j+8<=n->∀W,Ext w W->Calls Tryz.prog 129 #[.slice (some ⟨b,o+8*j,none⟩) 8 8] W (WRet W [wdL key (8*j),wdL key (8*j+4)]):=fun j hj W hx=>by have:=zfD b (o+8*j) 2 8 (pt key j) W (zhE (hr.later hx) hj) (by omega) (by omega);rw[zvd] at this;exact this
 have hsh:∀j,8*j+8<=n->∀W,Ext w W->Calls Tryz.prog 130 #[.slice (some ⟨b,o+8*j,none⟩) 8 8] W fun e w'=>e=.returned (.int .u32 ((shrW (pt key j)).toNat:Nat))/\Ext W w':=fun j hj W hx =>
  zrs (pt key j) _ 8 W (hG.later hx) (zhE (hr.later hx) hj)
 unfold zdo evL odL sL sU;rw[hl];obtain⟨m,hm,e⟩:∃m,(m=2\/m=3\/m=4)/\n=8*m:=⟨n/8,by omega,by omega⟩;have em:n/8=m:=by omega
 rw[em];exact ztL b o m n c (fun j=>wdL key (8*j)) (fun j=>wdL key (8*j+4)) (fun j=>shrW (pt key j)) w hG hm e hc (fun j hj=>hga j (by omega)) (fun j hj=>hsh j (by omega))
end Go.Proofs.YtokbbmngfogbbaaGreatDoor.T
namespace Go.Proofs.YtokbbmngfogbbaaGreatDoor.T
open Go.RowKit
set_option maxRecDepth 100000
set_option maxHeartbeats 8000000
theorem zhx(w:World)(a:UInt32):OwnN .u32 133 (w.alloc (.cells #[.int .u32 (a.toNat:Nat)] 133)) w.heap.size (.slice (some ⟨w.heap.size,0,none⟩) 1 1) (nW [a]) :=
 OwnN.lit (kd:=.u32) (e:=133) w (nW [a]) #[.int .u32 (a.toNat:Nat)] 1 w.heap.size rfl rfl (by unfold maxLen;omega) (Nat.le_refl _)
theorem zfc{α:Type}(f:Nat->α)(j:Nat):(List.range (j+1)).map f=(List.range j).map f++[f j]:=by simp[List.range_succ]
structure R3 (base:Nat) (w:World) (ve vo vs:Value) (xe xo xs:List Int):Prop where
 e:OwnN .u32 133 w base ve xe
 o:OwnN .u32 133 w base vo xo
 s:OwnN .u32 133 w base vs xs
 eo:Apart ve vo
 es:Apart ve vs
 os:Apart vo vs
theorem R3.ext{base:Nat}{w w':World}{ve vo vs:Value}{xe xo xs:List Int}(h:R3 base w ve vo vs xe xo xs)(hx:Ext w w'):R3 base w' ve vo vs xe xo xs:=⟨h.e.kept hx,h.o.kept hx,h.s.kept hx,h.eo,h.es,h.os⟩
theorem R3.setE{base g n c:Nat}{w w':World}{ve vo vs:Value}{xe xo xs ye:List Int}(h:R3 base w ve vo vs xe xo xs)(hn:OwnN .u32 133 w' base (.slice (some ⟨g,0,none⟩) n c) ye)(hg:w.grownBy w' ve.ownBlock)(hb:some g=ve.ownBlock\/w.heap.size<=g):
  R3 base w' (.slice (some ⟨g,0,none⟩) n c) vo vs ye xo xs :=
 ⟨hn,h.o.grown hg h.eo.symm,h.s.grown hg h.es.symm,h.eo.new hb (fun q e=>(h.o.lt q e).2),h.es.new hb (fun q e=>(h.s.lt q e).2),h.os⟩
theorem R3.setO{base g n c:Nat}{w w':World}{ve vo vs:Value}{xe xo xs yo:List Int}(h:R3 base w ve vo vs xe xo xs)(hn:OwnN .u32 133 w' base (.slice (some ⟨g,0,none⟩) n c) yo)(hg:w.grownBy w' vo.ownBlock)(hb:some g=vo.ownBlock\/w.heap.size<=g):
  R3 base w' ve (.slice (some ⟨g,0,none⟩) n c) vs xe yo xs :=
 ⟨h.e.grown hg h.eo,hn,h.s.grown hg h.os.symm,(h.eo.symm.new hb (fun q e=>(h.e.lt q e).2)).symm,h.es,h.os.new hb (fun q e=>(h.s.lt q e).2)⟩
theorem R3.setS{base:Nat}{w w':World}{ve vo vs v':Value}{xe xo xs ys:List Int}(h:R3 base w ve vo vs xe xo xs)(hb:base<=w.heap.size)(hn:OwnN .u32 133 w' w.heap.size v' ys)(hx:Ext w w'):R3 base w' ve vo v' xe xo ys :=
 ⟨h.e.kept hx,h.o.kept hx,zfK hn hb,h.eo,fun q e e'=>by have:=(h.e.lt q e).2;have:=(hn.lt q e').1;omega,fun q e e'=>by have:=(h.o.lt q e).2;have:=(hn.lt q e').1;omega⟩
theorem zsd(b o m n c:Nat)(fe fo fs:Nat->UInt32)(w:World)(hm:m=2\/m=3\/m=4)(hnm:n=8*m)(hc:n<=c)
  (hle:∀j,j<m->∀W,Ext w W->∀c',Calls Tryz.prog 73 #[.slice (some ⟨b,o+8*j,none⟩) 4 c'] W fun e w'=>e=.returned (.int .u64 ((fe j).toNat:Nat))/\W=w')
  (hlo:∀j,j<m->∀W,Ext w W->∀c',Calls Tryz.prog 73 #[.slice (some ⟨b,o+(8*j+4),none⟩) 4 c'] W fun e w'=>e=.returned (.int .u64 ((fo j).toNat:Nat))/\W=w')
  (hsh:∀j,j<m->∀W,Ext w W->∀c',Calls Tryz.prog 102 #[.slice (some ⟨b,o+8*j,none⟩) 8 c'] W fun e w'=>e=.returned (.int .u32 ((fs j).toNat:Nat))/\Ext W w'):
  Calls Tryz.prog 63 #[.slice (some ⟨b,o,none⟩) n c] w (KRet w (kL ((List.range m).map fe) ((List.range m).map fo) 20) ((List.range m).map fs).reverse):=by
 have HLE:=hid hle;have HLO:=hid hlo;have HSH:=hid hsh;clear hle hlo hsh
 replace hm:(m=2/\n=16)\/(m=3/\n=24)\/(m=4/\n=32):=by omega
 rcases hm with⟨hm,rfl⟩|⟨hm,rfl⟩|⟨hm,rfl⟩
 all_goals
  go_enter Tryz.func63,Tryz.ntmps63;go_wp2_with fail
  go_loopw [5,6,7,9] (fun ve vo vs i wr=>∃j:Nat,j<=m/\i=.int .i64 (8*j:Nat)/\R3 w.heap.size wr ve vo vs (nW ((List.range j).map fe)) (nW ((List.range j).map fo)) (nW ((List.range j).map fs).reverse)/\Ext w wr) (fun _ _ _ i _=>8*m-(intOf i).toNat)
  case atStart=>exact⟨0,by omega,rfl,⟨World.ownsRow_nil _ _ _ _,World.ownsRow_nil _ _ _ _,World.ownsRow_nil _ _ _ _,(fun q h=>by cases h),(fun q h=>by cases h),(fun q h=>by cases h)⟩,Ext.refl _⟩
  case round =>
   obtain⟨j,hj,rfl,hR,hx⟩:=hrel;have HX:=hid hx;have HR:=hid hR;clear hx hR;by_cases hlt:j<m
   ·have HE:=HLE.out j hlt;have HO:=HLO.out j hlt;have HS:=HSH.out j hlt;have hse:nW ((List.range (j+1)).map fe)=nW ((List.range j).map fe)++[((fe j).toNat:Int)]:=by rw[zfc,zaK];rfl
    have hso:nW ((List.range (j+1)).map fo)=nW ((List.range j).map fo)++[((fo j).toNat:Int)]:=by rw[zfc,zaK];rfl
    have hss:nW ((List.range (j+1)).map fs).reverse=nW [fs j]++nW ((List.range j).map fs).reverse:=by rw[zfc,List.reverse_append,<-zaK];rfl
    have lxe:(nW ((List.range j).map fe)).length=j:=by simp[nW]
    have lxo:(nW ((List.range j).map fo)).length=j:=by simp[nW]
    have lxs:(nW ((List.range j).map fs).reverse).length=j:=by simp[nW]
    obtain⟨xe,hxe⟩:∃xe,nW ((List.range j).map fe)=xe:=⟨_,rfl⟩;obtain⟨xo,hxo⟩:∃xo,nW ((List.range j).map fo)=xo:=⟨_,rfl⟩;obtain⟨xs,hxs⟩:∃xs,nW ((List.range j).map fs).reverse=xs:=⟨_,rfl⟩;obtain⟨y0,hy0⟩:∃y,fe j=y:=⟨_,rfl⟩;obtain⟨y1,hy1⟩:∃y,fo j=y:=⟨_,rfl⟩;obtain⟨y2,hy2⟩:∃y,fs j=y:=⟨_,rfl⟩;rw[hxe] at HR hse lxe;rw[hxo] at HR hso lxo;rw[hxs] at HR hss lxs;rw[hy0] at HE hse;rw[hy1] at HO hso;rw[hy2] at HS hss;have k0:=wlt y0;have k1:=wlt y1;obtain⟨q,hq⟩:∃q,8*j=q:=⟨_,rfl⟩;rw[hq] at HE HO HS ⊢;have hqn:q+8<=8*m:=by omega
    have HQ:=hid hq;have HHE:=hid HE;have HHO:=hid HO;have HHS:=hid HS;have HSE:=hid (And.intro hse (And.intro hso hss));have HLX:=hid (show xe.length<=1000/\xo.length<=1000/\xs.length<=1000 by omega);have HW:=hid (Below.size HX.out);clear HE HO HS hse hso hss lxe lxo lxs hxe hxo hxs hy0 hy1 hy2 hq;go_wp2_with fail
    refine(HHE.out wr HX.out _).mono ?_;rintro e w1 ⟨rfl,rfl⟩;have HLTE:=hid (zhx wr y0);have HRA:=hid (HR.out.ext (Ext.alloc wr (.cells #[.int .u32 (y0.toNat:Nat)] 133)));have HXA:=hid (Ext.trans HX.out (Ext.alloc wr (.cells #[.int .u32 (y0.toNat:Nat)] 133)));go_wp2_with (refine zdT (y:=((y0.toNat:Nat):Int)) (t:=wr.heap.size) (c:=1) rfl (.tmp 32) (.tmp 40) rfl rfl HRA.out.e rfl (by have:=HLX.out;omega) (by exact OwnN.celln HLTE.out rfl 0 (by simp)) HXA.out.size ?_;intro g1 c1 w2 hn1 hg1 hb1)
    have HR2:=hid (HRA.out.setE hn1 hg1 hb1);have HX2:=hid (show Ext w w2 from Below.grown HXA.out hg1 HXA.out.size (fun k e=>(HRA.out.e.lt k e).1));clear hn1 hg1 hb1;go_wp2_with fail
    refine(HHO.out w2 HX2.out _).mono ?_;rintro e w3 ⟨rfl,rfl⟩;have HLTO:=hid (zhx w2 y1);have HRB:=hid (HR2.out.ext (Ext.alloc w2 (.cells #[.int .u32 (y1.toNat:Nat)] 133)));have HXB:=hid (Ext.trans HX2.out (Ext.alloc w2 (.cells #[.int .u32 (y1.toNat:Nat)] 133)));go_wp2_with (refine zdT (y:=((y1.toNat:Nat):Int)) (t:=w2.heap.size) (c:=1) rfl (.tmp 42) (.tmp 51) rfl rfl HRB.out.o rfl (by have:=HLX.out;omega) (by exact OwnN.celln HLTO.out rfl 0 (by simp)) HXB.out.size ?_;intro g2 c2 w4 hn2 hg2 hb2)
    have HR4:=hid (HRB.out.setO hn2 hg2 hb2);have HX4:=hid (show Ext w w4 from Below.grown HXB.out hg2 HXB.out.size (fun k e=>(HRB.out.o.lt k e).1));clear hn2 hg2 hb2;go_wp2_with fail
    refine(HHS.out w4 HX4.out _).mono ?_;rintro e w5 ⟨rfl,hx5⟩;have HR5:=hid (HR4.out.ext hx5);have HX5:=hid (Ext.trans HX4.out hx5);clear hx5;have HLTS:=hid (zhx w5 y2);obtain⟨A5,c5,hvs,hrs,_⟩:=(HR5.out.s.kept (Ext.alloc w5 (.cells #[.int .u32 (y2.toNat:Nat)] 133))).rdn rfl;have HRS:=hid hrs;have HVS:=hid hvs;clear hrs hvs;go_wp2_with (refine zaw _ rfl (.tmp 59) (.tmp 60) 116 rfl Tryz.underlying116 4 Tryz.info37 w5.heap.size _ _ rfl HLTS.out _ A5 xs.length c5 _ HVS.out HRS.out (by have:=HLX.out;simp[nW];omega) (by have:=HLX.out;simp[nW];unfold maxLen;omega) (by simp) ?_;intro v' w6 hown6 hb6)
    have HX6':=hid (show Ext w5 w6 from((Below.refl w5.heap.size w5).alloc (Nat.le_refl _) _).trans hb6);have HR6:=hid (HR5.out.setS HX5.out.size hown6 HX6'.out);have HX6:=hid (Ext.trans HX5.out HX6'.out);clear hown6 hb6;go_wp2_with fail
    have hse:=HSE.out;exact⟨⟨j+1,by omega,by have:=HQ.out;go_num,by rw[hse.1,hse.2.1,hse.2.2];exact HR6.out,HX6.out⟩,by have:=HQ.out;simp[intOf];omega⟩
   ·obtain rfl:j=m:=by omega
    first|have hlm:((8*j:Nat):Int)=16:=by omega|have hlm:((8*j:Nat):Int)=24:=by omega|have hlm:((8*j:Nat):Int)=32:=by omega
    obtain⟨ev,hev⟩:∃ev,(List.range j).map fe=ev:=⟨_,rfl⟩;obtain⟨od,hod⟩:∃od,(List.range j).map fo=od:=⟨_,rfl⟩;obtain⟨xs,hxs⟩:∃xs,((List.range j).map fs).reverse=xs:=⟨_,rfl⟩;have lev:ev.length=j:=by rw[<-hev];simp
    have lod:od.length=j:=by rw[<-hod];simp
    rw[hev,hod,hxs] at HR ⊢;obtain⟨A1,c1,rfl,h1,_⟩:=OwnN.rdn (n:=j) HR.out.e (by simpa [nW] using lev);obtain⟨A2,c2,rfl,h2,_⟩:=OwnN.rdn (n:=j) HR.out.o (by simpa [nW] using lod);have HS:=hid HR.out.s;have H1:=hid h1;have H2:=hid h2;have HEV:=hid (And.intro hev (And.intro hod hxs));clear HLE HLO HSH HR h1 h2 hev hod hxs lev lod;obtain⟨w9,rfl⟩:∃x,x=wr:=⟨_,rfl⟩;have HX9:=hid HX.out;have hj4:2<=j/\j<=4:=by omega
    have HJ:=hid hj4;clear HX;go_wp2_with fail
    clear hm hnm hj hlm hj4;generalize ((8*j:Nat):Int)=N0;go_loopw [8,10] (fun v i wv=>∃k:Nat,k<=20/\i=.int .i64 (k:Nat)/\OwnW wv w9.heap.size v (kL ev od k)/\Ext w9 wv) (fun _ i _=>20-(intOf i).toNat)
    case atStart=>exact⟨0,by omega,rfl,World.ownsRow_nil _ _ _ _,Ext.refl _⟩
    case round =>
     obtain⟨k,hk,rfl,hown,hx⟩:=hrel;by_cases hlt:k<20
     ·have e1:=zku (2*k) (by omega);have e2:=zku (2*k+1) (by omega);have HA:=hid (fun w hl=>zqz (UInt32.ofNat (2*k)*0x01010101) ev A1 j c1 w hl HJ.out.1 HJ.out.2);have HBB:=hid (fun w hl=>zqz (UInt32.ofNat (2*k+1)*0x01010101) od A2 j c2 w hl HJ.out.1 HJ.out.2);have hkA:HW (UInt32.ofNat (2*k)*0x01010101) ev=kA ev k:=rfl;have hkB:rolI (HW (UInt32.ofNat (2*k+1)*0x01010101) od) 8=kB od k:=rfl;have HKB:=hid hkB;obtain⟨T,hT⟩:∃T,HW (UInt32.ofNat (2*k+1)*0x01010101) od=T:=⟨_,rfl⟩;rw[hT] at HBB HKB;rw[hkA] at HA;obtain⟨X1,hX1⟩:∃X1,UInt32.ofNat (2*k)*0x01010101=X1:=⟨_,rfl⟩;obtain⟨X2,hX2⟩:∃X2,UInt32.ofNat (2*k+1)*0x01010101=X2:=⟨_,rfl⟩;rw[hX1] at e1 HA;rw[hX2] at e2 HBB;have HST:=hid (show kL ev od (k+1)=kL ev od k++[kA ev k+kB od k,rolI (kA ev k+2*kB od k) 9] by rw[kL]);obtain⟨a,ha⟩:∃a,kA ev k=a:=⟨_,rfl⟩;obtain⟨b,hb⟩:∃b,kB od k=b:=⟨_,rfl⟩;rw[ha] at HA HST;rw[hb] at HKB HST
      have e3:=zcd a b;have e4:=zqJ b;have e5:=zcd a (2*b);obtain⟨d,hd2⟩:∃d,2*b=d:=⟨_,rfl⟩;rw[hd2] at e4 e5 HST;obtain⟨r1,hr1⟩:∃r1,a+b=r1:=⟨_,rfl⟩;obtain⟨p,hp⟩:∃p,a+d=p:=⟨_,rfl⟩;rw[hr1] at e3 HST;rw[hp] at e5 HST;have ld:=wlt d;have la:=wlt a;have lb:=wlt b;have HKL:=hid (zdH ev od k);have HX:=hid hx;have HO:=hid hown;rw[show((2*k:Nat):Int)=2*(k:Int) by omega] at e1;rw[show((2*k+1:Nat):Int)=2*(k:Int)+1 by omega] at e2;have hd:(k:Int)<20:=by omega
      clear hr1 hp hd2 hkA hkB hT hX1 hX2 ha hb hx hown;go_wp2_with fail
      refine(HA.out _ (H1.out.later HX.out)).mono ?_;rintro e w2 ⟨rfl,hx2⟩;have HX2:=hid (Ext.trans HX.out hx2);have HO2:=hid (OwnN.kept HO.out hx2);clear hx2 e1;go_wp2_with fail
      refine(HBB.out _ (H2.out.later HX2.out)).mono ?_;rintro e w3 ⟨rfl,hx3⟩;have HX3:=hid (Ext.trans HX2.out hx3);have HO3:=hid (OwnN.kept HO2.out hx3);clear hx3 e2;go_wp2_with fail
      refine(ziN T 8 _).mono ?_;rintro e w' ⟨rfl,rfl⟩;rw[HKB.out];go_wp2_with fail
      refine(ziN p 9 _).mono ?_;rintro e w' ⟨rfl,rfl⟩;obtain⟨r2,hr2⟩:∃r2,rolI p 9=r2:=⟨_,rfl⟩;rw[hr2] at HST ⊢;clear hr2;have HLT:=hid (zoB w3 r1 r2);have hsz3:=Below.size HX3.out;have hkl:=HKL.out;go_wp2_with (refine zaw _ rfl (.tmp 80) (.tmp 89) 116 rfl Tryz.underlying116 4 Tryz.info37 w9.heap.size _ _ rfl (OwnN.kept HO3.out (Ext.alloc _ _)) _ _ 2 2 _ rfl HLT.out (by rw[zac,hkl];omega) (by rw[zac,hkl];unfold maxLen;omega) (by simp;omega) ?_;intro v' w4 hown4 hb4)
      have HO5:=hid (show OwnW w4 w9.heap.size v' (kL ev od (k+1)) by
       rw[HST.out];unfold OwnW;rw[zaK];exact hown4)
      have HX5:=hid (show Ext w9 w4 from((show Below w9.heap.size w9 w3 from HX3.out).alloc (Below.size HX3.out) _).trans hb4);clear hown4 hb4;go_wp2_with fail
      exact⟨⟨k+1,by omega,by go_num,HO5.out,HX5.out⟩,by simp[intOf];omega⟩
     ·obtain rfl:k=20:=by omega
      have HX:=hid hx;have HO:=hid hown;clear hx hown;have HSL:=hid (OwnN.kept HS.out HX.out);have HXX:=hid (Ext.trans HX9.out HX.out);go_wp2_with fail
      rw[HEV.out.1,HEV.out.2.1,HEV.out.2.2];have h1:=zfK HO.out HX9.out.size;have h2:=HSL.out;have h3:=HXX.out;refine bodyPost_ret (v:=.tuple #[u8,u7,.int .i64 0]) ?_ rfl ⟨_,_,rfl,h1,h2,h3⟩;simp[results,Tryz.f63,go_sem]
theorem zmu{w:World}{B n b o i c:Nat}{key:List UInt8}(h:Rd w B (some ⟨b,o,none⟩) n key)(hi:4*i+4<=n):
  Calls Tryz.prog 73 #[.slice (some ⟨b,o+4*i,none⟩) 4 c] w fun e w'=>e=.returned (.int .u64 ((wdL key (4*i)).toNat:Nat))/\w=w':=by
 obtain⟨L,hL,e⟩:=zoo h hi;refine(zeI _ 4 c B L w hL (by omega)).mono ?_;rintro e1 w1 ⟨rfl,rfl⟩;rw[zqn,e];exact⟨rfl,rfl⟩
theorem zbZ(A:Option Addr)(n c:Nat)(key:List UInt8)(w:World)(hr:Rd w w.heap.size A n key)(hn:n=16\/n=24\/n=32)(hc:n<=c):
  Calls Tryz.prog 63 #[.slice A n c] w (KRet w (zdo key) (sL key)):=by
 obtain⟨b,o,rfl,_,_⟩:=hr.at_ (by omega);have hl:=hr.len;have hle:∀j,8*j+8<=n->∀W,Ext w W->∀c',Calls Tryz.prog 73 #[.slice (some ⟨b,o+8*j,none⟩) 4 c'] W fun e w'=>e=.returned (.int .u64 ((wdL key (8*j)).toNat:Nat))/\W=w':=fun j hj W hx c'=>by have:=zmu (i:=2*j) (c:=c') (hr.later hx) (by omega);rw[show 4*(2*j)=8*j by omega] at this;exact this
 have hlo:∀j,8*j+8<=n->∀W,Ext w W->∀c',Calls Tryz.prog 73 #[.slice (some ⟨b,o+(8*j+4),none⟩) 4 c'] W fun e w'=>e=.returned (.int .u64 ((wdL key (8*j+4)).toNat:Nat))/\W=w':=fun j hj W hx c'=>by have:=zmu (i:=2*j+1) (c:=c') (hr.later hx) (by omega);rw[show 4*(2*j+1)=8*j+4 by omega] at this;exact this
 have hsh:∀j,8*j+8<=n->∀W,Ext w W->∀c',Calls Tryz.prog 102 #[.slice (some ⟨b,o+8*j,none⟩) 8 c'] W fun e w'=>e=.returned (.int .u32 ((shrW (pt key j)).toNat:Nat))/\Ext W w':=fun j hj W hx c' =>
  zoP (pt key j) _ c' W (zhE (hr.later hx) hj)
 unfold zdo evL odL sL sU;rw[hl];obtain⟨m,hm,e⟩:∃m,(m=2\/m=3\/m=4)/\n=8*m:=⟨n/8,by omega,by omega⟩;have em:n/8=m:=by omega
 rw[em];exact zsd b o m n c (fun j=>wdL key (8*j)) (fun j=>wdL key (8*j+4)) (fun j=>shrW (pt key j)) w hm e hc (fun j hj=>hle j (by omega)) (fun j hj=>hlo j (by omega)) (fun j hj=>hsh j (by omega))
def W4.cells(x:W4):Array Value:=#[.int .u32 (x.a.toNat:Nat),.int .u32 (x.b.toNat:Nat),.int .u32 (x.c.toNat:Nat),.int .u32 (x.d.toNat:Nat)]
theorem W4.size(x:W4):(Tryz.prog.info? 283).map (·.size)=some x.cells.size:=by
 have h:(Tryz.prog.info? 283).map (·.size)=some 4:=by kernel_rfl
 rw[h];rfl
theorem W4.all(x:W4):x.cells.all (·.oneCell')=true:=by simp[W4.cells,Value.oneCell']
def V4(w:World)(g:Nat)(x:W4):Prop:=w.heap[g]? = some (.cells x.cells 283 (0,0))
section
variable {w w':World} {g:Nat} {x:W4}
theorem V4.lt(h:V4 w g x):g<w.heap.size:=(Array.getElem?_eq_some_iff.1 h).1
theorem V4.later(h:V4 w g x)(hx:Ext w w'):V4 w' g x:=(hx.block g h.lt).trans h
theorem V4.c0(h:V4 w g x):w.cell? ⟨g,0,none⟩=some (.int .u32 (x.a.toNat:Nat)):=by rw[cell_of_row _ _ _ _ _ _ h];rfl
theorem V4.c1(h:V4 w g x):w.cell? ⟨g,1,none⟩=some (.int .u32 (x.b.toNat:Nat)):=by rw[cell_of_row _ _ _ _ _ _ h];rfl
theorem V4.c2(h:V4 w g x):w.cell? ⟨g,2,none⟩=some (.int .u32 (x.c.toNat:Nat)):=by rw[cell_of_row _ _ _ _ _ _ h];rfl
theorem V4.c3(h:V4 w g x):w.cell? ⟨g,3,none⟩=some (.int .u32 (x.d.toNat:Nat)):=by rw[cell_of_row _ _ _ _ _ _ h];rfl
theorem V4.frozen(h:V4 w g x)(k:Nat):w.frozen? ⟨g,k,none⟩=false:=frozen_of_row w g k _ 283 h
theorem V4.put(h:V4 w g x)(y:W4):V4 (w.setRow g y.cells) g y:=setRow_heap w g _ _ 283 (0,0) h
theorem V4.setne(h:V4 w g x)(p:Addr)(v:Value)(hne:g≠p.block):V4 (w.setCell p v) g x:=(heap_setCell_other w p g v hne).trans h
theorem V4.putne(h:V4 w g x)(k:Nat)(cs:Array Value)(hne:g≠k):V4 (w.setRow k cs) g x:=(setRow_other w k g cs hne).trans h
end
def RetV(w:World)(y:W4)(e:Ending)(w':World):Prop:=e=.returned (.agg y.cells)/\Ext w w'
theorem zl2(a b c d:UInt32)(w:World):(Instr.build 283 #[(0,.int .u32 (a.toNat:Nat)),(1,.int .u32 (b.toNat:Nat)),(2,.int .u32 (c.toNat:Nat)),(3,.int .u32 (d.toNat:Nat))]).run Tryz.prog w=.ok (.agg (W4.mk a b c d).cells) w:=by kernel_rfl
def W4.at(r:W4)(j:Nat):UInt32:=[r.a,r.b,r.c,r.d].getD j 0
def W4.xorN(r:W4)(k:List UInt32)(o j:Nat):W4:=⟨if 0<j then r.a^^^k.getD o 0 else r.a,if 1<j then r.b^^^k.getD (o+1) 0 else r.b,if 2<j then r.c^^^k.getD (o+2) 0 else r.c,if 3<j then r.d^^^k.getD (o+3) 0 else r.d⟩
theorem W4.xorN_full(r:W4)(k:List UInt32)(o:Nat):r.xorN k o 4=r.xor k o:=rfl
theorem W4.xorN_at(r:W4)(k:List UInt32)(o j:Nat)(hj:j<4):(r.xorN k o j).cells[j]? = some (.int .u32 ((r.at j).toNat:Nat)):=by
 rcases (show j=0\/j=1\/j=2\/j=3 by omega) with rfl|rfl|rfl|rfl<;>rfl
theorem W4.xorN_set(r:W4)(k:List UInt32)(o j:Nat)(hj:j<4):(r.xorN k o j).cells.setIfInBounds j (.int .u32 ((r.at j^^^k.getD (o+j) 0).toNat:Nat))=(r.xorN k o (j+1)).cells:=by
 rcases (show j=0\/j=1\/j=2\/j=3 by omega) with rfl|rfl|rfl|rfl<;>rfl
theorem zcM(x:W4)(w:World):
  Calls Tryz.prog 232 #[.agg x.cells] w (RetV w x.cross):=by
 obtain⟨a,b,c,d⟩:=x;have hx:Ext w ((w.alloc (.cells (W4.mk a b c d).cells 283)).alloc (.cells (W4.mk c d a b).cells 283)):=(Ext.alloc w _).trans (Ext.alloc _ _);have hh:((w.alloc (.cells (W4.mk a b c d).cells 283)).alloc (.cells (W4.mk c d a b).cells 283)).heap[w.heap.size+1]? = some (.cells (W4.mk c d a b).cells 283 (0,0)):=heap_alloc2_new _ _ _;have HX:=hid hx;have HH:=hid hh;clear hx hh;show Calls Tryz.prog 232 #[.agg #[.int .u32 (a.toNat:Nat),.int .u32 (b.toNat:Nat),.int .u32 (c.toNat:Nat),.int .u32 (d.toNat:Nat)]] w _;go_enter Tryz.func232,Tryz.ntmps232;go_wp2_with fail
 exact zaU rfl rfl (w.heap.size+1) 283 _ (0,0) rfl HH.out Tryz.underlying283 (W4.size _) ⟨rfl,HX.out⟩
def xrK(j G p q n c:Nat)(y k z:UInt32):List K:=[.eq (.int .i64 j),.eq (.pointer (some ⟨G,j,none⟩)),.eq (.int .u32 (y.toNat:Nat)),.eq (.slice (some ⟨p,q,none⟩) n c),.eq (.int .i64 j),.eq (.pointer (some ⟨p,q+j,none⟩)),.eq (.int .u32 (k.toNat:Nat)),.eq (.int .u32 (z.toNat:Nat)),.eq (.pointer (some ⟨G,j,none⟩)),.any]
theorem zb9(x:W4)(p q n c o:Nat)(ks:List UInt32)(w:World)(hn:4<=n)(hk:∀i,i<4->w.cell? ⟨p,q+i,none⟩=some (.int .u32 ((ks.getD (o+i) 0).toNat:Nat))):
  Calls Tryz.prog 233 #[.agg x.cells,.slice (some ⟨p,q,none⟩) n c] w (RetV w (x.xor ks o)):=by
 have h1:=heap_alloc2_old w (.cells x.cells 283) (.cells #[.int .u32 0,.int .u32 0,.int .u32 0,.int .u32 0] 283);have h2:=heap_alloc2_new w (.cells x.cells 283) (.cells #[.int .u32 0,.int .u32 0,.int .u32 0,.int .u32 0] 283);have h3:=(Ext.alloc w (.cells x.cells 283)).trans (Ext.alloc _ (.cells #[.int .u32 0,.int .u32 0,.int .u32 0,.int .u32 0] 283));have HKW:=hid hk;have HN:=hid hn;clear hk hn;go_enter Tryz.func233,Tryz.ntmps233;go_wp2_with fail
 obtain⟨W1,hW1⟩:∃W1,(w.alloc (.cells x.cells 283)).alloc (.cells #[.int .u32 0,.int .u32 0,.int .u32 0,.int .u32 0] 283)=W1:=⟨_,rfl⟩;rw[hW1] at h1 h2 h3 ⊢;obtain⟨G,hG⟩:∃G,w.heap.size=G:=⟨_,rfl⟩;rw[hG] at h1 h2 ⊢;have HGE:=hid hG;have HB:=hid (show V4 W1 G (x.xorN ks o 0) from h1);have HR:=hid (show V4 W1 (G+1) ⟨0,0,0,0⟩ from h2);have HX:=hid h3;clear h1 h2 h3 hW1 hG;go_loopw [6] (fun i wr=>∃j:Nat,j<=4/\i=.int .i64 j/\V4 wr G (x.xorN ks o j)/\V4 wr (G+1) ⟨0,0,0,0⟩/\Ext w wr) (fun i _=>4-(intOf i).toNat)
 case atStart=>exact⟨0,by omega,rfl,HB.out,HR.out,HX.out⟩
 case round =>
  obtain⟨j,hj,rfl,hb,hr,hx⟩:=hrel;by_cases hlt:j<4
  ·have hcy:wr.cell? ⟨G,j,none⟩=some (.int .u32 ((x.at j).toNat:Nat)):=by rw[cell_of_row _ _ _ _ _ _ hb];exact W4.xorN_at x ks o j hlt
   have hck:=zan hx (HKW.out j hlt);have hset:=W4.xorN_set x ks o j hlt;obtain⟨y,hy⟩:∃y,x.at j=y:=⟨_,rfl⟩;obtain⟨k,hke⟩:∃k,ks.getD (o+j) 0=k:=⟨_,rfl⟩;rw[hy] at hcy hset;rw[hke] at hck hset;have hxz:=zfb y k;obtain⟨z,hz⟩:∃z,y^^^k=z:=⟨_,rfl⟩;rw[hz] at hset hxz;have HCY:=hid hcy;have HCK:=hid hck;have HXZ:=hid hxz;have HSET:=hid hset;have HJ4:=hid hlt;have HB:=hid hb;have HR:=hid hr;have HX:=hid hx;clear hcy hck hset hxz hz hke hy hb hr hx;go_wp2_with fail
   refine zaD 9 (xrK j G p q n c y k z) (zab ⟨fun _ _ h=>h.mv,?_,?_,fun _ _ h=>h.mv,fun _ _ h=>h.mv,?_,?_,?_,?_,trivial⟩) ?_
   ·intro a w hk;have s2:a.tmps.getD 2 undef=.pointer (some ⟨G,0,none⟩):=hk.was 2;have s9:=hk.eq_ 0 9;refine za ?_;have hj4:(j:Int)<4:=by have:=HJ4.out;omega
    go_simp
   ·intro a w hk;have s10:=hk.eq_ 1 10;refine za ?_;have hc:=zan hk.ext HCY.out;go_simp
   ·intro a w hk;have s12:=hk.eq_ 3 12;have s13:=hk.eq_ 4 13;refine za ?_;have hjn:(j:Int)<n:=by have:=HJ4.out;have:=HN.out;omega
    go_simp
   ·intro a w hk;have s14:=hk.eq_ 5 14;refine za ?_;have hc:=zan hk.ext HCK.out;go_simp
   ·intro a w hk;have s11:=hk.eq_ 2 11;have s15:=hk.eq_ 6 15;refine za ?_;have hz:=HXZ.out;go_simp
   ·intro a w hk;have s2:a.tmps.getD 2 undef=.pointer (some ⟨G,0,none⟩):=hk.was 2;have s9:=hk.eq_ 0 9;refine za ?_;have hj4:(j:Int)<4:=by have:=HJ4.out;omega
    go_simp
   ·intro a w1 hf;have hx:=hf.ext;have e:=hf.fr;clear hf;simp only[List.take_succ_cons,List.take_zero,xrK,frV,kPut,Act.put,List.setIfInBounds_toArray,List.set_cons_zero,List.set_cons_succ] at e;subst e;simp only[List.drop_succ_cons,List.drop_zero];have hB:=HB.out.later hx;have hf:=hB.frozen j;have hc:=zan hx HCY.out;have HS:=hid (show V4 (w1.setCell ⟨G,j,none⟩ (.int .u32 (z.toNat:Nat))) G (x.xorN ks o (j+1)) by
     have:=heap_setCell_same w1 G j _ 283 (.int .u32 (z.toNat:Nat)) hB;rw[HSET.out] at this;exact this)
    have HR2:=hid ((HR.out.later hx).setne ⟨G,j,none⟩ (.int .u32 (z.toNat:Nat)) (by simp));have HX2:=hid ((HX.out.trans hx).setCell (p:=⟨G,j,none⟩) (by have:=HGE.out;simp;omega) (.int .u32 (z.toNat:Nat)));clear hx hB;go_wp2_with fail
    go_roundw
    case rel=>exact⟨j+1,by omega,by go_num,HS.out,HR2.out,HX2.out⟩
    case measure=>simp[intOf];omega
  ·obtain rfl:j=4:=by omega
   rw[W4.xorN_full] at hb;have HB:=hid hb;have HR:=hid hr;have HFI:=hid (hr.put (x.xor ks o));have HXX:=hid (Below.setRow_ hx (show w.heap.size<=G+1 by have:=HGE.out;omega) (x.xor ks o).cells);clear hb hr hx;go_wp2_with (first
    | (refine wpList_load_row rfl 283 (.tmp 2) rfl G rfl 283 _ (0,0) _ HB.out Tryz.underlying283 rfl (W4.size _) ?_)
    | (refine wpList_store_row rfl 283 (.tmp 4) (.tmp 19) rfl (G+1) (x.xor ks o).cells rfl rfl 283 _ HR.out (W4.size _) rfl (W4.all _) ?_))
   (try simp only[Exit.jump])
   exact zaU rfl rfl (G+1) 283 _ (0,0) rfl HFI.out Tryz.underlying283 (W4.size _) ⟨rfl,HXX.out⟩
end Go.Proofs.YtokbbmngfogbbaaGreatDoor.T
