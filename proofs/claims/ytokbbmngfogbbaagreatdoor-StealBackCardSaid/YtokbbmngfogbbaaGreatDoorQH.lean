/- Own lemmas of the verifier on memory, numbers and the functions that the laws call; no statement is proved here. -/
import Derived.Test.YtokbbmngfogbbaaGreatDoorQG
import Derived.Test.YtokbbmngfogbbaaGreatDoorProg
import Derived.Deep.QuietTactic
import Derived.BigQuiet
import Derived.Laws.BitsAllLaws
import Derived.WalkMore
import Derived.ScopeJumps
import Derived.Deep.WholeRow
import Derived.ChangeKeysEq
import Derived.StillTailTactics
import Derived.Deep.RegionWith
import Derived.Deep.MidRow
import Derived.Laws.Cover3
import Derived.Lib.AppendZeros
import Derived.RegionTactic
import Derived.Deep.OwnRows
import Derived.Lib.AppendZerosOnto
import Derived.Laws.CopyRow
import Derived.Deep.RegionLaw
import Derived.Deep.DeepCutAuto
import Derived.Deep.CutBlock
import Derived.Laws.Rows
import Derived.Laws.Tables
import Derived.ArgAppend
import Derived.RangeFuncNested
import Derived.RangeFuncBound
import Derived.RangeFuncCalls
import Derived.RangeFuncLeaves
import Derived.RangeFuncBox
import Derived.OwnWalkIn
import Derived.TacticsInMore
import Derived.LoopNIn
import Derived.LoopIn
import Derived.Maps.AppendAt
import Derived.Shelf.Abstract
import Derived.WalkKit
import Derived.OneCell
namespace Go.Proofs.YtokbbmngfogbbaaGreatDoor
open Go.RowKit
set_option maxRecDepth 100000
set_option maxHeartbeats 8000000
theorem zak{k:IntKind}{a b:Int}(h:a=b):Ending.returned (.int k a)=.returned (.int k b):=by rw[h]
theorem zht{a b:Bool}(h:a=b):Ending.returned (.bool a)=.returned (.bool b):=by rw[h]
theorem zmp(t:Int):bits .and .i64 t 1=t%2:=by
 have e0:bits .and .i64 t 1=IntKind.i64.wrap ((BitVec.ofInt 64 t&&&BitVec.ofInt 64 1).toNat:Int):=rfl;have e:(BitVec.ofInt 64 t&&&BitVec.ofInt 64 1).toNat=(t%2).toNat:=by rw[BitVec.toNat_and,BitVec.toNat_ofInt,BitVec.toNat_ofInt];have:(1%((2^64:Nat):Int)).toNat=1:=rfl;rw[this,nat_mask1];omega
 rw[e0,e];simp[IntKind.wrap,IntKind.bits,IntKind.signed];omega
theorem zfp(x:Nat)(h:x<256):((UInt8.ofNat x).toNat:Int)=x:=by
 rw[UInt8.toNat_ofNat'];omega
theorem za1{α:Type}(l:List α)(i:Nat)(d:α)(h:i<l.length):l.getD i d=l[i]:=by simp[List.getD,List.getElem?_eq_getElem h]
theorem zrd(n:Int):bits .and .u64 (IntKind.u64.wrap n) 31=n%32:=by
 rw[IntKind.wrap_u64,show(31:Int)=((31:Nat):Int) from rfl,show n%18446744073709551616=((n%18446744073709551616).toNat:Int) by omega,u64_and_nat _ _ (by omega) (by omega),nat_mask5];omega
def zf7(a:Int)(s:Nat):Int:=bits .or .u32 (a*2^s%4294967296) (a/2^(32-s))
def isLen(k n:Nat):Bool:=decide (n=k)
def zeo(bs:List UInt8)(n:Nat):Int:=if n=4 then be bs 4 else 0
theorem zcj{k:IntKind}{a b:Int}{p q:Bool}(h:a=b)(hp:p=q):Ending.returned (.tuple #[.int k a,.bool p])=.returned (.tuple #[.int k b,.bool q]):=by rw[h,hp]
theorem zev(bs:List UInt8):0<=be bs 4/\be bs 4<4294967296:=by
 have h0:=zae bs 0;have h1:=zae bs 1;have h2:=zae bs 2;have h3:=zae bs 3;have k0:=zaf bs 0;have k1:=zaf bs 1;have k2:=zaf bs 2;have k3:=zaf bs 3;rw[be4];omega
def xorF(xs ys:List UInt8)(i:Nat):UInt8:=xs.getD i 0^^^ys.getD i 0
def xorL(xs ys:List UInt8)(n:Nat):List UInt8:=(List.range n).map (xorF xs ys)
theorem zhv(xs ys:List UInt8)(k:Nat):((xorF xs ys k).toNat:Int)=bits .xor .u8 (zah xs k) (zah ys k):=by
 unfold xorF zah;rw[UInt8.toNat_xor,u8_xor_nat _ _ (UInt8.toNat_lt _) (UInt8.toNat_lt _)]
def rolN(w a s:Nat):Nat:=a*2^s%2^w|||a/2^(w-s)
theorem zdk(w a s k:Nat)(ha:a<2^w)(hs:s<w)(hk:k<w):(rolN w a s).testBit k=a.testBit ((k+w-s)%w):=by
 have big:∀m,w<=m->a.testBit m=false:=fun m hm=>Nat.testBit_lt_two_pow (Nat.lt_of_lt_of_le ha (Nat.pow_le_pow_right (by omega) hm))
 unfold rolN;rw[Nat.testBit_or,Nat.testBit_mod_two_pow,Nat.testBit_mul_two_pow,Nat.testBit_div_two_pow];by_cases h:s<=k
 ·rw[big (k+(w-s)) (by omega)];have e:(k+w-s)%w=k-s:=by rw[show k+w-s=(k-s)+w by omega,Nat.add_mod_right,Nat.mod_eq_of_lt (by omega)]
  rw[e];simp[hk,h]
 ·have e:(k+w-s)%w=k+(w-s):=by rw[show k+w-s=k+(w-s) by omega,Nat.mod_eq_of_lt (by omega)]
  rw[e];simp[h]
theorem zcD(w a s:Nat)(ha:a<2^w):rolN w a s<2^w:=by
 unfold rolN;exact Nat.or_lt_two_pow (Nat.mod_lt _ (Nat.two_pow_pos _)) (Nat.lt_of_le_of_lt (Nat.div_le_self _ _) ha)
theorem ze0(w a b:Nat)(ha:a<2^w)(hb:b<2^w)(h:∀k,k<w->a.testBit k=b.testBit k):a=b:=by
 apply Nat.eq_of_testBit_eq;intro k;rcases Nat.lt_or_ge k w with hk|hk
 ·exact h k hk
 ·rw[Nat.testBit_lt_two_pow (Nat.lt_of_lt_of_le ha (Nat.pow_le_pow_right (by omega) hk)),Nat.testBit_lt_two_pow (Nat.lt_of_lt_of_le hb (Nat.pow_le_pow_right (by omega) hk))]
theorem zk9(x s m:Nat):((x*2^s%m:Nat):Int)=(x:Int)*2^s%(m:Int):=by
 rw[Int.natCast_emod,Int.natCast_mul,Int.natCast_pow];rfl
theorem zdV(x s:Nat):((x/2^s:Nat):Int)=(x:Int)/2^s:=by
 rw[Int.natCast_ediv,Int.natCast_pow];rfl
theorem ziz(x s:Nat)(hx:x<4294967296)(_hs:s<32):zf7 (x:Int) s=((rolN 32 x s:Nat):Int):=by
 unfold zf7 rolN;have h1:x*2^s%2^32<4294967296:=Nat.mod_lt _ (by omega);have h2:x/2^(32-s)<4294967296:=Nat.lt_of_le_of_lt (Nat.div_le_self _ _) hx;rw[<-u32_or_nat _ _ h1 h2,zk9,zdV];rfl
theorem zar(xs ys:List UInt8)(n:Nat):(xorL xs ys n).length=n:=by simp[xorL]
def zbI{α:Type}(ls:List (List α))(k:Nat):Nat:=(ls.take k).flatten.length
theorem zcS{α:Type}(ls:List (List α))(k:Nat)(_h:k<ls.length):zbI ls (k+1)<=ls.flatten.length:=by
 unfold zbI;have e:ls.flatten=(ls.take (k+1)).flatten++(ls.drop (k+1)).flatten:=by rw[<-List.flatten_append,List.take_append_drop]
 rw[e,List.length_append];omega
theorem zes{α:Type}(ls:List (List α)):zbI ls ls.length=ls.flatten.length:=by unfold zbI;rw[List.take_length]
theorem zaz(w:World)(g j:Nat)(x:Value):w.grownBy (w.setCell ⟨g,j,none⟩ x) (some g) :=
 ⟨rfl,rfl,rfl,by simp,fun k _ hk=>heap_setCell_other w ⟨g,j,none⟩ k x (fun e=>hk (by rw[e]))⟩
def zdw:Value->Nat
 | .slice _ n _=>n
 | _=>0
def iAt(k:Nat)(a:Act):Nat:=match a.tmps.getD k undef with | .int _ q=>q.toNat|_=>0
theorem zhT(a n:Int)(hn:0<n)(h:a.tmod n<0):a.tmod n+n=a%n:=by
 have h:=@Int.tmod_eq_emod a n;have h1:=Int.emod_nonneg a (Int.ne_of_gt hn);have h2:=Int.emod_lt_of_pos a hn;split at h<;>omega
theorem zhQ(a n:Int)(hn:0<n)(h:¬a.tmod n<0):a.tmod n=a%n:=by
 have h:=@Int.tmod_eq_emod a n;have h1:=Int.emod_nonneg a (Int.ne_of_gt hn);have h2:=Int.emod_lt_of_pos a hn;split at h<;>omega
theorem zkT(a n:Int)(w:World)(h0:0<n)(h1:n<=9223372036854775807):
  Calls Tryz.prog 46 #[.int .i64 a,.int .i64 n] w fun e w'=>e=.returned (.int .i64 (a%n))/\w=w':=by
 have b1:=Int.tmod_lt_of_pos a h0;by_cases hc:a.tmod n<0
 ·have hf:=zhT a n h0 hc;have b2:=Int.emod_nonneg a (Int.ne_of_gt h0);have b3:0<=a.tmod n+n:=by omega
  have HF:=hid hf;clear hf b2;go_enter Tryz.func46,Tryz.ntmps46;go_wp2;go_ret;exact⟨zak HF.out,rfl⟩
 ·have hf:=zhQ a n h0 hc;have HF:=hid hf;clear hf;go_enter Tryz.func46,Tryz.ntmps46;go_wp2;go_ret;exact⟨zak HF.out,rfl⟩
theorem ztT(t:Int):bits .and .i64 t 7=t%8:=by
 have e0:bits .and .i64 t 7=IntKind.i64.wrap ((BitVec.ofInt 64 t&&&BitVec.ofInt 64 7).toNat:Int):=rfl;have e:(BitVec.ofInt 64 t&&&BitVec.ofInt 64 7).toNat=(t%8).toNat:=by rw[BitVec.toNat_and,BitVec.toNat_ofInt,BitVec.toNat_ofInt];have:(7%((2^64:Nat):Int)).toNat=7:=rfl;rw[this,nat_mask3];omega
 rw[e0,e];simp[IntKind.wrap,IntKind.bits,IntKind.signed];omega
theorem zh2(op:BinOp)(a b:Int):0<=bits op .u8 a b/\bits op .u8 a b<256:=by
 unfold bits;simp[IntKind.wrap,IntKind.bits,IntKind.signed];omega
theorem zqt(t:Int)(n:Nat)(hn:0<n):t%(8*n)=8*(t/8%n)+t%8:=by
 have h1:t=8*n*(t/8/n)+(8*(t/8%n)+t%8):=by
  have a:=Int.mul_ediv_add_emod (t/8) n;have b:=Int.mul_ediv_add_emod t 8;have c:8*(n:Int)*(t/8/n)=8*(n*(t/8/n)):=by rw[Int.mul_assoc]
  rw[c];omega
 have h2:=Int.emod_nonneg (t/8) (show(n:Int)≠0 by omega);have h3:=Int.emod_lt_of_pos (t/8) (show(0:Int)<n by omega);have h4:(8*(t/8%n)+t%8)<8*n:=by omega
 conv=>lhs;rw[h1]
 rw[Int.add_comm,Int.add_mul_emod_self_left,Int.emod_eq_of_lt (by omega) h4]
def zd0(bs:List UInt8)(n f s i:Nat):UInt8 :=
 u8 (bits .or .u8 (zah bs ((f+i)%n)*2^s%256) (zah bs ((f+i+1)%n)/2^(8-s)))
def zbe(bs:List UInt8)(n f s:Nat):List UInt8:=(List.range n).map (zd0 bs n f s)
theorem zdF(bs:List UInt8)(n f s i:Nat):((zd0 bs n f s i).toNat:Int)=bits .or .u8 (zah bs ((f+i)%n)*2^s%256) (zah bs ((f+i+1)%n)/2^(8-s)):=by
 unfold zd0;rw[zbB];have:=zh2 .or (zah bs ((f+i)%n)*2^s%256) (zah bs ((f+i+1)%n)/2^(8-s));omega
theorem zk5(a n:Nat)(_hn:0<n):(a+1)%n=if a%n+1=n then 0 else a%n+1:=by
 rw[Nat.add_mod];rcases Nat.eq_or_lt_of_le (show 1<=n by omega) with h1|h1
 ·subst h1;simp[Nat.mod_one]
 ·have h2:a%n<n:=Nat.mod_lt _ (by omega);rw[Nat.mod_eq_of_lt h1];split
  ·next h=>rw[h];exact Nat.mod_self n
  ·exact Nat.mod_eq_of_lt (by omega)
def tf(t:Int)(n:Nat):Nat:=(t/8%n).toNat
def ts(t:Int):Nat:=(t%8).toNat
theorem zbT(bs:List UInt8)(n f s:Nat):(zbe bs n f s).length=n:=by simp[zbe]
end Go.Proofs.YtokbbmngfogbbaaGreatDoor
namespace Go.Proofs.YtokbbmngfogbbaaGreatDoor
set_option maxRecDepth 100000
set_option maxHeartbeats 8000000
theorem zlb:∀(n:Nat) (f:Nat->Nat),(∀i,i<n->f i<n)->(∀i j,i<n->j<n->f i=f j->i=j)->∀y,y<n->∃x,x<n/\f x=y
 | 0,_,_,_,y,hy=>absurd hy (by omega)
 | n+1,f,hf,hi,y,hy=>by
   by_cases hny:f n=y
   ·exact⟨n,by omega,hny⟩
   ·have ih:=zlb n (fun i=>if f i=n then f n else f i) (by
     intro i hin;have h1:=hf i (by omega);have h2:=hf n (by omega);have h3:f i=f n->i=n:=hi i n (by omega) (by omega);show(if f i=n then f n else f i)<n;split
     ·rename_i h4;have:f n≠n:=fun h5=>by have:=h3 (by omega);omega
      omega
     ·omega) (by
     intro i j hin hjn he;have h1:=hi i j (by omega) (by omega);have h2:f i=f n->i=n:=hi i n (by omega) (by omega);have h3:f j=f n->j=n:=hi j n (by omega) (by omega);split at he<;>split at he
     ·exact h1 (by omega)
     ·have:=h3 (by omega);omega
     ·have:=h2 (by omega);omega
     ·exact h1 he)
    by_cases hy2:y=n
    ·subst hy2;obtain⟨x,hx,he⟩:∃x,x<y/\f x=y:=by
      have h2:=hf y (by omega);obtain⟨x,hx,he⟩:=ih (f y) (by omega);refine⟨x,hx,?_⟩;split at he
      ·assumption
      ·have:=hi x y (by omega) (by omega) he;omega
     exact⟨x,by omega,he⟩
    ·obtain⟨x,hx,he⟩:=ih y (by omega);split at he
     ·exact absurd he hny
     ·exact⟨x,by omega,he⟩
end Go.Proofs.YtokbbmngfogbbaaGreatDoor
namespace Go.Proofs.YtokbbmngfogbbaaGreatDoor
open Go.RowKit
set_option maxRecDepth 100000
set_option maxHeartbeats 8000000
def nb(bs:List UInt8)(k:Nat):Nat:=(bs.getD k 0).toNat
theorem zaV(bs:List UInt8)(k:Nat):zah bs k=(nb bs k:Nat):=rfl
theorem zcW(bs:List UInt8)(k:Nat):nb bs k<256:=(bs.getD k 0).toNat_lt
theorem retX{w:World}{v:Value}(e:Ending)(w':World)(h:e=.returned v/\Ext w w'):∃u,e=.returned u/\Ext w w'/\K.holds (.eq v) w' u:=by
 obtain⟨rfl,hx⟩:=h;exact⟨_,rfl,hx,rfl⟩
theorem zhM(v:Int)(w:World):
  Calls Tryz.prog 180 #[.int .u32 v] w fun e w'=>e=.returned (.int .u32 (rev32 v))/\w=w':=by
 go_enter Tryz.func180,Tryz.ntmps180;go_wp2;go_ret;exact⟨rfl,rfl⟩
theorem zf4(v:Int)(h0:0<=v)(h1:v<4294967296):0<=rev32 v/\rev32 v<4294967296:=by
 rw[zhO v h0 h1];omega
def zj0(bs:List UInt8)(n:Nat):Int:=if n=4 then le bs 4 4 else 0
theorem zi4(bs:List UInt8)(n:Nat):rev32 (zeo bs n)=zj0 bs n:=by
 unfold zeo zj0;split
 ·exact zrM bs
 ·exact zhO 0 (by omega) (by omega)
theorem znR(w a:Nat)(ha:a<2^w):rolN w a 0=a:=by
 unfold rolN;rw[Nat.pow_zero,Nat.mul_one,Nat.mod_eq_of_lt ha,Nat.sub_zero,Nat.div_eq_of_lt ha,Nat.or_zero]
theorem zbJ{n:Nat}(h:n<4294967296):(UInt32.ofNat n).toNat=n:=by rw[UInt32.toNat_ofNat'];omega
theorem wlt(x:UInt32):x.toNat<4294967296:=x.toNat_lt
def rolW(x:UInt32)(s:Nat):UInt32:=UInt32.ofNat (rolN 32 x.toNat s)
theorem zbR(x:UInt32)(s:Nat):(rolW x s).toNat=rolN 32 x.toNat s:=zbJ (zcD 32 _ _ (wlt x))
theorem zhZ(x:UInt32)(s:Nat)(h:s<32):zf7 (x.toNat:Int) s=((rolW x s).toNat:Int):=by rw[ziz _ _ (wlt x) h,zbR]
theorem znx(x:UInt32):rolW x 0=x:=by
 apply UInt32.toNat_inj.1;rw[zbR,znR 32 _ (wlt x)]
def rolI(x:UInt32)(n:Int):UInt32:=rolW x (n%32).toNat
theorem zeu(x:UInt32):rolI x 0=x:=znx x
theorem zcd(a b:UInt32):((a.toNat:Int)+(b.toNat:Int))%4294967296=((a+b).toNat:Int):=by
 rw[UInt32.toNat_add];omega
def nW(ks:List UInt32):List Int:=ks.map fun x=>((x.toNat:Nat):Int)
theorem zac(ks:List UInt32):(nW ks).length=ks.length:=by simp[nW]
theorem zfs(ks:List UInt32)(j:Nat)(h:j<ks.length):(nW ks).getD j 0=((ks.getD j 0).toNat:Nat):=by simp[nW,h]
theorem zaK(xs ys:List UInt32):nW (xs++ys)=nW xs++nW ys:=by simp[nW]
end Go.Proofs.YtokbbmngfogbbaaGreatDoor
namespace Go.Proofs.YtokbbmngfogbbaaGreatDoor
set_option maxRecDepth 100000
set_option maxHeartbeats 8000000
def xt(m x:Nat):Nat:=if 256<=2*x then(2*x)^^^m else 2*x
def xtk(m:Nat):Nat->Nat->Nat
 | 0,x=>x
 | k+1,x=>xt m (xtk m k x)
def gmk(m a b:Nat):Nat->Nat
 | 0=>0
 | k+1=>if b/2^k%2=1 then gmk m a b k^^^xtk m k a else gmk m a b k
def gm(m a b:Nat):Nat:=gmk m a b 8
structure zal (m:Nat):Prop where
 lo:256<=m
 hi:m<512
theorem zbj{x y:Nat}(hx:x<256)(hy:y<256):x^^^y<256:=Nat.xor_lt_two_pow (n:=8) hx hy
theorem ze1(x y k:Nat):(x^^^y)/2^k=(x/2^k)^^^(y/2^k):=by
 rw[<-Nat.shiftRight_eq_div_pow,<-Nat.shiftRight_eq_div_pow,<-Nat.shiftRight_eq_div_pow,Nat.shiftRight_xor_distrib]
theorem zci(a b c d:Nat):(a^^^b)^^^(c^^^d)=(a^^^c)^^^(b^^^d):=by
 ac_rfl
theorem zeh(m x j:Nat):∀k,xtk m (j+k) x=xtk m k (xtk m j x)
 | 0=>rfl
 | k+1=>by rw[<-Nat.add_assoc,xtk,zeh m x j k];rfl
theorem zeb(m a k:Nat)(hk:k<8):gm m a (2^k)=xtk m k a:=by
 unfold gm
 match k,hk with
 | 0,_|1,_|2,_|3,_|4,_|5,_|6,_|7,_=>simp[gmk]
theorem zil:∀b<256,b=(if b/2^0%2=1 then 1 else 0)^^^(if b/2^1%2=1 then 2 else 0)^^^(if b/2^2%2=1 then 4 else 0)^^^(if b/2^3%2=1 then 8 else 0) ^^^
  (if b/2^4%2=1 then 16 else 0)^^^(if b/2^5%2=1 then 32 else 0)^^^(if b/2^6%2=1 then 64 else 0)^^^(if b/2^7%2=1 then 128 else 0):=by decide +kernel
theorem zhJ(m k:Nat)(hk:k<8):xtk m k 1=2^k:=by
 match k,hk with
 | 0,_|1,_|2,_|3,_|4,_|5,_|6,_|7,_=>simp[xtk,xt]
end Go.Proofs.YtokbbmngfogbbaaGreatDoor
namespace Go.Proofs.YtokbbmngfogbbaaGreatDoor
open Go.RowKit
set_option maxRecDepth 100000
set_option maxHeartbeats 8000000
theorem ze6(q:Nat)(h:q<256):bits .and .u8 (q:Int) 1=((q%2:Nat):Int):=by
 rw[show(1:Int)=((1:Nat):Int) from rfl,u8_and_nat _ _ h (by omega),nat_mask1]
theorem zid{m a b k:Nat}(h:b/2^k=0):∀j,gmk m a b (k+j)=gmk m a b k
 | 0=>rfl
 | j+1=>by rw[<-Nat.add_assoc,gmk,if_neg,zid h j];rw[Nat.pow_add,<-Nat.div_div_eq_div_mul,h];simp
theorem zgD(m:Int)(w:World)(h0:256<=m)(h1:m<=511):Calls Tryz.prog 184 #[.int .i64 m] w fun e w'=>e=.returned (.bool true)/\w=w':=by
 go_enter Tryz.func184,Tryz.ntmps184;go_wp2;go_ret;exact⟨rfl,rfl⟩
def qOf(a:Act):Nat:=match a.tmps.getD 1 undef with | .int _ q=>q.toNat|_=>0
end Go.Proofs.YtokbbmngfogbbaaGreatDoor
