/- Own lemmas of the verifier on memory, numbers and the functions that the laws call; no statement is proved here. -/
import Derived.Test.YtokbbmngfogbbaaGreatDoorQH
import Derived.Deep.QuietTactic
import Derived.BigQuiet
import Derived.Laws.Rows
import Derived.Laws.Tables
import Derived.Lib.AppendZeros
import Derived.RegionTactic
import Derived.ArgAppend
import Derived.Deep.OwnRows
import Derived.OneCell
namespace Go.Proofs.YtokbbmngfogbbaaGreatDoor.S
open Go.RowKit
set_option maxRecDepth 100000
set_option maxHeartbeats 8000000
theorem Tryz.info5:(Tryz.prog.info? 5).map (fun i=>(i.zero,i.size,i.bytes))=some (some (.int .u8 0),1,1):=by kernel_rfl
theorem zef(a n:Int)(hn:0<n) : - n<a.tmod n:=by
 have h:=@Int.tmod_eq_emod a n;have h1:=Int.emod_nonneg a (Int.ne_of_gt hn);have h2:=Int.emod_lt_of_pos a hn;split at h<;>omega
theorem zbm(a n:Int)(hn:0<n):(a.tmod n+n)%n=a%n:=by
 have h:=@Int.tmod_eq_emod a n;rw[Int.add_emod_right];split at h
 ·rw[h];simp
 ·rw[h,Int.sub_emod];
  have:(n.natAbs:Int)%n=0:=by rw[Int.natAbs_of_nonneg (by omega)];simp
  rw[this];simp
theorem zcH(a n:Int)(w:World)(h0:0<n)(h1:n<=4611686018427387903):
  Calls Tryz.prog 116 #[.int .i64 a,.int .i64 n] w fun e w'=>e=.returned (.int .i64 (a%n))/\w=w':=by
 have b1:=Int.tmod_lt_of_pos a h0;have b2:=zef a n h0;have hf:=zbm a n h0;have HF:=hid hf;clear hf;go_enter Tryz.func116,Tryz.ntmps116;go_wp2;go_ret;exact⟨zak HF.out,rfl⟩
theorem rl32(a n:Int)(w:World):
  Calls Tryz.prog 174 #[.int .u32 a,.int .i64 n] w fun e w'=>e=.returned (.int .u32 (zf7 a (n%32).toNat))/\w=w':=by
 have hs:=zrd n;obtain⟨s,hsn⟩:∃s:Nat,n%32=s:=⟨(n%32).toNat,by omega⟩;have hs1:s<=31:=by omega
 rw[hsn] at hs;have HS:=hid (show(n%32).toNat=s by omega);clear hsn;go_enter Tryz.func174,Tryz.ntmps174;go_wp2;go_ret;exact⟨zak (by rw[HS.out];rfl),rfl⟩
theorem zsb(a n:Int)(w:World):
  Calls Tryz.prog 75 #[.int .u32 a,.int .i64 n] w fun e w'=>e=.returned (.int .u32 (zf7 a (n%32).toNat))/\w=w':=by
 obtain⟨s,hsn⟩:∃s:Nat,n%32=s:=⟨(n%32).toNat,by omega⟩;have hs1:s<=31:=by omega
 have HS:=hid (show(n%32).toNat=s by omega);go_enter Tryz.func75,Tryz.ntmps75;go_wp2_with (go_at_call 116;refine(zcH _ _ _ (by omega) (by omega)).mono ?_;rintro e w' ⟨rfl,rfl⟩)
 go_ret;exact⟨zak (by rw[HS.out];rfl),rfl⟩
theorem zfR(a n:Int)(w:World):
  Calls Tryz.prog 141 #[.int .u32 a,.int .i64 n] w fun e w'=>e=.returned (.int .u32 (zf7 a (n%32).toNat))/\w=w':=by
 go_enter Tryz.func141,Tryz.ntmps141;go_wp2_with (go_at_call 174;refine(rl32 _ _ _).mono ?_;rintro e w' ⟨rfl,rfl⟩)
 go_ret;exact⟨rfl,rfl⟩
theorem zbp(A:Option Addr)(n c B:Nat)(bs:List UInt8)(w:World)(h:Rd w B A n bs)(hn:n<=140737488355328):
  Calls Tryz.prog 189 #[.slice A n c] w fun e w'=>e=.returned (.int .u64 (be bs n))/\w=w':=by
 go_enter Tryz.func189,Tryz.ntmps189;go_wp2;go_loop [3,8] (fun v i=>∃k:Nat,k<=n/\i=.int .i64 k/\v=.int .u64 (be bs k)) (fun _ i=>n-(intOf i).toNat)
 case atStart=>exact⟨0,Nat.zero_le _,rfl,rfl⟩
 case round =>
  obtain⟨k,hk,rfl,rfl⟩:=hrel;by_cases hlt:k<n
  ·obtain⟨b,o,rfl,hb,hc⟩:=h.at_ (by omega);have hck:=hc k hlt;have h1:=zae bs k;have h2:=zaf bs k;clear h hc;go_wp2;go_round
   case rel=>exact⟨k+1,by omega,by go_num,rfl⟩
   case measure=>simp[intOf];omega
  ·go_wp2;go_ret;obtain rfl:k=n:=by omega
   exact⟨rfl,rfl⟩
theorem zrA(A:Option Addr)(n c B:Nat)(bs:List UInt8)(w:World)(h:Rd w B A n bs)(hn:n<=140737488355328):
  Calls Tryz.prog 107 #[.slice A n c] w fun e w'=>e=.returned (.int .u64 (be bs n))/\w=w':=by
 go_enter Tryz.func107,Tryz.ntmps107;go_wp2;go_loop [3,4] (fun v i=>∃k:Nat,k<=n/\i=.int .i64 k/\v=.int .u64 (be bs k)) (fun _ i=>n-(intOf i).toNat)
 case atStart=>exact⟨0,Nat.zero_le _,rfl,rfl⟩
 case round =>
  obtain⟨k,hk,rfl,rfl⟩:=hrel;by_cases hlt:k<n
  ·obtain⟨b,o,rfl,hb,hc⟩:=h.at_ (by omega);have hck:=hc k hlt;have h1:=zae bs k;have h2:=zaf bs k;clear h hc;go_wp2;go_round
   case rel=>exact⟨k+1,by omega,by go_num,rfl⟩
   case measure=>simp[intOf];omega
  ·go_wp2;go_ret;obtain rfl:k=n:=by omega
   exact⟨rfl,rfl⟩
theorem zeI(A:Option Addr)(n c B:Nat)(bs:List UInt8)(w:World)(h:Rd w B A n bs)(hn:n<=140737488355328):
  Calls Tryz.prog 73 #[.slice A n c] w fun e w'=>e=.returned (.int .u64 (le bs n n))/\w=w':=by
 go_enter Tryz.func73,Tryz.ntmps73;go_wp2;go_loop [3,4] (fun v i=>∃k:Nat,k<=n/\i=.int .i64 ((n:Int)-k)/\v=.int .u64 (le bs n k)) (fun _ i=>(intOf i).toNat)
 case atStart=>exact⟨0,Nat.zero_le _,by simp,rfl⟩
 case round =>
  obtain⟨k,hk,rfl,rfl⟩:=hrel;by_cases hlt:k<n
  ·obtain⟨b,o,rfl,hb,hc⟩:=h.at_ (by omega);have hck:=hc (n-1-k) (by omega);have e:o+(n-1-k)=o+(n-k-1):=by omega
   rw[e] at hck;have h1:=zae bs (n-1-k);have h2:=zaf bs (n-1-k);have hpos:(0:Int)<(n:Int)-k:=by omega
   clear h hc e;go_wp2;go_round
   case rel=>exact⟨k+1,by omega,by go_num,rfl⟩
   case measure=>simp[intOf];omega
  ·go_wp2;go_ret;obtain rfl:k=n:=by omega
   exact⟨rfl,rfl⟩
theorem zch(v:Int)(n:Nat)  (w:World)(hn:n<=8):
  Calls Tryz.prog 193 #[.int .u64 v,.int .i64 n] w (RetB w (zay v n)):=by
 go_enter Tryz.func193,Tryz.ntmps193;go_wp2_with (at_make;refine zaP rfl (.tmp 7) (.tmp 7) 22 rfl Tryz.underlying22 Tryz.info5 .i64 n n rfl rfl rfl (by omega) w.heap.size (Nat.le_refl _) ?_;intro w1 hown1 hb1 _)
 go_loopw [11] (fun i wr=>∃k:Nat,k<=n/\i=.int .i64 k/\Own wr w.heap.size (.slice (some ⟨w.heap.size,0,none⟩) n n) (zao (za6 v n) n k)/\Below w.heap.size w wr) (fun i _=>n-(intOf i).toNat)
 case atStart=>exact⟨0,Nat.zero_le _,rfl,by rw[zaG];exact hown1,hb1⟩
 case round =>
  obtain⟨k,hk,rfl,hown,hb⟩:=hrel;by_cases hlt:k<n
  ·obtain⟨cur,hcur⟩:∃cur,zao (za6 v n) n k=cur:=⟨_,rfl⟩;have hcl:cur.length=n:=by rw[<-hcur];exact zad _ _ _
   rw[hcur] at hown;have hown0:Own wr w.heap.size (.slice (some ⟨w.heap.size,0,none⟩) cur.length n) cur:=by rw[hcl];exact hown
   have hcell:=hown0.cell k (by omega);have hfree:=hown0.free k;have hset:=hown0.set_ k (za6 v n k);rw[<-hcur,zaO _ _ _ _ rfl,zad] at hset;have hval:((za6 v n k).toNat:Int)=v/2^(8*(n-1-k))%256:=by unfold za6;exact zbB _
   rw[hval] at hset;have HH:=hid hset;have HB:=hid hb;clear hset hval hown0 hown hb hcl hcur hown1 hb1;go_wp2;go_roundw
   case rel=>exact⟨k+1,by omega,by go_num,HH.out,HB.out.setCell (by simp) _⟩
   case measure=>simp[intOf];omega
  ·obtain rfl:k=n:=by omega
   have HH:=hid (And.intro hown hb);clear hown hb hown1 hb1;go_wp2;go_ret;exact⟨_,rfl,by have:=HH.out.1;rw[zaE] at this;exact this,HH.out.2⟩
theorem zcg(v:Int)(w:World)(h0:0<=v)(h1:v<4294967296):
  Calls Tryz.prog 195 #[.int .u32 v] w (RetB w (zct v)):=by
 go_enter Tryz.func195,Tryz.ntmps195;go_wp2_with (go_at_call 193;refine(zch _ 4 _ (by omega)).mono ?_;rintro e w' ⟨x,rfl,hx,hb⟩)
 go_ret;exact⟨_,rfl,by rw[<-zje];exact hx,hb⟩
theorem zcG(v:Int)(w:World)(h0:0<=v)(h1:v<4294967296):
  Calls Tryz.prog 192 #[.int .u32 v] w (RetB w (zco v)):=by
 have hr:=zf4 v h0 h1;go_enter Tryz.func192,Tryz.ntmps192;go_wp2_with (first
  | (go_at_call 180;refine(zhM _ _).mono ?_;rintro e w' ⟨rfl,rfl⟩)
  | (go_at_call 195;refine(zcg _ _ hr.1 hr.2).mono ?_;rintro e w' ⟨x,rfl,hx,hb⟩))
 go_ret;exact⟨_,rfl,by rw[<-znW v h0 h1];exact hx,hb⟩
theorem zl9(bs:List UInt8):0<=le bs 4 4/\le bs 4 4<4294967296:=by
 have h0:=zae bs 0;have h1:=zae bs 1;have h2:=zae bs 2;have h3:=zae bs 3;have k0:=zaf bs 0;have k1:=zaf bs 1;have k2:=zaf bs 2;have k3:=zaf bs 3;rw[le4];omega
theorem zdW(A:Option Addr)(n c B:Nat)(bs:List UInt8)(w:World)(h:Rd w B A n bs)(hn:n<=140737488355328):
  Calls Tryz.prog 173 #[.slice A n c] w fun e w'=>e=.returned (.tuple #[.int .u32 (zeo bs n),.bool (isLen 4 n)])/\w=w':=by
 by_cases h4:n=4
 ·subst h4;go_enter Tryz.func173,Tryz.ntmps173;go_wp2_with (go_at_call 189;refine(zbp _ _ _ _ _ _ h hn).mono ?_;rintro e w' ⟨rfl,rfl⟩)
  go_ret2;exact⟨zcj (by have:=zev bs;unfold zeo;rw[if_pos rfl];omega) rfl,rfl⟩
 ·have h5:((n:Int) != 4)=true:=by simp;omega
  go_enter Tryz.func173,Tryz.ntmps173;go_wp2_with (go_at_call 189;refine(zbp _ _ _ _ _ _ h hn).mono ?_;rintro e w' ⟨rfl,rfl⟩)
  go_ret2;exact⟨zcj (by simp[zeo,h4]) (by simp[isLen,h4]),rfl⟩
theorem zh1(A:Option Addr)(n c B:Nat)(bs:List UInt8)(w:World)(h:Rd w B A n bs)(hn:n<=140737488355328):
  Calls Tryz.prog 165 #[.slice A n c] w fun e w'=>e=.returned (.tuple #[.int .u32 (zj0 bs n),.bool (isLen 4 n)])/\w=w':=by
 go_enter Tryz.func165,Tryz.ntmps165;go_wp2_with (first
  | (go_at_call 173;refine(zdW _ _ _ _ _ _ h hn).mono ?_;rintro e w' ⟨rfl,rfl⟩)
  | (go_at_call 180;refine(zhM _ _).mono ?_;rintro e w' ⟨rfl,rfl⟩))
 go_ret2;exact⟨zcj (zi4 bs n) rfl,rfl⟩
theorem zfY(w a i j:Nat)(ha:a<2^w)(hi:i<w)(hj:j<w):rolN w (rolN w a i) j=rolN w a ((i+j)%w):=by
 have hl:(i+j)%w<w:=Nat.mod_lt _ (by omega);refine ze0 w _ _ (zcD _ _ _ (zcD _ _ _ ha)) (zcD _ _ _ ha) fun k hk=>?_
 have hm:(k+w-j)%w<w:=Nat.mod_lt _ (by omega);rw[zdk w _ j k (zcD _ _ _ ha) hj hk,zdk w a i _ ha hi hm,zdk w a _ k ha hl hk];congr 1
 -- all are k-i-j,by w
 rcases Nat.lt_or_ge (i+j) w with h|h
 ·rw[Nat.mod_eq_of_lt h];rcases Nat.lt_or_ge k j with h1|h1
  ·rw[Nat.mod_eq_of_lt (show k+w-j<w by omega),show k+w-j+w-i=k+w-(i+j)+w by omega,Nat.add_mod_right]
  ·rw[show k+w-j=(k-j)+w by omega,Nat.add_mod_right,Nat.mod_eq_of_lt (show k-j<w by omega)];congr 1;omega
 ·rw[show(i+j)%w=i+j-w by rw[Nat.mod_eq_sub_mod h,Nat.mod_eq_of_lt (by omega)]];rcases Nat.lt_or_ge k j with h1|h1
  ·rw[Nat.mod_eq_of_lt (show k+w-j<w by omega)];congr 1;omega
  ·rw[show k+w-j=(k-j)+w by omega,Nat.add_mod_right,Nat.mod_eq_of_lt (show k-j<w by omega),show k+w-(i+j-w)=k-j+w-i+w by omega,Nat.add_mod_right]
theorem zgp(x:UInt32)(i j:Nat)(hi:i<32)(hj:j<32):rolW (rolW x i) j=rolW x ((i+j)%32):=by
 apply UInt32.toNat_inj.1;rw[zbR,zbR,zbR,zfY 32 _ _ _ (wlt x) hi hj]
theorem zdz(x:UInt32)(m n:Int):rolI (rolI x m) n=rolI x (m+n):=by
 unfold rolI;rw[zgp _ _ _ (by omega) (by omega)];congr 1;omega
theorem zeq(x:UInt32)(n:Int):rolI (rolI x n) (-n)=x:=by rw[zdz,show n + -n=0 by omega,zeu]
theorem zdR(x:UInt32)(n:Int):rolI (rolI x (-n)) n=x:=by rw[zdz,show -n+n=0 by omega,zeu]
def mixW(w k:UInt32):UInt32:=(((w<<<4)^^^(w>>>5))+w)^^^k
structure RT where
 v:Nat->Nat
 lt:∀i,v i<18446744073709551616
def zc0[Inhabited RT]:List Nat:=(List.range 8).map (default:RT).v
def nib[Inhabited RT](j f:Nat):Nat:=zc0.getD j 0/2^(60-4*f)%16
theorem ztB[Inhabited RT](j f:Nat):nib j f<16:=Nat.mod_lt _ (by omega)
theorem zrh[Inhabited RT]:∀j,j<8->zc0.getD j 0<18446744073709551616:=fun j h=>by
 have e:zc0.getD j 0=(default:RT).v j:=by simp[zc0,h]
 rw[e];exact(default:RT).lt j
def gS[Inhabited RT](s:Nat):Nat->Nat
 | 0=>0
 | i+1=>gS s i+nib i (s/16^i%16)*16^i
theorem zp6[Inhabited RT](s:Nat):∀i,gS s i<16^i
 | 0=>by simp[gS]
 | i+1=>by have h1:=zp6 s i;have h2:=ztB i (s/16^i%16);have h3:nib i (s/16^i%16)*16^i<=15*16^i:=Nat.mul_le_mul_right _ (by omega);rw[gS,Nat.pow_succ];omega
def gU[Inhabited RT](s:UInt32):UInt32:=UInt32.ofNat (gS s.toNat 8)
theorem zoI[Inhabited RT](s:UInt32):(gU s).toNat=gS s.toNat 8:=zbJ (zp6 _ 8)
def gW[Inhabited RT](x k:UInt32):UInt32:=rolI (gU (x+k)) 11
inductive T3 where
 | x
 | m
 | r
deriving DecidableEq
def T3.code:T3->Int
 | .x=>4
 | .m=>5
 | .r=>8
def T3.size:T3->Nat
 | .x=>16
 | .m=>32
 | .r=>16
structure W2 where
 a:UInt32
 b:UInt32
deriving DecidableEq
def ziQ[Inhabited RT]:T3->UInt32->UInt32->UInt32->UInt32
 | .x,v,w,k=>v+mixW w k
 | .m,v,w,k=>v^^^gW w k
 | .r,v,w,k=>rolI (v^^^w) (w.toNat%32:Nat)+k
def zdL[Inhabited RT]:T3->UInt32->UInt32->UInt32->UInt32
 | .x,v,w,k=>v-mixW w k
 | .m,v,w,k=>v^^^gW w k
 | .r,v,w,k=>rolI (v-k) (-((w.toNat%32:Nat):Int))^^^w
theorem xor_xor(a b:UInt32):a^^^b^^^b=a:=by rw[UInt32.xor_assoc,UInt32.xor_self,UInt32.xor_zero]
theorem zjL[Inhabited RT](t:T3)(v w k:UInt32):zdL t (ziQ t v w k) w k=v:=by
 cases t
 ·exact UInt32.add_sub_cancel _ _
 ·exact xor_xor _ _
 ·simp only[zdL,ziQ];rw[UInt32.add_sub_cancel,zeq,xor_xor]
theorem zju[Inhabited RT](t:T3)(v w k:UInt32):ziQ t (zdL t v w k) w k=v:=by
 cases t
 ·exact UInt32.sub_add_cancel _ _
 ·exact xor_xor _ _
 ·simp only[zdL,ziQ];rw[xor_xor,zdR,UInt32.sub_add_cancel]
def fwd[Inhabited RT](t:T3)(ks:List UInt32)(x:W2):Nat->W2
 | 0=>x
 | i+1=>⟨(fwd t ks x i).b,ziQ t (fwd t ks x i).a (fwd t ks x i).b (ks.getD i 0)⟩
def bwd[Inhabited RT](t:T3)(ks:List UInt32)(n:Nat)(x:W2):Nat->W2
 | 0=>x
 | i+1=>⟨zdL t (bwd t ks n x i).b (bwd t ks n x i).a (ks.getD (n-1-i) 0),(bwd t ks n x i).a⟩
theorem zge[Inhabited RT](t:T3)(ks:List UInt32)(n:Nat)(x:W2):∀i,i<=n->bwd t ks n (fwd t ks x n) i=fwd t ks x (n-i)
 | 0,_=>rfl
 | i+1,h=>by have ih:=zge t ks n x i (by omega);rw[bwd,ih];obtain⟨m,hm⟩:∃m,n-i=m+1:=⟨n-i-1,by omega⟩;rw[hm,show n-1-i=m by omega,show n-(i+1)=m by omega];simp only[fwd];rw[zjL]
theorem zgq[Inhabited RT](t:T3)(ks:List UInt32)(n:Nat)(y:W2):∀i,i<=n->fwd t ks (bwd t ks n y n) i=bwd t ks n y (n-i)
 | 0,_=>rfl
 | i+1,h=>by have ih:=zgq t ks n y i (by omega);rw[fwd,ih];obtain⟨m,hm⟩:∃m,n-i=m+1:=⟨n-i-1,by omega⟩;rw[hm,show n-(i+1)=m by omega];simp only[bwd];rw[show n-1-m=i by omega,zju]
def crs:T3->W2->W2
 | .m,x=>⟨x.b,x.a⟩
 | _,x=>x
theorem zmh(t:T3)(x:W2):crs t (crs t x)=x:=by cases t<;>rfl
def zbG[Inhabited RT](t:T3)(ah:W2)(ks:List UInt32)(x:W2):W2:=crs t (fwd t ks ⟨x.a+ah.a,x.b+ah.b⟩ ks.length)
def zcZ[Inhabited RT](t:T3)(ah:W2)(ks:List UInt32)(x:W2):W2:=⟨(bwd t ks ks.length (crs t x) ks.length).a-ah.a,(bwd t ks ks.length (crs t x) ks.length).b-ah.b⟩
theorem ze5[Inhabited RT](t:T3)(ah:W2)(ks:List UInt32)(x:W2):zcZ t ah ks (zbG t ah ks x)=x:=by
 unfold zcZ zbG;rw[zmh,zge t ks _ _ _ (Nat.le_refl _),Nat.sub_self,fwd];simp only[UInt32.add_sub_cancel]
theorem ze2[Inhabited RT](t:T3)(ah:W2)(ks:List UInt32)(x:W2):zbG t ah ks (zcZ t ah ks x)=x:=by
 unfold zcZ zbG;simp only[UInt32.sub_add_cancel];have h:=zgq t ks ks.length (crs t x) ks.length (Nat.le_refl _);rw[Nat.sub_self,bwd] at h;have e:(⟨(bwd t ks ks.length (crs t x) ks.length).a,(bwd t ks ks.length (crs t x) ks.length).b⟩:W2)=bwd t ks ks.length (crs t x) ks.length:=rfl;rw[e,h,zmh]
def wd(t:T3)(l:List UInt8):UInt32:=UInt32.ofNat (match t with | .r=>(le l 4 4).toNat|_=>(be l 4).toNat)
def put(t:T3)(v:UInt32):List UInt8:=match t with | .r=>zco v.toNat|_=>zct v.toNat
theorem za8(t:T3)(v:UInt32):(put t v).length=4:=by cases t<;>rfl
theorem zop(l:List UInt8)(t:T3)(h:t ≠ .r):((wd t l).toNat:Int)=be l 4:=by
 have hr:=zev l;have e:wd t l=UInt32.ofNat (be l 4).toNat:=by
  cases t
  ·simp only[wd]
  ·simp only[wd]
  ·exact absurd rfl h
 rw[e,zbJ (by omega)];omega
theorem zoO(l:List UInt8):((wd .r l).toNat:Int)=le l 4 4:=by
 have hr:=zl9 l;have e:wd .r l=UInt32.ofNat (le l 4 4).toNat:=by simp only[wd]
 rw[e,zbJ (by omega)];omega
theorem zqd(v:UInt32)(t:T3)(h:t ≠ .r):put t v=zct v.toNat:=by
 cases t
 ·simp only[put]
 ·simp only[put]
 ·exact absurd rfl h
theorem zmb(a b c d:Int):zah [u8 a,u8 b,u8 c,u8 d] 0=a%256/\zah [u8 a,u8 b,u8 c,u8 d] 1=b%256/\zah [u8 a,u8 b,u8 c,u8 d] 2=c%256/\zah [u8 a,u8 b,u8 c,u8 d] 3=d%256 :=
 ⟨zbB a,zbB b,zbB c,zbB d⟩
theorem zp9(t:T3)(v:UInt32):wd t (put t v)=v:=by
 have hv:=wlt v;apply UInt32.toNat_inj.1;have key:((wd t (put t v)).toNat:Int)=v.toNat:=by
  by_cases h:t=.r
  ·subst h;rw[zoO,le4];have e:put .r v=zco v.toNat:=rfl;rw[e];unfold zco;obtain⟨h0,h1,h2,h3⟩:=zmb (v.toNat:Int) ((v.toNat:Int)/256) ((v.toNat:Int)/65536) ((v.toNat:Int)/16777216);rw[h0,h1,h2,h3];omega
  ·rw[zop _ _ h,zqd _ _ h,be4];unfold zct;obtain⟨h0,h1,h2,h3⟩:=zmb ((v.toNat:Int)/16777216) ((v.toNat:Int)/65536) ((v.toNat:Int)/256) (v.toNat:Int);rw[h0,h1,h2,h3];omega
 omega
theorem zdI(b:UInt8)(x:Int)(h:x%256=(b.toNat:Int)):u8 x=b:=by
 apply UInt8.toNat_inj.1;have:=zbB x;omega
theorem zqp(t:T3)(l:List UInt8)(hl:l.length=4):put t (wd t l)=l:=by
 match l,hl with
 | [b0,b1,b2,b3],_ =>
   have h0:=b0.toNat_lt;have h1:=b1.toNat_lt;have h2:=b2.toNat_lt;have h3:=b3.toNat_lt;have k0:zah [b0,b1,b2,b3] 0=(b0.toNat:Int):=rfl;have k1:zah [b0,b1,b2,b3] 1=(b1.toNat:Int):=rfl;have k2:zah [b0,b1,b2,b3] 2=(b2.toNat:Int):=rfl;have k3:zah [b0,b1,b2,b3] 3=(b3.toNat:Int):=rfl;by_cases h:t=.r
   ·subst h;have e:put .r (wd .r [b0,b1,b2,b3])=zco (wd .r [b0,b1,b2,b3]).toNat:=rfl;rw[e];unfold zco;rw[zoO,le4,k0,k1,k2,k3];rw[zdI b0 _ (by omega),zdI b1 _ (by omega),zdI b2 _ (by omega),zdI b3 _ (by omega)]
   ·rw[zqd _ _ h];unfold zct;rw[zop _ _ h,be4,k0,k1,k2,k3];rw[zdI b0 _ (by omega),zdI b1 _ (by omega),zdI b2 _ (by omega),zdI b3 _ (by omega)]
def part(bs:List UInt8)(i:Nat):List UInt8:=(bs.drop (4*i)).take 4
def inW(t:T3)(b:List UInt8):W2:=⟨wd t (part b 0),wd t (part b 1)⟩
def outW(t:T3)(x:W2):List UInt8:=put t x.a++put t x.b
theorem zjY(t:T3)(x:W2):(outW t x).length=8:=by simp[outW,za8]
theorem zgm(t:T3)(x:W2):inW t (outW t x)=x:=by
 have h1:part (outW t x) 0=put t x.a:=by unfold part outW;rw[show 4*0=0 from rfl,List.drop_zero,List.take_append_of_le_length (by rw[za8];omega),List.take_of_length_le (by rw[za8];omega)]
 have h2:part (outW t x) 1=put t x.b:=by unfold part outW;rw[List.drop_append_of_le_length (by rw[za8];omega),List.drop_eq_nil_of_le (by rw[za8];omega),List.nil_append,List.take_of_length_le (by rw[za8];omega)]
 unfold inW;rw[h1,h2,zp9,zp9]
theorem zgu(t:T3)(b:List UInt8)(hb:b.length=8):outW t (inW t b)=b:=by
 unfold outW inW;rw[zqp t _ (by simp[part];omega),zqp t _ (by simp[part];omega)];unfold part;rw[show 4*0=0 from rfl,List.drop_zero,show 4*1=4 from rfl,List.take_of_length_le (l:=b.drop 4) (by simp;omega)];exact List.take_append_drop 4 b
def gold:UInt32:=0x9E3779B9
def sumX(i:Nat):UInt32:=UInt32.ofNat (i*2654435769)
theorem znN(i:Nat):sumX (i+1)=sumX i+gold:=by
 unfold sumX gold;apply UInt32.toNat_inj.1;rw[UInt32.toNat_add,UInt32.toNat_ofNat',UInt32.toNat_ofNat'];have:(0x9E3779B9:UInt32).toNat=2654435769:=rfl;rw[this];omega
def keyX(k:Nat->UInt32)(j:Nat):UInt32:=if j%2=0 then sumX (j/2)+k ((sumX (j/2)).toNat%4) else sumX (j/2+1)+k ((sumX (j/2+1)).toNat/2048%4)
def keyM(k:Nat->UInt32)(j:Nat):UInt32:=if j<24 then k (j%8) else k (31-j)
structure R5 where
 s:List UInt32
 l:List UInt32
 a:UInt32
 b:UInt32
deriving DecidableEq
def rcA(z:R5)(n:Nat):UInt32:=rolI (z.s.getD (n%26) 0+z.a+z.b) 3
def rcB(z:R5)(n:Nat)(a:UInt32):UInt32:=rolI (z.l.getD (n%4) 0+a+z.b) ((a+z.b).toNat%32:Nat)
def zfh(n:Nat)(z:R5):R5:=⟨z.s.set (n%26) (rcA z n),z.l.set (n%4) (rcB z n (rcA z n)),rcA z n,rcB z n (rcA z n)⟩
def rcAt(z:R5):Nat->R5
 | 0=>z
 | n+1=>zfh n (rcAt z n)
def rc0(i:Nat):UInt32:=0xB7E15163+UInt32.ofNat i*gold
def zcz(l:List UInt32):R5:=⟨(List.range 26).map rc0,l,0,0⟩
theorem zfz(l:List UInt32):∀n,(rcAt (zcz l) n).s.length=26/\(rcAt (zcz l) n).l.length=l.length
 | 0=>⟨rfl,rfl⟩
 | n+1=>by simp[rcAt,zfh,zfz l n]
def kw(t:T3)(key:List UInt8)(i:Nat):UInt32:=wd t (part key i)
def words(t:T3)(bs:List UInt8)(n:Nat):List UInt32:=(List.range n).map (kw t bs)
theorem zaC(t:T3)(bs:List UInt8)(n:Nat):(words t bs n).length=n:=by simp[words]
theorem zeB(t:T3)(bs:List UInt8)(n j:Nat)(h:j<n):(words t bs n).getD j 0=kw t bs j:=by simp[words,h]
def rc5S(key:List UInt8):List UInt32:=(rcAt (zcz (words .r key 4)) 78).s
theorem zcb(key:List UInt8):(rc5S key).length=26:=(zfz _ 78).1
def zmY:T3->Nat
 | .x=>64
 | .m=>32
 | .r=>24
def keysOf:T3->List UInt8->List UInt32
 | .x,key=>(List.range 64).map (keyX (kw .x key))
 | .m,key=>(List.range 32).map (keyM (kw .m key))
 | .r,key=>(rc5S key).drop 2
theorem zbE(t:T3)(key:List UInt8):(keysOf t key).length=zmY t:=by
 cases t<;>simp[keysOf,zmY,zcb]
def zdf:T3->List UInt8->W2
 | .r,key=>⟨(rc5S key).getD 0 0,(rc5S key).getD 1 0⟩
 | _,_=>⟨0,0⟩
def zrD[Inhabited RT](t:T3)(key:List UInt8)(back:Bool)(x:W2):W2:=if back then zcZ t (zdf t key) (keysOf t key) x else zbG t (zdf t key) (keysOf t key) x
def zaF[Inhabited RT](t:T3)(key:List UInt8)(back:Bool)(b:List UInt8):List UInt8:=outW t (zrD t key back (inW t b))
theorem zbc[Inhabited RT](t:T3)(key:List UInt8)(back:Bool)(b:List UInt8):(zaF t key back b).length=8:=zjY _ _
theorem zbU[Inhabited RT](t:T3)(key:List UInt8)(back:Bool)(b:List UInt8)(hb:b.length=8):zaF t key (!back) (zaF t key back b)=b:=by
 unfold zaF;rw[zgm];have h:zrD t key (!back) (zrD t key back (inW t b))=inW t b:=by
  cases back
  ·exact ze5 _ _ _ _
  ·exact ze2 _ _ _ _
 rw[h,zgu t b hb]
theorem zfb(a b:UInt32):bits .xor .u32 (a.toNat:Int) (b.toNat:Int)=((a^^^b).toNat:Int):=by
 rw[u32_xor_nat _ _ (wlt a) (wlt b),UInt32.toNat_xor]
theorem zpm(a b:UInt32):((a.toNat:Int)-(b.toNat:Int))%4294967296=((a-b).toNat:Int):=by
 have h1:=wlt a;have h2:=wlt b;rw[UInt32.toNat_sub];omega
theorem zt5(a:UInt32):(a.toNat:Int)*(16:Int)%(4294967296:Int)=(((a<<<4:UInt32).toNat:Nat):Int):=by
 rw[UInt32.toNat_shiftLeft,show(4:UInt32).toNat%32=4 from rfl,Nat.shiftLeft_eq];omega
theorem zsQ(a:UInt32):(a.toNat:Int)/(32:Int)=(((a>>>5:UInt32).toNat:Nat):Int):=by
 rw[UInt32.toNat_shiftRight,show(5:UInt32).toNat%32=5 from rfl,Nat.shiftRight_eq_div_pow];omega
theorem zuG(v k:UInt32):bits .xor .u32 ((bits .xor .u32 ((v.toNat:Int)*16%4294967296) ((v.toNat:Int)/32)+v.toNat)%4294967296) (k.toNat:Int)=((mixW v k).toNat:Int):=by
 rw[zt5,zsQ,zfb,zcd,zfb];rfl
theorem zeP(x:UInt32)(n:Int)(w:World):
  Calls Tryz.prog 141 #[.int .u32 (x.toNat:Nat),.int .i64 n] w fun e w'=>e=.returned (.int .u32 ((rolI x n).toNat:Nat))/\w=w':=by
 refine(zfR _ _ _).mono ?_;rintro e w' ⟨rfl,rfl⟩;exact⟨zak (zhZ _ _ (by omega)),rfl⟩
theorem ziN(x:UInt32)(n:Int)(w:World):
  Calls Tryz.prog 75 #[.int .u32 (x.toNat:Nat),.int .i64 n] w fun e w'=>e=.returned (.int .u32 ((rolI x n).toNat:Nat))/\w=w':=by
 refine(zsb _ _ _).mono ?_;rintro e w' ⟨rfl,rfl⟩;exact⟨zak (zhZ _ _ (by omega)),rfl⟩
theorem zdG(v k:UInt32)(w:World):
  Calls Tryz.prog 243 #[.int .u32 (v.toNat:Nat),.int .u32 (k.toNat:Nat)] w fun e w'=>e=.returned (.int .u32 ((mixW v k).toNat:Nat))/\w=w':=by
 have h1:=wlt v;have h2:=wlt k;go_enter Tryz.func243,Tryz.ntmps243;go_wp2;go_ret;exact⟨zak (zuG v k),rfl⟩
theorem zc4(v:UInt32)(w:World):
  Calls Tryz.prog 142 #[.int .u32 (v.toNat:Nat)] w fun e w'=>e=.returned (.int .i64 (v.toNat%32:Nat))/\w=w':=by
 have h1:=wlt v;go_enter Tryz.func142,Tryz.ntmps142;go_wp2;go_ret;exact⟨zak (by omega),rfl⟩
def GRows[Inhabited RT](w:World):Prop:=∀j,j<8->w.cell? ⟨12,j,none⟩=some (.int .u64 (zc0.getD j 0:Nat))
theorem GRows.later[Inhabited RT]{w w':World}(h:GRows w)(hx:Ext w w'):GRows w':=fun j hj =>
 (Below.cell hx (p:=⟨12,j,none⟩) (World.block_lt_of_cell? w _ (h j hj))).trans (h j hj)
def zft[Inhabited RT]:List Value:=zc0.map fun n=>.int .u64 (n:Nat)
theorem zi7[Inhabited RT](j:Nat)(h:j<8):zft[j]? = some (.int .u64 (zc0.getD j 0:Nat)):=by
 have hl:j<zc0.length:=by simpa [zc0] using h
 unfold zft;rw[List.getElem?_map,List.getElem?_eq_getElem hl];simp[List.getD,hl]
theorem ztY:∀w,(sizeOf 292).run Tryz.prog w=.ok 8 w:=by intro w;kernel_rfl
theorem zuH:∀w,(isAgg 292).run Tryz.prog w=.ok true w:=by intro w;kernel_rfl
theorem znM[Inhabited RT]{w:World}(h:GRows w):(loadVar 292 ⟨12,0,none⟩).run Tryz.prog w=.ok (.agg zft.toArray) w:=by
 have hl:(loadCells ⟨12,0,none⟩ zft.length).run Tryz.prog w=.ok zft.toArray w :=
  run_loadCells_list (P:=Tryz.prog) w ⟨12,0,none⟩ zft (fun j v hv=>by
   have hj:j<8:=by
    rcases Nat.lt_or_ge j 8 with hj|hj
    ·exact hj
    ·rw[List.getElem?_eq_none (by simpa [zft,zc0] using hj)] at hv;cases hv
   rw[zi7 j hj] at hv;rw[za2,Nat.zero_add,h j hj];exact hv)
 unfold loadVar;simp only[Sem.run_bind,zuH,ztY,Result.andThen_ok,if_true];have e:zft.length=8:=by simp[zft,zc0]
 rw[e] at hl;simp only[hl,Result.andThen_ok,Sem.run_pure]
theorem zmL[Inhabited RT]{o:Oper}{a:Act}{w:World}(ho:o.op=.load 292 (.global 12))(h:GRows w):
  (execOp a.eval o).run Tryz.prog w=.ok (.value (.agg zft.toArray)) w:=by
 have h1:=znM h;unfold execOp;simp only[ho,Act.eval,Instr.loadAt,Instr.sureAddr,Sem.run_bind,Sem.run_pure,Result.andThen_ok,h1]
theorem zk[Inhabited RT](w:World)(k:Nat)(hk:k<8):
  (Instr.index 292 (.agg zft.toArray) (.int .i64 k)).run Tryz.prog w=.ok (.int .u64 (zc0.getD k 0:Nat)) w:=by
 have hc:=zi7 k hk;simp only[Instr.index,asIntOf,Sem.run_bind,Sem.run_pure,Result.andThen_ok,run_underlying Tryz.underlying292];rw[if_pos ⟨by omega,by omega⟩];simp[Go.part,hc]
theorem zkg[Inhabited RT]{ops:Array Oper}{rest:List Oper}{o:Oper}{a:Act}{w:World}{Q:Exit->Act->World->Prop}(hgd:o.guard=none)(ho:o.op=.load 292 (.global 12))(h:GRows w)
  (hk:wpList Tryz.prog ops Q rest (a.put o.dst (.agg zft.toArray)) w):wpList Tryz.prog ops Q (o::rest) a w:=by
 refine wpList_plain hgd fun K hK'=>?_
 unfold Oper.wp;rw[zmL ho h];exact hK' _ _ hk
theorem zsK[Inhabited RT](x k:UInt32)(w:World)(hG:GRows w):
  Calls Tryz.prog 244 #[.int .u32 (x.toNat:Nat),.int .u32 (k.toNat:Nat)] w fun e w'=>e=.returned (.int .u32 ((gW x k).toNat:Nat))/\w=w':=by
 have h1:=wlt x;have h2:=wlt k;have hs:=zcd x k;obtain⟨S,hS⟩:∃S,x+k=S:=⟨_,rfl⟩;rw[hS] at hs;have hS2:=wlt S;have HS:=hid hS;clear hS;have HG:=hid hG;clear hG;go_enter Tryz.func244,Tryz.ntmps244;go_wp2_with (refine zkg rfl rfl HG.out ?_)
 go_loop [6,14] (fun v i=>∃j:Nat,j<=8/\i=.int .i64 j/\v=.int .u32 (gS S.toNat j:Nat)) (fun _ i=>8-(intOf i).toNat)
 case atStart=>exact⟨0,Nat.zero_le _,rfl,rfl⟩
 case round =>
  obtain⟨j,hj,rfl,rfl⟩:=hrel;by_cases hlt:j<8
  ·have hI:=fun w=>zk w j hlt
   have hR:=zrh j hlt;obtain⟨R,hRe⟩:∃R,zc0.getD j 0=R:=⟨_,rfl⟩;have hst:gS S.toNat (j+1)=gS S.toNat j+R/2^(60-4*(S.toNat/16^j%16))%16*16^j:=by rw[<-hRe];rfl
   have ho:=zp6 S.toNat j;have hn:=zp6 S.toNat (j+1);have hd:bits .and .u32 ((S.toNat:Int)/2^(4*j)) 15=((S.toNat/16^j%16:Nat):Int):=by rw[<-zdV,Nat.pow_mul,show(15:Int)=((15:Nat):Int) from rfl,u32_and_nat _ _ (Nat.lt_of_le_of_lt (Nat.div_le_self _ _) hS2) (by omega),nat_mask4]
   obtain⟨f,hf⟩:∃f,S.toNat/16^j%16=f:=⟨_,rfl⟩;have hf16:f<=15:=by omega
   rw[hf] at hd hst;rw[hRe] at hI hR;have hR2:(R:Int)<18446744073709551616:=by omega
   have hq:bits .and .u32 ((R:Int)/2^(60-4*f)%4294967296) 15=((R/2^(60-4*f)%16:Nat):Int):=by
    have e:(R:Int)/2^(60-4*f)%4294967296=((R/2^(60-4*f)%4294967296:Nat):Int):=by rw[<-zdV];omega
    rw[e,show(15:Int)=((15:Nat):Int) from rfl,u32_and_nat _ _ (by omega) (by omega),nat_mask4];omega
   obtain⟨q,hqe⟩:∃q,R/2^(60-4*f)%16=q:=⟨_,rfl⟩;have hq16:q<=15:=by omega
   rw[hqe] at hq hst;have hor:bits .or .u32 ((gS S.toNat j:Nat):Int) ((q:Int)*2^(4*j)%4294967296)=((gS S.toNat (j+1):Nat):Int):=by
    have e2:16^(j+1)<=16^8:=Nat.pow_le_pow_right (by omega) (by omega);have e0:q*16^j<4294967296:=by omega
    have e1:(q:Int)*2^(4*j)%4294967296=((16^j*q:Nat):Int):=by
     have:(q:Int)*2^(4*j)=((q*16^j:Nat):Int):=by rw[Int.natCast_mul,Int.natCast_pow,Int.pow_mul];rfl
     rw[this,Nat.mul_comm];rw[Nat.mul_comm] at e0;omega
    have e3:gS S.toNat j|||16^j*q=gS S.toNat (j+1):=by
     have h4:(16:Nat)^j=2^(4*j):=by rw[Nat.pow_mul]
     rw[hst,Nat.mul_comm q,h4,Nat.or_comm,Nat.add_comm];rw[h4] at ho;exact(Nat.two_pow_add_eq_or_of_lt ho q).symm
    rw[e1,u32_or_nat _ _ (by omega) (by rw[Nat.mul_comm];exact e0),e3]
   have HO:=hid hor;clear hs hRe hst hf hqe hn hor hR2;obtain⟨g,hg⟩:∃g,gS S.toNat j=g:=⟨_,rfl⟩;obtain⟨g1,hg1⟩:∃g1,gS S.toNat (j+1)=g1:=⟨_,rfl⟩;have HG1:=hid hg1;rw[hg,hg1] at HO;have e9:(16:Nat)^j<=16^8:=Nat.pow_le_pow_right (by omega) (by omega);have hgl:g<4294967296:=by rw[<-hg];omega
   rw[hg];clear hg hg1 ho e9;go_wp2_with (rw[hI];simp only[Result.andThen];rw[Oper.upon_value])
   go_round
   case rel=>exact⟨j+1,by omega,by go_num,by rw[HO.out,HG1.out]⟩
   case measure=>simp[intOf];omega
  ·obtain rfl:j=8:=by omega
   rw[<-zoI];go_wp2_with (go_at_call 141;refine(zeP (gU S) 11 _).mono ?_;rintro e w' ⟨rfl,rfl⟩)
   go_ret;exact⟨zak (by rw[<-HS.out];rfl),rfl⟩
theorem zhB[Inhabited RT](t:T3)(v u k:UInt32)(w:World)(hG:GRows w):
  Calls Tryz.prog 240 #[.int .i64 t.code,.int .u32 (v.toNat:Nat),.int .u32 (u.toNat:Nat),.int .u32 (k.toNat:Nat)] w fun e w'=>e=.returned (.int .u32 ((ziQ t v u k).toNat:Nat))/\w=w':=by
 have h1:=wlt v;have h2:=wlt u;have h3:=wlt k;have HG:=hid hG;clear hG;cases t
 ·show Calls Tryz.prog 240 #[.int .i64 4,_,_,_] w _;have hr:=zcd v (mixW u k);go_enter Tryz.func240,Tryz.ntmps240;go_wp2_with (go_at_call 243;refine(zdG u k _).mono ?_;rintro e w' ⟨rfl,rfl⟩)
  go_ret;exact⟨zak rfl,rfl⟩
 ·show Calls Tryz.prog 240 #[.int .i64 5,_,_,_] w _;have hr:=zfb v (gW u k);go_enter Tryz.func240,Tryz.ntmps240;go_wp2_with (go_at_call 244;refine(zsK u k _ HG.out).mono ?_;rintro e w' ⟨rfl,rfl⟩)
  go_ret;exact⟨zak rfl,rfl⟩
 ·show Calls Tryz.prog 240 #[.int .i64 8,_,_,_] w _;have hx:=zfb v u;have hr:=zcd (rolI (v^^^u) (u.toNat%32:Nat)) k;go_enter Tryz.func240,Tryz.ntmps240;go_wp2_with (first
   | (go_at_call 142;refine(zc4 u _).mono ?_;rintro e w' ⟨rfl,rfl⟩)
   | (go_at_call 141;refine(zeP (v^^^u) (u.toNat%32:Nat) _).mono ?_;rintro e w' ⟨rfl,rfl⟩))
  go_ret;exact⟨zak rfl,rfl⟩
theorem zly[Inhabited RT](t:T3)(v u k:UInt32)(w:World)(hG:GRows w):
  Calls Tryz.prog 242 #[.int .i64 t.code,.int .u32 (v.toNat:Nat),.int .u32 (u.toNat:Nat),.int .u32 (k.toNat:Nat)] w fun e w'=>e=.returned (.int .u32 ((zdL t v u k).toNat:Nat))/\w=w':=by
 have h1:=wlt v;have h2:=wlt u;have h3:=wlt k;have HG:=hid hG;clear hG;cases t
 ·show Calls Tryz.prog 242 #[.int .i64 4,_,_,_] w _;have hr:=zpm v (mixW u k);go_enter Tryz.func242,Tryz.ntmps242;go_wp2_with (go_at_call 243;refine(zdG u k _).mono ?_;rintro e w' ⟨rfl,rfl⟩)
  go_ret;exact⟨zak hr,rfl⟩
 ·show Calls Tryz.prog 242 #[.int .i64 5,_,_,_] w _;have hr:=zfb v (gW u k);go_enter Tryz.func242,Tryz.ntmps242;go_wp2_with (go_at_call 244;refine(zsK u k _ HG.out).mono ?_;rintro e w' ⟨rfl,rfl⟩)
  go_ret;exact⟨zak rfl,rfl⟩
 ·show Calls Tryz.prog 242 #[.int .i64 8,_,_,_] w _;have hx:=zpm v k;have hr:=zfb (rolI (v-k) (-((u.toNat%32:Nat):Int))) u;go_enter Tryz.func242,Tryz.ntmps242;go_wp2_with (first
   | (go_at_call 142;refine(zc4 u _).mono ?_;rintro e w' ⟨rfl,rfl⟩)
   | (go_at_call 141;refine(zeP (v-k) (-((u.toNat%32:Nat):Int)) _).mono ?_;rintro e w' ⟨rfl,rfl⟩))
  go_ret;exact⟨zak (by rw[Int.natCast_emod] at hr;exact hr),rfl⟩
theorem cell_of_heap{w:World}{g i:Nat}{cs:Array Value}{e:TypeId}{f:Nat×Nat}(h:w.heap[g]? = some (.cells cs e f)):w.cell? ⟨g,i,none⟩=cs[i]?:=cell_of_row w g i cs e f h
theorem zan{w w':World}{p:Addr}{v:Value}(hx:Ext w w')(h:w.cell? p=some v):w'.cell? p=some v:=(Below.cell hx (World.block_lt_of_cell? w _ h)).trans h
def W2.cells(x:W2):Array Value:=#[.int .u32 (x.a.toNat:Nat),.int .u32 (x.b.toNat:Nat)]
theorem W2.size(x:W2):(Tryz.prog.info? 174).map (·.size)=some x.cells.size:=by
 have h:(Tryz.prog.info? 174).map (·.size)=some 2:=by kernel_rfl
 rw[h];rfl
theorem W2.all(x:W2):x.cells.all (·.oneCell')=true:=by simp[W2.cells,Value.oneCell']
def B2(w:World)(g:Nat)(x:W2):Prop:=w.heap[g]? = some (.cells x.cells 174 (0,0))
section
variable {w w':World} {g:Nat} {x:W2}
theorem B2.lt(h:B2 w g x):g<w.heap.size:=(Array.getElem?_eq_some_iff.1 h).1
theorem B2.later(h:B2 w g x)(hx:Ext w w'):B2 w' g x:=(hx.block g h.lt).trans h
theorem B2.ca(h:B2 w g x):w.cell? ⟨g,0,none⟩=some (.int .u32 (x.a.toNat:Nat)):=by rw[cell_of_heap h];rfl
theorem B2.cb(h:B2 w g x):w.cell? ⟨g,1,none⟩=some (.int .u32 (x.b.toNat:Nat)):=by rw[cell_of_heap h];rfl
theorem B2.frozen(h:B2 w g x)(k:Nat):w.frozen? ⟨g,k,none⟩=false:=frozen_of_row w g k _ 174 h
theorem B2.setne(h:B2 w g x)(p:Addr)(v:Value)(hne:g≠p.block):B2 (w.setCell p v) g x:=(heap_setCell_other w p g v hne).trans h
theorem B2.put(h:B2 w g x)(y:W2):B2 (w.setRow g y.cells) g y:=setRow_heap w g _ _ 174 (0,0) h
theorem B2.putne(h:B2 w g x)(k:Nat)(cs:Array Value)(hne:g≠k):B2 (w.setRow k cs) g x:=(setRow_other w k g cs hne).trans h
end
theorem zaU{fn:Func}{R:Ending->World->Prop}{a:Act}{w:World}{p:Tmp}{ty e:TypeId}{N:Nat}(hres:fn.results=#[.cell p ty])(hd:a.defers = [])(g:Nat)(t:TypeId)(cs:Array Value)(fr:Nat×Nat)
  (hp:a.tmps.getD p undef=.pointer (some ⟨g,0,none⟩)) (hg:w.heap[g]? = some (.cells cs t fr)) (hu:Tryz.prog.underlying ty=some (.array N e))
  (hi:(Tryz.prog.info? ty).map (·.size)=some cs.size) (h:R (.returned (.agg cs)) w):
  bodyPost Tryz.prog fn R .ret a w:=bodyPost_ret (results_cell_row hres _ _ g t cs fr _ hp hg hu rfl hi) hd h
def Ret2(w:World)(y:W2)(e:Ending)(w':World):Prop:=e=.returned (.agg y.cells)/\Ext w w'
theorem zcM(t:T3)(x:W2)(w:World):
  Calls Tryz.prog 241 #[.int .i64 t.code,.agg x.cells] w (Ret2 w (crs t x)):=by
 obtain⟨a,b⟩:=x;have hx:∀y:W2,Ext w ((w.alloc (.cells y.cells 174)).alloc (.cells y.cells 174)):=fun y=>(Ext.alloc w (.cells y.cells 174)).trans (Ext.alloc _ (.cells y.cells 174))
 have hh:∀y:W2,((w.alloc (.cells y.cells 174)).alloc (.cells y.cells 174)).heap[w.heap.size+1]? = some (.cells y.cells 174 (0,0)):=fun y=>heap_alloc2_new _ _ _
 have HX:=hid hx;have HH:=hid hh;clear hx hh;cases t
 ·show Calls Tryz.prog 241 #[.int .i64 4,.agg #[.int .u32 (a.toNat:Nat),.int .u32 (b.toNat:Nat)]] w _;go_enter Tryz.func241,Tryz.ntmps241;go_wp2_with fail
  exact zaU rfl rfl (w.heap.size+1) 174 _ (0,0) rfl (HH.out ⟨a,b⟩) Tryz.underlying174 (W2.size _) ⟨rfl,HX.out ⟨a,b⟩⟩
 ·show Calls Tryz.prog 241 #[.int .i64 5,.agg #[.int .u32 (a.toNat:Nat),.int .u32 (b.toNat:Nat)]] w _;go_enter Tryz.func241,Tryz.ntmps241;go_wp2_with fail
  exact zaU rfl rfl (w.heap.size+1) 174 _ (0,0) rfl (HH.out ⟨b,a⟩) Tryz.underlying174 (W2.size _) ⟨rfl,HX.out ⟨b,a⟩⟩
 ·show Calls Tryz.prog 241 #[.int .i64 8,.agg #[.int .u32 (a.toNat:Nat),.int .u32 (b.toNat:Nat)]] w _;go_enter Tryz.func241,Tryz.ntmps241;go_wp2_with fail
  exact zaU rfl rfl (w.heap.size+1) 174 _ (0,0) rfl (HH.out ⟨a,b⟩) Tryz.underlying174 (W2.size _) ⟨rfl,HX.out ⟨a,b⟩⟩
def KW(w:World)(b o:Nat)(ks:List UInt32):Prop:=∀j,j<ks.length->w.cell? ⟨b,o+j,none⟩=some (.int .u32 ((ks.getD j 0).toNat:Nat))
theorem KW.later{w w':World}{b o:Nat}{ks:List UInt32}(h:KW w b o ks)(hx:Ext w w'):KW w' b o ks:=fun j hj=>zan hx (h j hj)
structure Small_ (w:World) (p b o c:Nat) (t:T3) (ah:W2) (ks:List UInt32):Prop where
 tag:w.cell? ⟨p,0,none⟩=some (.int .i64 t.code)
 a0:w.cell? ⟨p,1,none⟩=some (.int .u32 (ah.a.toNat:Nat))
 a1:w.cell? ⟨p,2,none⟩=some (.int .u32 (ah.b.toNat:Nat))
 keys:w.cell? ⟨p,3,none⟩=some (.slice (some ⟨b,o,none⟩) ks.length c)
 room:ks.length<=c
 at_:KW w b o ks
theorem Small_.later{w w':World}{p b o c:Nat}{t:T3}{ah:W2}{ks:List UInt32}(h:Small_ w p b o c t ah ks)(hx:Ext w w'):Small_ w' p b o c t ah ks :=
 ⟨zan hx h.tag,zan hx h.a0,zan hx h.a1,zan hx h.keys,h.room,h.at_.later hx⟩
def IsSmall(w:World)(p:Nat)(t:T3)(ah:W2)(ks:List UInt32):Prop:=∃b o c,Small_ w p b o c t ah ks
theorem IsSmall.later{w w':World}{p:Nat}{t:T3}{ah:W2}{ks:List UInt32}(h:IsSmall w p t ah ks)(hx:Ext w w'):IsSmall w' p t ah ks:=by
 obtain⟨b,o,c,h⟩:=h;exact⟨b,o,c,h.later hx⟩
theorem zaZ{P:Program}{f:FuncId}{args:Array Value}{w:World}{n:Nat}{v:Value}
  (h:Calls P f args (w.drewN n) fun e w'=>e=.returned v/\w.drewN n=w'):Calls P f args (w.drewN n) fun e w''=>e=.returned v/\∃m,w''=w.drewN m :=
 h.mono fun _ _ ⟨he,hm⟩=>⟨he,n,hm.symm⟩
structure zoU [Inhabited RT] (p b o c:Nat) (t:T3) (ah:W2) (ks:List UInt32) (G:Nat) (w w1:World):Prop where
 ext:Ext w w1
 sm:Small_ w1 p b o c t ah ks
 res:B2 w1 (G+1) ⟨0,0⟩
 rows:GRows w1
def zmV[Inhabited RT](p b o c:Nat)(t:T3)(ah:W2)(ks:List UInt32)(x:W2)(G:Nat)(w:World)(a:Act)(w1:World):Prop :=
 ∃(i:Nat) (y:W2) (u8 u9 u10 u11 u12 u13 u14 u15 u16 u17 u18 u19 u20 u21 u22 u23 u24 u25 u26 u27 u28 u29 u30 u31 u32 u33 u34 u35 u36 u37 u38 u39 u40 u41 u42 u43 u44 u45 u46 u47 u48 u49 u50 u51 u52 u53 u54 u55:Value),
  a = { tmps:=#[.pointer (some ⟨p,0,none⟩),.agg x.cells,undef,.pointer (some ⟨G,0,none⟩),.pointer (some ⟨G+1,0,none⟩),.int .u32 (y.a.toNat:Nat),.int .u32 (y.b.toNat:Nat),.int .i64 i,u8,u9,u10,u11,u12,u13,u14,u15,u16,u17,u18,u19,u20,u21,u22,u23,u24,u25,u26,u27,u28,u29,u30,u31,u32,u33,u34,u35,u36,u37,u38,u39,u40,u41,u42,u43,u44,u45,u46,u47,u48,u49,u50,u51,u52,u53,u54,u55],defers:=[] }/\i<=ks.length /\
  y=fwd t ks ⟨x.a+ah.a,x.b+ah.b⟩ i/\zoU p b o c t ah ks G w w1
theorem zcw[Inhabited RT](p b o c:Nat)(t:T3)(ah:W2)(ks:List UInt32)(x:W2)(w:World)(hs:Small_ w p b o c t ah ks)(hn:ks.length<=1000)(hG:GRows w):
  Calls Tryz.prog 237 #[.pointer (some ⟨p,0,none⟩),.agg x.cells] w (Ret2 w (zbG t ah ks x)):=by
 have h1:=heap_alloc2_old w (.cells x.cells 174) (.cells #[.int .u32 0,.int .u32 0] 174);have h2:=heap_alloc2_new w (.cells x.cells 174) (.cells #[.int .u32 0,.int .u32 0] 174);have h3:=(Ext.alloc w (.cells x.cells 174)).trans (Ext.alloc _ (.cells #[.int .u32 0,.int .u32 0] 174));have HS:=hid hs;have HGR:=hid hG;clear hs hG;go_enter Tryz.func237,Tryz.ntmps237;go_wp2_with fail
 refine zat 0 (zmV p b o c t ah ks x w.heap.size w) (fun a _=>ks.length-iAt 7 a) rfl ?_ ?_
 ·clear h1 h2 h3 HS HGR;obtain⟨G,hGe⟩:∃G,w.heap.size=G:=⟨_,rfl⟩;rw[hGe];have HGE:=hid hGe;clear hGe;rintro a w1 ⟨i,y,u8,u9,u10,u11,u12,u13,u14,u15,u16,u17,u18,u19,u20,u21,u22,u23,u24,u25,u26,u27,u28,u29,u30,u31,u32,u33,u34,u35,u36,u37,u38,u39,u40,u41,u42,u43,u44,u45,u46,u47,u48,u49,u50,u51,u52,u53,u54,u55,rfl,hi,hy,hS⟩;have HSM:=hid hS.sm;have ct:=hS.sm.tag;have ck:=hS.sm.keys;have hroom:=hS.sm.room;by_cases hlt:i<ks.length
  ·have hcell:=hS.sm.at_ i hlt;obtain⟨k,hk⟩:∃k,ks.getD i 0=k:=⟨_,rfl⟩;rw[hk] at hcell;have hst:fwd t ks ⟨x.a+ah.a,x.b+ah.b⟩ (i+1)=⟨y.b,ziQ t y.a y.b k⟩:=by rw[fwd,hk,<-hy]
   have HST:=hid hst;have hm:=fun n=>zhB t y.a y.b k (w1.drewN n) hS.rows
   have HR:=hid hS.res;have HX:=hid hS.ext;have HRO:=hid hS.rows;have b1:=wlt y.a;have b2:=wlt y.b;obtain⟨T,hT⟩:∃T,t.code=T:=⟨_,rfl⟩;rw[hT] at ct hm;have hl:=hid hy;clear hy hk hst hS;have HM:=hid hm;clear hm;go_wp2_with fail
   go_quiet ((go_at_call 240;exact zaZ (HM.out _)))
   go_wp2_with fail
   go_step3
   (try simp only[Exit.jump])
   refine⟨rfl,⟨i+1,⟨y.b,ziQ t y.a y.b k⟩,ex8 (ex8 (ex8 (ex8 (ex8 (ex8 ⟨rfl,by omega,HST.out.symm,⟨HX.out.drewN nq,HSM.out.later ((Ext.refl _).drewN nq),HR.out,HRO.out⟩⟩)))))⟩,?_⟩;simp[iAt];omega
  ·obtain rfl:i=ks.length:=by omega
   have HX:=hid hS.ext;have HR:=hid hS.res;have HGE2:=hid (show w.heap.size<=G+1 by have:=HGE.out;omega);have HY:=hid (show crs t y=zbG t ah ks x by rw[hy];rfl);have hc:=fun w=>zcM t y w
   obtain⟨T,hT⟩:∃T,t.code=T:=⟨_,rfl⟩;rw[hT] at ct hc;obtain⟨n,hne⟩:∃n,ks.length=n:=⟨_,rfl⟩;rw[hne] at ck hroom hi hn ⊢;have HC:=hid hc;clear hy hS hc hlt;go_wp2_with fail
   refine(HC.out _).mono ?_;rintro e w2 ⟨rfl,hx2⟩;have HR2:=hid (HR.out.later hx2);have HR3:=hid ((HR.out.later hx2).put (crs t y));have HX2:=hid (Below.setRow_ (Ext.trans HX.out hx2) HGE2.out (crs t y).cells);clear hx2 HX;rw[HY.out] at HR3 HX2 ⊢;go_wp2_with (refine wpList_store_row rfl 174 (.tmp 4) (.tmp 55) rfl (G+1) (zbG t ah ks x).cells rfl rfl 174 _ HR2.out (W2.size _) rfl (W2.all _) ?_)
   (try simp only[Exit.jump])
   exact zaU rfl rfl (G+1) 174 _ (0,0) rfl HR3.out Tryz.underlying174 (W2.size _) ⟨rfl,HX2.out⟩
 ·intro hfirst;obtain⟨W1,hW1⟩:∃W1,(w.alloc (.cells x.cells 174)).alloc (.cells #[.int .u32 0,.int .u32 0] 174)=W1:=⟨_,rfl⟩;rw[hW1] at h1 h2 h3;have HB:=hid (show B2 W1 w.heap.size x from h1);have HRes:=hid (show B2 W1 (w.heap.size+1) ⟨0,0⟩ from h2);have HX:=hid h3;have HW:=hid hW1;clear h1 h2 h3 hW1;go_wp2_with fail
  rw[HW.out];clear HW;have HSM:=hid (HS.out.later HX.out);have HRO:=hid (HGR.out.later HX.out);have c0:=HB.out.ca;have c1:=HB.out.cb;have p0:=HSM.out.a0;have p1:=HSM.out.a1;have e0:=zcd x.a ah.a;have e1:=zcd x.b ah.b;have l1:=wlt x.a;have l2:=wlt x.b;have l3:=wlt ah.a;have l4:=wlt ah.b;clear HS HGR;go_quiet (fail)
  rw[e0,e1];go_wp2_with fail
  go_step3;simp only[Exit.then];rename_i hK;refine hK _ _ ?_;exact hfirst.out _ _ ⟨0,⟨x.a+ah.a,x.b+ah.b⟩,ex8 (ex8 (ex8 (ex8 (ex8 (ex8 ⟨rfl,by omega,rfl,⟨HX.out.drewN nq,HSM.out.later ((Ext.refl _).drewN nq),HRes.out,HRO.out⟩⟩)))))⟩
theorem cf49(vs:Array Value)(w:World):(callFunc 241 vs).run Tryz.prog w=.ok (.enter 241 vs) w:=by go_simp
theorem zjQ{o:Oper}{a:Act}{w:World}{t:Tmp}{B:Nat}{x:W2}(ho:o.op=.load 174 (.tmp t))(ht:a.tmps.getD t undef=.pointer (some ⟨B,0,none⟩))(hA:B2 w B x):
  (execOp a.eval o).run Tryz.prog w=.ok (.value (.agg x.cells)) w:=by
 have h:=run_loadVar_row (P:=Tryz.prog) w B 174 174 x.cells (0,0) _ hA Tryz.underlying174 rfl (W2.size x);unfold execOp;simp only[ho,Act.eval,ht,Instr.loadAt,Instr.sureAddr,Sem.run_bind,Sem.run_pure,Result.andThen_ok,h]
theorem zqX(a b:UInt32)(w:World):(Instr.build 174 #[(0,.int .u32 (a.toNat:Nat)),(1,.int .u32 (b.toNat:Nat))]).run Tryz.prog w=.ok (.agg (W2.mk a b).cells) w:=by kernel_rfl
def tb1(p:Nat)(t:T3)(x:W2):List K:=[.eq (.pointer (some ⟨p,0,none⟩)),.eq (.pointer (some ⟨p,0,none⟩)),.eq (.pointer (some ⟨p,0,none⟩)),.eq (.int .i64 t.code),.eq (.agg x.cells),.eq (.agg (crs t x).cells),.any]
def tb7(p:Nat)(ah y:W2):List K:=[.eq (.int .u32 (y.a.toNat:Nat)),.eq (.pointer (some ⟨p,0,none⟩)),.eq (.pointer (some ⟨p,0,none⟩)),.eq (.pointer (some ⟨p,1,none⟩)),.eq (.pointer (some ⟨p,1,none⟩)),.eq (.int .u32 (ah.a.toNat:Nat)),.eq (.int .u32 ((y.a-ah.a).toNat:Nat)),.eq (.int .u32 (y.b.toNat:Nat)),.eq (.pointer (some ⟨p,0,none⟩)),.eq (.pointer (some ⟨p,0,none⟩)),.eq (.pointer (some ⟨p,1,none⟩)),.eq (.pointer (some ⟨p,2,none⟩)),.eq (.int .u32 (ah.b.toNat:Nat)),.eq (.int .u32 ((y.b-ah.b).toNat:Nat)),.eq (.agg (W2.mk (y.a-ah.a) (y.b-ah.b)).cells),.any]
structure zvB [Inhabited RT] (p b o c:Nat) (t:T3) (ah:W2) (ks:List UInt32) (G:Nat) (w w1:World):Prop where
 ext:Ext w w1
 sm:Small_ w1 p b o c t ah ks
 res:B2 w1 (G+1) ⟨0,0⟩
 rows:GRows w1
def zrv[Inhabited RT](p b o c:Nat)(t:T3)(ah:W2)(ks:List UInt32)(x:W2)(G:Nat)(w:World)(a:Act)(w1:World):Prop :=
 ∃(i:Nat) (y:W2) (u8 u9 u10 u11 u12 u13 u14 u15 u16 u17 u18 u19 u20 u21 u22 u23 u24 u25 u26 u27 u28 u29 u30 u31 u32 u33 u34 u35 u36 u37 u38 u39 u40 u41 u42 u43 u44 u45 u46 u47 u48 u49 u50 u51 u52 u53 u54 u55 u56:Value),
  a = { tmps:=#[.pointer (some ⟨p,0,none⟩),.agg x.cells,undef,.pointer (some ⟨G,0,none⟩),.pointer (some ⟨G+1,0,none⟩),.int .u32 (y.a.toNat:Nat),.int .u32 (y.b.toNat:Nat),.int .i64 ((ks.length-i:Nat):Int),u8,u9,u10,u11,u12,u13,u14,u15,u16,u17,u18,u19,u20,u21,u22,u23,u24,u25,u26,u27,u28,u29,u30,u31,u32,u33,u34,u35,u36,u37,u38,u39,u40,u41,u42,u43,u44,u45,u46,u47,u48,u49,u50,u51,u52,u53,u54,u55,u56],defers:=[] }/\i<=ks.length /\
  y=bwd t ks ks.length (crs t x) i/\zvB p b o c t ah ks G w w1
theorem zdP[Inhabited RT](p b o c:Nat)(t:T3)(ah:W2)(ks:List UInt32)(x:W2)(w:World)(hs:Small_ w p b o c t ah ks)(hn:ks.length<=1000)(hG:GRows w):
  Calls Tryz.prog 238 #[.pointer (some ⟨p,0,none⟩),.agg x.cells] w (Ret2 w (zcZ t ah ks x)):=by
 have h1:=heap_alloc2_old w (.cells x.cells 174) (.cells #[.int .u32 0,.int .u32 0] 174);have h2:=heap_alloc2_new w (.cells x.cells 174) (.cells #[.int .u32 0,.int .u32 0] 174);have h3:=(Ext.alloc w (.cells x.cells 174)).trans (Ext.alloc _ (.cells #[.int .u32 0,.int .u32 0] 174));have HS:=hid hs;have HGR:=hid hG;clear hs hG;go_enter Tryz.func238,Tryz.ntmps238;go_wp2_with fail
 refine zat 0 (zrv p b o c t ah ks x w.heap.size w) (fun a _=>iAt 7 a) rfl ?_ ?_
 ·clear h1 h2 h3 HS HGR;obtain⟨G,hGe⟩:∃G,w.heap.size=G:=⟨_,rfl⟩;rw[hGe];have HGE:=hid hGe;clear hGe;rintro a w1 ⟨i,y,u8,u9,u10,u11,u12,u13,u14,u15,u16,u17,u18,u19,u20,u21,u22,u23,u24,u25,u26,u27,u28,u29,u30,u31,u32,u33,u34,u35,u36,u37,u38,u39,u40,u41,u42,u43,u44,u45,u46,u47,u48,u49,u50,u51,u52,u53,u54,u55,u56,rfl,hi,hy,hS⟩;have HSM:=hid hS.sm;have HX:=hid hS.ext;have HR:=hid hS.res;have HRO:=hid hS.rows;by_cases hlt:i<ks.length
  ·have ct:=hS.sm.tag;have ck:=hS.sm.keys;have hroom:=hS.sm.room;have hcell:=hS.sm.at_ (ks.length-1-i) (by omega);obtain⟨k,hk⟩:∃k,ks.getD (ks.length-1-i) 0=k:=⟨_,rfl⟩;rw[hk] at hcell;have hst:bwd t ks ks.length (crs t x) (i+1)=⟨zdL t y.b y.a k,y.a⟩:=by rw[bwd,hk,<-hy]
   have HST:=hid hst;have hm:=fun n=>zly t y.b y.a k (w1.drewN n) hS.rows
   have b1:=wlt y.a;have b2:=wlt y.b;obtain⟨T,hT⟩:∃T,t.code=T:=⟨_,rfl⟩;rw[hT] at ct hm;have hl:=hid hy;have HM:=hid hm;clear hy hk hst hS hm;obtain⟨m,hme⟩:∃m,ks.length-i=m+1:=⟨ks.length-i-1,by omega⟩;have hmm:ks.length-1-i=m:=by omega
   have hml:m<ks.length:=by omega
   rw[hmm] at hcell;rw[hme];have HMM:=hid (show ks.length-(i+1)=m by omega);have e1:(((m+1:Nat):Int))-1=(m:Int):=by omega
   have e2:(0:Int)<((m+1:Nat):Int):=by omega
   clear hmm hme;go_wp2_with fail
   go_quiet ((go_at_call 242;exact zaZ (HM.out _)))
   go_wp2_with fail
   go_step3
   (try simp only[Exit.jump])
   refine⟨rfl,⟨i+1,⟨zdL t y.b y.a k,y.a⟩,ex8 (ex8 (ex8 (ex8 (ex8 (ex8 ⟨_,by rw[HMM.out],by omega,HST.out.symm,⟨HX.out.drewN nq,HSM.out.later ((Ext.refl _).drewN nq),HR.out,HRO.out⟩⟩)))))⟩,?_⟩;simp[iAt]
  ·obtain rfl:i=ks.length:=by omega
   have HGE2:=hid (show w.heap.size<=G+1 by have:=HGE.out;omega);have HY:=hid (show(⟨y.a-ah.a,y.b-ah.b⟩:W2)=zcZ t ah ks x by rw[hy];rfl);rw[Nat.sub_self];clear hy hS;go_wp2_with fail
   refine zaD 15 (tb7 p ah y) (zab ⟨fun _ _ h=>h.mv,fun _ _ h=>h.mv,?_,?_,?_,?_,?_,fun _ _ h=>h.mv,fun _ _ h=>h.mv,?_,?_,?_,?_,?_,?_,trivial⟩) ?_
   ·intro a w hk;have s43:=hk.eq_ 1 43;refine za ?_;go_simp
   ·intro a w hk;have s44:=hk.eq_ 2 44;refine za ?_;go_simp
   ·intro a w hk;have s45:=hk.eq_ 3 45;refine za ?_;go_simp
   ·intro a w hk;have s46:=hk.eq_ 4 46;refine za ?_;have hc:=(HSM.out.later hk.ext).a0;go_simp
   ·intro a w hk;have s42:=hk.eq_ 0 42;have s47:=hk.eq_ 5 47;refine za ?_;go_simp;exact zpm y.a ah.a
   ·intro a w hk;have s50:=hk.eq_ 8 50;refine za ?_;go_simp
   ·intro a w hk;have s51:=hk.eq_ 9 51;refine za ?_;go_simp
   ·intro a w hk;have s52:=hk.eq_ 10 52;refine za ?_;go_simp
   ·intro a w hk;have s53:=hk.eq_ 11 53;refine za ?_;have hc:=(HSM.out.later hk.ext).a1;go_simp
   ·intro a w hk;have s49:=hk.eq_ 7 49;have s54:=hk.eq_ 12 54;refine za ?_;go_simp;exact zpm y.b ah.b
   ·intro a w hk;have s48:=hk.eq_ 6 48;have s55:=hk.eq_ 13 55;refine za ?_;have e:=zqX (y.a-ah.a) (y.b-ah.b) w;simp only[execOp,Act.eval,List.map_toArray,List.map_cons,List.map_nil,s48,s55,Sem.run_bind,e,Sem.run_pure,Result.andThen]
   ·intro a w2 hf;have hx:=hf.ext;have e:=hf.fr;clear hf;simp only[List.take_succ_cons,List.take_zero,tb7,frV,kPut,Act.put,List.setIfInBounds_toArray,List.set_cons_zero,List.set_cons_succ] at e;subst e;simp only[List.drop_succ_cons,List.drop_zero];have HR2:=hid (HR.out.later hx);have HR3:=hid ((HR.out.later hx).put ⟨y.a-ah.a,y.b-ah.b⟩);have HX2:=hid (Below.setRow_ (Ext.trans HX.out hx) HGE2.out (W2.mk (y.a-ah.a) (y.b-ah.b)).cells);clear hx;rw[HY.out] at HR3 HX2;go_wp2_with (refine wpList_store_row rfl 174 (.tmp 4) (.tmp 56) rfl (G+1) (W2.mk (y.a-ah.a) (y.b-ah.b)).cells rfl rfl 174 _ HR2.out (W2.size _) rfl (W2.all _) ?_)
    rw[HY.out]
    (try simp only[Exit.jump])
    exact zaU rfl rfl (G+1) 174 _ (0,0) rfl HR3.out Tryz.underlying174 (W2.size _) ⟨rfl,HX2.out⟩
 ·intro hfirst;obtain⟨W1,hW1⟩:∃W1,(w.alloc (.cells x.cells 174)).alloc (.cells #[.int .u32 0,.int .u32 0] 174)=W1:=⟨_,rfl⟩;rw[hW1] at h1 h2 h3;obtain⟨G,hGe⟩:∃G,w.heap.size=G:=⟨_,rfl⟩;have HB:=hid (show B2 W1 G x by rw[<-hGe];exact h1);have HRes:=hid (show B2 W1 (G+1) ⟨0,0⟩ by rw[<-hGe];exact h2);have HX:=hid h3;have HW:=hid hW1;have HGE:=hid hGe;clear h1 h2 h3 hW1;go_wp2_with fail
  rw[HW.out];rw[hGe] at hfirst ⊢;clear hGe HW;have HSM:=hid (HS.out.later HX.out);refine zaD 6 (tb1 p t x) (zab ⟨fun _ _ h=>h.mv,?_,?_,?_,?_,?_,trivial⟩) ?_
  ·intro a w hk;have s8:=hk.eq_ 0 8;refine za ?_;go_simp
  ·intro a w hk;have s9:=hk.eq_ 1 9;refine za ?_;go_simp
  ·intro a w hk;have s10:=hk.eq_ 2 10;refine za ?_;have hc:=(HSM.out.later hk.ext).tag;go_simp
  ·intro a w hk;have s3:a.tmps.getD 3 undef=.pointer (some ⟨G,0,none⟩):=hk.was 3;refine za ?_;exact zjQ rfl s3 (HB.out.later hk.ext)
  ·exact fun _ w h=>h.call cf49 (zcM t x w) (fun e w1 h=>retX e w1 h)
  ·intro a w1 hf;have hx:=hf.ext;have e:=hf.fr;clear hf;simp only[List.take_succ_cons,List.take_zero,tb1,frV,kPut,Act.put,List.setIfInBounds_toArray,List.set_cons_zero,List.set_cons_succ] at e;subst e;simp only[List.drop_succ_cons,List.drop_zero];have HR2:=hid (HRes.out.later hx);have HB1:=hid (HB.out.later hx);have HB2:=hid ((HB.out.later hx).put (crs t x));have HRes2:=hid (((HRes.out.later hx)).putne G (crs t x).cells (by omega));have hg:=HGE.out;have HX2:=hid (Below.setRow_ (Ext.trans HX.out hx) (by omega) (crs t x).cells:Below w.heap.size w (w1.setRow G (crs t x).cells));clear hg;have HSM2:=hid (HS.out.later (show Ext w _ from HX2.out));have HRO2:=hid (HGR.out.later (show Ext w _ from HX2.out));clear hx HX HB HRes HR2 HSM HS HGR;go_wp2_with (refine wpList_store_row rfl 174 (.tmp 3) (.tmp 13) rfl G (crs t x).cells rfl rfl 174 _ HB1.out (W2.size _) rfl (W2.all _) ?_)
   obtain⟨W3,hW3⟩:∃W3,w1.setRow G (crs t x).cells=W3:=⟨_,rfl⟩;rw[hW3] at HB2 HRes2 HX2 HSM2 HRO2 ⊢;obtain⟨z,hz⟩:∃z,crs t x=z:=⟨_,rfl⟩;rw[hz] at HB2;have HZ:=hid hz;clear hW3 HB1 hz;have c0:=HB2.out.ca;have c1:=HB2.out.cb;have l1:=wlt z.a;have l2:=wlt z.b;have p3:=HSM2.out.keys;have hroom:=HSM2.out.room;go_quiet (fail)
   go_wp2_with fail
   go_step3;simp only[Exit.then];rename_i hK;refine hK _ _ ?_;have HGE2:=HGE.out;subst HGE2;exact hfirst.out _ _ ⟨0,z,ex8 (ex8 (ex8 (ex8 (ex8 (ex8 ⟨_,rfl,by omega,HZ.out.symm,⟨Ext.drewN HX2.out nq,HSM2.out.later ((Ext.refl _).drewN nq),HRes2.out,HRO2.out⟩⟩)))))⟩
theorem za1{α:Type}(l:List α)(d:α)(i:Nat)(h:i<l.length):l.getD i d=l[i]:=by simp[h]
def RowsB(w:World)(b o:Nat)(ls:List (List UInt8)):Prop :=
 ∀i,i<ls.length->∃A c,w.cell? ⟨b,o+i,none⟩=some (.slice A (ls.getD i []).length c)/\Rd w w.heap.size A (ls.getD i []).length (ls.getD i [])
theorem RowsB.later{w w':World}{b o:Nat}{ls:List (List UInt8)}(h:RowsB w b o ls)(hx:Ext w w'):RowsB w' b o ls:=fun i hi=>by
 obtain⟨A,c,h1,h2⟩:=h i hi;exact⟨A,c,(Below.cell hx (p:=⟨b,o+i,none⟩) (World.block_lt_of_cell? w _ h1)).trans h1,h2.later hx⟩
theorem zb5{α:Type}(ls:List (List α))(k:Nat)(h:k<ls.length):(ls.take (k+1)).flatten=(ls.take k).flatten++ls.getD k []:=by
 rw[List.take_succ_eq_append_getElem h,List.flatten_append,za1 _ _ _ h];simp
theorem zbr{α:Type}(ls:List (List α))(k:Nat)(h:k<ls.length):zbI ls (k+1)=zbI ls k+(ls.getD k []).length:=by
 unfold zbI;rw[zb5 ls k h,List.length_append]
theorem zbC(w:World)(vs:List Value)(e:TypeId)(i:Nat)(v:Value)(h:vs[i]? = some v):(w.alloc (.cells vs.toArray e)).cell? ⟨w.heap.size,0+i,none⟩=some v:=by
 rw[Nat.zero_add,cell_of_heap (heap_alloc_new w (.cells vs.toArray e))];simpa using h
theorem RowsB.lit(w:World)(vs:List Value)(e:TypeId)(ls:List (List UInt8))(h:∀i,i<ls.length->∃A c,vs[i]? = some (.slice A (ls.getD i []).length c)/\Rd w w.heap.size A (ls.getD i []).length (ls.getD i [])):
  RowsB (w.alloc (.cells vs.toArray e)) w.heap.size 0 ls:=fun i hi=>by
 obtain⟨A,c,h1,h2⟩:=h i hi;exact⟨A,c,zbC w vs e i _ h1,h2.later (Ext.alloc _ _)⟩
theorem RowsB.two(w:World)(A1 A2:Option Addr)(n1 n2 c1 c2:Nat)(e:TypeId)(xs ys:List UInt8)(h1:Rd w w.heap.size A1 n1 xs)(h2:Rd w w.heap.size A2 n2 ys):
  RowsB (w.alloc (.cells #[.slice A1 n1 c1,.slice A2 n2 c2] e)) w.heap.size 0 [xs,ys]:=by
 have e1:=h1.len;have e2:=h2.len;subst e1 e2;refine RowsB.lit w [.slice A1 xs.length c1,.slice A2 ys.length c2] e [xs,ys] fun i hi=>?_
 match i,hi with
 | 0,_=>exact⟨A1,c1,rfl,h1⟩
 | 1,_=>exact⟨A2,c2,rfl,h2⟩
theorem zdN(n:Nat)(w:World)(h0:0<n)(hn:n<=1000):
  Calls Tryz.prog 69 #[.slice none 0 0,.int .i64 n] w fun e w'=>∃v,e=.returned v/\Own w' w.heap.size v []/\Below w.heap.size w w':=by
 obtain⟨i0,hi0,hz0,hz1,hz2⟩:=info_parts Tryz.info5;have hr:=fun ty=>Lib.run_append_nil_zeros (P:=Tryz.prog) w 22 3 ty 5 i0 (.int .u8 0) .i64 .i64 Tryz.underlying22 Tryz.underlying3 hi0 hz0 n h0 (by omega) (by omega) (by rw[hz2];omega)
 have hc1:=grownCap_ge w n 0 5;have hc2:=grownCap_le_maxLen w n 0 5 (by unfold maxLen;omega);obtain⟨G,hG⟩:∃G,G=grownCap w n 0 5:=⟨_,rfl⟩;rw[<-hG] at hc1 hc2 hr;have hown:Own (w.drew.alloc (.cells (Builtin.zeroCells (Value.int .u8 0).cells n++Builtin.zeroCells (Value.int .u8 0).cells (G-n)) 5)) w.heap.size (.slice (some ⟨w.heap.size,0,none⟩) 0 G) [] :=
  World.ownsRow_made (w:=w.drew) (e:=5) (size:=1) _ G (Nat.le_refl _) hc2 (by have e1:(Value.int .u8 0).cells.size=1:=rfl;simp[Builtin.zeroCells,e1];omega)
 have hb:Below w.heap.size w (w.drew.alloc (.cells (Builtin.zeroCells (Value.int .u8 0).cells n++Builtin.zeroCells (Value.int .u8 0).cells (G-n)) 5)):=(Ext.drew1 w).trans (Ext.alloc _ _);have HO:=hid hown;have HB:=hid hb;unfold maxLen at hc2;clear hown hb hG hi0 hz0 hz1 hz2;go_enter Tryz.func69,Tryz.ntmps69;go_wp2_with (at_builtin;refine Lib.wpList_append_run _ rfl _ _ _ _ rfl _ _ rfl rfl _ _ (hr _) ?_)
 go_ret;exact⟨_,rfl,HO.out,HB.out⟩
theorem zcc(b o m c:Nat)(ls:List (List UInt8))(w:World)(hm:m=ls.length)(h:RowsB w b o ls)(h0:0<ls.flatten.length)(hl:ls.flatten.length<=1000)(hm2:m<=1000):
  Calls Tryz.prog 45 #[.slice (some ⟨b,o,none⟩) m c] w fun e w'=>∃v,e=.returned v/\Own w' w.heap.size v ls.flatten/\Below w.heap.size w w':=by
 go_enter Tryz.func45,Tryz.ntmps45;go_wp2_with fail
 go_loopw [3,11] (fun s i wr=>∃k:Nat,k<=m/\i=.int .i64 k/\s=.int .i64 (zbI ls k:Nat)/\Ext w wr) (fun _ i _=>m-(intOf i).toNat)
 case atStart=>exact⟨0,Nat.zero_le _,rfl,rfl,Below.refl _ _⟩
 case round =>
  obtain⟨k,hk,rfl,rfl,hx⟩:=hrel;by_cases hlt:k<m
  ·obtain⟨A,c1,hc,hrd⟩:=(h.later hx) k (by omega);have hs:=zbr ls k (by omega);have hle:=zcS ls k (by omega);obtain⟨S,hS⟩:∃S,zbI ls k=S:=⟨_,rfl⟩;obtain⟨L,hL⟩:∃L,(ls.getD k []).length=L:=⟨_,rfl⟩;obtain⟨S2,hS2⟩:∃S2,zbI ls (k+1)=S2:=⟨_,rfl⟩;rw[hL] at hc hs;rw[hS] at hs ⊢;rw[hS2] at hs hle;have HX:=hid hx;have HS2:=hid hS2;clear hL hS hS2 hrd hx h;go_wp2_with fail
   go_roundw
   case rel=>exact⟨k+1,by omega,by go_num,by rw[HS2.out,hs];go_num,HX.out⟩
   case measure=>simp[intOf];omega
  ·obtain rfl:k=m:=by omega
   have hall:zbI ls k=ls.flatten.length:=by rw[hm];exact zes ls
   rw[hall];obtain⟨T,hT⟩:∃T,ls.flatten.length=T:=⟨_,rfl⟩;rw[hT] at h0 hl ⊢;have HX:=hid hx;clear hx hall;have h1000:(T:Int)<=1000:=by omega
   go_wp2_with (go_at_call 69;refine(zdN _ _ h0 hl).mono ?_;rintro e w1 ⟨v1,rfl,hown1,hb1⟩)
   have HX1:=hid (Ext.trans HX.out hb1);have hown1:Own w1 w.heap.size v1 []:=hown1.base_mono (Below.size HX.out);clear HX hb1;go_wp2_with fail
   go_loopw [6,27] (fun v i wr=>∃j:Nat,j<=k/\i=.int .i64 j/\Own wr w.heap.size v (ls.take j).flatten/\Below w.heap.size w wr) (fun _ i _=>k-(intOf i).toNat)
   case atStart=>exact⟨0,Nat.zero_le _,rfl,by simpa using hown1,HX1.out⟩
   case round =>
    clear hown1 HX1;obtain⟨j,hj,rfl,hown,hb⟩:=hrel;by_cases hjt:j<k
    ·obtain⟨A,c1,hc,hrd⟩:=(h.later hb) j (by omega);have hle:=zcS ls j (by omega);have hss:=zbr ls j (by omega);have ht:=zb5 ls j (by omega);obtain⟨L,hL⟩:∃L,ls.getD j []=L:=⟨_,rfl⟩;rw[hL] at hc hrd hss ht;have hsz:=hb.size;have HB:=hid hb;have HT:=hid ht;have hxl:(ls.take j).flatten.length=zbI ls j:=rfl;obtain⟨X,hX⟩:∃X,(ls.take j).flatten=X:=⟨_,rfl⟩;rw[hX] at hown hxl;have HXX:=hid hX;obtain⟨M,hM⟩:∃M,L.length=M:=⟨_,rfl⟩;rw[hM] at hc hrd hss;rw[hT] at hle;clear hb ht hX h hL;go_wp2_with (at_builtin;refine za9 _ rfl (.tmp 31) (.tmp 32) 22 rfl Tryz.underlying22 Tryz.info5 w.heap.size _ X rfl hown _ A M c1 L rfl hrd (by omega) (by omega) ?_;intro v2 w2 hown2 hb2)
     have HO2:=hid hown2;have HB2:=hid (HB.out.trans hb2);clear hown2 hb2;go_roundw
     case rel=>exact⟨j+1,by omega,by go_num,by rw[HT.out,HXX.out];exact HO2.out,HB2.out⟩
     case measure=>simp[intOf];omega
    ·obtain rfl:j=k:=by omega
     have e:ls.take j=ls:=by rw[hm,List.take_length]
     rw[e] at hown;have HO:=hid hown;have HB:=hid hb;clear hown hb e;go_wp2_with fail
     go_ret;exact⟨_,rfl,HO.out,HB.out⟩
theorem Tryz.info43:(Tryz.prog.info? 133).map (fun i=>(i.zero,i.size,i.bytes))=some (some (.int .u32 0),1,4):=by kernel_rfl
theorem zkX(ks:List UInt32)(j:Nat)(x:UInt32):(nW ks).set j (x.toNat:Nat)=nW (ks.set j x):=by simp[nW,List.map_set]
theorem zn4(n:Nat):nW (List.replicate n 0)=List.replicate n 0:=by simp[nW]
def OwnW(w:World)(base:Nat)(v:Value)(ks:List UInt32):Prop:=OwnN .u32 133 w base v (nW ks)
theorem OwnW.kw{w:World}{base g n c:Nat}{ks:List UInt32}(h:OwnW w base (.slice (some ⟨g,0,none⟩) n c) ks)(hn:ks.length=n):KW w g 0 ks:=fun j hj=>by
 rw[Nat.zero_add,OwnN.celln h (by rw[zac];exact hn) j (by omega),zfs ks j hj]
theorem OwnW.set_{w:World}{base g n c:Nat}{ks:List UInt32}(h:OwnW w base (.slice (some ⟨g,0,none⟩) n c) ks)(hn:ks.length=n)(j:Nat)(x:UInt32):
  OwnW (w.setCell ⟨g,j,none⟩ (.int .u32 (x.toNat:Nat))) base (.slice (some ⟨g,0,none⟩) n c) (ks.set j x):=by
 have:=OwnN.setn h (by rw[zac];exact hn) j (x.toNat:Nat);rw[zkX] at this;exact this
def zek(f:Nat->UInt32)(n k:Nat):List UInt32:=(List.range n).map fun i=>if i<k then f i else 0
theorem zfq(f:Nat->UInt32)(n k:Nat):(zek f n k).length=n:=by simp[zek]
theorem zhl(f:Nat->UInt32)(n:Nat):zek f n 0=List.replicate n 0:=by
 apply List.ext_getElem<;>simp[zek]
theorem zhm(f:Nat->UInt32)(n:Nat):zek f n n=(List.range n).map f:=by
 apply List.ext_getElem
 ·simp[zek]
 ·intro i h1 h2;have:i<n:=by simpa [zek] using h1
  simp[zek,this]
theorem ziw(f:Nat->UInt32)(n k:Nat):(zek f n k).set k (f k)=zek f n (k+1):=by
 apply List.ext_getElem
 ·simp[zek]
 ·intro i h1 h2;simp only[zek,List.getElem_set,List.getElem_map,List.getElem_range];by_cases h:k=i
  ·subst h;simp
  ·rw[if_neg h];by_cases h':i<k
   ·rw[if_pos h',if_pos (by omega)]
   ·rw[if_neg h',if_neg (by omega)]
theorem zkf(t:T3)(A:Option Addr)(c B:Nat)(l:List UInt8)(w:World)(h:Rd w B A 4 l):
  Calls Tryz.prog 140 #[.int .i64 t.code,.slice A 4 c] w fun e w'=>e=.returned (.int .u32 ((wd t l).toNat:Nat))/\w=w':=by
 have hb:=zdW A 4 c B l w h (by omega);have hl:=zh1 A 4 c B l w h (by omega);have e1:zeo l 4=be l 4:=rfl;have e2:zj0 l 4=le l 4 4:=rfl;rw[e1] at hb;rw[e2] at hl;clear h e1 e2;cases t
 ·show Calls Tryz.prog 140 #[.int .i64 4,_] w _;rw[zop l .x (by decide)];have HB:=hid hb;clear hb hl;go_enter Tryz.func140,Tryz.ntmps140;go_wp2_with (go_at_call 173;refine HB.out.mono ?_;rintro e w' ⟨rfl,rfl⟩)
  go_ret;exact⟨rfl,rfl⟩
 ·show Calls Tryz.prog 140 #[.int .i64 5,_] w _;rw[zop l .m (by decide)];have HB:=hid hb;clear hb hl;go_enter Tryz.func140,Tryz.ntmps140;go_wp2_with (go_at_call 173;refine HB.out.mono ?_;rintro e w' ⟨rfl,rfl⟩)
  go_ret;exact⟨rfl,rfl⟩
 ·show Calls Tryz.prog 140 #[.int .i64 8,_] w _;rw[zoO l];have HB:=hid hl;clear hb hl;go_enter Tryz.func140,Tryz.ntmps140;go_wp2_with (go_at_call 165;refine HB.out.mono ?_;rintro e w' ⟨rfl,rfl⟩)
  go_ret;exact⟨rfl,rfl⟩
theorem zda(t:T3)(v:UInt32)(w:World):
  Calls Tryz.prog 239 #[.int .i64 t.code,.int .u32 (v.toNat:Nat)] w (RetB w (put t v)):=by
 have hv:=wlt v;have hb:=zcg (v.toNat:Nat) w (by omega) (by omega);have hl:=zcG (v.toNat:Nat) w (by omega) (by omega);have HB:=hid hb;have HL:=hid hl;clear hb hl;cases t
 ·show Calls Tryz.prog 239 #[.int .i64 4,_] w _;go_enter Tryz.func239,Tryz.ntmps239;go_wp2_with (go_at_call 195;refine HB.out.mono ?_;rintro e w' ⟨v2,rfl,ho,hx⟩)
  go_ret;exact⟨_,rfl,ho,hx⟩
 ·show Calls Tryz.prog 239 #[.int .i64 5,_] w _;go_enter Tryz.func239,Tryz.ntmps239;go_wp2_with (go_at_call 195;refine HB.out.mono ?_;rintro e w' ⟨v2,rfl,ho,hx⟩)
  go_ret;exact⟨_,rfl,ho,hx⟩
 ·show Calls Tryz.prog 239 #[.int .i64 8,_] w _;go_enter Tryz.func239,Tryz.ntmps239;go_wp2_with (go_at_call 192;refine HL.out.mono ?_;rintro e w' ⟨v2,rfl,ho,hx⟩)
  go_ret;exact⟨_,rfl,ho,hx⟩
theorem zll(bs:List UInt8)(k:Nat):(bs.drop (4*k)).drop 4=bs.drop (4*(k+1)):=by
 rw[List.drop_drop];congr 1
theorem zf3(t:T3)(A:Option Addr)(m c:Nat)(bs:List UInt8)(w:World)(h:Rd w w.heap.size A (4*m) bs)(hm:m<=1000)(hc:4*m<=c)(hcb:c<=9223372036854775807):
  Calls Tryz.prog 94 #[.int .i64 t.code,.slice A (4*m:Nat) c] w fun e w'=>e=.returned (.slice (some ⟨w.heap.size,0,none⟩) m m)/\OwnW w' w.heap.size (.slice (some ⟨w.heap.size,0,none⟩) m m) (words t bs m)/\Below w.heap.size w w':=by
 have h2:((4*m:Nat):Int)/4=(m:Int):=by omega
 go_enter Tryz.func94,Tryz.ntmps94;go_wp2_with (at_make;refine zc3 rfl (.tmp 9) (.tmp 9) 116 rfl Tryz.underlying116 4 Tryz.info43 .i64 m m rfl rfl rfl (by omega) (by unfold maxLen;omega) w.heap.size (Nat.le_refl _) ?_;intro w1 hown1 hb1)
 rw[<-zn4] at hown1;obtain⟨T,hT⟩:∃T,t.code=T:=⟨_,rfl⟩;have HT:=hid hT;rw[hT];clear hT;go_loopw [1,13] (fun b i wr=>∃(k:Nat) (Ak:Option Addr) (ck:Nat),k<=m/\i=.int .i64 k/\b=.slice Ak (4*(m-k):Nat) ck/\4*(m-k)<=ck/\ck<=9223372036854775807/\Rd wr w.heap.size Ak (4*(m-k)) (bs.drop (4*k)) /\
   OwnW wr w.heap.size (.slice (some ⟨w.heap.size,0,none⟩) m m) (zek (kw t bs) m k)/\Below w.heap.size w wr) (fun _ i _=>m-(intOf i).toNat)
 case atStart=>exact⟨0,A,c,Nat.zero_le _,rfl,rfl,hc,hcb,by simpa using h.below hb1 (Nat.le_refl _),by rw[zhl];exact hown1,hb1⟩
 case round =>
  obtain⟨k,Ak,ck,hk,rfl,rfl,hck,hck2,hrd,hown,hb⟩:=hrel;by_cases hlt:k<m
  ·have hr4:=hrd.cuthi 4 (by omega);have hr5:=hrd.cutlo (c:=ck) (l:=4) (by omega) (by omega);rw[zll] at hr5;have hl:=zfq (kw t bs) m k;have hcell:=OwnW.kw hown hl k (by omega);have hfree:=OwnN.free hown k;have hset:=OwnW.set_ hown hl k (kw t bs k);rw[ziw] at hset;rw[Nat.zero_add] at hcell;have hg:=fun(c:Nat)=>zkf t Ak c w.heap.size _ wr hr4
   rw[HT.out] at hg;obtain⟨v,hv⟩:∃v,kw t bs k=v:=⟨_,rfl⟩;rw[show wd t ((bs.drop (4*k)).take 4)=v from hv] at hg;rw[hv] at hset;obtain⟨b0,o0,rfl,hb0,_⟩:=hrd.at_ (by omega);have HG:=hid hg;have HSET:=hid hset;have hr6:=hr5.below ((Below.refl w.heap.size wr).setCell (p:=⟨w.heap.size,k,none⟩) (by simp) (.int .u32 (v.toNat:Nat))) (Nat.le_refl _);rw[show 4*(m-k)-4=4*(m-(k+1)) by omega,show Option.map (fun x:Addr=>x.add (4*1)) (some ⟨b0,o0,none⟩)=some ⟨b0,o0+4,none⟩ by simp[za2]] at hr6;have HR5:=hid hr6;clear hr6;have HB:=hid hb;obtain⟨q,hq⟩:∃q,4*(m-k)=q:=⟨_,rfl⟩;rw[hq] at hck ⊢;have hq4:4<=q:=by omega
   have HQ:=hid hq;clear hg hset hr5 hb hown hr4 hrd h hown1 hb1 hv hq;go_wp2_with fail
   refine(HG.out _).mono ?_;rintro e w' ⟨rfl,rfl⟩;have hq4c:4<=ck:=by omega
   have HQ4:=hid hq4;go_wp2_with fail
   go_roundw
   case rel=>exact⟨k+1,if ck=4 then some ⟨b0,o0,none⟩ else some ⟨b0,o0+4,none⟩,ck-4,by omega,by go_num,by rw[show 4*(m-(k+1))=q-4 by have:=HQ.out;omega],by have:=HQ.out;omega,by omega,HR5.out,HSET.out,HB.out.setCell (by simp) _⟩
   case measure=>simp[intOf];omega
  ·obtain rfl:k=m:=by omega
   rw[zhm] at hown;have HH:=hid (And.intro hown hb);clear hown hb hown1 hb1 hrd h;go_wp2_with fail
   go_ret;exact⟨rfl,HH.out.1,HH.out.2⟩
theorem cf36(vs:Array Value)(w:World):(callFunc 239 vs).run Tryz.prog w=.ok (.enter 239 vs) w:=by go_simp
theorem cf35(vs:Array Value)(w:World):(callFunc 45 vs).run Tryz.prog w=.ok (.enter 45 vs) w:=by go_simp
def RowP(xs ys:List UInt8)(w:World)(v:Value):Prop:=∃b,v=.slice (some ⟨b,0,none⟩) 2 2/\RowsB w b 0 [xs,ys]
theorem RowP.keep(xs ys:List UInt8):∀w w' v,Ext w w'->RowP xs ys w v->RowP xs ys w' v:=fun _ _ _ hx ⟨b,h1,h2⟩=>⟨b,h1,h2.later hx⟩
def OwnP(base:Nat)(bs:List UInt8)(w:World)(v:Value):Prop:=∃u,v=u/\Own w base u bs
theorem OwnP.keep(base:Nat)(bs:List UInt8):∀w w' v,Ext w w'->OwnP base bs w v->OwnP base bs w' v:=fun _ _ _ hx ⟨u,h1,h2⟩=>⟨u,h1,h2.kept hx⟩
theorem znL(A1 A2:Option Addr)(c1 c2:Nat)(w:World):(Instr.buildSlice 109 2 #[(0,.slice A1 4 c1),(1,.slice A2 4 c2)]).run Tryz.prog w=.ok (.slice (some ⟨w.heap.size,0,none⟩) 2 2) (w.alloc (.cells #[.slice A1 4 c1,.slice A2 4 c2] 22)):=by go_simp
theorem zhV{w:World}{b:Nat}{xs ys:List UInt8}(h:RowsB w b 0 [xs,ys])(hl:xs.length+ys.length=8):
  Calls Tryz.prog 45 #[.slice (some ⟨b,0,none⟩) 2 2] w (RetB w (xs++ys)):=by
 have hf:([xs,ys]:List (List UInt8)).flatten=xs++ys:=by simp
 have h1:=zcc b 0 2 2 [xs,ys] w rfl h (by rw[hf,List.length_append];omega) (by rw[hf,List.length_append];omega) (by omega);rw[hf] at h1;exact h1
theorem zi8{w:World}{bs:List UInt8}{H:Nat}(hH:H<=w.heap.size)(e:Ending)(w':World)(h:RetB w bs e w'):∃v,e=.returned v/\Ext w w'/\K.holds (.gen (OwnP H bs) (OwnP.keep _ _)) w' v:=by
 obtain⟨v,rfl,ho,hb⟩:=h;exact⟨v,rfl,hb,v,rfl,ho.base_mono hH⟩
theorem zgF{kd:IntKind}{e:TypeId}{w:World}{base g n:Nat}{L:List Int}(h:OwnN kd e w base (.slice (some ⟨g,0,none⟩) n n) L):w.heap[g]? = some (.cells (cN kd L).toArray e (0,0)):=by
 have hl:=h.len_eq;rcases h.2 with⟨h1,_⟩|⟨g',cap,cur,h1,_,hh,hnc,_,hcs,htake⟩
 ·cases h1
 ·simp only[Value.slice.injEq,Option.some.injEq,Addr.mk.injEq,and_true] at h1;obtain⟨rfl,h2,rfl⟩:=h1;rw[hh];have e1:cur.toList.take (L.length*1)=cur.toList:=List.take_of_length_le (by simp;omega);have e2:cur.toList=cN kd L:=by rw[<-e1];exact htake
  congr 2;apply Array.ext';rw[e2]
def zc1(w:World)(bs:List UInt8)(e:Ending)(w':World):Prop:=∃v,e=.returned (.tuple #[v,.int .i64 0])/\Own w' w.heap.size v bs/\Ext w w'
def blk7(p G H:Nat)(t:T3)(y:W2):List K:=[.eq (.pointer (some ⟨p,0,none⟩)),.eq (.pointer (some ⟨p,0,none⟩)),.eq (.pointer (some ⟨p,0,none⟩)),.eq (.int .i64 t.code),.eq (.pointer (some ⟨G,0,none⟩)),.eq (.int .u32 (y.a.toNat:Nat)),.byt 4 (put t y.a),.eq (.pointer (some ⟨p,0,none⟩)),.eq (.pointer (some ⟨p,0,none⟩)),.eq (.pointer (some ⟨p,0,none⟩)),.eq (.int .i64 t.code),.eq (.pointer (some ⟨G,1,none⟩)),.eq (.int .u32 (y.b.toNat:Nat)),.byt 4 (put t y.b),.gen (RowP (put t y.a) (put t y.b)) (RowP.keep _ _),.gen (OwnP H (outW t y)) (OwnP.keep _ _),.gen (OwnP H (outW t y)) (OwnP.keep _ _),.eq (Value.int IntKind.i64 0)]
theorem zb6(p:Nat)(A:Option Addr)(n cc:Nat)(back:Bool)(w:World)(h:n≠8):
  Calls Tryz.prog 236 #[.pointer (some ⟨p,0,none⟩),.slice A n cc,.bool back] w fun e w'=>e=.returned (.tuple #[.slice none 0 0,.int .i64 1])/\Ext w w':=by
 have g:((n:Int) != 8)=true:=by simp;omega
 go_enter Tryz.func236,Tryz.ntmps236;go_wp2;go_ret2;exact⟨rfl,Ext.refl _⟩
theorem zeV[Inhabited RT](p b o c:Nat)(t:T3)(ah:W2)(ks:List UInt32)(A:Option Addr)(cc:Nat)(bs:List UInt8)(w:World)(hs:Small_ w p b o c t ah ks)(hn:ks.length<=1000)(hG:GRows w)
  (h:Rd w w.heap.size A 8 bs) (hc8:8<=cc) (hcb:cc<=9223372036854775807):
  Calls Tryz.prog 236 #[.pointer (some ⟨p,0,none⟩),.slice A 8 cc,.bool false] w (zc1 w (outW t (zbG t ah ks (inW t bs)))):=by
 have HS:=hid hs;have hs0:=hid hs;have HGR:=hid hG;have ct:=hs.tag;have hcut:=zf3 t A 2 cc bs w h (by omega) (by omega) hcb;rw[show 4*2=8 from rfl] at hcut;obtain⟨T,hT⟩:∃T,t.code=T:=⟨_,rfl⟩;rw[hT] at ct hcut;have HCUT:=hid hcut;have HT:=hid hT;clear hs hG h hcut hT;go_enter Tryz.func236,Tryz.ntmps236;go_wp2_with fail
 refine HCUT.out.mono ?_;rintro e w1 ⟨rfl,ho1,hx1⟩;have hrow:w1.heap[w.heap.size]? = some (.cells (inW t bs).cells 133 (0,0)):=zgF ho1;obtain⟨x,hx⟩:∃x,inW t bs=x:=⟨_,rfl⟩;rw[hx] at hrow;have HXX:=hid hx;have HX1:=hid (show Ext w w1 from hx1);have HROW:=hid hrow;have HAT:=hid (fun w'=>run_arrayAt (P:=Tryz.prog) w' 174 133 2 (some ⟨w.heap.size,0,none⟩) 2 2 Tryz.underlying174 (Nat.le_refl _));have hb2:B2 ((w1.alloc (.cells #[.int .u32 0,.int .u32 0] 174)).setRow w1.heap.size x.cells) w1.heap.size x:=B2.put (show B2 _ _ ⟨0,0⟩ from heap_alloc_new w1 _) x;have hz1:=Below.size hx1;have hx2:Ext w ((w1.alloc (.cells #[.int .u32 0,.int .u32 0] 174)).setRow w1.heap.size x.cells):=Below.setRow_ (Ext.trans hx1 (Ext.alloc _ _)) hz1 _;have HB2:=hid hb2;have HX2:=hid hx2;have HS2:=hid (HS.out.later hx2);have HG2:=hid (HGR.out.later hx2);have HZ1:=hid hz1
 clear ho1 hx1 hrow HCUT ct hx hb2 hx2 hz1 HS HGR;go_wp2_with (first
  | (rw[HAT.out];simp only[Result.andThen];rw[Oper.upon_value])
  | (refine wpList_load_row rfl 174 (.tmp 18) rfl w.heap.size rfl 133 x.cells (0,0) _ HROW.out Tryz.underlying174 rfl (W2.size x) ?_)
  | (refine wpList_store_row rfl 174 (.tmp 8) (.tmp 19) rfl w1.heap.size x.cells rfl rfl 174 _ (heap_alloc_new w1 _) (W2.size x) rfl (W2.all x) ?_)
  | (refine wpList_load_row rfl 174 (.tmp 8) rfl w1.heap.size rfl 174 x.cells (0,0) _ HB2.out Tryz.underlying174 rfl (W2.size x) ?_))
 refine(zcw p b o c t ah ks x _ HS2.out hn HG2.out).mono ?_;rintro e w3 ⟨rfl,hx3⟩;obtain⟨y,hy⟩:∃y,zbG t ah ks x=y:=⟨_,rfl⟩;have HYY:=hid hy;rw[hy];have hb3:=HB2.out.later hx3;have HB3:=hid hb3;have HB4:=hid (hb3.put y);have HX4:=hid (Below.setRow_ (Ext.trans HX2.out hx3) HZ1.out y.cells:Below w.heap.size w (w3.setRow w1.heap.size y.cells));have HSW:=hid (hs0.out.later (show Ext w _ from HX4.out));clear hb3 hx3 hy HX2 HS2 HG2 HROW HAT HB2;go_wp2_with (refine wpList_store_row rfl 174 (.tmp 8) (.tmp 26) rfl w1.heap.size y.cells rfl rfl 174 _ HB3.out (W2.size y) rfl (W2.all y) ?_)
 obtain⟨W4,hW4⟩:∃W4,w3.setRow w1.heap.size y.cells=W4:=⟨_,rfl⟩;rw[hW4] at HB4 HX4 HSW ⊢;obtain⟨G,hGe⟩:∃G,w1.heap.size=G:=⟨_,rfl⟩;rw[hGe] at HB4 ⊢;obtain⟨H,hHe⟩:∃H,w.heap.size=H:=⟨_,rfl⟩;have HHE:=hid hHe;have HB:=hid HB4.out;have HSM:=hid HSW.out;have HH0:=hid (show H<=W4.heap.size by rw[<-hHe];exact Below.size HX4.out);clear hW4 hGe HB3 HZ1 HB4 HSW hHe;refine zdj (blk7 p G H t y) (zab ⟨fun _ _ h=>h.mv,?_,?_,?_,?_,?_,?_,fun _ _ h=>h.mv,?_,?_,?_,?_,?_,?_,?_,?_,?_,?_,trivial⟩) ?_
 ·intro a w hk;have s27:=hk.eq_ 0 27;refine za ?_;go_simp
 ·intro a w hk;have s28:=hk.eq_ 1 28;refine za ?_;go_simp
 ·intro a w hk;have s29:=hk.eq_ 2 29;refine za ?_;have hc:=(HSM.out.later hk.ext).tag;go_simp
 ·intro a w hk;have s8:a.tmps.getD 8 undef=.pointer (some ⟨G,0,none⟩):=hk.was 8;refine za ?_;go_simp
 ·intro a w hk;have s31:=hk.eq_ 4 31;refine za ?_;have hc:=(HB.out.later hk.ext).ca;go_simp
 ·exact fun _ w h=>h.call cf36 (zda t y.a w) (fun e w1 h=>RetB.k (za8 t y.a) e w1 h)
 ·intro a w hk;have s34:=hk.eq_ 7 34;refine za ?_;go_simp
 ·intro a w hk;have s35:=hk.eq_ 8 35;refine za ?_;go_simp
 ·intro a w hk;have s36:=hk.eq_ 9 36;refine za ?_;have hc:=(HSM.out.later hk.ext).tag;go_simp
 ·intro a w hk;have s8:a.tmps.getD 8 undef=.pointer (some ⟨G,0,none⟩):=hk.was 8;refine za ?_;go_simp
 ·intro a w hk;have s38:=hk.eq_ 11 38;refine za ?_;have hc:=(HB.out.later hk.ext).cb;go_simp
 ·exact fun _ w h=>h.call cf36 (zda t y.b w) (fun e w1 h=>RetB.k (za8 t y.b) e w1 h)
 ·intro a w hk;obtain⟨A33,c33,s33,r33⟩:=hk.byt_ 6 33;obtain⟨A40,c40,s40,r40⟩:=hk.byt_ 13 40;refine zai (v:=.slice (some ⟨w.heap.size,0,none⟩) 2 2) (w':=w.alloc (.cells #[.slice A33 4 c33,.slice A40 4 c40] 22)) rfl ?_ (Ext.alloc _ _) ⟨_,rfl,RowsB.two w A33 A40 4 4 c33 c40 22 _ _ r33 r40⟩;have e:=znL A33 A40 c33 c40 w;simp only[execOp,Act.eval,List.map_toArray,List.map_cons,List.map_nil,s33,s40,Sem.run_bind,e,Sem.run_pure,Result.andThen]
 ·intro a w hk;obtain⟨b41,s41,g41⟩:=hk.val 14 41;exact za0 rfl rfl (by simp only[List.map_toArray,List.map_cons,List.map_nil,Act.eval,s41]<;>rfl) cf35 (zhV g41 (by simp[za8])) (fun e w1 h=>zi8 (Nat.le_trans HH0.out (Below.size hk.ext)) e w1 h)
 ·intro a w hk;obtain⟨u42,s42,g42⟩:=hk.val 15 42;exact zaM rfl rfl s42 ⟨_,rfl,g42⟩
 ·intro a w hk;exact zaM rfl rfl rfl rfl
 ·intro a w1 hf;obtain⟨A33,c33,s33,r33⟩:=hf.val 6 33;obtain⟨A40,c40,s40,r40⟩:=hf.val 13 40;obtain⟨b41,s41,g41⟩:=hf.val 14 41;obtain⟨u42,s42,g42⟩:=hf.val 15 42;obtain⟨u6,s6,g6⟩:=hf.val 16 6;have hx:=hf.ext;have e:=hf.fr;clear hf;simp only[blk7,frV,kPut,Act.put,List.setIfInBounds_toArray,List.set_cons_zero,List.set_cons_succ,s33,s40,s41,s42,s6] at e;clear s33 s40 s41 s42 s6;subst e;have HO:=hid g6;have HE:=hid (Ext.trans HX4.out hx);have HHE2:=HHE.out;clear g42 g6 g41 r33 r40 hx;subst HHE2;go_wp2_with fail
  go_ret2;exact⟨u6,rfl,by rw[HXX.out,HYY.out];exact HO.out,HE.out⟩
theorem ze3[Inhabited RT](p b o c:Nat)(t:T3)(ah:W2)(ks:List UInt32)(A:Option Addr)(cc:Nat)(bs:List UInt8)(w:World)(hs:Small_ w p b o c t ah ks)(hn:ks.length<=1000)(hG:GRows w)
  (h:Rd w w.heap.size A 8 bs) (hc8:8<=cc) (hcb:cc<=9223372036854775807):
  Calls Tryz.prog 236 #[.pointer (some ⟨p,0,none⟩),.slice A 8 cc,.bool true] w (zc1 w (outW t (zcZ t ah ks (inW t bs)))):=by
 have HS:=hid hs;have hs0:=hid hs;have HGR:=hid hG;have ct:=hs.tag;have hcut:=zf3 t A 2 cc bs w h (by omega) (by omega) hcb;rw[show 4*2=8 from rfl] at hcut;obtain⟨T,hT⟩:∃T,t.code=T:=⟨_,rfl⟩;rw[hT] at ct hcut;have HCUT:=hid hcut;have HT:=hid hT;clear hs hG h hcut hT;go_enter Tryz.func236,Tryz.ntmps236;go_wp2_with fail
 refine HCUT.out.mono ?_;rintro e w1 ⟨rfl,ho1,hx1⟩;have hrow:w1.heap[w.heap.size]? = some (.cells (inW t bs).cells 133 (0,0)):=zgF ho1;obtain⟨x,hx⟩:∃x,inW t bs=x:=⟨_,rfl⟩;rw[hx] at hrow;have HXX:=hid hx;have HX1:=hid (show Ext w w1 from hx1);have HROW:=hid hrow;have HAT:=hid (fun w'=>run_arrayAt (P:=Tryz.prog) w' 174 133 2 (some ⟨w.heap.size,0,none⟩) 2 2 Tryz.underlying174 (Nat.le_refl _));have hb2:B2 ((w1.alloc (.cells #[.int .u32 0,.int .u32 0] 174)).setRow w1.heap.size x.cells) w1.heap.size x:=B2.put (show B2 _ _ ⟨0,0⟩ from heap_alloc_new w1 _) x;have hz1:=Below.size hx1;have hx2:Ext w ((w1.alloc (.cells #[.int .u32 0,.int .u32 0] 174)).setRow w1.heap.size x.cells):=Below.setRow_ (Ext.trans hx1 (Ext.alloc _ _)) hz1 _;have HB2:=hid hb2;have HX2:=hid hx2;have HS2:=hid (HS.out.later hx2);have HG2:=hid (HGR.out.later hx2);have HZ1:=hid hz1
 clear ho1 hx1 hrow HCUT ct hx hb2 hx2 hz1 HS HGR;go_wp2_with (first
  | (rw[HAT.out];simp only[Result.andThen];rw[Oper.upon_value])
  | (refine wpList_load_row rfl 174 (.tmp 18) rfl w.heap.size rfl 133 x.cells (0,0) _ HROW.out Tryz.underlying174 rfl (W2.size x) ?_)
  | (refine wpList_store_row rfl 174 (.tmp 8) (.tmp 19) rfl w1.heap.size x.cells rfl rfl 174 _ (heap_alloc_new w1 _) (W2.size x) rfl (W2.all x) ?_)
  | (refine wpList_load_row rfl 174 (.tmp 8) rfl w1.heap.size rfl 174 x.cells (0,0) _ HB2.out Tryz.underlying174 rfl (W2.size x) ?_))
 refine(zdP p b o c t ah ks x _ HS2.out hn HG2.out).mono ?_;rintro e w3 ⟨rfl,hx3⟩;obtain⟨y,hy⟩:∃y,zcZ t ah ks x=y:=⟨_,rfl⟩;have HYY:=hid hy;rw[hy];have hb3:=HB2.out.later hx3;have HB3:=hid hb3;have HB4:=hid (hb3.put y);have HX4:=hid (Below.setRow_ (Ext.trans HX2.out hx3) HZ1.out y.cells:Below w.heap.size w (w3.setRow w1.heap.size y.cells));have HSW:=hid (hs0.out.later (show Ext w _ from HX4.out));clear hb3 hx3 hy HX2 HS2 HG2 HROW HAT HB2;go_wp2_with (refine wpList_store_row rfl 174 (.tmp 8) (.tmp 23) rfl w1.heap.size y.cells rfl rfl 174 _ HB3.out (W2.size y) rfl (W2.all y) ?_)
 obtain⟨W4,hW4⟩:∃W4,w3.setRow w1.heap.size y.cells=W4:=⟨_,rfl⟩;rw[hW4] at HB4 HX4 HSW ⊢;obtain⟨G,hGe⟩:∃G,w1.heap.size=G:=⟨_,rfl⟩;rw[hGe] at HB4 ⊢;obtain⟨H,hHe⟩:∃H,w.heap.size=H:=⟨_,rfl⟩;have HHE:=hid hHe;have HB:=hid HB4.out;have HSM:=hid HSW.out;have HH0:=hid (show H<=W4.heap.size by rw[<-hHe];exact Below.size HX4.out);clear hW4 hGe HB3 HZ1 HB4 HSW hHe;refine zdj (blk7 p G H t y) (zab ⟨fun _ _ h=>h.mv,?_,?_,?_,?_,?_,?_,fun _ _ h=>h.mv,?_,?_,?_,?_,?_,?_,?_,?_,?_,?_,trivial⟩) ?_
 ·intro a w hk;have s27:=hk.eq_ 0 27;refine za ?_;go_simp
 ·intro a w hk;have s28:=hk.eq_ 1 28;refine za ?_;go_simp
 ·intro a w hk;have s29:=hk.eq_ 2 29;refine za ?_;have hc:=(HSM.out.later hk.ext).tag;go_simp
 ·intro a w hk;have s8:a.tmps.getD 8 undef=.pointer (some ⟨G,0,none⟩):=hk.was 8;refine za ?_;go_simp
 ·intro a w hk;have s31:=hk.eq_ 4 31;refine za ?_;have hc:=(HB.out.later hk.ext).ca;go_simp
 ·exact fun _ w h=>h.call cf36 (zda t y.a w) (fun e w1 h=>RetB.k (za8 t y.a) e w1 h)
 ·intro a w hk;have s34:=hk.eq_ 7 34;refine za ?_;go_simp
 ·intro a w hk;have s35:=hk.eq_ 8 35;refine za ?_;go_simp
 ·intro a w hk;have s36:=hk.eq_ 9 36;refine za ?_;have hc:=(HSM.out.later hk.ext).tag;go_simp
 ·intro a w hk;have s8:a.tmps.getD 8 undef=.pointer (some ⟨G,0,none⟩):=hk.was 8;refine za ?_;go_simp
 ·intro a w hk;have s38:=hk.eq_ 11 38;refine za ?_;have hc:=(HB.out.later hk.ext).cb;go_simp
 ·exact fun _ w h=>h.call cf36 (zda t y.b w) (fun e w1 h=>RetB.k (za8 t y.b) e w1 h)
 ·intro a w hk;obtain⟨A33,c33,s33,r33⟩:=hk.byt_ 6 33;obtain⟨A40,c40,s40,r40⟩:=hk.byt_ 13 40;refine zai (v:=.slice (some ⟨w.heap.size,0,none⟩) 2 2) (w':=w.alloc (.cells #[.slice A33 4 c33,.slice A40 4 c40] 22)) rfl ?_ (Ext.alloc _ _) ⟨_,rfl,RowsB.two w A33 A40 4 4 c33 c40 22 _ _ r33 r40⟩;have e:=znL A33 A40 c33 c40 w;simp only[execOp,Act.eval,List.map_toArray,List.map_cons,List.map_nil,s33,s40,Sem.run_bind,e,Sem.run_pure,Result.andThen]
 ·intro a w hk;obtain⟨b41,s41,g41⟩:=hk.val 14 41;exact za0 rfl rfl (by simp only[List.map_toArray,List.map_cons,List.map_nil,Act.eval,s41]<;>rfl) cf35 (zhV g41 (by simp[za8])) (fun e w1 h=>zi8 (Nat.le_trans HH0.out (Below.size hk.ext)) e w1 h)
 ·intro a w hk;obtain⟨u42,s42,g42⟩:=hk.val 15 42;exact zaM rfl rfl s42 ⟨_,rfl,g42⟩
 ·intro a w hk;exact zaM rfl rfl rfl rfl
 ·intro a w1 hf;obtain⟨A33,c33,s33,r33⟩:=hf.val 6 33;obtain⟨A40,c40,s40,r40⟩:=hf.val 13 40;obtain⟨b41,s41,g41⟩:=hf.val 14 41;obtain⟨u42,s42,g42⟩:=hf.val 15 42;obtain⟨u6,s6,g6⟩:=hf.val 16 6;have hx:=hf.ext;have e:=hf.fr;clear hf;simp only[blk7,frV,kPut,Act.put,List.setIfInBounds_toArray,List.set_cons_zero,List.set_cons_succ,s33,s40,s41,s42,s6] at e;clear s33 s40 s41 s42 s6;subst e;have HO:=hid g6;have HE:=hid (Ext.trans HX4.out hx);have HHE2:=HHE.out;clear g42 g6 g41 r33 r40 hx;subst HHE2;go_wp2_with fail
  go_ret2;exact⟨u6,rfl,by rw[HXX.out,HYY.out];exact HO.out,HE.out⟩
theorem zd4(w:World)(x:UInt32):RdN .u32 (w.alloc (.cells #[.int .u32 (x.toNat:Nat)] 133)) (w.heap.size+1) (some ⟨w.heap.size,0,none⟩) 1 (nW [x]) :=
 ⟨rfl,fun _=>⟨w.heap.size,0,rfl,by omega,fun j hj=>by
  obtain rfl:j=0:=by omega
  rw[Nat.add_zero,cell_of_heap (heap_alloc_new w _)];rfl⟩⟩
def KS(k:Nat->UInt32)(j:Nat):List UInt32:=(List.range j).map (keyX k)
theorem zey(k:Nat->UInt32)(j:Nat):(KS k j).length=j:=by simp[KS]
theorem zl6(k:Nat->UInt32)(j:Nat):KS k (j+1)=KS k j++[keyX k j]:=by simp[KS,List.range_succ]
theorem zmr(k:Nat->UInt32)(j:Nat):keyX k (2*j)=sumX j+k ((sumX j).toNat%4):=by
 unfold keyX;rw[if_pos (by omega),show 2*j/2=j by omega]
theorem zpU(k:Nat->UInt32)(j:Nat):keyX k (2*j+1)=sumX (j+1)+k ((sumX (j+1)).toNat/2048%4):=by
 unfold keyX;rw[if_neg (by omega),show(2*j+1)/2=j by omega]
def zog(k:Nat)(a:Act):Nat:=match a.tmps.getD k undef with | .slice _ n _=>n|_=>0
def XkJ(g c:Nat)(l:List UInt32)(w:World)(a:Act)(w1:World):Prop :=
 ∃(j:Nat) (Av:Option Addr) (cv:Nat) (u5 u6 u7 u8 u9 u10 u11 u12 u13 u14 u15 u16 u17 u18 u19 u20 u21 u22 u23 u24 u25 u26 u27 u28 u29 u30 u31 u32:Value),
  a = { tmps:=#[.slice (some ⟨g,0,none⟩) 4 c,undef,.slice none 0 0,.slice Av (2*j:Nat) cv,.int .u32 ((sumX j).toNat:Nat),u5,u6,u7,u8,u9,u10,u11,u12,u13,u14,u15,u16,u17,u18,u19,u20,u21,u22,u23,u24,u25,u26,u27,u28,u29,u30,u31,u32],defers:=[] }/\j<32 /\
  OwnW w1 w.heap.size (.slice Av (2*j:Nat) cv) (KS (fun i=>l.getD i 0) (2*j))/\Ext w w1
def WRet(n:Nat)(w:World)(ks:List UInt32)(e:Ending)(w':World):Prop:=∃g c,e=.returned (.slice (some ⟨g,0,none⟩) n c)/\n<=c/\c<=9223372036854775807/\OwnW w' w.heap.size (.slice (some ⟨g,0,none⟩) n c) ks/\Ext w w'
theorem OwnW.room{w:World}{base n c:Nat}{A:Option Addr}{ks:List UInt32}(h:OwnW w base (.slice A n c) ks):c<=9223372036854775807:=by
 rcases h.2 with⟨h1,_⟩|⟨g,cap,cur,h1,_,_,_,hcm,_,_⟩
 ·cases h1;omega
 ·cases h1;unfold maxLen at hcm;omega
theorem zmi(g c:Nat)(l:List UInt32)(w:World)(hk:KW w g 0 l)(hl:l.length=4):
  Calls Tryz.prog 95 #[.slice (some ⟨g,0,none⟩) 4 c] w (WRet 64 w (KS (fun i=>l.getD i 0) 64)):=by
 have HK:=hid hk;have HL:=hid hl;obtain⟨i0,hi0,hz0,hz1,hz2⟩:=info_parts Tryz.info43;have HI:=hid (And.intro hi0 (And.intro hz0 (And.intro hz1 hz2)));clear hk hl hi0 hz0 hz1 hz2;go_enter Tryz.func95,Tryz.ntmps95;go_wp2_with fail
 refine zat 0 (XkJ g c l w) (fun a _=>64-zog 3 a) rfl ?_ ?_
 ·rintro a w1 ⟨j,Av,cv,u5,u6,u7,u8,u9,u10,u11,u12,u13,u14,u15,u16,u17,u18,u19,u20,u21,u22,u23,u24,u25,u26,u27,u28,u29,u30,u31,u32,rfl,hj,hown,hx⟩;have hlen:=zey (fun i=>l.getD i 0) (2*j);have hlen1:=zey (fun i=>l.getD i 0) (2*j+1);have hlen2:=zey (fun i=>l.getD i 0) (2*(j+1));have HS1:=hid (show KS (fun i=>l.getD i 0) (2*j)++[sumX j+l.getD ((sumX j).toNat%4) 0]=KS (fun i=>l.getD i 0) (2*j+1) by rw[zl6,zmr]);have HS2:=hid (show KS (fun i=>l.getD i 0) (2*j+1)++[sumX (j+1)+l.getD ((sumX (j+1)).toNat/2048%4) 0]=KS (fun i=>l.getD i 0) (2*(j+1)) by rw[show 2*(j+1)=2*j+1+1 by omega,zl6 _ (2*j+1),zpU]);have hss:=znN j;obtain⟨S,hS⟩:∃S,sumX j=S:=⟨_,rfl⟩;obtain⟨S2,hS2⟩:∃S2,sumX (j+1)=S2:=⟨_,rfl⟩;rw[hS] at HS1 hss;rw[hS2] at HS2 hss;have hs2:((S.toNat:Int)+2654435769)%4294967296=(S2.toNat:Int):=by rw[hss];exact zcd S gold
  obtain⟨i1,hi1⟩:∃i1,S.toNat%4=i1:=⟨_,rfl⟩;obtain⟨i2,hi2⟩:∃i2,S2.toNat/2048%4=i2:=⟨_,rfl⟩;rw[hi1] at HS1;rw[hi2] at HS2;have e1:(S.toNat:Int)%4=(i1:Int):=by omega
  have e2:(S2.toNat:Int)/2048%4=(i2:Int):=by omega
  have l1:i1<4:=by omega
  have l2:i2<4:=by omega
  have hc1:=(HK.out.later hx) i1 (by rw[HL.out];exact l1);rw[Nat.zero_add] at hc1;obtain⟨k1,hk1⟩:∃k1,l.getD i1 0=k1:=⟨_,rfl⟩;obtain⟨k2,hk2⟩:∃k2,l.getD i2 0=k2:=⟨_,rfl⟩;rw[hk1] at hc1 HS1;rw[hk2] at HS2;have hsum1:=zcd S k1;have hsum2:=zcd S2 k2;obtain⟨X1,hX1⟩:∃X1,S+k1=X1:=⟨_,rfl⟩;obtain⟨X2,hX2⟩:∃X2,S2+k2=X2:=⟨_,rfl⟩;rw[hX1] at hsum1 HS1;rw[hX2] at hsum2 HS2;have hal1:=Ext.alloc w1 (.cells #[.int .u32 (X1.toNat:Nat)] 133);have hown1:=OwnN.kept hown hal1;have hrd1:=zd4 w1 X1;have b1:=wlt S;have b2:=wlt k1;have b3:=wlt S2;have b4:=wlt k2;have hz1:=Below.size hx;have HX:=hid hx;have HS:=hid hS;have HSS2:=hid hS2;have HK2:=hid hk2;clear hX1 hX2 hss hS hS2 hi1 hi2 hk1 hk2 hown hx;have HAL2:=hid (fun(W:World)=>Ext.alloc W (.cells #[.int .u32 (X2.toNat:Nat)] 133));have HRD2:=hid (fun(W:World)=>zd4 W X2)
  have HCC:=hid (fun(W:World) (hW:Ext w W)=>show W.cell? ⟨g,i2,none⟩=some (.int .u32 (k2.toNat:Nat)) by
   have:=(HK.out.later hW) i2 (by rw[HL.out];exact l2);rw[Nat.zero_add,HK2.out] at this;exact this)
  rw[HS.out];by_cases hlast:j+1<32
  ·have h64:((2*(j+1):Nat):Int)<64:=by omega
   go_wp2_with (first
    | (at_builtin;refine zaw _ rfl (.tmp 6) (.tmp 14) 116 rfl Tryz.underlying116 4 Tryz.info43 w.heap.size _ (nW (KS (fun i=>l.getD i 0) (2*j))) rfl hown1 _ _ 1 1 (nW [X1]) rfl hrd1 (by rw[zac,hlen];omega) (by rw[zac,hlen];unfold maxLen;omega) (by simp;omega) ?_;intro v2 w2 hown2 hb2;rw[<-zaK,HS1.out] at hown2;obtain⟨A2,c2,rfl,hcc2,_,hown2⟩:=OwnN.rdc (n:=2*j+1) hown2 (by rw[zac,hlen1]);have hx2:=(show Ext w w2 from(Below.trans HX.out (Below.mono hal1 hz1)).trans hb2);have hc2:=HCC.out w2 hx2;have hown3:=OwnN.kept hown2 (HAL2.out w2);have hrd3:=HRD2.out w2;have hz2:=Below.size hx2;have HX2:=hid hx2;clear hx2 hb2 hown1 hrd1 hal1)
    | (at_builtin;refine zaw _ rfl (.tmp 18) (.tmp 27) 116 rfl Tryz.underlying116 4 Tryz.info43 w.heap.size _ (nW (KS (fun i=>l.getD i 0) (2*j+1))) rfl hown3 _ _ 1 1 (nW [X2]) rfl hrd3 (by rw[zac,hlen1];omega) (by rw[zac,hlen1];unfold maxLen;omega) (by simp;omega) ?_;intro v4 w4 hown4 hb4;rw[<-zaK,HS2.out] at hown4;obtain⟨A4,c4,rfl,hcc4,_,hown4⟩:=OwnN.rdc (n:=2*(j+1)) hown4 (by rw[zac,hlen2]);have HX4:=hid (show Ext w w4 from(Below.trans HX2.out (Below.mono (HAL2.out w2) hz2)).trans hb4);have HO4:=hid hown4;clear hb4 hown4 hown3 hrd3))
   go_wp2_with fail
   go_step3
   (try simp only[Exit.jump])
   refine⟨rfl,⟨j+1,A4,c4,ex8 (ex8 (ex8 ⟨_,_,_,_,by rw[HSS2.out],hlast,HO4.out,HX4.out⟩))⟩,?_⟩;simp[zog];omega
  ·have h64:¬((2*(j+1):Nat):Int)<64:=by omega
   go_wp2_with (first
    | (at_builtin;refine zaw _ rfl (.tmp 6) (.tmp 14) 116 rfl Tryz.underlying116 4 Tryz.info43 w.heap.size _ (nW (KS (fun i=>l.getD i 0) (2*j))) rfl hown1 _ _ 1 1 (nW [X1]) rfl hrd1 (by rw[zac,hlen];omega) (by rw[zac,hlen];unfold maxLen;omega) (by simp;omega) ?_;intro v2 w2 hown2 hb2;rw[<-zaK,HS1.out] at hown2;obtain⟨A2,c2,rfl,hcc2,_,hown2⟩:=OwnN.rdc (n:=2*j+1) hown2 (by rw[zac,hlen1]);have hx2:=(show Ext w w2 from(Below.trans HX.out (Below.mono hal1 hz1)).trans hb2);have hc2:=HCC.out w2 hx2;have hown3:=OwnN.kept hown2 (HAL2.out w2);have hrd3:=HRD2.out w2;have hz2:=Below.size hx2;have HX2:=hid hx2;clear hx2 hb2 hown1 hrd1 hal1)
    | (at_builtin;refine zaw _ rfl (.tmp 18) (.tmp 27) 116 rfl Tryz.underlying116 4 Tryz.info43 w.heap.size _ (nW (KS (fun i=>l.getD i 0) (2*j+1))) rfl hown3 _ _ 1 1 (nW [X2]) rfl hrd3 (by rw[zac,hlen1];omega) (by rw[zac,hlen1];unfold maxLen;omega) (by simp;omega) ?_;intro v4 w4 hown4 hb4;rw[<-zaK,HS2.out] at hown4;obtain⟨A4,c4,rfl,hcc4,_,hown4⟩:=OwnN.rdc (n:=2*(j+1)) hown4 (by rw[zac,hlen2]);have HX4:=hid (show Ext w w4 from(Below.trans HX2.out (Below.mono (HAL2.out w2) hz2)).trans hb4);have HO4:=hid hown4;clear hb4 hown4 hown3 hrd3))
   have h32:2*(j+1)=64:=by omega
   have HO:=hid HO4.out;rw[h32] at HO;clear HO4
   (try simp only[Exit.jump])
   go_ret;obtain⟨g9,c9,e9,hc9,_,_⟩:=OwnN.head HO.out (by rw[zac,zey]) (by omega);simp only[Value.slice.injEq] at e9;obtain⟨rfl,_,rfl⟩:=e9;exact⟨g9,c4,by rw[h32];rfl,hc9,OwnW.room HO.out,HO.out,HX4.out⟩
 ·intro hfirst;obtain⟨h2,h3,h4,h5⟩:=HI.out;go_wp2_with (refine wpList_make_own _ rfl (.const (.int .i64 0)) (.const (.int .i64 64)) 116 rfl w.heap.size 133 i0 (.int .u32 0) 1 Tryz.underlying116 h2 h3 h4 .i64 .i64 64 64 rfl rfl rfl (by rw[h5];omega) (by unfold maxLen;omega) (Nat.le_refl _) ?_;intro w1 hown1 hg1)
  have HX1:=hid (show Ext w w1 from(Ext.refl w).grown hg1 (Nat.le_refl _) (by simp));have HO1:=hid (show OwnW w1 w.heap.size (.slice (some ⟨w.heap.size,0,none⟩) (2*0:Nat) 64) (KS (fun i=>l.getD i 0) (2*0)) from hown1);go_wp2_with fail
  go_step3;simp only[Exit.then];rename_i hK;refine hK _ _ ?_;exact hfirst.out _ _ ⟨0,ex8 (ex8 (ex8 ⟨_,_,_,_,_,_,rfl,by omega,HO1.out,HX1.out⟩))⟩
def BW(w:World)(g:Nat)(ks:List UInt32):Prop:=w.heap[g]? = some (.cells (cN .u32 (nW ks)).toArray 133 (0,0))
section
variable {w w':World} {g:Nat} {ks:List UInt32}
theorem BW.lt(h:BW w g ks):g<w.heap.size:=(Array.getElem?_eq_some_iff.1 h).1
theorem BW.later(h:BW w g ks)(hx:Ext w w'):BW w' g ks:=(hx.block g h.lt).trans h
theorem BW.cell(h:BW w g ks)(j:Nat)(hj:j<ks.length):w.cell? ⟨g,j,none⟩=some (.int .u32 ((ks.getD j 0).toNat:Nat)):=by
 rw[cell_of_heap h];have:=zd1 .u32 (nW ks) j (by rw[zac];exact hj);rw[zfs ks j hj] at this;simpa using this
theorem BW.kw(h:BW w g ks):KW w g 0 ks:=fun j hj=>by rw[Nat.zero_add];exact h.cell j hj
theorem BW.frozen(h:BW w g ks)(k:Nat):w.frozen? ⟨g,k,none⟩=false:=frozen_of_row w g k _ 133 h
theorem BW.set_(h:BW w g ks)(k:Nat)(x:UInt32):BW (w.setCell ⟨g,k,none⟩ (.int .u32 (x.toNat:Nat))) g (ks.set k x):=by
 have:=heap_setCell_same w g k _ 133 (.int .u32 (x.toNat:Nat)) h;unfold BW;rw[this,<-zkX];simp[cN,List.map_set]
theorem BW.setne(h:BW w g ks)(p:Addr)(v:Value)(hne:g≠p.block):BW (w.setCell p v) g ks:=(heap_setCell_other w p g v hne).trans h
theorem zeA{base n:Nat}(h:OwnW w base (.slice (some ⟨g,0,none⟩) n n) ks):BW w g ks:=zgF h
theorem BW.grown{k:Nat}(h:BW w g ks)(hg:w.grownBy w' (some k))(hne:g≠k):BW w' g ks:=(hg.block g h.lt (by simp[hne])).trans h
theorem BW.rd(h:BW w g ks):RdN .u32 w w.heap.size (some ⟨g,0,none⟩) ks.length (nW ks) :=
 ⟨zac ks,fun _=>⟨g,0,rfl,h.lt,fun j hj=>by rw[Nat.zero_add,h.cell j hj,zfs ks j hj]⟩⟩
end
theorem zbM{a b c:World}{g:Nat}(h:a.grownBy b (some g))(k:b.grownBy c (some g)):a.grownBy c (some g) :=
 ⟨k.os.trans h.os,k.tape.trans h.tape,k.output.trans h.output,Nat.le_trans h.size k.size,fun i hi hne=>(k.block i (Nat.lt_of_lt_of_le hi h.size) hne).trans (h.block i hi hne)⟩
theorem ze8{a b:World}{g:Option Nat}(h:a.grownBy b g):a.grownBy b.drew g:=⟨h.os,h.tape,h.output,h.size,h.block⟩
theorem _root_.Go.Proofs.YtokbbmngfogbbaaGreatDoor.OwnN.grownNe{kd:IntKind}{e:TypeId}{w w':World}{base g:Nat}{v:Value}{xs:List Int}(h:OwnN kd e w base v xs)(hg:w.grownBy w' (some g))(hb:g<base):OwnN kd e w' base v xs:=by
 refine⟨h.1,?_⟩;rcases h.2 with hn|⟨b,cap,cur,rfl,hbg,hh,r⟩
 ·exact .inl hn
 ·exact .inr ⟨b,cap,cur,rfl,hbg,by rw[hg.block b (Array.getElem?_eq_some_iff.1 hh).1 (by simp;omega)];exact hh,r⟩
theorem below_grown{a b c:World}{B g:Nat}(h:Below B a b)(hg:b.grownBy c (some g))(hB:B<=g)(hz:B<=b.heap.size):Below B a c:=Below.grown h hg hz (fun k e=>by cases e;exact hB)
def revG(ks:List UInt32):Nat->List UInt32
 | 0=>ks
 | i+1=>((revG ks i).set i ((revG ks i).getD (7-i) 0)).set (7-i) ((revG ks i).getD i 0)
theorem zg(ks:List UInt32):∀i,(revG ks i).length=ks.length
 | 0=>rfl
 | i+1=>by simp[revG,zg ks i]
theorem zmc(ks:List UInt32)(h:ks.length=8):revG ks 4=ks.reverse:=by
 match ks,h with
 | [a,b,c,d,e,f,g,i],_=>rfl
theorem zjH(g c:Nat)(ks:List UInt32)(w:World)(hb:BW w g ks)(hl:ks.length=8):
  Calls Tryz.prog 131 #[.slice (some ⟨g,0,none⟩) 8 c] w fun e w'=>e=.returned (.tuple #[])/\BW w' g ks.reverse/\w.grownBy w' (some g):=by
 have HB:=hid hb;clear hb;go_enter Tryz.func131,Tryz.ntmps131;go_wp2_with fail
 go_loopw [2,3] (fun i j wr=>∃k:Nat,k<=4/\i=.int .i64 k/\j=.int .i64 (7-k:Nat)/\BW wr g (revG ks k)/\w.grownBy wr (some g)) (fun i _ _=>4-(intOf i).toNat)
 case atStart=>exact⟨0,by omega,rfl,rfl,HB.out,⟨rfl,rfl,rfl,Nat.le_refl _,fun _ _ _=>rfl⟩⟩
 case round =>
  obtain⟨k,hk,rfl,rfl,hb,hg⟩:=hrel;by_cases hlt:k<4
  ·have hlen:=zg ks k;rw[hl] at hlen;have hc1:=hb.cell k (by omega);have hc2:=hb.cell (7-k) (by omega);have hf1:=hb.frozen k;have hf2:=hb.frozen (7-k);obtain⟨x,hx⟩:∃x,(revG ks k).getD k 0=x:=⟨_,rfl⟩;obtain⟨y,hy⟩:∃y,(revG ks k).getD (7-k) 0=y:=⟨_,rfl⟩;have hst:revG ks (k+1)=((revG ks k).set k y).set (7-k) x:=by rw[revG,hx,hy]
   have hbn:=(hb.set_ k y).set_ (7-k) x;rw[<-hst] at hbn;rw[hx] at hc1;rw[hy] at hc2;have HBN:=hid hbn;have HG:=hid hg;obtain⟨m,hm⟩:∃m,7-k=m:=⟨_,rfl⟩;rw[hm] at hc2 hf2 HBN ⊢;have HM:=hid hm;have hkm:(k:Int)<(m:Int):=by omega
   have hne:¬k=m:=by omega
   have hne2:¬m=k:=by omega
   have hk8:k<8:=by omega
   have hm8:m<8:=by omega
   clear hb hg hx hy hst hbn hlen hm;go_wp2_with fail
   go_region;go_wp2_with fail
   go_roundw
   case rel=>exact⟨k+1,by omega,by go_num,by have:=HM.out;go_num,HBN.out,(ze8 (zbM (zbM HG.out (zaz _ _ _ _)) (zaz _ _ _ _)))⟩
   case measure=>simp[intOf];omega
  ·obtain rfl:k=4:=by omega
   rw[zmc ks hl] at hb;have HH:=hid (And.intro hb hg);clear hb hg;go_wp2_with fail
   exact bodyPost_end (results_none rfl _ _ _) rfl ⟨rfl,HH.out.1,HH.out.2⟩
theorem zlN(l:List UInt32)(h:l.length=8):(List.range 32).map (keyM fun i=>l.getD i 0)=l++l++l++l.reverse:=by
 match l,h with
 | [a,b,c,d,e,f,g,i],_=>rfl
def zus(g n:Nat)(w:World)(ks:List UInt32)(e:Ending)(w':World):Prop:=∃g2 c,e=.returned (.slice (some ⟨g2,0,none⟩) n c)/\n<=c/\OwnW w' w.heap.size (.slice (some ⟨g2,0,none⟩) n c) ks/\Below g w w'
theorem znh(g:Nat)(l:List UInt32)(w:World)(hb:BW w g l)(hl:l.length=8):
  Calls Tryz.prog 96 #[.slice (some ⟨g,0,none⟩) 8 8] w (zus g 32 w (l++l++l++l.reverse)):=by
 have hlt:=hb.lt;have HB:=hid hb;have HL:=hid hl;have hrd:=hb.rd;rw[hl] at hrd;obtain⟨i0,hi0,hz0,hz1,hz2⟩:=info_parts Tryz.info43;have hcl:(cN .u32 (nW l)).length=8:=by rw[zaH,zac,hl]
 have hcells:∀j u,(cN .u32 (nW l))[j]? = some u->w.cell? (Addr.add ⟨g,0,none⟩ j)=some u:=by
  intro j u hu;have hj:j<8:=by
   rcases Nat.lt_or_ge j 8 with hj|hj
   ·exact hj
   ·rw[List.getElem?_eq_none (by omega)] at hu;cases hu
  rw[zd2,hb.cell j (by omega)];rw[zd1 _ _ j (by rw[zac];omega),zfs l j (by omega)] at hu;exact hu
 have HI:=hid (And.intro hi0 (And.intro hz0 (And.intro hz1 hz2)));have HC:=hid hcells;have HCL:=hid hcl;have HRD:=hid hrd;clear hb hl hi0 hz0 hz1 hz2 hcells hcl hrd;have e8:(nW l++nW l).length=16:=by simp[zac,HL.out]
 have e16:(nW l++nW l++nW l).length=24:=by simp[zac,HL.out]
 go_enter Tryz.func96,Tryz.ntmps96;go_wp2_with (first
  | (at_builtin;refine wpList_append_grows _ rfl (.tmp 9) (.tmp 10) 116 rfl 133 i0 (.int .u32 0) 1 4 Tryz.underlying116 HI.out.1 HI.out.2.1 HI.out.2.2.1 HI.out.2.2.2 rfl (by omega) (some ⟨g,0,none⟩) 8 8 (cN .u32 (nW l)) rfl (fun h=>by cases h) HCL.out (fun b hb=>by cases hb;exact HC.out) ⟨g,0,none⟩ 8 8 (cN .u32 (nW l)) rfl HCL.out HC.out (zhr _ _) (by omega) (by unfold maxLen;omega) (by omega) ?_;intro v1 w1 hown1 hg1;have hown1:OwnN .u32 133 w1 w.heap.size v1 (nW l++nW l):=(by unfold OwnN;rw[e8,zcI];exact hown1);have hx1:=(show Ext w w1 from(Ext.refl w).grown hg1 (Nat.le_refl _) (by simp));have hr1:=RdN.later HRD.out hx1;have hz1:=Below.size hx1;have HX1:=hid hx1;clear hg1 hx1)
  | (at_builtin;refine zaw _ rfl (.tmp 12) (.tmp 13) 116 rfl Tryz.underlying116 4 Tryz.info43 w.heap.size _ (nW l++nW l) rfl hown1 _ _ 8 8 (nW l) rfl hr1 (by rw[e8];omega) (by rw[e8];unfold maxLen;omega) (by omega) ?_;intro v2 w2 hown2 hb2;have hx2:=(show Ext w w2 from Below.trans HX1.out hb2);have HX2:=hid hx2;have HO2:=hid hown2;clear hown1 hr1 hown2 hb2 hx2 HX1))
 refine(zjH g 8 l _ (HB.out.later HX2.out) HL.out).mono ?_;rintro e w3 ⟨rfl,hb3,hg3⟩;have hown3:=OwnN.grownNe HO2.out hg3 hlt;have hx3:Below g w w3:=below_grown (Below.mono HX2.out (Nat.le_of_lt hlt)) hg3 (Nat.le_refl _) (by have:=Below.size HX2.out;omega);have hr3:=hb3.rd;rw[show l.reverse.length=8 by rw[List.length_reverse,HL.out]] at hr3;have hz3:w.heap.size<=w3.heap.size:=Nat.le_trans (Below.size HX2.out) hg3.size;have HX3:=hid hx3;clear hx3 hb3 hg3 HX2 HO2;go_wp2_with (at_builtin;refine zaw _ rfl (.tmp 17) (.tmp 18) 116 rfl Tryz.underlying116 4 Tryz.info43 w.heap.size _ (nW l++nW l++nW l) rfl hown3 _ _ 8 8 (nW l.reverse) rfl hr3 (by rw[e16];omega) (by rw[e16];unfold maxLen;omega) hz3 ?_;intro v4 w4 hown4 hb4;rw[<-zaK,<-zaK,<-zaK] at hown4;have HX4:=hid (Below.trans HX3.out (Below.mono hb4 (Nat.le_of_lt hlt)));have HO4:=hid hown4;clear hown4 hb4 hown3 hr3)
 obtain⟨g9,c9,rfl,hc9,_,_⟩:=OwnN.head (n:=32) HO4.out (by simp[zac,HL.out]) (by omega);go_ret;exact⟨g9,c9,rfl,hc9,by unfold OwnW;simpa using HO4.out,HX4.out⟩
theorem zos(k:Nat)(_h:k<26):(3084996963+(k:Int)*2654435769%4294967296)%4294967296=((rc0 k).toNat:Int):=by
 unfold rc0 gold;rw[UInt32.toNat_add,UInt32.toNat_mul,UInt32.toNat_ofNat'];have h1:(0xB7E15163:UInt32).toNat=3084996963:=rfl;have h2:(0x9E3779B9:UInt32).toNat=2654435769:=rfl;rw[h1,h2];omega
def Rc5J(g:Nat)(l:List UInt32)(G:Nat)(w:World)(a:Act)(w1:World):Prop :=
 ∃(n:Nat) (z:R5) (u4 u8 u9 u10 u11 u12 u13 u14 u15 u16 u17 u18 u19 u20 u21 u22 u23 u24 u25 u26 u27 u28 u29 u30 u31 u32 u33 u34 u35 u36 u37 u38 u39 u40 u41 u42 u43 u44 u45 u46 u47 u48 u49 u50 u51 u52 u53 u54 u55 u56 u57 u58 u59 u60 u61 u62 u63 u64 u65 u66:Value),
  a = { tmps:=#[.slice (some ⟨g,0,none⟩) 4 4,undef,.slice none 0 0,.slice (some ⟨G,0,none⟩) 26 26,u4,.int .u32 (z.a.toNat:Nat),.int .u32 (z.b.toNat:Nat),.int .i64 n,u8,u9,u10,u11,u12,u13,u14,u15,u16,u17,u18,u19,u20,u21,u22,u23,u24,u25,u26,u27,u28,u29,u30,u31,u32,u33,u34,u35,u36,u37,u38,u39,u40,u41,u42,u43,u44,u45,u46,u47,u48,u49,u50,u51,u52,u53,u54,u55,u56,u57,u58,u59,u60,u61,u62,u63,u64,u65,u66],defers:=[] }/\n<78 /\
  z=rcAt (zcz l) n/\BW w1 G z.s/\BW w1 g z.l/\Below g w w1
theorem znw{w:World}{base g n:Nat}{ks:List UInt32}(h:BW w g ks)(hn:ks.length=n)(hb:base<=g)(hm:n<=maxLen):OwnW w base (.slice (some ⟨g,0,none⟩) n n) ks:=by
 subst hn;refine⟨by simp[zaH,zac],.inr ⟨g,ks.length,_,by rw[zac],hb,h,by rw[zac];exact Nat.le_refl _,hm,by simp[cN,zac],?_⟩⟩;rw[List.toList_toArray,List.take_of_length_le (by simp[zaH,zac])]
theorem zbZ(g:Nat)(l:List UInt32)(w:World)(hb:BW w g l)(hl:l.length=4):
  Calls Tryz.prog 97 #[.slice (some ⟨g,0,none⟩) 4 4] w (zus g 26 w (rcAt (zcz l) 78).s):=by
 have hlt:=hb.lt;have HB:=hid hb;have HL:=hid hl;clear hb hl;go_enter Tryz.func97,Tryz.ntmps97;go_wp2_with fail
 refine zat 0 (Rc5J g l w.heap.size w) (fun a _=>78-iAt 7 a) rfl ?_ ?_
 ·obtain⟨G,hGe⟩:∃G,w.heap.size=G:=⟨_,rfl⟩;have HGE:=hid hGe;rw[hGe];rw[hGe] at hlt;clear hGe HB;rintro a w1 ⟨n,z,u4,u8,u9,u10,u11,u12,u13,u14,u15,u16,u17,u18,u19,u20,u21,u22,u23,u24,u25,u26,u27,u28,u29,u30,u31,u32,u33,u34,u35,u36,u37,u38,u39,u40,u41,u42,u43,u44,u45,u46,u47,u48,u49,u50,u51,u52,u53,u54,u55,u56,u57,u58,u59,u60,u61,u62,u63,u64,u65,u66,rfl,hn,hz,hs,hll,hx⟩;obtain⟨hls,hlx⟩:=zfz l n;rw[HL.out] at hlx;rw[<-hz] at hls hlx;have hstep:rcAt (zcz l) (n+1)=zfh n z:=by rw[rcAt,<-hz]
  obtain⟨i,hi⟩:∃i,n%26=i:=⟨_,rfl⟩;obtain⟨j,hj⟩:∃j,n%4=j:=⟨_,rfl⟩;have hi26:i<26:=by omega
  have hj4:j<4:=by omega
  have ei:(n:Int)%26=(i:Int):=by omega
  have ej:(n:Int)%4=(j:Int):=by omega
  have ti:(n:Int).tmod 26=(i:Int):=by rw[Int.tmod_eq_emod_of_nonneg (by omega)];exact ei
  have tj:(n:Int).tmod 4=(j:Int):=by rw[Int.tmod_eq_emod_of_nonneg (by omega)];exact ej
  have hcs:=hs.cell i (by omega);have hcl:=hll.cell j (by omega);have hfs:=hs.frozen i;have hfl:=hll.frozen j;have hA:rcA z n=rolI (z.s.getD i 0+z.a+z.b) 3:=by unfold rcA;rw[hi]
  have hB:rcB z n (rcA z n)=rolI (z.l.getD j 0+rcA z n+z.b) ((rcA z n+z.b).toNat%32:Nat):=by unfold rcB;rw[hj]
  have hst2:zfh n z=⟨z.s.set i (rcA z n),z.l.set j (rcB z n (rcA z n)),rcA z n,rcB z n (rcA z n)⟩:=by unfold zfh;rw[hi,hj]
  rw[hst2] at hstep;obtain⟨X,hX⟩:∃X,rcA z n=X:=⟨_,rfl⟩;rw[hX] at hA hB hstep;obtain⟨Y,hY⟩:∃Y,rcB z n X=Y:=⟨_,rfl⟩;rw[hY] at hB hstep;obtain⟨si,hsi⟩:∃x,z.s.getD i 0=x:=⟨_,rfl⟩;obtain⟨lj,hlj⟩:∃x,z.l.getD j 0=x:=⟨_,rfl⟩;rw[hsi] at hA hcs;rw[hlj] at hB hcl;have e1:=zcd si z.a;have e2:=zcd (si+z.a) z.b;have e3:=zcd lj X;have e4:=zcd (lj+X) z.b;have e5:=zcd X z.b;obtain⟨p1,hp1⟩:∃x,si+z.a=x:=⟨_,rfl⟩;rw[hp1] at hA e1 e2;obtain⟨p2,hp2⟩:∃x,p1+z.b=x:=⟨_,rfl⟩;rw[hp2] at hA e2;obtain⟨p3,hp3⟩:∃x,lj+X=x:=⟨_,rfl⟩;rw[hp3] at hB e3 e4;obtain⟨p4,hp4⟩:∃x,p3+z.b=x:=⟨_,rfl⟩;rw[hp4] at hB e4;obtain⟨p5,hp5⟩:∃x,X+z.b=x:=⟨_,rfl⟩;rw[hp5] at hB e5;have hra:=fun w=>zeP p2 3 w
  rw[<-hA] at hra;have hrb:=fun w=>zeP p4 (p5.toNat%32:Nat) w
  rw[<-hB] at hrb;have hto:=fun w=>zc4 p5 w
  obtain⟨q5,hq5⟩:∃q,p5.toNat%32=q:=⟨_,rfl⟩;rw[hq5] at hrb hto;have HRA:=hid hra;have HRB:=hid hrb;have HTO:=hid hto;have hbs:=(hs.set_ i X).setne ⟨g,j,none⟩ (.int .u32 (Y.toNat:Nat)) (by simp;omega);have hbl:=(hll.setne ⟨G,i,none⟩ (.int .u32 (X.toNat:Nat)) (by simp;omega)).set_ j Y;have hbx:=(hx.setCell (p:=⟨G,i,none⟩) (by simp;omega) (.int .u32 (X.toNat:Nat))).setCell (p:=⟨g,j,none⟩) (by simp) (.int .u32 (Y.toNat:Nat));have HBS:=hid hbs;have HBL:=hid hbl;have HBX:=hid hbx;have HSTEP:=hid hstep;have HLS:=hid (show(z.s.set i X).length=26 by rw[List.length_set];exact hls);have b1:=wlt z.a;have b2:=wlt z.b;have b3:=wlt si;have b4:=wlt lj;have b5:=wlt p1;have b6:=wlt p3;have b7:=wlt X;have hgG:¬g=G:=by omega
  have hGg:¬G=g:=by omega
  have HN:=hid (And.intro hi hj);clear hz hs hll hx hls hlx hstep hi hj hA hB hst2 hX hY hsi hlj hp1 hp2 hp3 hp4 hp5 hra hrb hto hbs hbl hbx hq5;by_cases hlast:n+1<78
  ·have h78:(n:Int)+1<78:=by omega
   go_wp2_with fail
   go_quiet (fail)
   go_wp2_with (go_at_call 141;refine(HRA.out _).mono ?_;rintro e w' ⟨rfl,rfl⟩)
   obtain⟨W,hW⟩:∃W,w1.drewN nq=W:=⟨_,rfl⟩;rw[hW];have gcl:W.cell? ⟨g,j,none⟩=some (.int .u32 (lj.toNat:Nat)):=by rw[<-hW];exact hcl
   have gcs:W.cell? ⟨G,i,none⟩=some (.int .u32 (si.toNat:Nat)):=by rw[<-hW];exact hcs
   have gfl:W.frozen? ⟨g,j,none⟩=false:=by rw[<-hW];exact hfl
   have gfs:W.frozen? ⟨G,i,none⟩=false:=by rw[<-hW];exact hfs
   have HBS2:=hid (fun k=>show BW (((W.drewN k).setCell ⟨G,i,none⟩ (.int .u32 (X.toNat:Nat))).setCell ⟨g,j,none⟩ (.int .u32 (Y.toNat:Nat))) G (z.s.set i X) by rw[<-hW];exact HBS.out);have HBL2:=hid (fun k=>show BW (((W.drewN k).setCell ⟨G,i,none⟩ (.int .u32 (X.toNat:Nat))).setCell ⟨g,j,none⟩ (.int .u32 (Y.toNat:Nat))) g (z.l.set j Y) by rw[<-hW];exact HBL.out);have HBX2:=hid (fun k=>show Below g w (((W.drewN k).setCell ⟨G,i,none⟩ (.int .u32 (X.toNat:Nat))).setCell ⟨g,j,none⟩ (.int .u32 (Y.toNat:Nat))) by rw[<-hW];exact⟨HBX.out.os,HBX.out.tape,HBX.out.output,HBX.out.size,HBX.out.block⟩);clear hcl hcs hfl hfs hW HBS HBL HBX;go_quiet (first
    | (go_at_call 142;exact zaZ (HTO.out _))
    | (go_at_call 141;exact zaZ (HRB.out _)))
   go_wp2_with fail
   go_step3
   (try simp only[Exit.jump])
   refine⟨rfl,⟨n+1,⟨z.s.set i X,z.l.set j Y,X,Y⟩,ex8 (ex8 (ex8 (ex8 (ex8 (ex8 (ex8 ⟨_,_,_,_,rfl,hlast,HSTEP.out.symm,HBS2.out nq,HBL2.out nq,HBX2.out nq⟩))))))⟩,?_⟩;simp[iAt];omega
  ·have h78:¬(n:Int)+1<78:=by omega
   go_wp2_with fail
   go_quiet (fail)
   go_wp2_with (go_at_call 141;refine(HRA.out _).mono ?_;rintro e w' ⟨rfl,rfl⟩)
   obtain⟨W,hW⟩:∃W,w1.drewN nq=W:=⟨_,rfl⟩;rw[hW];have gcl:W.cell? ⟨g,j,none⟩=some (.int .u32 (lj.toNat:Nat)):=by rw[<-hW];exact hcl
   have gcs:W.cell? ⟨G,i,none⟩=some (.int .u32 (si.toNat:Nat)):=by rw[<-hW];exact hcs
   have gfl:W.frozen? ⟨g,j,none⟩=false:=by rw[<-hW];exact hfl
   have gfs:W.frozen? ⟨G,i,none⟩=false:=by rw[<-hW];exact hfs
   have HBS2:=hid (fun k=>show BW (((W.drewN k).setCell ⟨G,i,none⟩ (.int .u32 (X.toNat:Nat))).setCell ⟨g,j,none⟩ (.int .u32 (Y.toNat:Nat))) G (z.s.set i X) by rw[<-hW];exact HBS.out);have HBL2:=hid (fun k=>show BW (((W.drewN k).setCell ⟨G,i,none⟩ (.int .u32 (X.toNat:Nat))).setCell ⟨g,j,none⟩ (.int .u32 (Y.toNat:Nat))) g (z.l.set j Y) by rw[<-hW];exact HBL.out);have HBX2:=hid (fun k=>show Below g w (((W.drewN k).setCell ⟨G,i,none⟩ (.int .u32 (X.toNat:Nat))).setCell ⟨g,j,none⟩ (.int .u32 (Y.toNat:Nat))) by rw[<-hW];exact⟨HBX.out.os,HBX.out.tape,HBX.out.output,HBX.out.size,HBX.out.block⟩);clear hcl hcs hfl hfs hW HBS HBL HBX;go_quiet (first
    | (go_at_call 142;exact zaZ (HTO.out _))
    | (go_at_call 141;exact zaZ (HRB.out _)))
   go_wp2_with fail
   (try simp only[Exit.jump])
   go_ret;have h1:n+1=78:=by omega
   have h2:=HSTEP.out;rw[h1] at h2;have hbs9:=HBS2.out nq;rw[show z.s.set i X=(rcAt (zcz l) 78).s by rw[h2]] at hbs9;exact⟨G,26,rfl,Nat.le_refl _,znw hbs9 (by rw[h2];exact HLS.out) (by rw[HGE.out];exact Nat.le_refl _) (by unfold maxLen;omega),HBX2.out nq⟩
 ·intro hfirst;go_wp2_with (at_make;refine zc3 rfl (.const (.int .i64 26)) (.const (.int .i64 26)) 116 rfl Tryz.underlying116 4 Tryz.info43 .i64 26 26 rfl rfl rfl (by omega) (by unfold maxLen;omega) w.heap.size (Nat.le_refl _) ?_;intro w1 hown1 hb1)
  rw[<-zn4] at hown1;go_loopw [13] (fun i wr=>∃k:Nat,k<=26/\i=.int .i64 k/\BW wr w.heap.size (zek rc0 26 k)/\Ext w wr) (fun i _=>26-(intOf i).toNat)
  case atStart=>exact⟨0,Nat.zero_le _,rfl,by rw[zhl];exact zeA hown1,hb1⟩
  case round =>
   clear hown1 hb1;obtain⟨k,hk,rfl,hs,hx⟩:=hrel;by_cases hlt2:k<26
   ·have hlen:=zfq rc0 26 k;have hc:=hs.cell k (by omega);have hf:=hs.frozen k;have hv:=zos k hlt2;have hset:=hs.set_ k (rc0 k);rw[ziw] at hset;obtain⟨X,hX⟩:∃X,rc0 k=X:=⟨_,rfl⟩;rw[hX] at hv hset;have HS:=hid hset;have HX:=hid hx;have hk26:(k:Int)<26:=by omega
    clear hs hx hset hX hlen;go_wp2_with fail
    go_roundw
    case rel=>exact⟨k+1,by omega,by go_num,HS.out,Below.setCell HX.out (by simp) _⟩
    case measure=>simp[intOf];omega
   ·obtain rfl:k=26:=by omega
    have hs2:=hs;rw[zhm] at hs2;have HS:=hid hs2;have HBL:=hid (HB.out.later hx);have HX:=hid (Below.mono hx (Nat.le_of_lt hlt));clear hs hs2 hx;go_wp2_with fail
    go_step3;simp only[Exit.then];rename_i hK;refine hK _ _ ?_;exact hfirst.out _ _ ⟨0,zcz l,ex8 (ex8 (ex8 (ex8 (ex8 (ex8 (ex8 ⟨_,_,_,_,rfl,by omega,rfl,HS.out,HBL.out,HX.out⟩))))))⟩
theorem zsi(w:World):Calls Tryz.prog 93 #[.int .i64 4] w fun e w'=>e=.returned (.int .i64 16)/\w=w':=by
 go_enter Tryz.func93,Tryz.ntmps93;go_wp2;go_ret;exact⟨rfl,rfl⟩
theorem zq0(w:World):Calls Tryz.prog 93 #[.int .i64 5] w fun e w'=>e=.returned (.int .i64 32)/\w=w':=by
 go_enter Tryz.func93,Tryz.ntmps93;go_wp2;go_ret;exact⟨rfl,rfl⟩
theorem zqP(w:World):Calls Tryz.prog 93 #[.int .i64 8] w fun e w'=>e=.returned (.int .i64 16)/\w=w':=by
 go_enter Tryz.func93,Tryz.ntmps93;go_wp2;go_ret;exact⟨rfl,rfl⟩
theorem zk2(key:List UInt8):KS (fun i=>(words .x key 4).getD i 0) 64=keysOf .x key:=by
 unfold KS keysOf;refine List.map_congr_left fun j _=>?_
 unfold keyX;split
 ·show _+(words .x key 4).getD _ 0=_;rw[zeB _ _ _ _ (Nat.mod_lt _ (by omega))]
 ·show _+(words .x key 4).getD _ 0=_;rw[zeB _ _ _ _ (Nat.mod_lt _ (by omega))]
theorem zk8(key:List UInt8):words .m key 8++words .m key 8++words .m key 8++(words .m key 8).reverse=keysOf .m key:=by
 rw[<-zlN _ (zaC _ _ _)];unfold keysOf;refine List.map_congr_left fun j hj=>?_
 have hj:=List.mem_range.1 hj;unfold keyM;split
 ·show(words .m key 8).getD _ 0=_;rw[zeB _ _ _ _ (Nat.mod_lt _ (by omega))]
 ·show(words .m key 8).getD _ 0=_;rw[zeB _ _ _ _ (by omega)]
def zb0(w:World)(t:T3)(key:List UInt8)(e:Ending)(w':World):Prop:=∃p,e=.returned (.tuple #[.pointer (some ⟨p,0,none⟩),.int .i64 0])/\IsSmall w' p t (zdf t key) (keysOf t key)/\Ext w w'
theorem zh4{w:World}{p b o c:Nat}{t:T3}{ah:W2}{ks:List UInt32}(hp:w.heap[p]? = some (.cells #[.int .i64 t.code,.int .u32 (ah.a.toNat:Nat),.int .u32 (ah.b.toNat:Nat),.slice (some ⟨b,o,none⟩) ks.length c] 176 (0,0)))
  (hc:ks.length<=c) (hk:KW w b o ks):IsSmall w p t ah ks :=
 ⟨b,o,c,⟨by rw[cell_of_heap hp];rfl,by rw[cell_of_heap hp];rfl,by rw[cell_of_heap hp];rfl,by rw[cell_of_heap hp];rfl,hc,hk⟩⟩
theorem KW.setne{w:World}{b o:Nat}{ks:List UInt32}(h:KW w b o ks)(p:Addr)(v:Value)(hne:b≠p.block):KW (w.setCell p v) b o ks:=fun j hj=>by
 have:=h j hj;rw[<-this];exact World.cell?_of_block (heap_setCell_other w p b v hne)
theorem zuA(A:Option Addr)(c:Nat)(key:List UInt8)(w:World)(h:Rd w w.heap.size A 16 key)(hc:16<=c)(hcb:c<=9223372036854775807):
  Calls Tryz.prog 60 #[.int .i64 4,.slice A 16 c] w (zb0 w .x key):=by
 have hx0:=Ext.alloc w (.cells #[.int .i64 4,.int .u32 0,.int .u32 0,.slice none 0 0] 176);have hp0:=heap_alloc_new w (.cells #[.int .i64 4,.int .u32 0,.int .u32 0,.slice none 0 0] 176);have hcut:=zf3 .x A 4 c key (w.alloc (.cells #[.int .i64 4,.int .u32 0,.int .u32 0,.slice none 0 0] 176)) (h.later hx0) (by omega) hc hcb;rw[show T3.x.code=4 from rfl,show 4*4=16 from rfl] at hcut;have HCUT:=hid hcut;have HX0:=hid hx0;have HP0:=hid hp0;clear h hx0 hp0 hcut;go_enter Tryz.func60,Tryz.ntmps60;go_wp2_with (first
  | (go_at_call 93;refine(zsi _).mono ?_;rintro e w' ⟨rfl,rfl⟩)
  | (go_at_call 94;refine HCUT.out.mono ?_;rintro e w1 ⟨rfl,ho1,hb1⟩))
 have hz1:=Below.size hb1;have hsz:(w.alloc (.cells #[.int .i64 4,.int .u32 0,.int .u32 0,.slice none 0 0] 176)).heap.size=w.heap.size+1:=by simp
 rw[hsz] at ho1 hb1 hz1;obtain⟨p,hp⟩:∃p,w.heap.size=p:=⟨_,rfl⟩;have hbw:=zeA ho1;have hkw:=OwnW.kw ho1 (zaC .x key 4);rw[hp] at ho1 hb1 hz1 hbw hkw HP0 ⊢;have hp1:w1.heap[p]? = some (.cells #[.int .i64 4,.int .u32 0,.int .u32 0,.slice none 0 0] 176 (0,0)):=(hb1.block p (by omega)).trans HP0.out;have hx1:Below p w w1:=Below.trans (by rw[<-hp];exact HX0.out) (Below.mono hb1 (by omega));have HP:=hid hp;have HX1:=hid hx1;have HP1:=hid hp1;have HBW:=hid hbw;have HKW:=hid hkw;clear ho1 hb1 hp hbw hkw hp1 hx1 HX0 HP0 HCUT;have hg28:=zmi (p+1) 4 (words .x key 4) w1 HKW.out (zaC _ _ _);refine hg28.mono ?_;clear hg28;rintro e w2 ⟨g2,c2,rfl,hc,_,ho2,hx2⟩;have hb2:Below (p+1) w1 w2:=Below.mono hx2 hz1;have hp2:w2.heap[p]? = some (.cells #[.int .i64 4,.int .u32 0,.int .u32 0,.slice none 0 0] 176 (0,0)):=(hb2.block p (by omega)).trans HP1.out;have hf2:=frozen_of_row w2 p 3 _ 176 hp2
 have hc2:w2.cell? ⟨p,3,none⟩=some (.slice none 0 0):=by rw[cell_of_heap hp2];rfl
 have hp3:=heap_setCell_same w2 p 3 _ 176 (.slice (some ⟨g2,0,none⟩) 64 c2) hp2;have hgb:=OwnN.base_le ho2;have hk3:=(OwnW.kw ho2 (by rw[zk2,zbE];rfl)).setne ⟨p,3,none⟩ (.slice (some ⟨g2,0,none⟩) 64 c2) (by simp;omega);rw[zk2] at hk3;have hl:=zbE .x key;rw[show zmY .x=64 from rfl] at hl;have hx3:Below p w (w2.setCell ⟨p,3,none⟩ (.slice (some ⟨g2,0,none⟩) 64 c2)):=(Below.trans HX1.out (Below.mono hb2 (by omega))).setCell (by simp) _;have hsm:IsSmall (w2.setCell ⟨p,3,none⟩ (.slice (some ⟨g2,0,none⟩) 64 c2)) p .x (zdf .x key) (keysOf .x key):=by refine zh4 (b:=g2) (o:=0) (c:=c2) ?_ (by rw[hl];exact hc) hk3;rw[hl];exact hp3
 have HH:=hid (And.intro hsm hx3);clear hsm hx3 hk3 hp3 hp2 ho2 hb2 hgb hl;go_wp2_with fail
 go_ret2;have e9:=HP.out;subst e9;exact⟨_,rfl,HH.out.1,HH.out.2⟩
theorem zuV(A:Option Addr)(c:Nat)(key:List UInt8)(w:World)(h:Rd w w.heap.size A 32 key)(hc:32<=c)(hcb:c<=9223372036854775807):
  Calls Tryz.prog 60 #[.int .i64 5,.slice A 32 c] w (zb0 w .m key):=by
 have hx0:=Ext.alloc w (.cells #[.int .i64 5,.int .u32 0,.int .u32 0,.slice none 0 0] 176);have hp0:=heap_alloc_new w (.cells #[.int .i64 5,.int .u32 0,.int .u32 0,.slice none 0 0] 176);have hcut:=zf3 .m A 8 c key (w.alloc (.cells #[.int .i64 5,.int .u32 0,.int .u32 0,.slice none 0 0] 176)) (h.later hx0) (by omega) hc hcb;rw[show T3.m.code=5 from rfl,show 4*8=32 from rfl] at hcut;have HCUT:=hid hcut;have HX0:=hid hx0;have HP0:=hid hp0;clear h hx0 hp0 hcut;go_enter Tryz.func60,Tryz.ntmps60;go_wp2_with (first
  | (go_at_call 93;refine(zq0 _).mono ?_;rintro e w' ⟨rfl,rfl⟩)
  | (go_at_call 94;refine HCUT.out.mono ?_;rintro e w1 ⟨rfl,ho1,hb1⟩))
 have hz1:=Below.size hb1;have hsz:(w.alloc (.cells #[.int .i64 5,.int .u32 0,.int .u32 0,.slice none 0 0] 176)).heap.size=w.heap.size+1:=by simp
 rw[hsz] at ho1 hb1 hz1;obtain⟨p,hp⟩:∃p,w.heap.size=p:=⟨_,rfl⟩;have hbw:=zeA ho1;have hkw:=OwnW.kw ho1 (zaC .m key 8);rw[hp] at ho1 hb1 hz1 hbw hkw HP0 ⊢;have hp1:w1.heap[p]? = some (.cells #[.int .i64 5,.int .u32 0,.int .u32 0,.slice none 0 0] 176 (0,0)):=(hb1.block p (by omega)).trans HP0.out;have hx1:Below p w w1:=Below.trans (by rw[<-hp];exact HX0.out) (Below.mono hb1 (by omega));have HP:=hid hp;have HX1:=hid hx1;have HP1:=hid hp1;have HBW:=hid hbw;have HKW:=hid hkw;clear ho1 hb1 hp hbw hkw hp1 hx1 HX0 HP0 HCUT;have hg28:=znh (p+1) (words .m key 8) w1 HBW.out (zaC _ _ _);refine hg28.mono ?_;clear hg28;rintro e w2 ⟨g2,c2,rfl,hc,ho2,hb2⟩;have hp2:w2.heap[p]? = some (.cells #[.int .i64 5,.int .u32 0,.int .u32 0,.slice none 0 0] 176 (0,0)):=(hb2.block p (by omega)).trans HP1.out;have hf2:=frozen_of_row w2 p 3 _ 176 hp2
 have hc2:w2.cell? ⟨p,3,none⟩=some (.slice none 0 0):=by rw[cell_of_heap hp2];rfl
 have hp3:=heap_setCell_same w2 p 3 _ 176 (.slice (some ⟨g2,0,none⟩) 32 c2) hp2;have hgb:=OwnN.base_le ho2;have hk3:=(OwnW.kw ho2 (by rw[zk8,zbE];rfl)).setne ⟨p,3,none⟩ (.slice (some ⟨g2,0,none⟩) 32 c2) (by simp;omega);rw[zk8] at hk3;have hl:=zbE .m key;rw[show zmY .m=32 from rfl] at hl;have hx3:Below p w (w2.setCell ⟨p,3,none⟩ (.slice (some ⟨g2,0,none⟩) 32 c2)):=(Below.trans HX1.out (Below.mono hb2 (by omega))).setCell (by simp) _;have hsm:IsSmall (w2.setCell ⟨p,3,none⟩ (.slice (some ⟨g2,0,none⟩) 32 c2)) p .m (zdf .m key) (keysOf .m key):=by refine zh4 (b:=g2) (o:=0) (c:=c2) ?_ (by rw[hl];exact hc) hk3;rw[hl];exact hp3
 have HH:=hid (And.intro hsm hx3);clear hsm hx3 hk3 hp3 hp2 ho2 hb2 hgb hl;go_wp2_with fail
 go_ret2;have e9:=HP.out;subst e9;exact⟨_,rfl,HH.out.1,HH.out.2⟩
theorem zvq(A:Option Addr)(c:Nat)(key:List UInt8)(w:World)(h:Rd w w.heap.size A 16 key)(hc:16<=c)(hcb:c<=9223372036854775807):
  Calls Tryz.prog 60 #[.int .i64 8,.slice A 16 c] w (zb0 w .r key):=by
 have hx0:=Ext.alloc w (.cells #[.int .i64 8,.int .u32 0,.int .u32 0,.slice none 0 0] 176);have hp0:=heap_alloc_new w (.cells #[.int .i64 8,.int .u32 0,.int .u32 0,.slice none 0 0] 176);have hcut:=zf3 .r A 4 c key (w.alloc (.cells #[.int .i64 8,.int .u32 0,.int .u32 0,.slice none 0 0] 176)) (h.later hx0) (by omega) hc hcb;rw[show T3.r.code=8 from rfl,show 4*4=16 from rfl] at hcut;have HCUT:=hid hcut;have HX0:=hid hx0;have HP0:=hid hp0;clear h hx0 hp0 hcut;go_enter Tryz.func60,Tryz.ntmps60;go_wp2_with (first
  | (go_at_call 93;refine(zqP _).mono ?_;rintro e w' ⟨rfl,rfl⟩)
  | (go_at_call 94;refine HCUT.out.mono ?_;rintro e w1 ⟨rfl,ho1,hb1⟩))
 have hz1:=Below.size hb1;have hsz:(w.alloc (.cells #[.int .i64 8,.int .u32 0,.int .u32 0,.slice none 0 0] 176)).heap.size=w.heap.size+1:=by simp
 rw[hsz] at ho1 hb1 hz1;obtain⟨p,hp⟩:∃p,w.heap.size=p:=⟨_,rfl⟩;have hbw:=zeA ho1;have hkw:=OwnW.kw ho1 (zaC .r key 4);rw[hp] at ho1 hb1 hz1 hbw hkw HP0 ⊢;have hp1:w1.heap[p]? = some (.cells #[.int .i64 8,.int .u32 0,.int .u32 0,.slice none 0 0] 176 (0,0)):=(hb1.block p (by omega)).trans HP0.out;have hx1:Below p w w1:=Below.trans (by rw[<-hp];exact HX0.out) (Below.mono hb1 (by omega));have HP:=hid hp;have HX1:=hid hx1;have HP1:=hid hp1;have HBW:=hid hbw;have HKW:=hid hkw;clear ho1 hb1 hp hbw hkw hp1 hx1 HX0 HP0 HCUT;have hg28:=zbZ (p+1) (words .r key 4) w1 HBW.out (zaC _ _ _);refine hg28.mono ?_;clear hg28;rintro e w2 ⟨g2,c2,rfl,hc,ho2,hb2⟩;rw[show(rcAt (zcz (words .r key 4)) 78).s=rc5S key from rfl] at ho2;have hp2:w2.heap[p]? = some (.cells #[.int .i64 8,.int .u32 0,.int .u32 0,.slice none 0 0] 176 (0,0)):=(hb2.block p (by omega)).trans HP1.out
 have hf1:=frozen_of_row w2 p 1 _ 176 hp2;have hf2:=frozen_of_row w2 p 2 _ 176 hp2;have hf3:=frozen_of_row w2 p 3 _ 176 hp2;have hc1:w2.cell? ⟨p,1,none⟩=some (.int .u32 0):=by rw[cell_of_heap hp2];rfl
 have hc2:w2.cell? ⟨p,2,none⟩=some (.int .u32 0):=by rw[cell_of_heap hp2];rfl
 have hc3:w2.cell? ⟨p,3,none⟩=some (.slice none 0 0):=by rw[cell_of_heap hp2];rfl
 have hkw2:=OwnW.kw ho2 (zcb key);have hs0:=hkw2 0 (by rw[zcb];omega);have hs1:=hkw2 1 (by rw[zcb];omega);rw[Nat.add_zero] at hs0;rw[Nat.zero_add] at hs1;have hgb:=OwnN.base_le ho2;have HP2:=hid hp2;have HKW2:=hid hkw2;have HB2:=hid hb2;have hne:¬p=g2:=by omega
 have hne2:¬g2=p:=by omega
 obtain⟨s0,hs0e⟩:∃s,(rc5S key).getD 0 0=s:=⟨_,rfl⟩;obtain⟨s1,hs1e⟩:∃s,(rc5S key).getD 1 0=s:=⟨_,rfl⟩;rw[hs0e] at hs0;rw[hs1e] at hs1;have HE0:=hid hs0e;have HE1:=hid hs1e;clear ho2 hp2 hkw2 hb2 hs0e hs1e;go_wp2_with fail
 have hat:=fun w=>run_arrayAt (P:=Tryz.prog) w 174 133 2 (some ⟨g2,0,none⟩) 26 c2 Tryz.underlying174 (by omega)
 have hat2:(if c2=2 then some (⟨g2,0,none⟩:Addr) else some ⟨g2,2,none⟩)=some ⟨g2,2,none⟩:=if_neg (by omega);go_region;have hp3:=heap_setCell_same w2 p 1 _ 176 (.int .u32 (s0.toNat:Nat)) HP2.out;have hp4:=heap_setCell_same _ p 2 _ 176 (.int .u32 (s1.toNat:Nat)) hp3;have hp5:=heap_setCell_same _ p 3 _ 176 (.slice (some ⟨g2,2,none⟩) 24 (c2-2)) hp4;have hk5:=((HKW2.out.setne ⟨p,1,none⟩ (.int .u32 (s0.toNat:Nat)) hne2).setne ⟨p,2,none⟩ (.int .u32 (s1.toNat:Nat)) hne2).setne ⟨p,3,none⟩ (.slice (some ⟨g2,2,none⟩) 24 (c2-2)) hne2;have hx5:Below p w (((w2.setCell ⟨p,1,none⟩ (.int .u32 (s0.toNat:Nat))).setCell ⟨p,2,none⟩ (.int .u32 (s1.toNat:Nat))).setCell ⟨p,3,none⟩ (.slice (some ⟨g2,2,none⟩) 24 (c2-2))).drew :=
  ((((Below.trans HX1.out (Below.mono HB2.out (by omega))).setCell (by simp) _).setCell (by simp) _).setCell (by simp) _).drew
 have hl:=zbE .r key;rw[show zmY .r=24 from rfl] at hl;have hah:zdf .r key=⟨s0,s1⟩:=by rw[<-HE0.out,<-HE1.out];rfl
 have hsm:IsSmall (((w2.setCell ⟨p,1,none⟩ (.int .u32 (s0.toNat:Nat))).setCell ⟨p,2,none⟩ (.int .u32 (s1.toNat:Nat))).setCell ⟨p,3,none⟩ (.slice (some ⟨g2,2,none⟩) 24 (c2-2))).drew p .r (zdf .r key) (keysOf .r key):=by
  rw[hah];refine zh4 (b:=g2) (o:=2) (c:=c2-2) ?_ (by rw[hl];omega) ?_
  ·rw[hl];exact hp5
  ·intro j hj;rw[hl] at hj;have h9:=hk5 (2+j) (by rw[zcb];omega);rw[Nat.zero_add] at h9;rw[show(keysOf .r key).getD j 0=(rc5S key).getD (2+j) 0 by simp[keysOf]];exact h9
 have HH:=hid (And.intro hsm hx5);clear hsm hx5 hk5 hp5 hp4 hp3 hl hah;go_wp2_with fail
 go_ret2;have e9:=HP.out;subst e9;exact⟨_,rfl,HH.out.1,HH.out.2⟩
def T3.at:Nat->T3
 | 0=>.x
 | 1=>.m
 | _=>.r
theorem zb8(t:T3)(A:Option Addr)(c:Nat)(key:List UInt8)(w:World)(h:Rd w w.heap.size A t.size key)(hc:t.size<=c)(hcb:c<=9223372036854775807):
  Calls Tryz.prog 60 #[.int .i64 t.code,.slice A t.size c] w (zb0 w t key):=by
 cases t
 ·exact zuA A c key w h hc hcb
 ·exact zuV A c key w h hc hcb
 ·exact zvq A c key w h hc hcb
theorem zcK[Inhabited RT](t:T3)(key:List UInt8)(back:Bool)(p:Nat)(A:Option Addr)(cc:Nat)(bs:List UInt8)(w:World)(hs:IsSmall w p t (zdf t key) (keysOf t key))(hG:GRows w)
  (h:Rd w w.heap.size A 8 bs) (hc8:8<=cc) (hcb:cc<=9223372036854775807):
  Calls Tryz.prog 236 #[.pointer (some ⟨p,0,none⟩),.slice A 8 cc,.bool back] w (zc1 w (zaF t key back bs)):=by
 obtain⟨b,o,c,hs⟩:=hs;have hn:(keysOf t key).length<=1000:=by rw[zbE];cases t<;>decide
 cases back
 ·exact zeV p b o c t _ _ A cc bs w hs hn hG h hc8 hcb
 ·exact ze3 p b o c t _ _ A cc bs w hs hn hG h hc8 hcb
theorem _root_.Go.Proofs.YtokbbmngfogbbaaGreatDoor.Own.at_{w:World}{base n:Nat}{v:Value}{bs:List UInt8}(h:Own w base v bs)(hn:bs.length=n)(h0:0<n):∃g c,v=.slice (some ⟨g,0,none⟩) n c/\base<=g/\g<w.heap.size/\n<=c/\c<=9223372036854775807/\Own w base (.slice (some ⟨g,0,none⟩) n c) bs/\Rd w w.heap.size (some ⟨g,0,none⟩) n bs:=by
 obtain⟨A,c,rfl,h1,h2,h3⟩:=h.rdm hn;rcases h.2 with⟨h4,h5⟩|⟨g,cap,cur,h4,_⟩
 ·simp only[Value.slice.injEq] at h4;omega
 ·simp only[Value.slice.injEq] at h4;obtain⟨rfl,_,rfl⟩:=h4;have hb:=Own.base_le (show Own w base (.slice (some ⟨g,0,none⟩) n c) bs from h);exact⟨g,c,rfl,hb.1,hb.2,h1,h2,h,h3⟩
theorem zlZ{w:World}{B n g o m:Nat}{bs:List UInt8}(h:Rd w B (some ⟨g,o,none⟩) n bs)(hm:4*m+4<=n):Rd w B (some ⟨g,o+4*m,none⟩) 4 (part bs m):=by
 have hl:=h.len;refine⟨by simp[part];omega,fun _=>?_⟩;obtain⟨b,o',e,hb,hc⟩:=h.at_ (by omega);obtain rfl:=(Addr.mk.inj (Option.some.inj e)).1;obtain rfl:=(Addr.mk.inj (Option.some.inj e)).2.1;refine⟨g,o+4*m,rfl,hb,fun k hk=>?_⟩;have:=hc (4*m+k) (by omega);have e2:zah (part bs m) k=zah bs (4*m+k):=by unfold zah part;simp[List.getD,hk]
 rw[e2,<-this];congr 2;omega
theorem ztQ(t:T3)(ht:t ≠ .r)(A:Option Addr)(c B:Nat)(bs:List UInt8)(w:World)(h:Rd w B A 4 bs):
  Calls Tryz.prog 107 #[.slice A 4 c] w fun e w'=>e=.returned (.int .u64 ((wd t bs).toNat:Nat))/\w=w':=by
 rw[zop bs t ht];exact zrA A 4 c B bs w h (by omega)
theorem zmK(A:Option Addr)(c B:Nat)(bs:List UInt8)(w:World)(h:Rd w B A 4 bs):
  Calls Tryz.prog 73 #[.slice A 4 c] w fun e w'=>e=.returned (.int .u64 ((wd .r bs).toNat:Nat))/\w=w':=by
 rw[zoO bs];exact zeI A 4 c B bs w h (by omega)
theorem zqB(x:UInt32):IntKind.u32.wrap (x.toNat:Int)=(x.toNat:Int):=by
 have:=wlt x;rw[IntKind.wrap_u32'];omega
theorem zgO(t:T3)(bs:List UInt8)(j:Nat):words t bs j++[kw t bs j]=words t bs (j+1):=by simp[words,List.range_succ]
theorem zkk(t:T3)(ht:t ≠ .r)(A:Option Addr)(m c:Nat)(bs:List UInt8)(w:World)(h:Rd w w.heap.size A (4*m) bs)(h0:0<m)(hm:m<=1000)(hc:4*m<=c)(hcb:c<=9223372036854775807):
  Calls Tryz.prog 67 #[.slice A (4*m:Nat) c] w (WRet m w (words t bs m)):=by
 obtain⟨b0,o0,rfl,hb0,_⟩:=h.at_ (by omega);have HR:=hid h;clear h;go_enter Tryz.func67,Tryz.ntmps67;go_wp2_with fail
 go_loopw [3,4] (fun o i wr=>∃(j:Nat) (Av:Option Addr) (cv:Nat),j<=m/\i=.int .i64 (4*j:Nat)/\o=.slice Av j cv/\OwnW wr w.heap.size (.slice Av j cv) (words t bs j)/\Ext w wr) (fun _ i _=>4*m-(intOf i).toNat)
 case atStart=>exact⟨0,none,0,by omega,rfl,rfl,World.ownsRow_nil _ _ _ _,Ext.refl _⟩
 case round =>
  obtain⟨j,Av,cv,hj,rfl,rfl,hown,hx⟩:=hrel;by_cases hlt:j<m
  ·have hlen:=zaC t bs j;have hlen1:=zaC t bs (j+1);have HS:=hid (zgO t bs j);have hrp:=zlZ (m:=j) (HR.out.later hx) (by omega);have hk:kw t bs j=wd t (part bs j):=rfl;obtain⟨X,hX⟩:∃X,kw t bs j=X:=⟨_,rfl⟩;have hbg:=fun c=>ztQ t ht (some ⟨b0,o0+4*j,none⟩) c wr.heap.size (part bs j) wr hrp
   rw[<-hk,hX] at hbg;rw[hX] at HS;have hwr:=zqB X;have hal:=Ext.alloc wr (.cells #[.int .u32 (X.toNat:Nat)] 133);have hown1:=OwnN.kept hown hal;have hrd1:=zd4 wr X;have HX:=hid hx;have HBG:=hid hbg;have hz:=Below.size hx;have hq:((4*j:Nat):Int)<((4*m:Nat):Int):=by omega
   have hq2:((4*j:Nat):Int)+4<=((4*m:Nat):Int):=by omega
   obtain⟨p,hp⟩:∃p,4*j=p:=⟨_,rfl⟩;obtain⟨q,hqm⟩:∃q,4*m=q:=⟨_,rfl⟩;rw[hp] at HBG;rw[hp,hqm];rw[hp,hqm] at hq hq2;rw[hqm] at hc;have hq1000:q<=4000:=by omega
   have HP:=hid (And.intro hp hqm);clear hbg hk hX hx hown hrp hp hqm;go_wp2_with fail
   have e4:p+4-p=4:=by omega
   refine(HBG.out _).mono ?_;rintro e w' ⟨rfl,rfl⟩;go_wp2_with (at_builtin;refine zaw _ rfl (.tmp 11) (.tmp 19) 116 rfl Tryz.underlying116 4 Tryz.info43 w.heap.size _ (nW (words t bs j)) rfl hown1 _ _ 1 1 (nW [X]) rfl hrd1 (by rw[zac,hlen];omega) (by rw[zac,hlen];unfold maxLen;omega) (by simp;omega) ?_;intro v2 w2 hown2 hb2;rw[<-zaK,HS.out] at hown2;obtain⟨A2,c2,rfl,hcc2,_,hown2⟩:=OwnN.rdc (n:=j+1) hown2 (by rw[zac,hlen1]);have HX2:=hid (show Ext w w2 from(Below.trans HX.out (Below.mono hal hz)).trans hb2);have HO2:=hid hown2;clear hb2 hown2 hown1 hrd1 hal)
   go_roundw
   case rel=>exact⟨j+1,A2,c2,by omega,by have:=HP.out.1;go_num,rfl,HO2.out,HX2.out⟩
   case measure=>have:=HP.out.1;have:=HP.out.2;simp[intOf];omega
  ·obtain rfl:j=m:=by omega
   have HX:=hid hx;have HO:=hid hown;clear hx hown;go_wp2_with fail
   go_ret;obtain⟨g9,c9,e9,hc9,_,_⟩:=OwnN.head HO.out (by rw[zac,zaC]) h0;simp only[Value.slice.injEq] at e9;obtain⟨rfl,_,rfl⟩:=e9;exact⟨g9,cv,rfl,hc9,OwnW.room HO.out,HO.out,HX.out⟩
theorem zjC(A:Option Addr)(m c:Nat)(bs:List UInt8)(w:World)(h:Rd w w.heap.size A (4*m) bs)(h0:0<m)(hm:m<=1000)(hc:4*m<=c)(hcb:c<=9223372036854775807):
  Calls Tryz.prog 80 #[.slice A (4*m:Nat) c] w (WRet m w (words .r bs m)):=by
 obtain⟨b0,o0,rfl,hb0,_⟩:=h.at_ (by omega);have HR:=hid h;clear h;go_enter Tryz.func80,Tryz.ntmps80;go_wp2_with fail
 go_loopw [3,4] (fun o i wr=>∃(j:Nat) (Av:Option Addr) (cv:Nat),j<=m/\i=.int .i64 (4*j:Nat)/\o=.slice Av j cv/\OwnW wr w.heap.size (.slice Av j cv) (words .r bs j)/\Ext w wr) (fun _ i _=>4*m-(intOf i).toNat)
 case atStart=>exact⟨0,none,0,by omega,rfl,rfl,World.ownsRow_nil _ _ _ _,Ext.refl _⟩
 case round =>
  obtain⟨j,Av,cv,hj,rfl,rfl,hown,hx⟩:=hrel;by_cases hlt:j<m
  ·have hlen:=zaC .r bs j;have hlen1:=zaC .r bs (j+1);have HS:=hid (zgO .r bs j);have hrp:=zlZ (m:=j) (HR.out.later hx) (by omega);have hk:kw .r bs j=wd .r (part bs j):=rfl;obtain⟨X,hX⟩:∃X,kw .r bs j=X:=⟨_,rfl⟩;have hbg:=fun c=>zmK (some ⟨b0,o0+4*j,none⟩) c wr.heap.size (part bs j) wr hrp
   rw[<-hk,hX] at hbg;rw[hX] at HS;have hwr:=zqB X;have hal:=Ext.alloc wr (.cells #[.int .u32 (X.toNat:Nat)] 133);have hown1:=OwnN.kept hown hal;have hrd1:=zd4 wr X;have HX:=hid hx;have HBG:=hid hbg;have hz:=Below.size hx;have hq:((4*j:Nat):Int)<((4*m:Nat):Int):=by omega
   have hq2:((4*j:Nat):Int)+4<=((4*m:Nat):Int):=by omega
   obtain⟨p,hp⟩:∃p,4*j=p:=⟨_,rfl⟩;obtain⟨q,hqm⟩:∃q,4*m=q:=⟨_,rfl⟩;rw[hp] at HBG;rw[hp,hqm];rw[hp,hqm] at hq hq2;rw[hqm] at hc;have hq1000:q<=4000:=by omega
   have HP:=hid (And.intro hp hqm);clear hbg hk hX hx hown hrp hp hqm;go_wp2_with fail
   have e4:p+4-p=4:=by omega
   refine(HBG.out _).mono ?_;rintro e w' ⟨rfl,rfl⟩;go_wp2_with (at_builtin;refine zaw _ rfl (.tmp 11) (.tmp 19) 116 rfl Tryz.underlying116 4 Tryz.info43 w.heap.size _ (nW (words .r bs j)) rfl hown1 _ _ 1 1 (nW [X]) rfl hrd1 (by rw[zac,hlen];omega) (by rw[zac,hlen];unfold maxLen;omega) (by simp;omega) ?_;intro v2 w2 hown2 hb2;rw[<-zaK,HS.out] at hown2;obtain⟨A2,c2,rfl,hcc2,_,hown2⟩:=OwnN.rdc (n:=j+1) hown2 (by rw[zac,hlen1]);have HX2:=hid (show Ext w w2 from(Below.trans HX.out (Below.mono hal hz)).trans hb2);have HO2:=hid hown2;clear hb2 hown2 hown1 hrd1 hal)
   go_roundw
   case rel=>exact⟨j+1,A2,c2,by omega,by have:=HP.out.1;go_num,rfl,HO2.out,HX2.out⟩
   case measure=>have:=HP.out.1;have:=HP.out.2;simp[intOf];omega
  ·obtain rfl:j=m:=by omega
   have HX:=hid hx;have HO:=hid hown;clear hx hown;go_wp2_with fail
   go_ret;obtain⟨g9,c9,e9,hc9,_,_⟩:=OwnN.head HO.out (by rw[zac,zaC]) h0;simp only[Value.slice.injEq] at e9;obtain⟨rfl,_,rfl⟩:=e9;exact⟨g9,cv,rfl,hc9,OwnW.room HO.out,HO.out,HX.out⟩
def RC(j:Nat):List UInt32:=(List.range j).map rc0
theorem zgd(j:Nat):(RC j).length=j:=by simp[RC]
theorem zqL(j:Nat):RC j++[rc0 j]=RC (j+1):=by simp[RC,List.range_succ]
theorem OwnW.setother{w:World}{base g n c:Nat}{ks:List UInt32}(h:OwnW w base (.slice (some ⟨g,0,none⟩) n c) ks)(G k:Nat)(x:Value)(hne:g≠G):OwnW (w.setCell ⟨G,k,none⟩ x) base (.slice (some ⟨g,0,none⟩) n c) ks :=
 ownsRow_setCell_other h (by simp[Value.ownBlock];exact hne) x
theorem zib(A:Option Addr)(c:Nat)(key:List UInt8)(w:World)(h:Rd w w.heap.size A 16 key)(hc:16<=c)(hcb:c<=9223372036854775807):
  Calls Tryz.prog 66 #[.slice A 16 c] w (WRet 26 w (rc5S key)):=by
 have hl:=zjC A 4 c key w h (by omega) (by omega) hc hcb;rw[show 4*4=16 from rfl] at hl;have HL:=hid hl;clear hl h;go_enter Tryz.func66,Tryz.ntmps66;go_wp2_with fail
 refine HL.out.mono ?_;rintro e w1 ⟨g3,c3,rfl,hc3,hm3,ho3,hx1⟩;have hb3:=OwnN.base_le ho3;have HX1:=hid hx1;have HO3:=hid ho3;have hz1:=Below.size hx1;clear hx1 ho3 HL;go_wp2_with fail
 go_loopw [4,5] (fun s i wr=>∃(j:Nat) (Av:Option Addr) (cv:Nat),j<=26/\i=.int .i64 j/\s=.slice Av j cv/\OwnW wr w1.heap.size (.slice Av j cv) (RC j)/\Ext w1 wr) (fun _ i _=>26-(intOf i).toNat)
 case atStart=>exact⟨0,none,0,by omega,rfl,rfl,World.ownsRow_nil _ _ _ _,Ext.refl _⟩
 case round =>
  obtain⟨j,Av,cv,hj,rfl,rfl,hown,hx⟩:=hrel;by_cases hlt:j<26
  ·have hlen:=zgd j;have hlen1:=zgd (j+1);have HS:=hid (zqL j);have hv:=zos j hlt;obtain⟨X,hX⟩:∃X,rc0 j=X:=⟨_,rfl⟩;rw[hX] at HS hv;have hal:=Ext.alloc wr (.cells #[.int .u32 (X.toNat:Nat)] 133);have hown1:=OwnN.kept hown hal;have hrd1:=zd4 wr X;have HX:=hid hx;have hz:=Below.size hx;have hk26:(j:Int)<26:=by omega
   clear hX hx hown;go_wp2_with (at_builtin;refine zaw _ rfl (.tmp 15) (.tmp 20) 116 rfl Tryz.underlying116 4 Tryz.info43 w1.heap.size _ (nW (RC j)) rfl hown1 _ _ 1 1 (nW [X]) rfl hrd1 (by rw[zac,hlen];omega) (by rw[zac,hlen];unfold maxLen;omega) (by simp;omega) ?_;intro v2 w2 hown2 hb2;rw[<-zaK,HS.out] at hown2;obtain⟨A2,c2,rfl,hcc2,_,hown2⟩:=OwnN.rdc (n:=j+1) hown2 (by rw[zac,hlen1]);have HX2:=hid (show Ext w1 w2 from(Below.trans HX.out (Below.mono hal hz)).trans hb2);have HO2:=hid hown2;clear hb2 hown2 hown1 hrd1 hal)
   go_roundw
   case rel=>exact⟨j+1,A2,c2,by omega,by go_num,rfl,HO2.out,HX2.out⟩
   case measure=>simp[intOf];omega
  ·obtain rfl:j=26:=by omega
   obtain⟨g4,c4,e4,hc4,hb4,hl4⟩:=OwnN.head hown (by rw[zac,zgd]) (by omega);simp only[Value.slice.injEq] at e4;obtain⟨rfl,_,rfl⟩:=e4;have HO4:=hid hown;have HO3:=hid (OwnN.kept HO3.out hx);have HX2:=hid (Ext.trans HX1.out hx);have hz2:=Below.size hx;clear hx hown HX1;go_wp2_with fail
   simp only[Int.cast_ofNat_Int];go_loopw [6,7,8] (fun a b n wr=>∃(j:Nat) (z:R5),j<=78/\n=.int .i64 j/\z=rcAt (zcz (words .r key 4)) j/\a=.int .u32 (z.a.toNat:Nat)/\b=.int .u32 (z.b.toNat:Nat)/\OwnW wr w1.heap.size (.slice (some ⟨g4,0,none⟩) 26 cv) z.s/\OwnW wr w.heap.size (.slice (some ⟨g3,0,none⟩) 4 c3) z.l/\Ext w wr) (fun _ _ n _=>78-(intOf n).toNat)
   case atStart=>exact⟨0,_,by omega,rfl,rfl,rfl,rfl,HO4.out,HO3.out,HX2.out⟩
   case round =>
    clear HO4 HO3 HX2;obtain⟨n,z,hn,rfl,hz,rfl,rfl,hs,hll,hx⟩:=hrel;obtain⟨hls,hlx⟩:=zfz (words .r key 4) n;rw[zaC] at hlx;by_cases hlt2:n<78
    ·have hstep:rcAt (zcz (words .r key 4)) (n+1)=zfh n z:=by rw[rcAt,<-hz]
     rw[<-hz] at hls hlx;obtain⟨i,hi⟩:∃i,n%26=i:=⟨_,rfl⟩;obtain⟨j,hj⟩:∃j,n%4=j:=⟨_,rfl⟩;have hi26:i<26:=by omega
     have hj4:j<4:=by omega
     have ei:(n:Int)%26=(i:Int):=by omega
     have ej:(n:Int)%4=(j:Int):=by omega
     have ti:(n:Int).tmod 26=(i:Int):=by rw[Int.tmod_eq_emod_of_nonneg (by omega)];exact ei
     have tj:(n:Int).tmod 4=(j:Int):=by rw[Int.tmod_eq_emod_of_nonneg (by omega)];exact ej
     have hcs:=OwnW.kw hs hls i (by omega);have hcl:=OwnW.kw hll hlx j (by omega);rw[Nat.zero_add] at hcs hcl;have hfs:=OwnN.free hs i;have hfl:=OwnN.free hll j;have hA:rcA z n=rolI (z.s.getD i 0+z.a+z.b) 3:=by unfold rcA;rw[hi]
     have hB:rcB z n (rcA z n)=rolI (z.l.getD j 0+rcA z n+z.b) ((rcA z n+z.b).toNat%32:Nat):=by unfold rcB;rw[hj]
     have hst2:zfh n z=⟨z.s.set i (rcA z n),z.l.set j (rcB z n (rcA z n)),rcA z n,rcB z n (rcA z n)⟩:=by unfold zfh;rw[hi,hj]
     rw[hst2] at hstep;obtain⟨X,hX⟩:∃X,rcA z n=X:=⟨_,rfl⟩;rw[hX] at hA hB hstep;obtain⟨Y,hY⟩:∃Y,rcB z n X=Y:=⟨_,rfl⟩;rw[hY] at hB hstep;obtain⟨si,hsi⟩:∃x,z.s.getD i 0=x:=⟨_,rfl⟩;obtain⟨lj,hlj⟩:∃x,z.l.getD j 0=x:=⟨_,rfl⟩;rw[hsi] at hA hcs;rw[hlj] at hB hcl;have e1:=zcd si z.a;have e2:=zcd (si+z.a) z.b;have e3:=zcd lj X;have e4:=zcd (lj+X) z.b;have e5:=zcd X z.b;obtain⟨p1,hp1⟩:∃x,si+z.a=x:=⟨_,rfl⟩;rw[hp1] at hA e1 e2;obtain⟨p2,hp2⟩:∃x,p1+z.b=x:=⟨_,rfl⟩;rw[hp2] at hA e2;obtain⟨p3,hp3⟩:∃x,lj+X=x:=⟨_,rfl⟩;rw[hp3] at hB e3 e4;obtain⟨p4,hp4⟩:∃x,p3+z.b=x:=⟨_,rfl⟩;rw[hp4] at hB e4;obtain⟨p5,hp5⟩:∃x,X+z.b=x:=⟨_,rfl⟩;rw[hp5] at hB e5;have hra:=fun w=>ziN p2 3 w
     rw[<-hA] at hra;have hrb:=fun w=>ziN p4 (p5.toNat%32:Nat) w
     rw[<-hB] at hrb;obtain⟨q5,hq5⟩:∃q,p5.toNat%32=q:=⟨_,rfl⟩;have hq5i:(p5.toNat:Int)%32=(q5:Int):=by omega
     have hq5l:q5<32:=by omega
     rw[hq5] at hrb;have HRA:=hid hra;have HRB:=hid hrb;have hgG:¬g3=g4:=by omega
     have hGg:¬g4=g3:=by omega
     have HBS:=hid ((OwnW.set_ hs hls i X).setother g3 j (.int .u32 (Y.toNat:Nat)) (by omega));have HBL:=hid (OwnW.set_ (OwnW.setother hll g4 i (.int .u32 (X.toNat:Nat)) (by omega)) hlx j Y);have HBX:=hid (show Ext w ((wr.setCell ⟨g4,i,none⟩ (.int .u32 (X.toNat:Nat))).setCell ⟨g3,j,none⟩ (.int .u32 (Y.toNat:Nat))) from(Below.setCell (Below.setCell (show Below w.heap.size w wr from hx) (by simp;omega) _) (by simp;omega) _));have HSTEP:=hid hstep;have b1:=wlt z.a;have b2:=wlt z.b;have b3:=wlt si;have b4:=wlt lj;have b5:=wlt p1;have b6:=wlt p3;have b7:=wlt X;clear hz hs hll hx hls hlx hstep hi hj hA hB hst2 hX hY hsi hlj hp1 hp2 hp3 hp4 hp5 hra hrb hq5;go_wp2_with fail
     refine(HRA.out _).mono ?_;rintro e w' ⟨rfl,rfl⟩;go_wp2_with fail
     refine(HRB.out _).mono ?_;rintro e w' ⟨rfl,rfl⟩;go_wp2_with fail
     go_roundw
     case rel=>exact⟨n+1,⟨z.s.set i X,z.l.set j Y,X,Y⟩,by omega,by go_num,HSTEP.out.symm,rfl,rfl,HBS.out,HBL.out,HBX.out⟩
     case measure=>simp[intOf];omega
    ·obtain rfl:n=78:=by omega
     have HO:=hid (show OwnW wr w.heap.size (.slice (some ⟨g4,0,none⟩) 26 cv) (rc5S key) by rw[hz] at hs;exact OwnN.base_mono hs hz1);have HX:=hid hx;clear hs hll hx hz;go_wp2_with fail
     go_ret;exact⟨g4,cv,rfl,hc4,OwnW.room HO.out,HO.out,HX.out⟩
structure RefS (w:World) (p g n c:Nat) (t:T3) (ks:List UInt32):Prop where
 tag:w.cell? ⟨p,0,none⟩=some (.int .i64 t.code)
 keys:w.cell? ⟨p,1,none⟩=some (.slice (some ⟨g,0,none⟩) n c)
 room:n<=c
 len:ks.length=n
 at_:KW w g 0 ks
theorem RefS.later{w w':World}{p g n c:Nat}{t:T3}{ks:List UInt32}(h:RefS w p g n c t ks)(hx:Ext w w'):RefS w' p g n c t ks :=
 ⟨zan hx h.tag,zan hx h.keys,h.room,h.len,h.at_.later hx⟩
theorem RefS.cell{w:World}{p g n c:Nat}{t:T3}{ks:List UInt32}(h:RefS w p g n c t ks)(j:Nat)(hj:j<n):w.cell? ⟨g,j,none⟩=some (.int .u32 ((ks.getD j 0).toNat:Nat)):=by
 have:=h.at_ j (by rw[h.len];exact hj);rwa[Nat.zero_add] at this
def zoW:T3->List UInt8->List UInt32
 | .x,key=>words .x key 4
 | .m,key=>words .m key 8
 | .r,key=>rc5S key
def refN:T3->Nat
 | .x=>4
 | .m=>8
 | .r=>26
def IsRef(w:World)(p:Nat)(t:T3)(key:List UInt8):Prop:=∃g c,RefS w p g (refN t) c t (zoW t key)
theorem IsRef.later{w w':World}{p:Nat}{t:T3}{key:List UInt8}(h:IsRef w p t key)(hx:Ext w w'):IsRef w' p t key:=by
 obtain⟨g,c,h⟩:=h;exact⟨g,c,h.later hx⟩
def RNew(w:World)(t:T3)(key:List UInt8)(e:Ending)(w':World):Prop:=∃p,e=.returned (.tuple #[.pointer (some ⟨p,0,none⟩),.int .i64 0])/\IsRef w' p t key/\Ext w w'
theorem zj5{w:World}{g n c:Nat}{t:T3}{ks:List UInt32}(ho:OwnW w g (.slice (some ⟨g,0,none⟩) n c) ks)(hl:ks.length=n)(hc:n<=c):
  RefS (w.alloc (.cells #[.int .i64 t.code,.slice (some ⟨g,0,none⟩) n c] 128)) w.heap.size g n c t ks :=
 have hp:=heap_alloc_new w (.cells #[.int .i64 t.code,.slice (some ⟨g,0,none⟩) n c] 128)
 ⟨by rw[cell_of_heap hp];rfl,by rw[cell_of_heap hp];rfl,hc,hl,(OwnW.kw ho hl).later (Ext.alloc _ _)⟩
theorem OwnW.self{w:World}{base g n c:Nat}{ks:List UInt32}(h:OwnW w base (.slice (some ⟨g,0,none⟩) n c) ks):OwnW w g (.slice (some ⟨g,0,none⟩) n c) ks:=by
 refine⟨h.1,?_⟩;rcases h.2 with hn|⟨g',cap,cur,h1,hbg,r⟩
 ·exact .inl hn
 ·simp only[Value.slice.injEq,Option.some.injEq,Addr.mk.injEq,and_true] at h1;obtain⟨rfl,h2,h3⟩:=h1;exact .inr ⟨g,cap,cur,by rw[h2,h3],Nat.le_refl _,r⟩
theorem zsD(A:Option Addr)(c:Nat)(key:List UInt8)(w:World)(h:Rd w w.heap.size A 16 key)(hc:16<=c)(hcb:c<=9223372036854775807):
  Calls Tryz.prog 42 #[.int .i64 4,.slice A 16 c] w (RNew w .x key):=by
 have hb:=zkk .x (by decide) A 4 c key w h (by omega) (by omega) hc hcb;rw[show 4*4=16 from rfl] at hb;have HB:=hid hb;clear h hb;go_enter Tryz.func42,Tryz.ntmps42;go_wp2_with fail
 refine HB.out.mono ?_;rintro e w1 ⟨g,c1,rfl,hc1,hm1,ho,hx⟩;have hr:=zj5 (t:=.x) (OwnW.self ho) (zaC _ _ _) hc1;have hx2:=Ext.trans hx (Ext.alloc w1 (.cells #[.int .i64 T3.x.code,.slice (some ⟨g,0,none⟩) 4 c1] 128));have HR:=hid hr;have HX:=hid hx2;clear hr hx2 ho hx;go_wp2_with fail
 go_ret2;exact⟨_,rfl,⟨g,c1,HR.out⟩,HX.out⟩
theorem ztf(A:Option Addr)(c:Nat)(key:List UInt8)(w:World)(h:Rd w w.heap.size A 32 key)(hc:32<=c)(hcb:c<=9223372036854775807):
  Calls Tryz.prog 42 #[.int .i64 5,.slice A 32 c] w (RNew w .m key):=by
 have hb:=zkk .m (by decide) A 8 c key w h (by omega) (by omega) hc hcb;rw[show 4*8=32 from rfl] at hb;have HB:=hid hb;clear h hb;go_enter Tryz.func42,Tryz.ntmps42;go_wp2_with fail
 refine HB.out.mono ?_;rintro e w1 ⟨g,c1,rfl,hc1,hm1,ho,hx⟩;have hr:=zj5 (t:=.m) (OwnW.self ho) (zaC _ _ _) hc1;have hx2:=Ext.trans hx (Ext.alloc w1 (.cells #[.int .i64 T3.m.code,.slice (some ⟨g,0,none⟩) 8 c1] 128));have HR:=hid hr;have HX:=hid hx2;clear hr hx2 ho hx;go_wp2_with fail
 go_ret2;exact⟨_,rfl,⟨g,c1,HR.out⟩,HX.out⟩
theorem zt(A:Option Addr)(c:Nat)(key:List UInt8)(w:World)(h:Rd w w.heap.size A 16 key)(hc:16<=c)(hcb:c<=9223372036854775807):
  Calls Tryz.prog 42 #[.int .i64 8,.slice A 16 c] w (RNew w .r key):=by
 have hb:=zib A c key w h hc hcb;have HB:=hid hb;clear h hb;go_enter Tryz.func42,Tryz.ntmps42;go_wp2_with fail
 refine HB.out.mono ?_;rintro e w1 ⟨g,c1,rfl,hc1,hm1,ho,hx⟩;have hr:=zj5 (t:=.r) (OwnW.self ho) (zcb _) hc1;have hx2:=Ext.trans hx (Ext.alloc w1 (.cells #[.int .i64 T3.r.code,.slice (some ⟨g,0,none⟩) 26 c1] 128));have HR:=hid hr;have HX:=hid hx2;clear hr hx2 ho hx;go_wp2_with fail
 go_ret2;exact⟨_,rfl,⟨g,c1,HR.out⟩,HX.out⟩
theorem zbt(t:T3)(A:Option Addr)(c:Nat)(key:List UInt8)(w:World)(h:Rd w w.heap.size A t.size key)(hc:t.size<=c)(hcb:c<=9223372036854775807):
  Calls Tryz.prog 42 #[.int .i64 t.code,.slice A t.size c] w (RNew w t key):=by
 cases t
 ·exact zsD A c key w h hc hcb
 ·exact ztf A c key w h hc hcb
 ·exact zt A c key w h hc hcb
end Go.Proofs.YtokbbmngfogbbaaGreatDoor.S
