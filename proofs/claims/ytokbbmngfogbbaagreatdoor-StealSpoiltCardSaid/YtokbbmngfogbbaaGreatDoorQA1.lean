/- Own lemmas of the verifier on memory, numbers and the functions that the laws call; no statement is proved here. -/
import Derived.Test.YtokbbmngfogbbaaGreatDoorQH
import Derived.Test.YtokbbmngfogbbaaGreatDoorProg
import Derived.Deep.QuietTactic
import Derived.BigQuiet
import Derived.Laws.BitsAllLaws
import Derived.WalkMore
import Derived.ScopeJumps
import Derived.Deep.WholeRow
import Derived.ChangeKeysEq
import Derived.StillTailTactics
import Derived.Deep.RegionWith
import Derived.Deep.MidRow
import Derived.Laws.Cover3
import Derived.Lib.AppendZeros
namespace Go.Proofs.YtokbbmngfogbbaaGreatDoor.A
open Go.RowKit
set_option maxRecDepth 100000
set_option maxHeartbeats 8000000
theorem zod{l m:List UInt8}{n:Nat}(hl:l.length=n)(hm:m.length=n)(h:∀i,i<n->nb l i=nb m i):l=m:=by
 apply List.ext_getElem (by omega);intro i h1 h2;have:=h i (by omega);unfold nb at this;rw[za1 _ _ _ h1,za1 _ _ _ h2] at this;exact UInt8.toNat_inj.1 this
structure IsT (n:Nat) (bs:List UInt8):Prop where
 len:bs.length=n
 lt:∀i,i<n->nb bs i<n
 inj:∀i j,i<n->j<n->nb bs i=nb bs j->i=j
theorem IsT.onto{n:Nat}{bs:List UInt8}(h:IsT n bs):∀y,y<n->∃x,x<n/\nb bs x=y:=zlb n (nb bs) h.lt h.inj
theorem IsT.small{n:Nat}{bs:List UInt8}(h:IsT n bs):n<=256:=by
 rcases Nat.lt_or_ge 256 n with h1|h1
 ·obtain⟨x,_,he⟩:=h.onto 256 h1;have:=zcW bs x;omega
 ·exact h1
theorem zpE{n:Nat}{bs:List UInt8}(hl:bs.length=n)(h:∀y,y<n->∃x,x<n/\nb bs x=y):IsT n bs:=by
 have hg:∃g:Nat->Nat,∀y,y<n->g y<n/\nb bs (g y)=y:=by refine⟨fun y=>if hy:y<n then(h y hy).choose else 0,fun y hy=>?_⟩;simp only[dif_pos hy];exact(h y hy).choose_spec
 obtain⟨g,hg⟩:=hg;have hs:=zlb n g (fun y hy=>(hg y hy).1) (fun i j hi hj he=>by rw[<-(hg i hi).2,<-(hg j hj).2,he]);refine⟨hl,fun i hi=>?_,fun i j hi hj he=>?_⟩
 ·obtain⟨y,hy,rfl⟩:=hs i hi;rw[(hg y hy).2];exact hy
 ·obtain⟨y,hy,rfl⟩:=hs i hi;obtain⟨z,hz,rfl⟩:=hs j hj;rw[(hg y hy).2,(hg z hz).2] at he;rw[he]
open Classical in
noncomputable def isB (bs:List UInt8):Bool:=decide (IsT bs.length bs)
theorem zfx{bs:List UInt8}:isB bs=true↔IsT bs.length bs:=by simp[isB]
theorem zfV{n:Nat}{bs:List UInt8}(h:IsT n bs):isB bs=true:=zfx.2 (by rw[h.len];exact h)
theorem zfM{bs:List UInt8}(h:¬IsT bs.length bs):isB bs=false:=by simp[isB,h]
def setG(f:Nat->Nat):Nat->List Bool
 | 0=>List.replicate 256 false
 | k+1=>(setG f k).set (f k) true
theorem zaL(f:Nat->Nat):∀k,(setG f k).length=256
 | 0=>by rw[setG,List.length_replicate]
 | k+1=>by rw[setG,List.length_set,zaL f k]
theorem zh7(f:Nat->Nat):∀k j,j<256->((setG f k).getD j false=true↔∃x,x<k/\f x=j)
 | 0,j,hj=>by
   rw[setG,List.getD,List.getElem?_replicate,if_pos hj];constructor
   ·intro h;cases h
   ·rintro⟨x,hx,_⟩;omega
 | k+1,j,hj=>by
   rw[setG];have hl:=zaL f k;have ih:=zh7 f k j hj;simp only[List.getD,List.getElem?_set] at ih ⊢;split
   ·rename_i h;subst h;rw[if_pos (by rw[hl];exact hj)];exact⟨fun _=>⟨k,by omega,rfl⟩,fun _=>rfl⟩
   ·rename_i h;rw[ih];constructor
    ·rintro⟨x,hx,he⟩;exact⟨x,by omega,he⟩
    ·rintro⟨x,hx,he⟩;refine⟨x,?_,he⟩;rcases Nat.lt_or_ge x k with h1|h1
     ·exact h1
     ·rw[show x=k by omega] at he;exact absurd he h
theorem zru{bs:List UInt8}{n:Nat}(hl:bs.length=n)(hn:n<=256):(setG (nb bs) n==setG (fun i=>i) n)=isB bs:=by
 have h1:=zh7 (nb bs) n;have h2:=zh7 (fun i=>i) n;have key:setG (nb bs) n=setG (fun i=>i) n↔IsT bs.length bs:=by
  constructor
  ·intro he;rw[hl];refine zpE hl fun y hy=>?_
   have:=(h2 y (by omega)).2 ⟨y,hy,rfl⟩;rw[<-he] at this;exact(h1 y (by omega)).1 this
  ·intro hT;rw[hl] at hT;apply List.ext_getElem (by rw[zaL,zaL]);intro j hj1 hj2;have hj:j<256:=by rw[zaL] at hj1;exact hj1
   have e1:=h1 j hj;have e2:=h2 j hj;rw[za1 _ _ _ hj1] at e1;rw[za1 _ _ _ hj2] at e2;rw[Bool.eq_iff_iff,e1,e2];constructor
   ·rintro⟨x,hx,rfl⟩;exact⟨_,hT.lt x hx,rfl⟩
   ·rintro⟨x,hx,rfl⟩;exact hT.onto x hx
 rw[Bool.eq_iff_iff,zfx,beq_iff_eq,key]
def zc8(bs:List UInt8)(n:Nat):Nat->List UInt8
 | 0=>List.replicate n 0
 | k+1=>(zc8 bs n k).set (nb bs k) (UInt8.ofNat k)
theorem zcT(bs:List UInt8)(n:Nat):∀k,(zc8 bs n k).length=n
 | 0=>by simp[zc8]
 | k+1=>by rw[zc8,List.length_set,zcT bs n k]
def zro(bs:List UInt8):List UInt8:=zc8 bs bs.length bs.length
def tabF(f:Nat->Nat)(n:Nat):List UInt8:=(List.range n).map fun i=>UInt8.ofNat (f i)
theorem Tryz.info5:(Tryz.prog.info? 5).map (fun i=>(i.zero,i.size,i.bytes))=some (some (.int .u8 0),1,1):=by kernel_rfl
theorem zef(a n:Int)(hn:0<n) : - n<a.tmod n:=by
 have h:=@Int.tmod_eq_emod a n;have h1:=Int.emod_nonneg a (Int.ne_of_gt hn);have h2:=Int.emod_lt_of_pos a hn;split at h<;>omega
theorem zbm(a n:Int)(hn:0<n):(a.tmod n+n)%n=a%n:=by
 have h:=@Int.tmod_eq_emod a n;rw[Int.add_emod_right];split at h
 ·rw[h];simp
 ·rw[h,Int.sub_emod];
  have:(n.natAbs:Int)%n=0:=by rw[Int.natAbs_of_nonneg (by omega)];simp
  rw[this];simp
theorem zcH(a n:Int)(w:World)(h0:0<n)(h1:n<=4611686018427387903):
  Calls Tryz.prog 116 #[.int .i64 a,.int .i64 n] w fun e w'=>e=.returned (.int .i64 (a%n))/\w=w':=by
 have b1:=Int.tmod_lt_of_pos a h0;have b2:=zef a n h0;have hf:=zbm a n h0;have HF:=hid hf;clear hf;go_enter Tryz.func116,Tryz.ntmps116;go_wp2;go_ret;exact⟨zak HF.out,rfl⟩
theorem zcw(A:Option Addr)(n c:Nat)(t:Int)(bs:List UInt8)(w:World)(h:Rd w w.heap.size A n bs)(hn:n<=140737488355328)(h0:0<n):
  Calls Tryz.prog 24 #[.slice A n c,.int .i64 t] w (RetB w (zbe bs n (tf t n) (ts t))):=by
 have hz:((n:Int)==0)=false:=by simp;omega
 have ht:=ztT t;obtain⟨f,hf⟩:∃f:Nat,t/8%n=f:=⟨(t/8%n).toNat,by have:=Int.emod_nonneg (t/8) (show(n:Int)≠0 by omega);omega⟩;obtain⟨s,hs⟩:∃s:Nat,t%8=s:=⟨(t%8).toNat,by omega⟩;have hs7:s<=7:=by omega
 have hfn:f<n:=by have:=Int.emod_lt_of_pos (t/8) (show(0:Int)<n by omega);omega
 have HT:=hid (show tf t n=f/\ts t=s by unfold tf ts;omega);rw[hs] at ht;have HF:=hid hf;clear hs hf;go_enter Tryz.func24,Tryz.ntmps24;go_wp2_with (first
  | (go_at_call 46;refine(zkT _ _ _ (by omega) (by omega)).mono ?_;rintro e w' ⟨rfl,rfl⟩;rw[HF.out])
  | (at_make;refine zaP rfl (.tmp 21) (.tmp 21) 22 rfl Tryz.underlying22 Tryz.info5 .i64 n n rfl rfl rfl (by omega) w.heap.size (Nat.le_refl _) ?_;intro w1 hown1 hb1 _))
 go_loopw [5,25] (fun x i wr=>∃k fr:Nat,k<=n/\fr<n/\i=.int .i64 k/\x=.int .i64 fr/\fr=(f+k)%n/\Own wr w.heap.size (.slice (some ⟨w.heap.size,0,none⟩) n n) (zao (zd0 bs n f s) n k)/\Below w.heap.size w wr) (fun _ i _=>n-(intOf i).toNat)
 case atStart=>exact⟨0,f,Nat.zero_le _,hfn,rfl,rfl,by rw[Nat.add_zero,Nat.mod_eq_of_lt hfn],by rw[zaG];exact hown1,hb1⟩
 case round =>
  obtain⟨k,fr,hk,hfr,rfl,rfl,hfk,hown,hb⟩:=hrel;have HK:=hid hfk;clear hfk;by_cases hlt:k<n
  ·obtain⟨b1,o1,rfl,hb1',hc1⟩:=(h.below hb (Nat.le_refl _)).at_ (by omega);have hck1:=hc1 fr hfr;obtain⟨nx,hnx⟩:∃nx,nx=if fr+1=n then 0 else fr+1:=⟨_,rfl⟩
   have hnk:nx=(f+k+1)%n:=by rw[zk5 _ _ h0,<-HK.out];exact hnx
   have hnl:nx<n:=by rw[hnk];exact Nat.mod_lt _ h0
   have hck2:=hc1 nx hnl;have r1:=zae bs fr;have r2:=zaf bs fr;have r3:=zae bs nx;have r4:=zaf bs nx;obtain⟨cur,hcur⟩:∃cur,zao (zd0 bs n f s) n k=cur:=⟨_,rfl⟩;have hcl:cur.length=n:=by rw[<-hcur];exact zad _ _ _
   rw[hcur] at hown;have hown0:Own wr w.heap.size (.slice (some ⟨w.heap.size,0,none⟩) cur.length n) cur:=by rw[hcl];exact hown
   have hcell:=hown0.cell k (by omega);have hfree:=hown0.free k;have hset:=hown0.set_ k (zd0 bs n f s k);rw[<-hcur,zaO _ _ _ _ rfl,zad] at hset;rw[zdF,<-HK.out,<-hnk] at hset;have HH:=hid hset;have HB:=hid hb;have HN:=hid hnk;clear hset hown0 hown hb hcl hcur hown1 hb1 h hc1 hnk;by_cases hw:fr+1=n
   ·rw[if_pos hw] at hnx;have g1:n<=fr+1:=by omega
    have g2:((fr:Int)+1==(n:Int))=true:=by simp;omega
    subst hnx;rw[Nat.add_zero] at hck2;clear hw;go_wp2;go_region;go_wp2;go_roundw
    case rel=>exact⟨k+1,0,by omega,by omega,by go_num,rfl,HN.out,HH.out,(HB.out.setCell (by simp) _).drew⟩
    case measure=>simp[intOf];omega
   ·rw[if_neg hw] at hnx;have g2:((fr:Int)+1==(n:Int))=false:=by simp;omega
    have g3:fr+1<n:=by omega
    subst hnx;clear hw;go_wp2;go_region;go_wp2;go_roundw
    case rel=>exact⟨k+1,fr+1,by omega,by omega,by go_num,by go_num,HN.out,HH.out,(HB.out.setCell (by simp) _).drew⟩
    case measure=>simp[intOf];omega
  ·obtain rfl:k=n:=by omega
   have HH:=hid (And.intro hown hb);clear hown hb hown1 hb1;go_wp2;go_ret;exact⟨_,rfl,by have:=HH.out.1;rw[zaE] at this;rw[HT.out.1,HT.out.2];exact this,HH.out.2⟩
theorem zpH(A:Option Addr)(c:Nat)(t:Int)(w:World):
  Calls Tryz.prog 24 #[.slice A 0 c,.int .i64 t] w fun e w'=>e=.returned (.slice none 0 0)/\w=w':=by
 go_enter Tryz.func24,Tryz.ntmps24;go_wp2;go_ret;exact⟨rfl,rfl⟩
theorem zon(A:Option Addr)(c:Nat)(t:Int)(w:World):
  Calls Tryz.prog 101 #[.slice A 0 c,.int .i64 t] w (RetB w []):=by
 go_enter Tryz.func101,Tryz.ntmps101;go_wp2_with (at_make;refine zaP rfl (.tmp 11) (.tmp 11) 22 rfl Tryz.underlying22 Tryz.info5 .i64 0 0 rfl rfl rfl (by omega) w.heap.size (Nat.le_refl _) ?_;intro w1 hown1 hb1 _)
 go_ret;exact⟨_,rfl,hown1,hb1⟩
theorem zdl{w:World}{base:Nat}{v u:Value}{p:Addr}{bs:List UInt8}(h:Own (w.setCell p u) base v bs)(n:Nat):Own ((w.drewN n).setCell p u) base v bs:=h
theorem below_drewN'{B:Nat}{a w:World}(h:Below B a w)(n:Nat):Below B a (w.drewN n):=⟨h.os,h.tape,h.output,h.size,h.block⟩
theorem zer(A:Option Addr)(n c:Nat)(t:Int)(bs:List UInt8)(w:World)(h:Rd w w.heap.size A n bs)(hn:n<=140737488355328)(h0:0<n):
  Calls Tryz.prog 101 #[.slice A n c,.int .i64 t] w (RetB w (zbe bs n (tf t n) (ts t))):=by
 have hz:((n:Int)==0)=false:=by simp;omega
 obtain⟨f,hf⟩:∃f:Nat,t/8%n=f:=⟨(t/8%n).toNat,by have:=Int.emod_nonneg (t/8) (show(n:Int)≠0 by omega);omega⟩;obtain⟨s,hs⟩:∃s:Nat,t%8=s:=⟨(t%8).toNat,by omega⟩;have hs7:s<=7:=by omega
 have hfn:f<n:=by have:=Int.emod_lt_of_pos (t/8) (show(0:Int)<n by omega);omega
 have HT:=hid (show tf t n=f/\ts t=s by unfold tf ts;omega);have hK:t%(8*(n:Int))=((8*f+s:Nat):Int):=by rw[zqt t n h0,hf,hs];omega
 have HF:=hid hK;obtain⟨K,hKK⟩:∃K,K=8*f+s:=⟨_,rfl⟩;rw[<-hKK] at HF;have HD:=hid (show(K:Int)/8=f/\(K:Int)%8=s by omega);have hKb:K<8*n:=by omega
 clear hs hf hK hKK;go_enter Tryz.func101,Tryz.ntmps101;go_wp2_with (first
  | (go_at_call 116;refine(zcH _ _ _ (by omega) (by omega)).mono ?_;rintro e w' ⟨rfl,rfl⟩;rw[HF.out])
  | (at_make;refine zaP rfl (.tmp 11) (.tmp 11) 22 rfl Tryz.underlying22 Tryz.info5 .i64 n n rfl rfl rfl (by omega) w.heap.size (Nat.le_refl _) ?_;intro w1 hown1 hb1 _))
 go_loopw [7] (fun i wr=>∃k:Nat,k<=n/\i=.int .i64 k/\Own wr w.heap.size (.slice (some ⟨w.heap.size,0,none⟩) n n) (zao (zd0 bs n f s) n k)/\Below w.heap.size w wr) (fun i _=>n-(intOf i).toNat)
 case atStart=>exact⟨0,Nat.zero_le _,rfl,by rw[zaG];exact hown1,hb1⟩
 case round =>
  obtain⟨k,hk,rfl,hown,hb⟩:=hrel;by_cases hlt:k<n
  ·obtain⟨b1,o1,rfl,hb1',hc1⟩:=(h.below hb (Nat.le_refl _)).at_ (by omega);have hl1:(f+k)%n<n:=Nat.mod_lt _ h0;have hl2:(f+k+1)%n<n:=Nat.mod_lt _ h0;have hck1:=hc1 _ hl1;have hck2:=hc1 _ hl2;have r1:=zae bs ((f+k)%n);have r2:=zaf bs ((f+k)%n);have r3:=zae bs ((f+k+1)%n);have r4:=zaf bs ((f+k+1)%n);obtain⟨cur,hcur⟩:∃cur,zao (zd0 bs n f s) n k=cur:=⟨_,rfl⟩;have hcl:cur.length=n:=by rw[<-hcur];exact zad _ _ _
   rw[hcur] at hown;have hown0:Own wr w.heap.size (.slice (some ⟨w.heap.size,0,none⟩) cur.length n) cur:=by rw[hcl];exact hown
   have hcell:=hown0.cell k (by omega);have hfree:=hown0.free k;have hset:=hown0.set_ k (zd0 bs n f s k);rw[<-hcur,zaO _ _ _ _ rfl,zad] at hset;rw[zdF,Nat.add_comm f k] at hset;have HH:=hid hset;have HB:=hid hb;clear hset hown0 hown hb hcl hcur hown1 hb1 h hc1;have hD1:=HD.out.1;have hD2:=HD.out.2;rw[Nat.add_comm f k] at hck1 hck2;have q1:(0:Int)<=((k:Int)+f)%n:=Int.emod_nonneg _ (by omega);have q2:((k:Int)+f)%n<n:=Int.emod_lt_of_pos _ (by omega);have q3:(0:Int)<=((k:Int)+f+1)%n:=Int.emod_nonneg _ (by omega);have q4:((k:Int)+f+1)%n<n:=Int.emod_lt_of_pos _ (by omega);go_wp2;go_quiet (fail)
   go_wp2;go_roundw
   case rel=>exact⟨k+1,by omega,by go_num,zdl HH.out nq,(below_drewN' HB.out nq).setCell (by simp) _⟩
   case measure=>simp[intOf];omega
  ·obtain rfl:k=n:=by omega
   have HH:=hid (And.intro hown hb);clear hown hb hown1 hb1;go_wp2;go_ret;exact⟨_,rfl,by have:=HH.out.1;rw[zaE] at this;rw[HT.out.1,HT.out.2];exact this,HH.out.2⟩
theorem zpJ(A:Option Addr)(n c:Nat)(t:Int)(bs:List UInt8)(w:World)(h:Rd w w.heap.size A n bs)(hn:n<=140737488355328):
  Calls Tryz.prog 24 #[.slice A n c,.int .i64 t] w (RetB w (zbe bs n (tf t n) (ts t))):=by
 rcases Nat.eq_zero_or_pos n with rfl|hp
 ·refine(zpH A c t w).mono ?_;rintro e w' ⟨rfl,rfl⟩;exact⟨_,rfl,World.ownsRow_nil _ _ _ _,Below.refl _ _⟩
 ·exact zcw A n c t bs w h hn hp
theorem zm0(A:Option Addr)(n c:Nat)(t:Int)(bs:List UInt8)(w:World)(h:Rd w w.heap.size A n bs)(hn:n<=140737488355328):
  Calls Tryz.prog 101 #[.slice A n c,.int .i64 t] w (RetB w (zbe bs n (tf t n) (ts t))):=by
 rcases Nat.eq_zero_or_pos n with rfl|hp
 ·exact zon A c t w
 ·exact zer A n c t bs w h hn hp
theorem zs8(bs:List UInt8)(n f s i:Nat)(_hs:s<8):
  (zd0 bs n f s i).toNat=(bs.getD ((f+i)%n) 0).toNat*2^s%256|||(bs.getD ((f+i+1)%n) 0).toNat/2^(8-s):=by
 have hv:=zdF bs n f s i;have b1:=(bs.getD ((f+i)%n) 0).toNat_lt;have b2:=(bs.getD ((f+i+1)%n) 0).toNat_lt;obtain⟨x,hx⟩:∃x,(bs.getD ((f+i)%n) 0).toNat=x:=⟨_,rfl⟩;obtain⟨y,hy⟩:∃y,(bs.getD ((f+i+1)%n) 0).toNat=y:=⟨_,rfl⟩;unfold zah at hv;rw[hx] at hv b1 ⊢;rw[hy] at hv b2 ⊢;have h1:x*2^s%256<256:=Nat.mod_lt _ (by omega);have h2:y/2^(8-s)<256:=Nat.lt_of_le_of_lt (Nat.div_le_self _ _) b2;have e:=u8_or_nat _ _ h1 h2;have e1:((x*2^s%256:Nat):Int)=(x:Int)*2^s%256:=zk9 x s 256;have e2:((y/2^(8-s):Nat):Int)=(y:Int)/2^(8-s):=zdV y (8-s);rw[e1,e2] at e;rw[e] at hv;exact Int.ofNat.inj hv
end Go.Proofs.YtokbbmngfogbbaaGreatDoor.A
namespace Go.Proofs.YtokbbmngfogbbaaGreatDoor.A
set_option maxRecDepth 100000
set_option maxHeartbeats 8000000
theorem zjh(x y:Nat):2*(x^^^y)=(2*x)^^^(2*y):=by
 have h:=Nat.shiftLeft_xor_distrib (a:=x) (b:=y) (i:=1);simp only[Nat.shiftLeft_eq,Nat.pow_one] at h;rw[Nat.mul_comm 2,Nat.mul_comm 2,Nat.mul_comm 2];exact h
theorem zgk{x y:Nat}(hx:256<=x)(hx':x<512)(hy:256<=y)(hy':y<512):x^^^y<256:=by
 have h:=ze1 x y 8;rw[show x/2^8=1 by omega,show y/2^8=1 by omega,Nat.xor_self] at h;omega
theorem ziL{x y:Nat}(hx:x<256)(hy:256<=y)(hy':y<512):256<=x^^^y:=by
 have h:=ze1 x y 8;rw[show x/2^8=0 by omega,show y/2^8=1 by omega,Nat.zero_xor] at h;omega
theorem zsr{m x:Nat}(hm:zal m)(hx:x<256):xt m x<256:=by
 unfold xt;split
 ·exact zgk (by omega) (by omega) hm.lo hm.hi
 ·omega
theorem zqU(m:Nat):xt m 0=0:=by simp[xt]
theorem zlc{m x y:Nat}(hx:x<256)(hy:y<256):xt m (x^^^y)=xt m x^^^xt m y:=by
 unfold xt;rw[zjh];by_cases h1:256<=2*x
 ·by_cases h2:256<=2*y
  ·have:=zgk h1 (by omega) h2 (by omega);rw[if_pos h1,if_pos h2,if_neg (by omega),zci,Nat.xor_self,Nat.xor_zero]
  ·have:=ziL (x:=2*y) (by omega) h1 (by omega);rw[Nat.xor_comm] at this;rw[if_pos h1,if_neg h2,if_pos this]
   ac_rfl
 ·by_cases h2:256<=2*y
  ·have:=ziL (x:=2*x) (by omega) h2 (by omega);rw[if_neg h1,if_pos h2,if_pos this]
   ac_rfl
  ·have:=zbj (x:=2*x) (y:=2*y) (by omega) (by omega);rw[if_neg h1,if_neg h2,if_neg (by omega)]
theorem zbW{m x:Nat}(hm:zal m)(hx:x<256):∀k,xtk m k x<256
 | 0=>hx
 | k+1=>zsr hm (zbW hm hx k)
theorem zgg{m x y:Nat}(hm:zal m)(hx:x<256)(hy:y<256):∀k,xtk m k (x^^^y)=xtk m k x^^^xtk m k y
 | 0=>rfl
 | k+1=>by rw[xtk,xtk,xtk,zgg hm hx hy k,zlc (zbW hm hx k) (zbW hm hy k)]
theorem zdq{m a:Nat}(hm:zal m)(ha:a<256)(b:Nat):∀k,gmk m a b k<256
 | 0=>by simp[gmk]
 | k+1=>by
   rw[gmk];split
   ·exact zbj (zdq hm ha b k) (zbW hm ha k)
   ·exact zdq hm ha b k
theorem zc7{m a:Nat}(hm:zal m)(ha:a<256)(b:Nat):gm m a b<256:=zdq hm ha b 8
theorem zcq{m x y:Nat}(hm:zal m)(hx:x<256)(hy:y<256)(b:Nat):∀k,gmk m (x^^^y) b k=gmk m x b k^^^gmk m y b k
 | 0=>by simp[gmk]
 | k+1=>by
   rw[gmk,gmk,gmk,zcq hm hx hy b k];split
   ·rw[zgg hm hx hy,zci]
   ·rfl
theorem zcJ{m x y:Nat}(hm:zal m)(hx:x<256)(hy:y<256)(b:Nat):gm m (x^^^y) b=gm m x b^^^gm m y b:=zcq hm hx hy b 8
theorem zjx(b c k:Nat):(b^^^c)/2^k%2=(b/2^k%2+c/2^k%2)%2:=by
 rw[ze1,<-Go.nat_mask1,Nat.and_xor_distrib_right,Go.nat_mask1,Go.nat_mask1];have h1:=Nat.mod_lt (b/2^k) (show 0<2 by omega);have h2:=Nat.mod_lt (c/2^k) (show 0<2 by omega);generalize b/2^k%2=u at *;generalize c/2^k%2=v at *
 match u,v,h1,h2 with
 | 0,0,_,_=>rfl
 | 0,1,_,_=>rfl
 | 1,0,_,_=>rfl
 | 1,1,_,_=>rfl
theorem zb3(m a b c:Nat):∀k,gmk m a (b^^^c) k=gmk m a b k^^^gmk m a c k
 | 0=>by simp[gmk]
 | k+1=>by
   rw[gmk,gmk,gmk,zb3 m a b c k,zjx];have h1:=Nat.mod_lt (b/2^k) (show 0<2 by omega);have h2:=Nat.mod_lt (c/2^k) (show 0<2 by omega);by_cases hb:b/2^k%2=1
   ·by_cases hc:c/2^k%2=1
    ·rw[if_pos hb,if_pos hc,if_neg (by omega),zci,Nat.xor_self,Nat.xor_zero]
    ·rw[if_pos hb,if_neg hc,if_pos (by omega)];ac_rfl
   ·by_cases hc:c/2^k%2=1
    ·rw[if_neg hb,if_pos hc,if_pos (by omega)];ac_rfl
    ·rw[if_neg hb,if_neg hc,if_neg (by omega)]
theorem zbl(m a b c:Nat):gm m a (b^^^c)=gm m a b^^^gm m a c:=zb3 m a b c 8
theorem ze7(f g:Nat->Nat)(hf:∀x y,x<256->y<256->f (x^^^y)=f x^^^f y)(hg:∀x y,x<256->y<256->g (x^^^y)=g x^^^g y)
  (h:∀k,k<8->f (2^k)=g (2^k)) (b:Nat) (hb:b<256):f b=g b:=by
 have f0:f 0=0:=by have:=hf 0 0 (by omega) (by omega);rw[Nat.xor_self,Nat.xor_self] at this;exact this
 have g0:g 0=0:=by have:=hg 0 0 (by omega) (by omega);rw[Nat.xor_self,Nat.xor_self] at this;exact this
 have key:∀(p:Prop) [Decidable p] (k:Nat),k<8->f (if p then 2^k else 0)=g (if p then 2^k else 0):=by
  intro p _ k hk;split
  ·exact h k hk
  ·rw[f0,g0]
 have lt:∀(p:Prop) [Decidable p] (k:Nat),k<8->(if p then 2^k else 0)<256:=by
  intro p _ k hk;split
  ·exact Nat.lt_of_lt_of_le (Nat.pow_lt_pow_right (by omega) hk) (by omega:2^8<=256)
  ·omega
 have step:∀x y,x<256->y<256->f x=g x->f y=g y->f (x^^^y)=g (x^^^y):=by intro x y hx hy h1 h2;rw[hf x y hx hy,hg x y hx hy,h1,h2]
 rw[zil b hb];have l0:=lt (b/2^0%2=1) 0 (by omega);have e0:=key (b/2^0%2=1) 0 (by omega);have l1:=lt (b/2^1%2=1) 1 (by omega);have e1:=key (b/2^1%2=1) 1 (by omega);have l2:=lt (b/2^2%2=1) 2 (by omega);have e2:=key (b/2^2%2=1) 2 (by omega);have l3:=lt (b/2^3%2=1) 3 (by omega);have e3:=key (b/2^3%2=1) 3 (by omega);have l4:=lt (b/2^4%2=1) 4 (by omega);have e4:=key (b/2^4%2=1) 4 (by omega);have l5:=lt (b/2^5%2=1) 5 (by omega);have e5:=key (b/2^5%2=1) 5 (by omega);have l6:=lt (b/2^6%2=1) 6 (by omega);have e6:=key (b/2^6%2=1) 6 (by omega);have l7:=lt (b/2^7%2=1) 7 (by omega);have e7:=key (b/2^7%2=1) 7 (by omega);have a1:=step _ _ l0 l1 e0 e1;have m1:=zbj l0 l1;have a2:=step _ _ m1 l2 a1 e2;have m2:=zbj m1 l2;have a3:=step _ _ m2 l3 a2 e3;have m3:=zbj m2 l3
 have a4:=step _ _ m3 l4 a3 e4;have m4:=zbj m3 l4;have a5:=step _ _ m4 l5 a4 e5;have m5:=zbj m4 l5;have a6:=step _ _ m5 l6 a5 e6;have m6:=zbj m5 l6;exact step _ _ m6 l7 a6 e7
theorem zsj{k:Nat}(hk:k<8):2^k<256:=Nat.lt_of_lt_of_le (Nat.pow_lt_pow_right (by omega) hk) (by omega:2^8<=256)
theorem zeQ{m:Nat}(hm:zal m){a b:Nat}(ha:a<256)(hb:b<256):gm m a b=gm m b a:=by
 refine ze7 (fun b=>gm m a b) (fun b=>gm m b a) (fun x y _ _=>zbl m a x y) (fun x y hx hy=>zcJ hm hx hy a) (fun k hk=>?_) b hb;show gm m a (2^k)=gm m (2^k) a;refine ze7 (fun a=>gm m a (2^k)) (fun a=>gm m (2^k) a) (fun x y hx hy=>zcJ hm hx hy _) (fun x y _ _=>zbl m _ x y) (fun j hj=>?_) a ha;show gm m (2^j) (2^k)=gm m (2^k) (2^j);rw[zeb _ _ _ hk,zeb _ _ _ hj,<-zhJ m j hj,<-zhJ m k hk,<-zeh,<-zeh,Nat.add_comm]
theorem zmn{m a:Nat}(hm:zal m)(ha:a<256)(b:Nat):∀k,xt m (gmk m a b k)=gmk m (xt m a) b k
 | 0=>zqU m
 | k+1=>by
   have e:xtk m k (xt m a)=xt m (xtk m k a):=by have h1:=zeh m a 1 k;have h2:=zeh m a k 1;rw[Nat.add_comm k 1] at h2;rw[h2] at h1;exact h1.symm
   rw[gmk,gmk];split
   ·rw[zlc (zdq hm ha b k) (zbW hm ha k),zmn hm ha b k,e]
   ·exact zmn hm ha b k
theorem zvC{m a:Nat}(hm:zal m)(ha:a<256)(b:Nat):xt m (gm m a b)=gm m (xt m a) b:=zmn hm ha b 8
theorem zqG{m a:Nat}(hm:zal m)(ha:a<256)(b:Nat):∀k,xtk m k (gm m a b)=gm m (xtk m k a) b
 | 0=>rfl
 | k+1=>by rw[xtk,xtk,zqG hm ha b k,zvC hm (zbW hm ha k)]
theorem zkV{m:Nat}(hm:zal m){a b c:Nat}(ha:a<256)(hb:b<256)(hc:c<256):gm m (gm m a b) c=gm m a (gm m b c):=by
 refine ze7 (fun c=>gm m (gm m a b) c) (fun c=>gm m a (gm m b c)) (fun x y _ _=>zbl _ _ x y) (fun x y _ _=>?_) (fun k hk=>?_) c hc
 ·show gm m a (gm m b (x^^^y))=_;rw[zbl,zbl]
 ·show gm m (gm m a b) (2^k)=gm m a (gm m b (2^k));rw[zeb _ _ _ hk,zeb _ _ _ hk,zeQ hm ha hb,zeQ hm ha (zbW hm hb k),zqG hm hb]
theorem ziR{m a:Nat}:gm m a 1=a:=zeb m a 0 (by omega)
theorem zcE{m a:Nat}(hm:zal m)(ha:a<256):gm m 1 a=a:=by rw[zeQ hm (by omega) ha,ziR]
def gp(m a:Nat):Nat->Nat
 | 0=>1
 | n+1=>gm m (gp m a n) a
theorem zhX{m a:Nat}(hm:zal m):∀n,gp m a n<256
 | 0=>by simp[gp]
 | n+1=>zc7 hm (zhX hm n) a
theorem zmQ{m a:Nat}(hm:zal m)(ha:a<256)(i:Nat):∀j,gp m a (i+j)=gm m (gp m a i) (gp m a j)
 | 0=>ziR.symm
 | j+1=>by rw[<-Nat.add_assoc,gp,gp,zmQ hm ha i j,zkV hm (zhX hm i) (zhX hm j) ha]
theorem zmx{m a:Nat}(hm:zal m)(ha:a<256)(i:Nat):∀j,gp m (gp m a i) j=gp m a (i*j)
 | 0=>rfl
 | j+1=>by rw[gp,zmx hm ha i j,Nat.mul_succ,zmQ hm ha]
theorem zqD{m a:Nat}(hm:zal m)(ha:a<256):gp m a 2=gm m a a:=by
 rw[show gp m a 2=gm m (gm m 1 a) a from rfl,zcE hm ha]
theorem ztm{m a:Nat}(hm:zal m)(ha:a<256):gp m a 1=a:=zcE hm ha
def p3(m a:Nat):Nat:=gm m (gm m a a) a
theorem zfF{m s a n:Nat}(hm:zal m)(hs:s<256)(ha:a<256)(hn:n%2=1):gm m s (gp m a n)=gm m (gm m s a) (gp m (gm m a a) (n/2)):=by
 have e:n=1+2*(n/2):=by omega
 conv=>lhs;rw[e]
 rw[zmQ hm ha,ztm hm ha,<-zkV hm hs ha (zhX hm _),<-zmx hm ha 2,zqD hm ha]
theorem zfi{m a n:Nat}(hm:zal m)(ha:a<256)(hn:n%2=0):gp m a n=gp m (gm m a a) (n/2):=by
 have e:n=2*(n/2):=by omega
 conv=>lhs;rw[e]
 rw[<-zmx hm ha 2,zqD hm ha]
end Go.Proofs.YtokbbmngfogbbaaGreatDoor.A
namespace Go.Proofs.YtokbbmngfogbbaaGreatDoor.A
open Go.RowKit
set_option maxRecDepth 100000
set_option maxHeartbeats 8000000
theorem zce(a b:Nat)(ha:a<1024)(hb:b<1024):bits .xor .i64 (a:Int) (b:Int)=((a^^^b:Nat):Int):=by
 have e0:bits .xor .i64 (a:Int) (b:Int)=IntKind.i64.wrap ((BitVec.ofInt 64 (a:Int)^^^BitVec.ofInt 64 (b:Int)).toNat:Int):=rfl;have h:a^^^b<2^10:=Nat.xor_lt_two_pow ha hb;have e:(BitVec.ofInt 64 (a:Int)^^^BitVec.ofInt 64 (b:Int)).toNat=a^^^b:=by
  rw[BitVec.toNat_xor,BitVec.toNat_ofInt,BitVec.toNat_ofInt];have h1:((a:Int)%((2^64:Nat):Int)).toNat=a:=by omega
  have h2:((b:Int)%((2^64:Nat):Int)).toNat=b:=by omega
  rw[h1,h2]
 rw[e0,e];simp[IntKind.wrap,IntKind.bits,IntKind.signed];omega
theorem zjf{m a b k:Nat}(hk:k<=8)(h:b/2^k=0):gm m a b=gmk m a b k:=by
 have:=zid (m:=m) (a:=a) h (8-k);rw[show k+(8-k)=8 by omega] at this;exact this
structure MulS (m a b k:Nat) (s x q:Int):Prop where
 hk:k<8
 hs:s=(gmk m a b k:Nat)
 hx:x=(xtk m k a:Nat)
 hq:q=(b/2^k:Nat)
theorem MulS.bnd{m a b k:Nat}{s x q:Int}(h:MulS m a b k s x q)(_hm:zal m)(_ha:a<256)(_hb:b<256):0<=s/\s<256/\0<=x/\x<256/\0<=q/\q<256:=by
 have h1:=zdq _hm _ha b k;have h2:=zbW _hm _ha k;have h3:b/2^k<256:=Nat.lt_of_le_of_lt (Nat.div_le_self _ _) _hb;have e1:=h.hs;have e2:=h.hx;have e3:=h.hq;generalize gmk m a b k=S at *;generalize xtk m k a=X at *;generalize b/2^k=Q at *;omega
theorem MulS.and1{m a b k:Nat}{s x q:Int}(h:MulS m a b k s x q)(_hm:zal m)(_ha:a<256)(_hb:b<256):bits .and .u8 q 1=((b/2^k%2:Nat):Int):=by
 rw[h.hq];exact ze6 _ (Nat.lt_of_le_of_lt (Nat.div_le_self _ _) _hb)
theorem MulS.odd{m a b k:Nat}{s x q:Int}(h:MulS m a b k s x q)(_hm:zal m)(_ha:a<256)(_hb:b<256)(c:(bits .and .u8 q 1 != 0)=true):bits .xor .i64 s x=(gmk m a b (k+1):Nat):=by
 rw[h.and1 _hm _ha _hb] at c;have c:b/2^k%2=1:=by
  have:b/2^k%2≠0:=by intro h0;rw[h0] at c;simp at c
  omega
 rw[gmk,if_pos c,h.hs,h.hx];have:=zdq _hm _ha b k;have:=zbW _hm _ha k;exact zce _ _ (by omega) (by omega)
theorem MulS.even{m a b k:Nat}{s x q:Int}(h:MulS m a b k s x q)(_hm:zal m)(_ha:a<256)(_hb:b<256)(c:(bits .and .u8 q 1 != 0)=false):s=(gmk m a b (k+1):Nat):=by
 rw[h.and1 _hm _ha _hb] at c;have c:¬b/2^k%2=1:=by intro h0;rw[h0] at c;simp at c
 rw[gmk,if_neg c,h.hs]
theorem MulS.over{m a b k:Nat}{s x q:Int}(h:MulS m a b k s x q)(_hm:zal m)(_ha:a<256)(_hb:b<256)(c:255<x*2):bits .xor .i64 (x*2) m=(xtk m (k+1) a:Nat):=by
 have:=zbW _hm _ha k;have hm1:=_hm.hi;rw[h.hx] at c ⊢;rw[xtk,xt,if_pos (by omega),show(xtk m k a:Int)*2=((2*xtk m k a:Nat):Int) by omega];exact zce _ _ (by omega) (by omega)
theorem MulS.under{m a b k:Nat}{s x q:Int}(h:MulS m a b k s x q)(_hm:zal m)(_ha:a<256)(_hb:b<256)(c:x*2<=255):x*2=(xtk m (k+1) a:Nat):=by
 rw[h.hx] at c ⊢;rw[xtk,xt,if_neg (by omega)];omega
theorem MulS.half{m a b k:Nat}{s x q:Int}(h:MulS m a b k s x q)(_hm:zal m)(_ha:a<256)(_hb:b<256):q/2=(b/2^(k+1):Nat):=by
 rw[h.hq,Nat.pow_succ,<-Nat.div_div_eq_div_mul];omega
theorem MulS.more{m a b k:Nat}{s x q:Int}(h:MulS m a b k s x q)(_hm:zal m)(_ha:a<256)(_hb:b<256)(c:(q/2 != 0)=true):k+1<8:=by
 have hk:=h.hk;rw[h.half _hm _ha _hb] at c;rcases Nat.lt_or_ge (k+1) 8 with h8|h8
 ·exact h8
 ·have:b/2^(k+1)=0:=by rw[show k+1=8 by omega];omega
  rw[this] at c;simp at c
theorem MulS.stop{m a b k:Nat}{s x q:Int}(h:MulS m a b k s x q)(_hm:zal m)(_ha:a<256)(_hb:b<256)(c:(q/2 != 0)=false):gmk m a b (k+1)=gm m a b:=by
 have hk:=h.hk;rw[h.half _hm _ha _hb] at c;refine(zjf (by omega) ?_).symm;simp only[bne_eq_false_iff_eq] at c
 exact_mod_cast c
theorem MulS.less{m a b k:Nat}{s x q:Int}(h:MulS m a b k s x q)(_hm:zal m)(_ha:a<256)(_hb:b<256)(c:(q/2 != 0)=true):(q/2).toNat<q.toNat:=by
 have:=h.bnd _hm _ha _hb;have:q/2≠0:=by simpa using c
 omega
theorem MulS.fin1{m a b k:Nat}{s x q:Int}(h:MulS m a b k s x q)(_hm:zal m)(_ha:a<256)(_hb:b<256)(c:(bits .and .u8 q 1 != 0)=true)(c':(q/2 != 0)=false):bits .xor .i64 s x%256=(gm m a b:Nat):=by
 rw[h.odd _hm _ha _hb c,h.stop _hm _ha _hb c'];have:=zc7 _hm _ha b;omega
theorem MulS.fin2{m a b k:Nat}{s x q:Int}(h:MulS m a b k s x q)(_hm:zal m)(_ha:a<256)(_hb:b<256)(c:(bits .and .u8 q 1 != 0)=false)(c':(q/2 != 0)=false):s%256=(gm m a b:Nat):=by
 rw[h.even _hm _ha _hb c,h.stop _hm _ha _hb c'];have:=zc7 _hm _ha b;omega
theorem MulS.odd1{m a b k:Nat}{s x:Int}(h:MulS m a b k s x (b/2^k:Nat))(hm:zal m)(ha:a<256)(hb:b<256)(c:(bits .and .u8 ((b:Int)/2^k) 1==1)=true):bits .xor .i64 s x=(gmk m a b (k+1):Nat):=by
 refine h.odd hm ha hb ?_;have e:((b/2^k:Nat):Int)=(b:Int)/2^k:=by simp
 rw[e];have:bits .and .u8 ((b:Int)/2^k) 1=1:=by simpa using c
 rw[this];rfl
theorem MulS.even1{m a b k:Nat}{s x:Int}(h:MulS m a b k s x (b/2^k:Nat))(hm:zal m)(ha:a<256)(hb:b<256)(c:(bits .and .u8 ((b:Int)/2^k) 1==1)=false):s=(gmk m a b (k+1):Nat):=by
 refine h.even hm ha hb ?_;have h1:=h.and1 hm ha hb;have e:((b/2^k:Nat):Int)=(b:Int)/2^k:=by simp
 rw[e] at h1 ⊢;rw[h1] at c ⊢;have h2:=Nat.mod_lt (b/2^k) (show 0<2 by omega);generalize b/2^k%2=g at *
 match g,h2 with
 | 0,_=>rfl
 | 1,_=>simp at c
def MulJ(m a b:Nat)(w:World)(a':Act)(w':World):Prop :=
 w=w'/\∃(k:Nat) (s x q:Int) (u14 u15 u16 u17 u18 u19 u20 u21 u22 u23 u24 u25 u26 u27 u28 u29 u30:Value),
  a' = { tmps:=#[.int .u8 a,.int .u8 q,.int .i64 m,undef,undef,undef,.int .u8 0,.int .i64 s,.int .i64 x,.int .i64 m,.bool true,.bool false,.int .u8 a,.int .i64 a,
   u14,u15,u16,u17,u18,u19,u20,u21,u22,u23,u24,u25,u26,u27,u28,u29,u30,undef,undef],defers:=[] }/\MulS m a b k s x q
theorem zbO(a b m:Nat)(w:World)(hm:zal m)(ha:a<256)(hb:b<256):
  Calls Tryz.prog 181 #[.int .u8 a,.int .u8 b,.int .i64 m] w fun e w'=>e=.returned (.int .u8 (gm m a b:Nat))/\w=w':=by
 have h0:=hm.lo;have h1:=hm.hi;go_enter Tryz.func181,Tryz.ntmps181;go_wp2_with fail
 refine wp_scope_jumps 0 (MulJ m a b w) (fun a' _=>qOf a') rfl ?_ ?_
 ·have HS:=hid (show MulS m a b 0 0 a b from⟨by omega,rfl,rfl,by simp⟩);have HM:=hid hm;clear hm;go_wp2_with (go_at_call 184;refine(zgD _ _ (by omega) (by omega)).mono ?_;rintro e w' ⟨rfl,rfl⟩)
  go_step3;go_wp2;all_goals (try go_step3)
  all_goals first
   | (refine⟨rfl,rfl,ex8 (ex8 ⟨_,_,_,_,_,rfl,⟨HS.out.more HM.out ha hb (by assumption),(by first|exact HS.out.odd HM.out ha hb (by assumption) | exact HS.out.even HM.out ha hb (by assumption)),(by first|exact HS.out.over HM.out ha hb (by assumption) | exact HS.out.under HM.out ha hb (by assumption)),HS.out.half HM.out ha hb⟩⟩)⟩)
   | (simp only[Exit.jump]
      go_ret;refine⟨zak ?_,rfl⟩;first
       | exact HS.out.fin1 HM.out ha hb (by assumption) (by assumption)
       | exact HS.out.fin2 HM.out ha hb (by assumption) (by assumption)
       | exact(HS.out.even HM.out ha hb (by assumption)).trans (by rw[HS.out.stop HM.out ha hb (by assumption)]))
 ·rintro a' w' ⟨rfl,k,s,x,q,u14,u15,u16,u17,u18,u19,u20,u21,u22,u23,u24,u25,u26,u27,u28,u29,u30,rfl,hS⟩;have hB:=hS.bnd hm ha hb;obtain⟨hb0,hb1,hb2,hb3,hb4,hb5⟩:=hB;have HS:=hid hS;have HM:=hid hm;clear hS hm;go_wp2;all_goals (try go_step3)
  all_goals first
   | (refine⟨rfl,⟨rfl,ex8 (ex8 ⟨_,_,_,_,_,rfl,⟨HS.out.more HM.out ha hb (by assumption),(by first|exact HS.out.odd HM.out ha hb (by assumption) | exact HS.out.even HM.out ha hb (by assumption)),(by first|exact HS.out.over HM.out ha hb (by assumption) | exact HS.out.under HM.out ha hb (by assumption)),HS.out.half HM.out ha hb⟩⟩)⟩,HS.out.less HM.out ha hb (by assumption)⟩)
   | (simp only[Exit.jump]
      go_ret;refine⟨zak ?_,rfl⟩;first
       | exact HS.out.fin1 HM.out ha hb (by assumption) (by assumption)
       | exact HS.out.fin2 HM.out ha hb (by assumption) (by assumption)
       | exact(HS.out.even HM.out ha hb (by assumption)).trans (by rw[HS.out.stop HM.out ha hb (by assumption)]))
theorem zdS(a b m:Nat)(w:World)(hm:zal m)(ha:a<256)(hb:b<256):
  Calls Tryz.prog 144 #[.int .u8 a,.int .u8 b,.int .i64 m] w fun e w'=>e=.returned (.int .u8 (gm m a b:Nat))/\w=w':=by
 have h0:=hm.lo;have h1:=hm.hi;go_enter Tryz.func144,Tryz.ntmps144;go_wp2_with fail
 go_loop [7,8,9] (fun s x i=>∃(k:Nat) (S X:Int),k<=8/\i=.int .u64 k/\s=.int .i64 S/\x=.int .i64 X/\S=(gmk m a b k:Nat)/\X=(xtk m k a:Nat)) (fun _ _ i=>(8-intOf i).toNat)
 case atStart=>exact⟨0,_,_,by omega,rfl,rfl,rfl,rfl,rfl⟩
 case round =>
  obtain⟨k,S,X,hk,rfl,rfl,rfl,hS,hX⟩:=hrel;by_cases hlt:k<8
  ·have hS':MulS m a b k S X (b/2^k:Nat):=⟨hlt,hS,hX,rfl⟩;obtain⟨hb0,hb1,hb2,hb3,hb4,hb5⟩:=hS'.bnd hm ha hb;have h1':=hid (hS'.and1 hm ha hb);have HS:=hid hS';have HM:=hid hm;clear hS hX hS' hm hb4 hb5;go_wp2;all_goals refine⟨⟨k+1,_,_,by omega,by go_num,rfl,rfl,(by first|exact HS.out.odd1 HM.out ha hb (by assumption) | exact HS.out.even1 HM.out ha hb (by assumption)),(by first|exact HS.out.over HM.out ha hb (by omega) | exact HS.out.under HM.out ha hb (by omega))⟩,by simp[intOf];omega⟩
  ·obtain rfl:k=8:=by omega
   have HF:=hid (show S=(gm m a b:Nat) from hS);have hl:=zc7 hm ha b;have hX2:=zbW hm ha 8;have hS0:0<=S/\S<256:=by have:=HF.out;generalize gm m a b=G at *;omega
   clear hS hX hm hl hX2;go_wp2;go_ret;exact⟨zak (by rw[HF.out]),rfl⟩
structure PowS (m a n0:Nat) (p x n:Nat):Prop where
 he:gm m p (gp m x n)=gp m a n0
 hp:p<256
 hx:x<256
 hn:n<=1000000
theorem PowS.odd{m a n0 p x n:Nat}(h:PowS m a n0 p x n)(hm:zal m)(c:n%2=1):PowS m a n0 (gm m p x) (gm m x x) (n/2) :=
 ⟨(zfF hm h.hp h.hx c).symm.trans h.he,zc7 hm h.hp _,zc7 hm h.hx _,by have:=h.hn;omega⟩
theorem PowS.even{m a n0 p x n:Nat}(h:PowS m a n0 p x n)(hm:zal m)(c:n%2=0):PowS m a n0 p (gm m x x) (n/2) :=
 ⟨by rw[<-zfi hm h.hx c];exact h.he,h.hp,zc7 hm h.hx _,by have:=h.hn;omega⟩
theorem PowS.stop{m a n0 p x:Nat}(h:PowS m a n0 p x 0):p=gp m a n0:=by
 have:=h.he;rw[show gp m x 0=1 from rfl,ziR] at this;exact this
def PowJ(m a n0:Nat)(w:World)(a':Act)(w':World):Prop :=
 w=w'/\∃(p x n:Nat) (N:Int) (u8 u9 u10 u11 u12 u13 u14 u15 u16 u17 u18 u19 u20 u21 u22 u23 u24 u25 u26 u27 u28 u29 u30 u31 u32 u33:Value),
  a' = { tmps:=#[.int .u8 x,.int .i64 N,.int .i64 m,undef,undef,undef,.int .u8 0,.int .u8 p,
   u8,u9,u10,u11,u12,u13,u14,u15,u16,u17,u18,u19,u20,u21,u22,u23,u24,u25,u26,u27,u28,u29,u30,u31,u32,u33,undef],defers:=[] }/\N=n/\PowS m a n0 p x n
def nOf(a:Act):Nat:=match a.tmps.getD 1 undef with | .int _ q=>q.toNat|_=>0
theorem zr5(a n0 m:Nat)(w:World)(hm:zal m)(ha:a<256)(hn:n0<=1000000):
  Calls Tryz.prog 169 #[.int .u8 a,.int .i64 n0,.int .i64 m] w fun e w'=>e=.returned (.int .u8 (gp m a n0:Nat))/\w=w':=by
 have h0:=hm.lo;have h1:=hm.hi;have HM:=hid hm;clear hm;go_enter Tryz.func169,Tryz.ntmps169;go_wp2_with fail
 refine wp_scope_jumps 0 (PowJ m a n0 w) (fun a' _=>nOf a') rfl ?_ ?_
 ·have HS:=hid (show PowS m a n0 1 a n0 from⟨zcE HM.out (zhX HM.out _),by omega,ha,hn⟩);have n0':¬(n0:Int)<0:=by omega
  have n1':¬(1000000:Int)<n0:=by omega
  go_wp2_with (go_at_call 184;refine(zgD _ _ (by omega) (by omega)).mono ?_;rintro e w' ⟨rfl,rfl⟩)
  go_step3;clear n0' n1';by_cases hodd:n0%2=1
  ·have hA:bits .and .i64 (n0:Int) 1=1:=by rw[zmp];omega
   have HS2:=hid (HS.out.odd HM.out hodd);clear hodd;go_wp2_with fail
   refine(zbO 1 a m _ HM.out (by omega) ha).mono ?_;rintro e w' ⟨rfl,rfl⟩;go_wp2_with fail
   refine(zbO a a m _ HM.out ha ha).mono ?_;rintro e w' ⟨rfl,rfl⟩;go_wp2_with fail
   ·go_step3;rename_i hne;have hne2:((n0:Nat):Int)/2≠0:=by simpa using hne
    refine⟨rfl,rfl,_,_,n0/2,((n0:Nat):Int)/2,ex8 (ex8 (ex8 ⟨_,_,rfl,by omega,HS2.out⟩))⟩
   ·rename_i hz;have hz2:n0/2=0:=by
     have:((n0:Nat):Int)/2=0:=by simpa using hz
     omega
    have hs2:=HS2.out;rw[hz2] at hs2;have HF:=hid hs2.stop;clear hs2;simp only[Exit.jump];go_ret;exact⟨zak (by have:=HF.out;omega),rfl⟩
  ·have hA:bits .and .i64 (n0:Int) 1=0:=by rw[zmp];omega
   have HS2:=hid (HS.out.even HM.out (by omega));clear hodd;go_wp2_with fail
   refine(zbO a a m _ HM.out ha ha).mono ?_;rintro e w' ⟨rfl,rfl⟩;go_wp2_with fail
   ·go_step3;rename_i hne;have hne2:((n0:Nat):Int)/2≠0:=by simpa using hne
    refine⟨rfl,rfl,_,_,n0/2,((n0:Nat):Int)/2,ex8 (ex8 (ex8 ⟨_,_,rfl,by omega,HS2.out⟩))⟩
   ·rename_i hz;have hz2:n0/2=0:=by
     have:((n0:Nat):Int)/2=0:=by simpa using hz
     omega
    have hs2:=HS2.out;rw[hz2] at hs2;have HF:=hid hs2.stop;clear hs2;simp only[Exit.jump];go_ret;exact⟨zak (by have:=HF.out;omega),rfl⟩
 ·rintro a' w' ⟨rfl,p,x,n,N,u8,u9,u10,u11,u12,u13,u14,u15,u16,u17,u18,u19,u20,u21,u22,u23,u24,u25,u26,u27,u28,u29,u30,u31,u32,u33,rfl,rfl,hS⟩;have hp:=hS.hp;have hx:=hS.hx;have hn':=hS.hn;have HS:=hid hS;clear hS;by_cases hodd:n%2=1
  ·have hA:bits .and .i64 (n:Int) 1=1:=by rw[zmp];omega
   have HS2:=hid (HS.out.odd HM.out hodd);clear hodd;go_wp2_with fail
   refine(zbO p x m _ HM.out hp hx).mono ?_;rintro e w' ⟨rfl,rfl⟩;go_wp2_with fail
   refine(zbO x x m _ HM.out hx hx).mono ?_;rintro e w' ⟨rfl,rfl⟩;go_wp2_with fail
   ·go_step3;rename_i hne;have hne2:((n:Nat):Int)/2≠0:=by simpa using hne
    refine⟨rfl,⟨rfl,_,_,n/2,((n:Nat):Int)/2,ex8 (ex8 (ex8 ⟨_,_,rfl,by omega,HS2.out⟩))⟩,by simp[nOf];omega⟩
   ·rename_i hz;have hz2:n/2=0:=by
     have:((n:Nat):Int)/2=0:=by simpa using hz
     omega
    have hs2:=HS2.out;rw[hz2] at hs2;have HF:=hid hs2.stop;clear hs2;simp only[Exit.jump];go_ret;exact⟨zak (by have:=HF.out;omega),rfl⟩
  ·have hA:bits .and .i64 (n:Int) 1=0:=by rw[zmp];omega
   have HS2:=hid (HS.out.even HM.out (by omega));clear hodd;go_wp2_with fail
   refine(zbO x x m _ HM.out hx hx).mono ?_;rintro e w' ⟨rfl,rfl⟩;go_wp2_with fail
   ·go_step3;rename_i hne;have hne2:((n:Nat):Int)/2≠0:=by simpa using hne
    refine⟨rfl,⟨rfl,_,_,n/2,((n:Nat):Int)/2,ex8 (ex8 (ex8 ⟨_,_,rfl,by omega,HS2.out⟩))⟩,by simp[nOf];omega⟩
   ·rename_i hz;have hz2:n/2=0:=by
     have:((n:Nat):Int)/2=0:=by simpa using hz
     omega
    have hs2:=HS2.out;rw[hz2] at hs2;have HF:=hid hs2.stop;clear hs2;simp only[Exit.jump];go_ret;exact⟨zak (by have:=HF.out;omega),rfl⟩
theorem zpf(a n0 m:Nat)(w:World)(hm:zal m)(ha:a<256)(hn:n0<=1000000):
  Calls Tryz.prog 148 #[.int .u8 a,.int .i64 n0,.int .i64 m] w fun e w'=>e=.returned (.int .u8 (gp m a n0:Nat))/\w=w':=by
 have HM:=hid hm;clear hm;have HS0:=hid (show PowS m a n0 1 a n0 from⟨zcE HM.out (zhX HM.out _),by omega,ha,hn⟩);go_enter Tryz.func148,Tryz.ntmps148;go_wp2_with fail
 go_loop [0,1,7] (fun x n p=>∃(X N P:Nat),x=.int .u8 X/\n=.int .i64 N/\p=.int .u8 P/\PowS m a n0 P X N) (fun _ n _=>(intOf n).toNat)
 case atStart=>exact⟨a,n0,1,rfl,rfl,rfl,HS0.out⟩
 case round =>
  obtain⟨X,N,P,rfl,rfl,rfl,hS⟩:=hrel;have hp:=hS.hp;have hx:=hS.hx;have hn':=hS.hn;rcases Nat.eq_zero_or_pos N with h0|h0
  ·subst h0;have HF:=hid hS.stop;clear hS;go_wp2_with fail
   go_ret;exact⟨zak (by have:=HF.out;omega),rfl⟩
  ·rcases Nat.mod_two_eq_zero_or_one N with hz|hz
   ·have HS2:=hid (hS.even HM.out hz);have hz1:((N:Int)%2==1)=false:=by simp;omega
    have hz3:(N:Int)/2=((N/2:Nat):Int):=by omega
    have H3:=hid hz3;clear hS hz hz3;go_wp2_with fail
    refine(zdS X X m _ HM.out hx hx).mono ?_;rintro e w' ⟨rfl,rfl⟩;clear hz1;go_wp2_with fail
    go_round
    case rel=>exact⟨_,N/2,_,rfl,by go_num,rfl,HS2.out⟩
    case measure=>simp[intOf];omega
   ·have HS2:=hid (hS.odd HM.out hz);have hz1:((N:Int)%2==1)=true:=by simp;omega
    clear hS hz;go_wp2_with fail
    refine(zdS P X m _ HM.out hp hx).mono ?_;rintro e w' ⟨rfl,rfl⟩;clear hz1;go_wp2_with fail
    refine(zdS X X m _ HM.out hx hx).mono ?_;rintro e w' ⟨rfl,rfl⟩;go_wp2_with fail
    go_round
    case rel=>exact⟨_,N/2,_,rfl,by go_num,rfl,HS2.out⟩
    case measure=>simp[intOf];omega
def parK(y:Nat):Nat->Nat
 | 0=>0
 | k+1=>(parK y k+y/2^k%2)%2
def par(y:Nat):Nat:=parK y 8
theorem zm7(y:Nat):∀k,parK y k<=1
 | 0=>by simp[parK]
 | k+1=>by rw[parK];omega
theorem ziW(y:Nat):par y<=1:=zm7 y 8
theorem zpT:∀y<256,par (y/16)^^^par (y%16)=par y:=by decide +kernel
def oddT:List Nat:=[0,1,1,0,1,0,0,1,1,0,0,1,0,1,1,0]
theorem zpY:∀h<16,oddT.getD h 0=par h:=by decide +kernel
theorem zjN{a b:Nat}(ha:a<=1)(hb:b<=1)(s:Nat):(a*s)^^^(b*s)=((a+b)%2)*s:=by
 match a,b,ha,hb with
 | 0,0,_,_|0,1,_,_|1,0,_,_|1,1,_,_=>simp
theorem ziA{p k:Nat}(hp:p<=1)(hk:k<8):p*2^k<256:=by
 have:=zsj hk;have h:=Nat.mul_le_mul_right (2^k) hp;omega
def affG(x:Nat)(rs:Nat->Nat)(c:Nat):Nat->Nat
 | 0=>c
 | k+1=>affG x rs c k^^^(par (x&&&rs k)*2^k)
def affN(x:Nat)(rs:Nat->Nat)(c:Nat):Nat:=affG x rs c 8
theorem zeW{x c:Nat}{rs:Nat->Nat}(hc:c<256):∀k,k<=8->affG x rs c k<256
 | 0,_=>hc
 | k+1,h=>zbj (zeW hc k (by omega)) (ziA (ziW _) (by omega))
theorem zrJ{x c:Nat}{rs:Nat->Nat}(hc:c<256):affN x rs c<256:=zeW hc 8 (Nat.le_refl _)
def pwG(m:Nat):Nat->Nat->Nat->Nat->Nat
 | 0,p,_,_=>p
 | f+1,p,x,n=>if n=0 then p else pwG m f (if n%2=1 then gm m p x else p) (gm m x x) (n/2)
def pw(m x n:Nat):Nat:=pwG m 10 1 x n
theorem znI{m:Nat}(hm:zal m):∀(f p x n:Nat),p<256->x<256->n<2^f->pwG m f p x n=gm m p (gp m x n)
 | 0,p,x,n,_,_,hn=>by
   obtain rfl:n=0:=by simpa using hn
   rw[pwG,show gp m x 0=1 from rfl,ziR]
 | f+1,p,x,n,hp,hx,hn=>by
   rw[pwG];by_cases h0:n=0
   ·subst h0;rw[if_pos rfl,show gp m x 0=1 from rfl,ziR]
   ·rw[if_neg h0];have h2:n/2<2^f:=by rw[Nat.pow_succ] at hn;omega
    by_cases h1:n%2=1
    ·rw[if_pos h1,znI hm f _ _ _ (zc7 hm hp _) (zc7 hm hx _) h2,zfF hm hp hx h1]
    ·rw[if_neg h1,znI hm f _ _ _ hp (zc7 hm hx _) h2,<-zfi hm hx (by omega)]
theorem zuC{m x n:Nat}(hm:zal m)(hx:x<256)(hn:n<1024):pw m x n=gp m x n:=by
 unfold pw;rw[znI hm 10 1 x n (by omega) hx hn,zcE hm (zhX hm _)]
theorem zoi(A A':Option Addr)(n c c':Nat)(xs ys:List UInt8)(w:World)(h:Rd w w.heap.size A n xs)(h':Rd w w.heap.size A' n ys)(hn:n<=140737488355328):
  Calls Tryz.prog 44 #[.slice A n c,.slice A' n c'] w fun e w'=>∃v,e=.returned (.tuple #[v,.bool true])/\Own w' w.heap.size v (xorL xs ys n)/\Below w.heap.size w w':=by
 go_enter Tryz.func44,Tryz.ntmps44;go_wp2_with (at_make;refine zaP rfl (.tmp 15) (.tmp 15) 22 rfl Tryz.underlying22 Tryz.info5 .i64 n n rfl rfl rfl (by omega) w.heap.size (Nat.le_refl _) ?_;intro w1 hown1 hb1 _)
 go_loopw [19] (fun i wr=>∃k:Nat,k<=n/\i=.int .i64 k/\Own wr w.heap.size (.slice (some ⟨w.heap.size,0,none⟩) n n) (zao (xorF xs ys) n k)/\Below w.heap.size w wr) (fun i _=>n-(intOf i).toNat)
 case atStart=>exact⟨0,Nat.zero_le _,rfl,by rw[zaG];exact hown1,hb1⟩
 case round =>
  obtain⟨k,hk,rfl,hown,hb⟩:=hrel;by_cases hlt:k<n
  ·obtain⟨b1,o1,rfl,hb1',hc1⟩:=(h.below hb (Nat.le_refl _)).at_ (by omega);obtain⟨b2,o2,rfl,hb2',hc2⟩:=(h'.below hb (Nat.le_refl _)).at_ (by omega);have hck1:=hc1 k hlt;have hck2:=hc2 k hlt;have r1:=zae xs k;have r2:=zaf xs k;have r3:=zae ys k;have r4:=zaf ys k;obtain⟨cur,hcur⟩:∃cur,zao (xorF xs ys) n k=cur:=⟨_,rfl⟩;have hcl:cur.length=n:=by rw[<-hcur];exact zad _ _ _
   rw[hcur] at hown;have hown0:Own wr w.heap.size (.slice (some ⟨w.heap.size,0,none⟩) cur.length n) cur:=by rw[hcl];exact hown
   have hcell:=hown0.cell k (by omega);have hfree:=hown0.free k;have hset:=hown0.set_ k (xorF xs ys k);rw[<-hcur,zaO _ _ _ _ rfl,zad] at hset;rw[zhv] at hset;have HH:=hid hset;have HB:=hid hb;clear hset hown0 hown hb hcl hcur hown1 hb1 h h' hc1 hc2;go_wp2;go_roundw
   case rel=>exact⟨k+1,by omega,by go_num,HH.out,HB.out.setCell (by simp) _⟩
   case measure=>simp[intOf];omega
  ·obtain rfl:k=n:=by omega
   have HH:=hid (And.intro hown hb);clear hown hb hown1 hb1;go_wp2;go_ret2;exact⟨_,rfl,by have:=HH.out.1;rw[zaE] at this;exact this,HH.out.2⟩
theorem zeE(A A':Option Addr)(n c c':Nat)(xs ys:List UInt8)(w:World)(h:Rd w w.heap.size A n xs)(h':Rd w w.heap.size A' n ys)(hn:n<=140737488355328):
  Calls Tryz.prog 27 #[.slice A n c,.slice A' n c'] w (RetB w (xorL xs ys n)):=by
 go_enter Tryz.func27,Tryz.ntmps27;go_wp2_with (at_make;refine zaP rfl (.tmp 8) (.tmp 8) 22 rfl Tryz.underlying22 Tryz.info5 .i64 n n rfl rfl rfl (by omega) w.heap.size (Nat.le_refl _) ?_;intro w1 hown1 hb1 _)
 go_loopw [6] (fun i wr=>∃k:Nat,k<=n/\i=.int .i64 k/\Own wr w.heap.size (.slice (some ⟨w.heap.size,0,none⟩) n n) (zao (xorF xs ys) n k)/\Below w.heap.size w wr) (fun i _=>n-(intOf i).toNat)
 case atStart=>exact⟨0,Nat.zero_le _,rfl,by rw[zaG];exact hown1,hb1⟩
 case round =>
  obtain⟨k,hk,rfl,hown,hb⟩:=hrel;by_cases hlt:k<n
  ·obtain⟨b1,o1,rfl,hb1',hc1⟩:=(h.below hb (Nat.le_refl _)).at_ (by omega);obtain⟨b2,o2,rfl,hb2',hc2⟩:=(h'.below hb (Nat.le_refl _)).at_ (by omega);have hck1:=hc1 k hlt;have hck2:=hc2 k hlt;have r1:=zae xs k;have r2:=zaf xs k;have r3:=zae ys k;have r4:=zaf ys k;obtain⟨cur,hcur⟩:∃cur,zao (xorF xs ys) n k=cur:=⟨_,rfl⟩;have hcl:cur.length=n:=by rw[<-hcur];exact zad _ _ _
   rw[hcur] at hown;have hown0:Own wr w.heap.size (.slice (some ⟨w.heap.size,0,none⟩) cur.length n) cur:=by rw[hcl];exact hown
   have hcell:=hown0.cell k (by omega);have hfree:=hown0.free k;have hset:=hown0.set_ k (xorF xs ys k);rw[<-hcur,zaO _ _ _ _ rfl,zad] at hset;rw[zhv] at hset;have HH:=hid hset;have HB:=hid hb;clear hset hown0 hown hb hcl hcur hown1 hb1 h h' hc1 hc2;go_wp2;go_region;go_wp2;go_roundw
   case rel=>exact⟨k+1,by omega,by go_num,HH.out,(HB.out.setCell (by simp) _).drew⟩
   case measure=>simp[intOf];omega
  ·obtain rfl:k=n:=by omega
   have HH:=hid (And.intro hown hb);clear hown hb hown1 hb1;go_wp2;go_ret;exact⟨_,rfl,by have:=HH.out.1;rw[zaE] at this;exact this,HH.out.2⟩
theorem zch(v:Int)(n:Nat)  (w:World)(hn:n<=8):
  Calls Tryz.prog 193 #[.int .u64 v,.int .i64 n] w (RetB w (zay v n)):=by
 go_enter Tryz.func193,Tryz.ntmps193;go_wp2_with (at_make;refine zaP rfl (.tmp 7) (.tmp 7) 22 rfl Tryz.underlying22 Tryz.info5 .i64 n n rfl rfl rfl (by omega) w.heap.size (Nat.le_refl _) ?_;intro w1 hown1 hb1 _)
 go_loopw [11] (fun i wr=>∃k:Nat,k<=n/\i=.int .i64 k/\Own wr w.heap.size (.slice (some ⟨w.heap.size,0,none⟩) n n) (zao (za6 v n) n k)/\Below w.heap.size w wr) (fun i _=>n-(intOf i).toNat)
 case atStart=>exact⟨0,Nat.zero_le _,rfl,by rw[zaG];exact hown1,hb1⟩
 case round =>
  obtain⟨k,hk,rfl,hown,hb⟩:=hrel;by_cases hlt:k<n
  ·obtain⟨cur,hcur⟩:∃cur,zao (za6 v n) n k=cur:=⟨_,rfl⟩;have hcl:cur.length=n:=by rw[<-hcur];exact zad _ _ _
   rw[hcur] at hown;have hown0:Own wr w.heap.size (.slice (some ⟨w.heap.size,0,none⟩) cur.length n) cur:=by rw[hcl];exact hown
   have hcell:=hown0.cell k (by omega);have hfree:=hown0.free k;have hset:=hown0.set_ k (za6 v n k);rw[<-hcur,zaO _ _ _ _ rfl,zad] at hset;have hval:((za6 v n k).toNat:Int)=v/2^(8*(n-1-k))%256:=by unfold za6;exact zbB _
   rw[hval] at hset;have HH:=hid hset;have HB:=hid hb;clear hset hval hown0 hown hb hcl hcur hown1 hb1;go_wp2;go_roundw
   case rel=>exact⟨k+1,by omega,by go_num,HH.out,HB.out.setCell (by simp) _⟩
   case measure=>simp[intOf];omega
  ·obtain rfl:k=n:=by omega
   have HH:=hid (And.intro hown hb);clear hown hb hown1 hb1;go_wp2;go_ret;exact⟨_,rfl,by have:=HH.out.1;rw[zaE] at this;exact this,HH.out.2⟩
theorem zgl(v:Int)(w:World):
  Calls Tryz.prog 188 #[.int .u64 v] w (RetB w (zay v 8)):=by
 go_enter Tryz.func188,Tryz.ntmps188;go_wp2_with (go_at_call 193;refine(zch _ 8 _ (by omega)).mono ?_;rintro e w' ⟨x,rfl,hx,hb⟩)
 go_ret;exact⟨_,rfl,hx,hb⟩
theorem zgX(v:Int)(w:World):
  Calls Tryz.prog 84 #[.int .u32 v] w (RetB w (zct v)):=by
 go_enter Tryz.func84,Tryz.ntmps84;go_wp2;go_ret;refine⟨_,rfl,?_,(Below.refl _ _).alloc (Nat.le_refl _) _⟩;exact Own.lit w (zct v) _ 4 w.heap.size (by simp[zct,cellsOf,zbB]) rfl (by unfold maxLen;omega) (Nat.le_refl _)
theorem zgP(v:Int)(w:World):
  Calls Tryz.prog 150 #[.int .u64 v] w (RetB w (zay v 8)):=by
 go_enter Tryz.func150,Tryz.ntmps150;go_wp2_with fail
 refine(zgX _ _).mono ?_;rintro e w1 ⟨x,rfl,hx,hb⟩;go_wp2_with fail
 refine(zgX _ _).mono ?_;rintro e w2 ⟨y,rfl,hy,hb2⟩;have hx2:=hx.kept hb2;obtain⟨A,c,rfl,hrd,_,_⟩:=hy.rd;have hsz:=hb.size;have hsz2:=hb2.size;go_wp2_with (at_builtin;refine za9 _ rfl (.tmp 6) (.tmp 9) 22 rfl Tryz.underlying22 Tryz.info5 w.heap.size x _ rfl hx2 _ A _ c _ rfl hrd (by simp[zct]) (by omega) ?_;intro v3 w3 hown3 hb3)
 go_ret;refine⟨_,rfl,?_,((hb.trans (hb2.mono hsz)).trans hb3)⟩;rw[zr7];have e:zct (v/4294967296)=zct (v/4294967296%4294967296):=by
  simp only[zct];congr 1
  ·apply zcQ;omega
  congr 1
  ·apply zcQ;omega
  congr 1
  ·apply zcQ;omega
  congr 1;apply zcQ;omega
 rw[e];exact hown3
theorem zp8:(Tryz.prog.info? 184).map (·.size)=some 8:=by kernel_rfl
theorem zo{bs:List UInt8}(h:bs.length=8):(Tryz.prog.info? 184).map (·.size)=some (cellsOf bs).toArray.size:=by rw[zp8];simp[cellsOf,h]
theorem zjP(w:World)(bs:List UInt8)(k:Nat)(h:bs.length=8)(hk:k<8):
  (Instr.index 184 (.agg (cellsOf bs).toArray) (.int .i64 k)).run Tryz.prog w=.ok (.int .u8 (nb bs k:Nat)) w:=by
 have hc:(cellsOf bs)[k]? = some (.int .u8 (zah bs k)):=zam bs k (by omega);simp only[Instr.index,asIntOf,Sem.run_bind,Sem.run_pure,Result.andThen_ok,run_underlying Tryz.underlying184];rw[if_pos ⟨by omega,by omega⟩];simp[part,hc,zaV]
def Odd(w:World):Prop:=∀j,j<16->w.cell? ⟨6,j,none⟩=some (.int .u8 (oddT.getD j 0:Nat))
theorem Odd.later{w w':World}(h:Odd w)(hx:Ext w w'):Odd w':=fun j hj =>
 (Below.cell hx (p:=⟨6,j,none⟩) (World.block_lt_of_cell? w _ (h j hj))).trans (h j hj)
theorem zkl(a b:Nat)(ha:a<256)(hb:b<256):bits .and .u8 (a:Int) (b:Int)=((a&&&b:Nat):Int):=u8_and_nat a b ha hb
theorem zmy{a b:Nat}(ha:a<256):a&&&b<256:=Nat.lt_of_le_of_lt Nat.and_le_left ha
theorem zrP(x c:Nat)(bs:List UInt8)(w:World)(hb:bs.length=8)(hx:x<256)(hc:c<256)(ho:Odd w):
  Calls Tryz.prog 168 #[.int .u8 x,.agg (cellsOf bs).toArray,.int .u8 c] w fun e w'=>e=.returned (.int .u8 (affN x (nb bs) c:Nat))/\Ext w w':=by
 go_enter Tryz.func168,Tryz.ntmps168;go_wp2_with (refine wpList_load_row rfl 184 (.tmp 4) rfl w.heap.size rfl 184 (cellsOf bs).toArray (0,0) _ (heap_alloc_new w _) Tryz.underlying184 rfl (zo hb) ?_)
 go_loopw [2,11] (fun v i wr=>∃k:Nat,k<=8/\i=.int .i64 k/\v=.int .u8 (affG x (nb bs) c k:Nat)/\Ext w wr) (fun _ i _=>8-(intOf i).toNat)
 case atStart=>exact⟨0,Nat.zero_le _,rfl,rfl,Ext.alloc _ _⟩
 case round =>
  obtain⟨k,hk,rfl,rfl,hxt⟩:=hrel;have HX:=hid hxt;by_cases hlt:k<8
  ·have hR:=zcW bs k;have hA:=zeW (x:=x) (rs:=nb bs) hc k hk;obtain⟨R,hRe⟩:∃R,nb bs k=R:=⟨_,rfl⟩;obtain⟨B,hB⟩:∃B,x&&&R=B:=⟨_,rfl⟩;have hBl:B<256:=by rw[<-hB];exact zmy hx
   have hand:=zkl x R hx (by omega);rw[hB] at hand;have hS:affG x (nb bs) c (k+1)=affG x (nb bs) c k^^^(par B*2^k):=by rw[affG,hRe,hB]
   obtain⟨C,hC⟩:∃C,affG x (nb bs) c k=C:=⟨_,rfl⟩;rw[hC] at hA hS ⊢;have h1:=(ho.later hxt) (B/16) (by omega);have h2:=(ho.later hxt) (B%16) (by omega);rw[zpY _ (by omega)] at h1 h2;have hp1:=ziW (B/16);have hp2:=ziW (B%16);have hph:=zpT B hBl;have hp3:=ziW B;have hbl:=ziA hp3 hlt;obtain⟨p1,hp1e⟩:∃p,par (B/16)=p:=⟨_,rfl⟩;obtain⟨p2,hp2e⟩:∃p,par (B%16)=p:=⟨_,rfl⟩;obtain⟨p,hpe⟩:∃p,par B=p:=⟨_,rfl⟩;rw[hp1e] at h1 hp1 hph;rw[hp2e] at h2 hp2 hph;rw[hpe] at hph hp3 hbl hS;have hx1:=u8_xor_nat p1 p2 (by omega) (by omega);rw[hph] at hx1;have hx2:=u8_xor_nat C (p*2^k) hA hbl;rw[<-hS] at hx2;have hm:bits .and .u8 (B:Int) 15=((B%16:Nat):Int):=by rw[show(15:Int)=((15:Nat):Int) from rfl,u8_and_nat _ _ hBl (by omega)];rw[show(15:Nat)=2^4-1 from rfl,Nat.and_two_pow_sub_one_eq_mod]
   have hpk:((p*2^k:Nat):Int)=(p:Int)*2^k:=by push_cast;rfl
   have hsh:(p:Int)*2^k%256=((p*2^k:Nat):Int):=by rw[<-hpk];omega
   rw[hpk] at hx2;have HX2:=hid hx2;have HRE:=hid hRe;clear hC hS hRe hB hp1e hp2e hpe hph hxt ho hx2 hpk;go_wp2_with fail
   rw[zjP _ _ _ hb hlt];simp only[Result.andThen];rw[Oper.upon_value];rw[HRE.out];go_wp2_with fail
   go_quiet (fail)
   go_wp2_with fail
   go_roundw
   case rel=>exact⟨k+1,by omega,by go_num,by rw[HX2.out],below_drewN' HX.out nq⟩
   case measure=>simp[intOf];omega
  ·obtain rfl:k=8:=by omega
   clear hxt ho;have hl:=zeW (x:=x) (rs:=nb bs) hc 8 hk;go_wp2_with fail
   go_ret;exact⟨rfl,HX.out⟩
def Arr8(w:World)(G:Nat)(bs:List UInt8):Prop:=w.heap[G]? = some (.cells (cellsOf bs).toArray 184 (0,0))
theorem Arr8.lt{w:World}{G:Nat}{bs:List UInt8}(h:Arr8 w G bs):G<w.heap.size:=(Array.getElem?_eq_some_iff.1 h).1
theorem Arr8.later{w w':World}{G:Nat}{bs:List UInt8}(h:Arr8 w G bs)(hx:Ext w w'):Arr8 w' G bs:=(hx.block G h.lt).trans h
theorem Arr8.cell{w:World}{G:Nat}{bs:List UInt8}(h:Arr8 w G bs)(k:Nat)(hk:k<bs.length):w.cell? ⟨G,k,none⟩=some (.int .u8 (nb bs k:Nat)):=by
 rw[cell_of_row w G k _ _ _ h];simpa [zaV] using zam bs k hk
theorem zlw{C p b i:Nat}(hp:p<=1)(hb:b<=1):(C^^^(p*2^i))^^^(b*2^i)=C^^^(((p+b)%2)*2^i):=by
 rw[Nat.xor_assoc,zjN hp hb]
theorem zp2(x c:Nat)(bs:List UInt8)(w:World)(hb:bs.length=8)(hx:x<256)(hc:c<256):
  Calls Tryz.prog 147 #[.int .u8 x,.agg (cellsOf bs).toArray,.int .u8 c] w fun e w'=>e=.returned (.int .u8 (affN x (nb bs) c:Nat))/\Ext w w':=by
 have hA0:Arr8 (w.alloc (.cells (cellsOf bs).toArray 184)) w.heap.size bs:=heap_alloc_new w _;have hE0:=Ext.alloc w (.cells (cellsOf bs).toArray 184);go_enter Tryz.func147,Tryz.ntmps147;go_wp2_with fail
 obtain⟨W1,hW1⟩:∃W1,w.alloc (.cells (cellsOf bs).toArray 184)=W1:=⟨_,rfl⟩;rw[hW1] at hA0 hE0 ⊢;obtain⟨G,hG⟩:∃G,w.heap.size=G:=⟨_,rfl⟩;rw[hG] at hA0 ⊢;have HE:=hid hE0;clear hW1 hE0 hG;go_loop [2,7] (fun v i=>∃k:Nat,k<=8/\i=.int .i64 k/\v=.int .u8 (affG x (nb bs) c k:Nat)) (fun _ i=>8-(intOf i).toNat)
 case atStart=>exact⟨0,Nat.zero_le _,rfl,rfl⟩
 case round =>
  obtain⟨k,hk,rfl,rfl⟩:=hrel;by_cases hlt:k<8
  ·have hcell:=hA0.cell k (by omega);have hR:=zcW bs k;have hA:=zeW (x:=x) (rs:=nb bs) hc k hk;have hS:affG x (nb bs) c (k+1)=affG x (nb bs) c k^^^(par (x&&&nb bs k)*2^k):=rfl;obtain⟨R,hRe⟩:∃R,nb bs k=R:=⟨_,rfl⟩;obtain⟨B,hB⟩:∃B,x&&&R=B:=⟨_,rfl⟩;have hBl:B<256:=by rw[<-hB];exact zmy hx
   have hand:=zkl R x (by omega) hx;rw[Nat.and_comm,hB] at hand;rw[hRe,hB] at hS;rw[hRe] at hcell hR;obtain⟨C,hC⟩:∃C,affG x (nb bs) c k=C:=⟨_,rfl⟩;rw[hC] at hA hS ⊢;have HS:=hid hS;clear hS hC hB hRe;go_wp2_with fail
   clear hcell hand;go_loop [2,9] (fun v i=>∃j:Nat,j<=8/\i=.int .u64 j/\v=.int .u8 (C^^^(parK B j*2^k):Nat)) (fun _ i=>8-(intOf i).toNat)
   case atStart=>exact⟨0,Nat.zero_le _,rfl,by simp[parK]⟩
   case round =>
    obtain⟨j,hj,rfl,rfl⟩:=hrel;by_cases hjt:j<8
    ·have hp:=zm7 B j;have hb1:B/2^j%2<=1:=by omega
     have hst:=zlw (C:=C) (i:=k) hp hb1;have hl1:=zbj hA (ziA hp hlt);have hl2:=ziA hb1 hlt;have hm:=ze6 (B/2^j) (Nat.lt_of_le_of_lt (Nat.div_le_self _ _) hBl);obtain⟨b,hbe⟩:∃b,B/2^j%2=b:=⟨_,rfl⟩;rw[hbe] at hm hst hb1 hl2;have hK:parK B (j+1)=(parK B j+b)%2:=by rw[parK,hbe]
     obtain⟨Y,hY⟩:∃Y,C^^^(parK B j*2^k)=Y:=⟨_,rfl⟩;rw[hY] at hst hl1 ⊢;rw[<-hK] at hst;have hx2:=u8_xor_nat Y (b*2^k) hl1 hl2;have hpk:((b*2^k:Nat):Int)=(b:Int)*2^k:=by push_cast;rfl
     have hsh:(b:Int)*2^k%256=(b:Int)*2^k:=by rw[<-hpk];omega
     have hdv:((B/2^j:Nat):Int)=(B:Int)/2^j:=by simp
     rw[hdv] at hm;rw[hst,hpk] at hx2;have HX2:=hid hx2;clear hY hK hbe hst hx2 hpk hdv;go_wp2_with fail
     go_round
     case rel=>exact⟨j+1,by omega,by go_num,by rw[HX2.out]⟩
     case measure=>simp[intOf];omega
    ·obtain rfl:j=8:=by omega
     have hB2:=zbj hA (ziA (ziW B) hlt);go_wp2_with fail
     go_round
     case rel=>exact⟨k+1,by omega,by go_num,by rw[HS.out];rfl⟩
     case measure=>simp[intOf];omega
  ·obtain rfl:k=8:=by omega
   have hl:=zeW (x:=x) (rs:=nb bs) hc 8 hk;go_wp2_with fail
   go_ret;exact⟨rfl,HE.out⟩
theorem below_setRow{B g:Nat}{a w:World}(h:Below B a w)(hg:B<=g)(cs:Array Value):Below B a (w.setRow g cs) :=
 ⟨h.os,h.tape,h.output,by rw[setRow_size];exact h.size,fun i hi=>(setRow_other w g i cs (by omega)).trans (h.block i hi)⟩
theorem zbk(bs:List UInt8):(cellsOf bs).toArray.all (·.oneCell')=true:=by
 rw[Array.all_eq_true_iff_forall_mem];intro v hv;exact zby bs v (by simpa using hv)
theorem zaU{fn:Func}{R:Ending->World->Prop}{a:Act}{w:World}{p:Tmp}{ty e:TypeId}{N:Nat}(hres:fn.results=#[.cell p ty])(hd:a.defers = [])(g:Nat)(t:TypeId)(cs:Array Value)(fr:Nat×Nat)
  (hp:a.tmps.getD p undef=.pointer (some ⟨g,0,none⟩)) (hg:w.heap[g]? = some (.cells cs t fr)) (hu:Tryz.prog.underlying ty=some (.array N e))
  (hi:(Tryz.prog.info? ty).map (·.size)=some cs.size) (h:R (.returned (.agg cs)) w):
  bodyPost Tryz.prog fn R .ret a w:=bodyPost_ret (results_cell_row hres _ _ g t cs fr _ hp hg hu rfl hi) hd h
theorem zc98:Tryz.zeroCells249=Array.replicate 256 (.bool false):=by kernel_rfl
theorem zui:(Tryz.prog.info? 249).map (·.size)=some 256:=by kernel_rfl
def cB(l:List Bool):List Value:=l.map Value.bool
theorem zms(l:List Bool)(j:Nat)(h:j<l.length):(cB l)[j]? = some (.bool (l.getD j false)):=by simp[cB,h]
theorem zm5(l:List Bool)(k:Nat)(b:Bool):(cB l).toArray.setIfInBounds k (.bool b)=(cB (l.set k b)).toArray:=by simp[cB,List.map_set]
theorem zqC(l:List Bool):(cB l).toArray.all (·.oneCell')=true:=by
 rw[Array.all_eq_true_iff_forall_mem];intro v hv;simp only[cB,List.mem_toArray,List.mem_map] at hv;obtain⟨b,_,rfl⟩:=hv;rfl
theorem zrX:(cB (List.replicate 256 false)).toArray=Array.replicate 256 (.bool false):=by
 apply Array.toList_inj.1;rw[cB,List.map_replicate,Array.toList_replicate]
def Set8(w:World)(G:Nat)(l:List Bool):Prop:=w.heap[G]? = some (.cells (cB l).toArray 249 (0,0))
theorem Set8.lt{w:World}{G:Nat}{l:List Bool}(h:Set8 w G l):G<w.heap.size:=(Array.getElem?_eq_some_iff.1 h).1
theorem Set8.later{w w':World}{G:Nat}{l:List Bool}(h:Set8 w G l)(hx:Ext w w'):Set8 w' G l:=(hx.block G h.lt).trans h
theorem Set8.cell{w:World}{G:Nat}{l:List Bool}(h:Set8 w G l)(k:Nat)(hk:k<l.length):w.cell? ⟨G,k,none⟩=some (.bool (l.getD k false)):=by
 rw[cell_of_row w G k _ _ _ h];simpa using zms l k hk
theorem zmv{l:List Bool}(h:l.length=256):(Tryz.prog.info? 249).map (·.size)=some (cB l).toArray.size:=by rw[zui];simp[cB,h]
theorem Set8.new(w:World):Set8 (w.alloc (.cells (Array.replicate 256 (.bool false)) 249)) w.heap.size (List.replicate 256 false):=by
 unfold Set8;rw[zrX];exact heap_alloc_new w _
theorem zox(A:Option Addr)(n c:Nat)(bs:List UInt8)(w:World)(h:Rd w w.heap.size A n bs)(hn:n<=140737488355328):
  Calls Tryz.prog 185 #[.slice A n c] w fun e w'=>e=.returned (.agg (cB (setG (nb bs) n)).toArray)/\Ext w w':=by
 have hl:=h.len;go_enter Tryz.func185,Tryz.ntmps185;go_wp2_with fail
 rw[zc98];have h1:=Set8.new w;have x1:=Ext.alloc w (.cells (Array.replicate 256 (.bool false)) 249);obtain⟨W1,hW1⟩:∃W1,w.alloc (.cells (Array.replicate 256 (.bool false)) 249)=W1:=⟨_,rfl⟩;rw[hW1] at h1 x1 ⊢;have hz1:W1.heap.size=w.heap.size+1:=by rw[<-hW1];simp
 clear hW1;have h2:=Set8.new W1;have x2:=Ext.alloc W1 (.cells (Array.replicate 256 (.bool false)) 249);obtain⟨W2,hW2⟩:∃W2,W1.alloc (.cells (Array.replicate 256 (.bool false)) 249)=W2:=⟨_,rfl⟩;rw[hW2] at h2 x2 ⊢;rw[hz1] at h2;obtain⟨G,hG⟩:∃G,w.heap.size=G:=⟨_,rfl⟩;rw[hG] at h1 h2 ⊢;have HH:=hid (show Set8 W2 G (setG (nb bs) 0)/\Set8 W2 (G+1) (setG (nb bs) 0)/\Ext w W2 from⟨h1.later x2,h2,x1.trans x2⟩);have HG:=hid hG;clear hW2 h1 h2 x1 x2 hG hz1;go_wp2_with fail
 go_loopw [8] (fun i wr=>∃k:Nat,k<=n/\i=.int .i64 k/\Set8 wr G (setG (nb bs) 0)/\Set8 wr (G+1) (setG (nb bs) k)/\Ext w wr) (fun i _=>n-(intOf i).toNat)
 case atStart=>exact⟨0,by omega,rfl,HH.out⟩
 case round =>
  obtain⟨k,hk,rfl,ha1,ha2,hx⟩:=hrel;clear HH;by_cases hlt:k<n
  ·obtain⟨b1,o1,rfl,hb1',hc1⟩:=(h.below hx (Nat.le_refl _)).at_ (by omega);have hck:=hc1 k hlt;rw[zaV] at hck;have hbl:=zcW bs k;have hS:setG (nb bs) (k+1)=(setG (nb bs) k).set (nb bs k) true:=rfl;obtain⟨p,hp⟩:∃p,nb bs k=p:=⟨_,rfl⟩;rw[hp] at hck hbl hS;have hfr:=frozen_of_row wr (G+1) p _ 249 ha2;have hold:=ha2.cell p (by rw[zaL];exact hbl);have hset:=heap_setCell_same wr (G+1) p _ 249 (.bool true) ha2;rw[zm5,<-hS] at hset;have HS:=hid (show Set8 (wr.setCell ⟨G+1,p,none⟩ (.bool true)) (G+1) (setG (nb bs) (k+1)) from hset);have hset1:=heap_setCell_other wr ⟨G+1,p,none⟩ G (.bool true) (by simp);have HS1:=hid (show Set8 (wr.setCell ⟨G+1,p,none⟩ (.bool true)) G (setG (nb bs) 0) from hset1.trans ha1);have HX:=hid (Below.setCell hx (p:=⟨G+1,p,none⟩) (by have:=HG.out;simp;omega) (.bool true));clear hc1 ha1 ha2 hx hset hset1 hp hS;go_wp2_with fail
   go_roundw
   case rel=>exact⟨k+1,by omega,by go_num,HS1.out,HS.out,HX.out⟩
   case measure=>simp[intOf];omega
  ·obtain rfl:k=n:=by omega
   have HA1:=hid ha1;have HA2:=hid ha2;have hsz:(Tryz.prog.info? 249).map (·.size)=some (cB (setG (nb bs) k)).toArray.size:=zmv (zaL _ k);have hss:(cB (setG (nb bs) 0)).toArray.size=(cB (setG (nb bs) k)).toArray.size:=by simp[cB,zaL]
   have HSR:=hid (setRow_heap wr G _ (cB (setG (nb bs) k)).toArray 249 (0,0) ha1);have HXR:=hid (below_setRow hx (g:=G) (by have:=HG.out;omega) (cB (setG (nb bs) k)).toArray);have HSZ:=hid (And.intro hsz hss);clear ha1 ha2 hx hsz hss;go_wp2_with (first
    | (refine wpList_load_row rfl 249 (.tmp 3) rfl (G+1) rfl 249 (cB (setG (nb bs) k)).toArray (0,0) _ HA2.out Tryz.underlying249 rfl HSZ.out.1 ?_)
    | (refine wpList_store_row rfl 249 (.tmp 2) (.tmp 15) rfl G (cB (setG (nb bs) k)).toArray rfl rfl 249 _ HA1.out HSZ.out.1 HSZ.out.2 (zqC _) ?_))
   refine zaU rfl rfl G 249 _ (0,0) rfl HSR.out Tryz.underlying249 HSZ.out.1 ⟨rfl,HXR.out⟩
theorem zhN(n:Nat)(w:World)(hn:n<=256):
  Calls Tryz.prog 186 #[.int .i64 n] w fun e w'=>e=.returned (.agg (cB (setG (fun i=>i) n)).toArray)/\Ext w w':=by
 go_enter Tryz.func186,Tryz.ntmps186;go_wp2_with fail
 rw[zc98];have h1:=Set8.new w;have x1:=Ext.alloc w (.cells (Array.replicate 256 (.bool false)) 249);obtain⟨W1,hW1⟩:∃W1,w.alloc (.cells (Array.replicate 256 (.bool false)) 249)=W1:=⟨_,rfl⟩;rw[hW1] at h1 x1 ⊢;have hz1:W1.heap.size=w.heap.size+1:=by rw[<-hW1];simp
 clear hW1;have h2:=Set8.new W1;have x2:=Ext.alloc W1 (.cells (Array.replicate 256 (.bool false)) 249);obtain⟨W2,hW2⟩:∃W2,W1.alloc (.cells (Array.replicate 256 (.bool false)) 249)=W2:=⟨_,rfl⟩;rw[hW2] at h2 x2 ⊢;rw[hz1] at h2;obtain⟨G,hG⟩:∃G,w.heap.size=G:=⟨_,rfl⟩;rw[hG] at h1 h2 ⊢;have HH:=hid (show Set8 W2 G (setG (fun i=>i) 0)/\Set8 W2 (G+1) (setG (fun i=>i) 0)/\Ext w W2 from⟨h1.later x2,h2,x1.trans x2⟩);have HG:=hid hG;clear hW2 h1 h2 x1 x2 hG hz1;go_wp2_with fail
 go_loopw [6] (fun i wr=>∃k:Nat,k<=n/\i=.int .i64 k/\Set8 wr G (setG (fun i=>i) 0)/\Set8 wr (G+1) (setG (fun i=>i) k)/\Ext w wr) (fun i _=>n-(intOf i).toNat)
 case atStart=>exact⟨0,by omega,rfl,HH.out⟩
 case round =>
  obtain⟨k,hk,rfl,ha1,ha2,hx⟩:=hrel;clear HH;by_cases hlt:k<n
  ·have hbl:k<256:=by omega
   have hS:setG (fun i=>i) (k+1)=(setG (fun i=>i) k).set k true:=rfl;have hfr:=frozen_of_row wr (G+1) k _ 249 ha2;have hold:=ha2.cell k (by rw[zaL];exact hbl);have hset:=heap_setCell_same wr (G+1) k _ 249 (.bool true) ha2;rw[zm5,<-hS] at hset;have HS:=hid (show Set8 (wr.setCell ⟨G+1,k,none⟩ (.bool true)) (G+1) (setG (fun i=>i) (k+1)) from hset);have hset1:=heap_setCell_other wr ⟨G+1,k,none⟩ G (.bool true) (by simp);have HS1:=hid (show Set8 (wr.setCell ⟨G+1,k,none⟩ (.bool true)) G (setG (fun i=>i) 0) from hset1.trans ha1);have HX:=hid (Below.setCell hx (p:=⟨G+1,k,none⟩) (by have:=HG.out;simp;omega) (.bool true));clear ha1 ha2 hx hset hset1 hS;go_wp2_with fail
   go_roundw
   case rel=>exact⟨k+1,by omega,by go_num,HS1.out,HS.out,HX.out⟩
   case measure=>simp[intOf];omega
  ·obtain rfl:k=n:=by omega
   have HA1:=hid ha1;have HA2:=hid ha2;have hsz:(Tryz.prog.info? 249).map (·.size)=some (cB (setG (fun i=>i) k)).toArray.size:=zmv (zaL _ k);have hss:(cB (setG (fun i=>i) 0)).toArray.size=(cB (setG (fun i=>i) k)).toArray.size:=by simp[cB,zaL]
   have HSR:=hid (setRow_heap wr G _ (cB (setG (fun i=>i) k)).toArray 249 (0,0) ha1);have HXR:=hid (below_setRow hx (g:=G) (by have:=HG.out;omega) (cB (setG (fun i=>i) k)).toArray);have HSZ:=hid (And.intro hsz hss);clear ha1 ha2 hx hsz hss;go_wp2_with (first
    | (refine wpList_load_row rfl 249 (.tmp 3) rfl (G+1) rfl 249 (cB (setG (fun i=>i) k)).toArray (0,0) _ HA2.out Tryz.underlying249 rfl HSZ.out.1 ?_)
    | (refine wpList_store_row rfl 249 (.tmp 2) (.tmp 12) rfl G (cB (setG (fun i=>i) k)).toArray rfl rfl 249 _ HA1.out HSZ.out.1 HSZ.out.2 (zqC _) ?_))
   refine zaU rfl rfl G 249 _ (0,0) rfl HSR.out Tryz.underlying249 HSZ.out.1 ⟨rfl,HXR.out⟩
theorem zsE(w:World)(l:List Bool)(i:Nat)(h:i<l.length):(part 4 (cB l).toArray (i*1)).run Tryz.prog w=.ok (.bool (l.getD i false)) w:=by
 have hc:=zms l i h;simp[part,Nat.mul_one,hc]
theorem zgc(w:World)(d:Nat)(xs ys:List Bool)(n:Nat)(hx:xs.length=n)(hy:ys.length=n):∀is:List Nat,(∀i ∈ is,i<n) ->
  (Op.eqItems (d+1) 4 1 (cB xs).toArray (cB ys).toArray is).run Tryz.prog w=.ok (is.all fun i=>xs.getD i false==ys.getD i false) w
 | [],_=>by simp[Op.eqItems]
 | i::is,h=>by
   have hi:=h i (by simp);have ih:=zgc w d xs ys n hx hy is (fun j hj=>h j (by simp[hj]));simp only[Op.eqItems,Sem.run_bind,zsE w xs i (by omega),zsE w ys i (by omega),Result.andThen_ok,run_equalIn_bool' w d 4 _ _ Tryz.underlying4,List.all_cons];cases hb:(xs.getD i false==ys.getD i false)
   ·simp
   ·simpa using ih
theorem zkb{xs ys:List Bool}{n:Nat}(hx:xs.length=n)(hy:ys.length=n):((List.range n).all fun i=>xs.getD i false==ys.getD i false)=(xs==ys):=by
 rw[Bool.eq_iff_iff,List.all_eq_true,beq_iff_eq];constructor
 ·intro h;apply List.ext_getElem (by omega);intro i h1 h2;have:=h i (List.mem_range.2 (by omega));rw[beq_iff_eq,za1 _ _ _ h1,za1 _ _ _ h2] at this;exact this
 ·rintro rfl i _;simp
theorem zni(w:World)(xs ys:List Bool)(hx:xs.length=256)(hy:ys.length=256):
  (Op.equalIn 10000 249 (.agg (cB xs).toArray) (.agg (cB ys).toArray)).run Tryz.prog w=.ok (xs==ys) w:=by
 obtain⟨i,hi⟩:=info_of_underlying Tryz.underlying4;have hc:Tryz.prog.cellsOf 4=1:=by kernel_rfl
 rw[run_equalIn_array w 9999 _ _ Tryz.underlying249 hi,hc,zgc w 9998 xs ys 256 hx hy _ (fun i hi=>List.mem_range.1 hi),zkb hx hy]
theorem zqg(A:Option Addr)(n c:Nat)(bs:List UInt8)(w:World)(h:Rd w w.heap.size A n bs)(hn:n<=140737488355328):
  Calls Tryz.prog 170 #[.slice A n c] w fun e w'=>e=.returned (.bool (isB bs))/\Ext w w':=by
 have hl:=h.len;by_cases h256:n<=256
 ·have HE:=hid (zru hl h256);go_enter Tryz.func170,Tryz.ntmps170;go_wp2_with fail
  refine(zox A n c bs _ h (by omega)).mono ?_;rintro e w1 ⟨rfl,hx1⟩;go_wp2_with fail
  refine(zhN n _ h256).mono ?_;rintro e w2 ⟨rfl,hx2⟩;have HX:=hid (Ext.trans hx1 hx2);clear hx1 hx2;go_wp2_with fail
  rw[zni _ _ _ (zaL _ _) (zaL _ _),HE.out];simp only[Result.andThen];rw[Oper.upon_value];go_wp2_with fail
  go_ret;exact⟨rfl,HX.out⟩
 ·have hF:isB bs=false:=zfM fun hT=>h256 (by rw[<-hl];exact hT.small)
  have HF:=hid hF;clear hF;go_enter Tryz.func170,Tryz.ntmps170;go_wp2_with fail
  go_ret;rw[HF.out];exact⟨rfl,Ext.refl _⟩
def Seen(w:World)(G:Nat)(l:List Bool):Prop:=w.heap[G]? = some (.cells (cB l).toArray 4 (0,0))
theorem Seen.cell{w:World}{G:Nat}{l:List Bool}(h:Seen w G l)(k:Nat)(hk:k<l.length):w.cell? ⟨G,k,none⟩=some (.bool (l.getD k false)):=by
 rw[cell_of_row w G k _ _ _ h];simpa using zms l k hk
theorem Tryz.info4:(Tryz.prog.info? 4).map (fun i=>(i.zero,i.size,i.bytes))=some (some (.bool false),1,1):=by kernel_rfl
theorem zlR{w:World}{ops:Array Oper}{rest:List Oper}{o:Oper}{a:Act}{Q:Exit->Act->World->Prop}
  (hg:o.guard=none) (l c:Operand) (hop:o.op=Op.makeSlice 241 l c) (hl:a.eval l=.int .i64 256) (hc:a.eval c=.int .i64 256)
  (hK:∀w',Seen w' w.heap.size (List.replicate 256 false)->Ext w w'->wpList Tryz.prog ops Q rest (a.put o.dst (.slice (some ⟨w.heap.size,0,none⟩) 256 256)) w'):
  wpList Tryz.prog ops Q (o::rest) a w:=by
 obtain⟨i0,hi0,hz0,hz1,hz2⟩:=info_parts Tryz.info4;refine wpList_make_full w hg l c 241 hop w.heap.size 4 i0 (.bool false) 1 Tryz.underlying241 hi0 hz0 hz1 .i64 .i64 256 256 256 hl hc rfl rfl (by rw[hz2];omega) (by unfold maxLen;omega) (Nat.le_refl _) ?_;intro w' hown hgr;refine hK w' ?_ ((Below.refl _ _).grown hgr (Nat.le_refl _) (by simp));rcases hown.2 with⟨h1,_⟩|⟨g,cap,cur,h1,_,hh,_,_,hs,ht⟩
 ·cases h1
 ·simp only[Value.slice.injEq,Option.some.injEq,Addr.mk.injEq,and_true,true_and] at h1;obtain⟨rfl,rfl⟩:=h1;unfold Seen;rw[hh];have e1:cur.toList=(madeCells (Value.cells (.bool false)) (256*1)).toList:=by rw[<-ht,List.take_of_length_le (by simp;omega)]
  have e2:(madeCells (Value.cells (.bool false)) (256*1)).toList=cB (List.replicate 256 false):=by rw[Nat.mul_one];have:Value.cells (.bool false)=#[Value.bool false]:=rfl;rw[this,toList_madeCells_one,cB,List.map_replicate]
  rw[e2] at e1;rw[<-e1]
theorem zoY{bs:List UInt8}{n k:Nat}(hlt:∀x,x<k->nb bs x<n)(hk:nb bs k<n):∀x,x<k+1->nb bs x<n:=fun x hx=>by
 rcases Nat.lt_or_ge x k with h1|h1
 ·exact hlt x h1
 ·rw[show x=k by omega];exact hk
theorem zou(A:Option Addr)(n c:Nat)(bs:List UInt8)(w:World)(h:Rd w w.heap.size A n bs)(hn:n<=140737488355328):
  Calls Tryz.prog 149 #[.slice A n c] w fun e w'=>e=.returned (.bool (isB bs))/\Ext w w':=by
 have hl:=h.len;go_enter Tryz.func149,Tryz.ntmps149;go_wp2_with (at_make;refine zlR rfl _ _ rfl rfl rfl ?_;intro w1 hs1 hx1)
 obtain⟨G,hG⟩:∃G,w.heap.size=G:=⟨_,rfl⟩;rw[hG] at hs1 ⊢;have HH:=hid (show Seen w1 G (setG (nb bs) 0)/\Ext w w1 from⟨hs1,hx1⟩);have HG:=hid hG;have HL:=hid hl;clear hs1 hx1 hG hl;go_loopw [4] (fun i wr=>∃k:Nat,k<=n/\i=.int .i64 k/\(∀x,x<k->nb bs x<n)/\(∀x y,x<k->y<k->nb bs x=nb bs y->x=y)/\Seen wr G (setG (nb bs) k)/\Ext w wr) (fun i _=>n-(intOf i).toNat)
 case atStart=>exact⟨0,by omega,rfl,fun x hx=>absurd hx (by omega),fun x y hx=>absurd hx (by omega),HH.out⟩
 case round =>
  obtain⟨k,hk,rfl,hlt,hinj,ha2,hx⟩:=hrel;clear HH;by_cases hkn:k<n
  ·obtain⟨b1,o1,rfl,hb1',hc1⟩:=(h.below hx (Nat.le_refl _)).at_ (by omega);have hck:=hc1 k hkn;rw[zaV] at hck;have hbl:=zcW bs k;by_cases hpn:n<=nb bs k
   ·have hF:isB bs=false:=zfM fun hT=>by rw[HL.out] at hT;have:=hT.lt k hkn;omega
    have HF:=hid hF;have HX:=hid hx;obtain⟨p,hp⟩:∃p,nb bs k=p:=⟨_,rfl⟩;rw[hp] at hck hbl hpn;clear hc1 ha2 hx hp hF hlt hinj;go_wp2_with fail
    go_ret;rw[HF.out];exact⟨rfl,HX.out⟩
   ·have hold:=ha2.cell (nb bs k) (by rw[zaL];exact hbl);have hat:=zh7 (nb bs) k (nb bs k) hbl;cases hb:(setG (nb bs) k).getD (nb bs k) false with
    | true =>
      rw[hb] at hold hat;obtain⟨x,hxk,hxe⟩:=hat.1 rfl;have hF:isB bs=false:=zfM fun hT=>by rw[HL.out] at hT;have:=hT.inj x k (by omega) hkn hxe;omega
      have HF:=hid hF;have HX:=hid hx;obtain⟨p,hp⟩:∃p,nb bs k=p:=⟨_,rfl⟩;rw[hp] at hck hbl hpn hold;clear hc1 ha2 hx hp hF hlt hinj hat hb hxk hxe;go_wp2_with fail
      go_ret;rw[HF.out];exact⟨rfl,HX.out⟩
    | false =>
      rw[hb] at hold hat;have hne:∀x,x<k->nb bs x≠nb bs k:=fun x hxk he=>by have:=hat.2 ⟨x,hxk,he⟩;cases this
      have HLT:=hid (zoY (n:=n) hlt (by omega));have HINJ:=hid (show ∀x y,x<k+1->y<k+1->nb bs x=nb bs y->x=y from fun x y hx1 hy1 he=>by
       rcases Nat.lt_or_ge x k with h1|h1
       ·rcases Nat.lt_or_ge y k with h2|h2
        ·exact hinj x y h1 h2 he
        ·rw[show y=k by omega] at he;exact absurd he (hne x h1)
       ·rcases Nat.lt_or_ge y k with h2|h2
        ·rw[show x=k by omega] at he;exact absurd he.symm (hne y h2)
        ·omega)
      have hS:setG (nb bs) (k+1)=(setG (nb bs) k).set (nb bs k) true:=rfl;obtain⟨p,hp⟩:∃p,nb bs k=p:=⟨_,rfl⟩;rw[hp] at hck hbl hpn hold hS;have hfr:=frozen_of_row wr G p _ 4 ha2;have hset:=heap_setCell_same wr G p _ 4 (.bool true) ha2;rw[zm5,<-hS] at hset;have HS:=hid (show Seen (wr.setCell ⟨G,p,none⟩ (.bool true)) G (setG (nb bs) (k+1)) from hset);have HX:=hid (Below.setCell hx (p:=⟨G,p,none⟩) (by have:=HG.out;simp;omega) (.bool true));clear hc1 ha2 hx hset hp hS hlt hinj hat hb hne;go_wp2_with fail
      go_roundw
      case rel=>exact⟨k+1,by omega,by go_num,HLT.out,HINJ.out,HS.out,HX.out⟩
      case measure=>simp[intOf];omega
  ·obtain rfl:k=n:=by omega
   have hF:isB bs=true:=zfV (n:=k) ⟨HL.out,hlt,hinj⟩;have HF:=hid hF;have HX:=hid hx;clear hF hlt hinj ha2 hx;go_wp2_with fail
   go_ret;rw[HF.out];exact⟨rfl,HX.out⟩
noncomputable def outB (bs:List UInt8):List UInt8:=if isB bs=true then zro bs else []
theorem zjK{n:Nat}{bs:List UInt8}(h:IsT n bs):outB bs=zro bs:=by unfold outB;rw[if_pos (zfV h)]
theorem zrH{bs:List UInt8}(h:isB bs=false):outB bs = []:=by unfold outB;rw[h];rfl
def BackRet(w:World)(bs:List UInt8)(e:Ending)(w':World):Prop :=
 ∃A c,e=.returned (.tuple #[.slice A (outB bs).length c,.bool (isB bs)])/\Rd w' w'.heap.size A (outB bs).length (outB bs)/\Ext w w'
theorem BackRet.bad{w w':World}{bs:List UInt8}(h:isB bs=false)(hx:Ext w w'):BackRet w bs (.returned (.tuple #[.slice none 0 0,.bool false])) w':=by
 unfold BackRet;rw[zrH h,h];exact⟨_,_,rfl,Rd.nil _ _ _,hx⟩
theorem BackRet.good{w w':World}{bs:List UInt8}{n base G:Nat}(h:IsT n bs)(hx:Ext w w')(ho:Own w' base (.slice (some ⟨G,0,none⟩) n n) (zc8 bs n n)):
  BackRet w bs (.returned (.tuple #[.slice (some ⟨G,0,none⟩) n n,.bool true])) w':=by
 unfold BackRet;have e:outB bs=zc8 bs n n:=by rw[zjK h];unfold zro;rw[h.len]
 rw[zfV h,e];obtain⟨A,c,e1,hr,_⟩:=ho.rdn (n:=n) (zcT _ _ _);cases e1
 rw[zcT];exact⟨_,_,rfl,hr,hx⟩
theorem zhi{w:World}{base G n k:Nat}{bs:List UInt8}(h:IsT n bs)(ho:Own w base (.slice (some ⟨G,0,none⟩) n n) (zc8 bs n k))(hk:k<n):
  w.cell? ⟨G,nb bs k,none⟩=some (.int .u8 (nb (zc8 bs n k) (nb bs k):Nat))/\w.frozen? ⟨G,nb bs k,none⟩=false /\
  Own (w.setCell ⟨G,nb bs k,none⟩ (.int .u8 (k:Nat))) base (.slice (some ⟨G,0,none⟩) n n) (zc8 bs n (k+1)):=by
 have hl:=zcT bs n k;have hs:=h.small;have ho':Own w base (.slice (some ⟨G,0,none⟩) (zc8 bs n k).length n) (zc8 bs n k):=by rw[hl];exact ho
 have hc:=ho'.cell (nb bs k) (by rw[hl];exact h.lt k hk);have hf:=ho'.free (nb bs k);have hset:=ho'.set_ (nb bs k) (UInt8.ofNat k);rw[zfp k (by omega),hl] at hset;exact⟨hc,hf,hset⟩
theorem zkp(A:Option Addr)(n c:Nat)(bs:List UInt8)(w:World)(h:Rd w w.heap.size A n bs)(hn:n<=140737488355328):
  Calls Tryz.prog 134 #[.slice A n c] w (BackRet w bs):=by
 have hl:=h.len;cases hb:isB bs with
 | false =>
   have HB:=hid hb;go_enter Tryz.func134,Tryz.ntmps134;go_wp2_with fail
   refine(zqg A n c bs _ h hn).mono ?_;rintro e w1 ⟨rfl,hx1⟩;have HX:=hid hx1;rw[HB.out];clear hb hx1;go_wp2_with fail
   go_ret2;exact BackRet.bad HB.out HX.out
 | true =>
   have hT:IsT n bs:=by have:=zfx.1 hb;rwa[hl] at this
   have hs:=hT.small;have HB:=hid hb;have HT:=hid hT;go_enter Tryz.func134,Tryz.ntmps134;go_wp2_with fail
   refine(zqg A n c bs _ h hn).mono ?_;rintro e w1 ⟨rfl,hx1⟩;have HX:=hid hx1;rw[HB.out];have h1:=h.later hx1;clear hb hx1 hT;go_wp2_with (at_make;refine zaP rfl (.tmp 11) (.tmp 11) 22 rfl Tryz.underlying22 Tryz.info5 .i64 _ n rfl rfl rfl (by omega) w1.heap.size (Nat.le_refl _) ?_;intro w2 hown2 hx2 _)
   have h2:=h1.later hx2;have hz2:=h1.below hx2 (Nat.le_refl _);have HX2:=hid (show Ext w1 w2 from hx2);have hown2':Own w2 w1.heap.size (.slice (some ⟨w1.heap.size,0,none⟩) n n) (zc8 bs n 0):=hown2;obtain⟨G,hG⟩:∃G,w1.heap.size=G:=⟨_,rfl⟩;rw[hG] at hown2' hz2 ⊢;have HO:=hid hown2';have HG:=hid hG;clear hown2 hown2' hx2 h1 h2 hG;go_loopw [15] (fun i wr=>∃k:Nat,k<=n/\i=.int .i64 k/\Own wr G (.slice (some ⟨G,0,none⟩) n n) (zc8 bs n k)/\Ext w1 wr) (fun i _=>n-(intOf i).toNat)
   case atStart=>exact⟨0,by omega,rfl,HO.out,HX2.out⟩
   case round =>
    obtain⟨k,hk,rfl,ho,hx⟩:=hrel;clear HO HX2;by_cases hlt:k<n
    ·have hr:Rd wr G A n bs:=HG.out ▸ ((h.later HX.out).below hx (Nat.le_refl _));obtain⟨b1,o1,rfl,hb1',hc1⟩:=hr.at_ (by omega);have hck:=hc1 k hlt;rw[zaV] at hck;obtain⟨hc,hf,hset⟩:=zhi HT.out ho hlt;have hpl:=HT.out.lt k hlt;have hcl:=zcW (zc8 bs n k) (nb bs k);obtain⟨q,hq⟩:∃q,nb (zc8 bs n k) (nb bs k)=q:=⟨_,rfl⟩;rw[hq] at hc hcl;obtain⟨p,hp⟩:∃p,nb bs k=p:=⟨_,rfl⟩;rw[hp] at hck hc hf hset hpl;have HS:=hid hset;have HX3:=hid (show Ext w1 (wr.setCell ⟨G,p,none⟩ (.int .u8 (k:Nat))) from Below.setCell hx (by have:=HG.out;simp;omega) _);clear hc1 hr ho hx hset hq hp hz2 h;go_wp2_with fail
     go_roundw
     case rel=>exact⟨k+1,by omega,by go_num,HS.out,HX3.out⟩
     case measure=>simp[intOf];omega
    ·obtain rfl:k=n:=by omega
     have HO:=hid ho;have HX3:=hid (Ext.trans HX.out hx);clear ho hx h hz2;go_wp2_with fail
     go_ret2;exact BackRet.good HT.out HX3.out HO.out
theorem ziF(A:Option Addr)(n c:Nat)(bs:List UInt8)(w:World)(h:Rd w w.heap.size A n bs)(hn:n<=140737488355328):
  Calls Tryz.prog 105 #[.slice A n c] w (BackRet w bs):=by
 have hl:=h.len;cases hb:isB bs with
 | false =>
   have HB:=hid hb;go_enter Tryz.func105,Tryz.ntmps105;go_wp2_with fail
   refine(zou A n c bs _ h hn).mono ?_;rintro e w1 ⟨rfl,hx1⟩;have HX:=hid hx1;rw[HB.out];clear hb hx1;go_wp2_with fail
   go_ret2;exact BackRet.bad HB.out HX.out
 | true =>
   have hT:IsT n bs:=by have:=zfx.1 hb;rwa[hl] at this
   have hs:=hT.small;have HB:=hid hb;have HT:=hid hT;go_enter Tryz.func105,Tryz.ntmps105;go_wp2_with fail
   refine(zou A n c bs _ h hn).mono ?_;rintro e w1 ⟨rfl,hx1⟩;have HX:=hid hx1;rw[HB.out];have h1:=h.later hx1;clear hb hx1 hT;go_wp2_with (at_make;refine zaP rfl (.tmp 10) (.tmp 10) 22 rfl Tryz.underlying22 Tryz.info5 .i64 _ n rfl rfl rfl (by omega) w1.heap.size (Nat.le_refl _) ?_;intro w2 hown2 hx2 _)
   have h2:=h1.later hx2;have hz2:=h1.below hx2 (Nat.le_refl _);have HX2:=hid (show Ext w1 w2 from hx2);have hown2':Own w2 w1.heap.size (.slice (some ⟨w1.heap.size,0,none⟩) n n) (zc8 bs n 0):=hown2;obtain⟨G,hG⟩:∃G,w1.heap.size=G:=⟨_,rfl⟩;rw[hG] at hown2' hz2 ⊢;have HO:=hid hown2';have HG:=hid hG;clear hown2 hown2' hx2 h1 h2 hG;go_loopw [5] (fun i wr=>∃k:Nat,k<=n/\i=.int .i64 k/\Own wr G (.slice (some ⟨G,0,none⟩) n n) (zc8 bs n k)/\Ext w1 wr) (fun i _=>n-(intOf i).toNat)
   case atStart=>exact⟨0,by omega,rfl,HO.out,HX2.out⟩
   case round =>
    obtain⟨k,hk,rfl,ho,hx⟩:=hrel;clear HO HX2;by_cases hlt:k<n
    ·have hr:Rd wr G A n bs:=HG.out ▸ ((h.later HX.out).below hx (Nat.le_refl _));obtain⟨b1,o1,rfl,hb1',hc1⟩:=hr.at_ (by omega);have hck:=hc1 k hlt;rw[zaV] at hck;obtain⟨hc,hf,hset⟩:=zhi HT.out ho hlt;have hpl:=HT.out.lt k hlt;have hcl:=zcW (zc8 bs n k) (nb bs k);obtain⟨q,hq⟩:∃q,nb (zc8 bs n k) (nb bs k)=q:=⟨_,rfl⟩;rw[hq] at hc hcl;obtain⟨p,hp⟩:∃p,nb bs k=p:=⟨_,rfl⟩;rw[hp] at hck hc hf hset hpl;have HS:=hid hset;have HX3:=hid (show Ext w1 (wr.setCell ⟨G,p,none⟩ (.int .u8 (k:Nat))) from Below.setCell hx (by have:=HG.out;simp;omega) _);clear hc1 hr ho hx hset hq hp hz2 h;go_wp2_with fail
     go_roundw
     case rel=>exact⟨k+1,by omega,by go_num,HS.out,HX3.out⟩
     case measure=>simp[intOf];omega
    ·obtain rfl:k=n:=by omega
     have HO:=hid ho;have HX3:=hid (Ext.trans HX.out hx);clear ho hx h hz2;go_wp2_with fail
     go_ret2;exact BackRet.good HT.out HX3.out HO.out
theorem _root_.Go.Proofs.YtokbbmngfogbbaaGreatDoor.Own.len_eq{w:World}{base n c:Nat}{A:Option Addr}{xs:List UInt8}(h:Own w base (.slice A n c) xs):xs.length=n:=by
 rcases h.2 with⟨h1,h2⟩|⟨g,cap,cur,h1,_⟩
 ·cases h1;exact h2
 ·cases h1;rfl
theorem _root_.Go.Proofs.YtokbbmngfogbbaaGreatDoor.Own.celln{w:World}{base g n c:Nat}{xs:List UInt8}(h:Own w base (.slice (some ⟨g,0,none⟩) n c) xs)(hn:xs.length=n)(j:Nat)(hj:j<n):
  w.cell? ⟨g,j,none⟩=some (.int .u8 (nb xs j:Nat)):=by
 subst hn;exact h.cell j hj
theorem _root_.Go.Proofs.YtokbbmngfogbbaaGreatDoor.Own.freen{w:World}{base g n c:Nat}{xs:List UInt8}(h:Own w base (.slice (some ⟨g,0,none⟩) n c) xs)(j:Nat):w.frozen? ⟨g,j,none⟩=false:=by
 have:=h.len_eq;subst this;exact h.free j
theorem _root_.Go.Proofs.YtokbbmngfogbbaaGreatDoor.Own.setn{w:World}{base g n c:Nat}{xs:List UInt8}(h:Own w base (.slice (some ⟨g,0,none⟩) n c) xs)(j:Nat)(x:UInt8):
  Own (w.setCell ⟨g,j,none⟩ (.int .u8 (x.toNat:Int))) base (.slice (some ⟨g,0,none⟩) n c) (xs.set j x):=by
 have:=h.len_eq;subst this;exact h.set_ j x
def mkF(e m:Nat)(bs:List UInt8)(c x:Nat):Nat:=affN (gp m x e) (nb bs) c
def mkU(e m:Nat)(bs:List UInt8)(c x:Nat):UInt8:=UInt8.ofNat (mkF e m bs c x)
def mkL(e m:Nat)(bs:List UInt8)(c:Nat):List UInt8:=tabF (mkF e m bs c) 256
theorem zqv{e m c x:Nat}{bs:List UInt8}(hc:c<256):mkF e m bs c x<256:=zrJ hc
theorem cf48(vs:Array Value)(w:World):(callFunc 169 vs).run Tryz.prog w=.ok (.enter 169 vs) w:=by go_simp
theorem cf47(vs:Array Value)(w:World):(callFunc 168 vs).run Tryz.prog w=.ok (.enter 168 vs) w:=by go_simp
theorem cf54(vs:Array Value)(w:World):(callFunc 148 vs).run Tryz.prog w=.ok (.enter 148 vs) w:=by go_simp
theorem cf53(vs:Array Value)(w:World):(callFunc 147 vs).run Tryz.prog w=.ok (.enter 147 vs) w:=by go_simp
theorem retE{w:World}{v:Value}(e:Ending)(w':World)(h:e=.returned v/\w=w'):∃u,e=.returned u/\Ext w w'/\K.holds (.eq v) w' u:=by
 obtain⟨rfl,rfl⟩:=h;exact⟨_,rfl,Ext.refl _,rfl⟩
theorem zgs{o:Oper}{a:Act}{w:World}{t:Tmp}{B:Nat}{bs:List UInt8}(ho:o.op=.load 184 (.tmp t))(ht:a.tmps.getD t undef=.pointer (some ⟨B,0,none⟩))(hA:Arr8 w B bs)(hb:bs.length=8):
  (execOp a.eval o).run Tryz.prog w=.ok (.value (.agg (cellsOf bs).toArray)) w:=by
 have h:=run_loadVar_row (P:=Tryz.prog) w B 184 184 (cellsOf bs).toArray (0,0) _ hA Tryz.underlying184 rfl (zo hb);unfold execOp;simp only[ho,Act.eval,ht,Instr.loadAt,Instr.sureAddr,Sem.run_bind,Sem.run_pure,Result.andThen_ok,h]
theorem zdd{o:Oper}{a:Act}{w:World}{K:Act->World->Prop}{Q:Exit->Act->World->Prop}(x y:Operand)(ho:o.op=.store 5 x y)(hd:o.dst=none)
  (g k n:Nat) (old:Value) (hx:a.eval x=.pointer (some ⟨g,k,none⟩)) (hy:a.eval y=.int .u8 n)
  (hc:w.cell? ⟨g,k,none⟩=some old) (hf:w.frozen? ⟨g,k,none⟩=false)
  (h:K a (w.setCell ⟨g,k,none⟩ (.int .u8 n))):o.wp Tryz.prog a w K Q:=by
 have hrun:(Instr.storeAt 5 (.pointer (some ⟨g,k,none⟩)) (.int .u8 n)).run Tryz.prog w=.ok () (w.setCell ⟨g,k,none⟩ (.int .u8 n)):=by go_simp
 unfold Oper.wp execOp;simp only[ho,hx,hy,Sem.run_bind,Sem.run_pure,hrun,Result.andThen_ok];have h':K (a.put o.dst undef) (w.setCell ⟨g,k,none⟩ (.int .u8 n)):=by rw[hd];exact h
 exact h'
theorem zmE{w w1:World}{base G k n:Nat}{f:Nat->UInt8}(ho:Own w base (.slice (some ⟨G,0,none⟩) 256 256) (zao f 256 k))(hx:Ext w w1)(hk:k<256)(hn:((f k).toNat:Int)=n):
  ∃old,w1.cell? ⟨G,k,none⟩=some old/\w1.frozen? ⟨G,k,none⟩=false/\Own (w1.setCell ⟨G,k,none⟩ (.int .u8 n)) base (.slice (some ⟨G,0,none⟩) 256 256) (zao f 256 (k+1)):=by
 have h1:=ho.kept hx;have h2:=h1.setn k (f k);rw[zaO _ _ _ _ rfl,hn] at h2;exact⟨_,h1.celln (zad _ _ _) k hk,h1.freen k,h2⟩
theorem Arr8.set_{w:World}{B k:Nat}{v:Value}{bs:List UInt8}(h:Arr8 w B bs):Arr8 (w.setCell ⟨B+1,k,none⟩ v) B bs :=
 (heap_setCell_other w ⟨B+1,k,none⟩ B v (by simp)).trans h
def zqy(ee m k c B:Nat)(bs:List UInt8):List K:=[.eq (.slice (some ⟨B+1,0,none⟩) 256 256),.eq (.int .i64 k),.eq (.int .i64 k),.eq (.int .u8 k),.eq (.int .i64 ee),.eq (.int .i64 m),.eq (.int .u8 (gp m k ee:Nat)),.eq (.agg (cellsOf bs).toArray),.eq (.int .u8 c),.eq (.int .u8 (mkF ee m bs c k:Nat)),.eq (.pointer (some ⟨B+1,k,none⟩)),.any]
theorem zlh(ee m c:Nat)(bs:List UInt8)(w:World)(hb:bs.length=8)(he:ee<=1000)(hm:zal m)(hc:c<256)(ho:Odd w):
  Calls Tryz.prog 133 #[.int .i64 ee,.int .i64 m,.agg (cellsOf bs).toArray,.int .u8 c] w (RetB w (mkL ee m bs c)):=by
 have h0:=hm.lo;have h1:=hm.hi;have HM:=hid hm;go_enter Tryz.func133,Tryz.ntmps133;have hA0:Arr8 (w.alloc (.cells (cellsOf bs).toArray 184)) w.heap.size bs:=heap_alloc_new w _;have hE0:=Ext.alloc w (.cells (cellsOf bs).toArray 184);clear hm;go_wp2_with (at_make;refine zaP rfl (.const (.int .i64 256)) (.const (.int .i64 256)) 22 rfl Tryz.underlying22 Tryz.info5 .i64 _ 256 rfl rfl rfl (by omega) w.heap.size (by simp) ?_;intro w2 hown2 hx2 _)
 have hA:=hA0.later hx2;have hE:=hE0.trans hx2;obtain⟨B,hB⟩:∃B,w.heap.size=B:=⟨_,rfl⟩;have HB:=hid hB;rw[show(w.alloc (.cells (cellsOf bs).toArray 184)).heap.size=w.heap.size+1 by simp] at hown2;rw[hB] at hown2 hA ⊢;have HH:=hid (show Own w2 B (.slice (some ⟨B+1,0,none⟩) 256 256) (zao (mkU ee m bs c) 256 0)/\Arr8 w2 B bs/\Ext w w2 from⟨by rw[zaG];exact hown2,hA,hE⟩);clear hown2 hA hE hA0 hE0 hx2 hB;go_loopw [28] (fun i wr=>∃k:Nat,k<=256/\i=.int .i64 k/\Own wr B (.slice (some ⟨B+1,0,none⟩) 256 256) (zao (mkU ee m bs c) 256 k)/\Arr8 wr B bs/\Ext w wr) (fun i _=>256-(intOf i).toNat)
 case atStart=>exact⟨0,by omega,rfl,HH.out⟩
 case round =>
  obtain⟨k,hk,rfl,hown,hA,hx⟩:=hrel;clear HH;by_cases hlt:k<256
  ·have HC:=hid hown;have HA:=hid hA;have HX:=hid hx;have HE6:=hid (show ee<=1000000 by omega);have hO:=hid (ho.later hx);clear ho;clear hown hA hx;go_wp2_with fail
   refine zb4 11 (zqy ee m k c B bs) (zab ⟨fun _ _ _ h=>h.mv,fun _ _ _ h=>h.mv,fun _ _ _ h=>h.mv,?_,fun _ _ _ h=>h.mv,fun _ _ _ h=>h.mv,?_,?_,fun _ _ _ h=>h.mv,?_,?_,fun h=>absurd rfl h,trivial⟩) ?_
   ·intro _ a w hk;have s33:=hk.eq_ 2 33;refine za ?_;go_simp;exact IntWalk.u8_in _ (by omega)
   ·exact fun _ _ w h=>h.call cf48 (zr5 k ee m w HM.out hlt HE6.out) (fun e w' h=>retE e w' h)
   ·intro _ a w hk;have s6:a.tmps.getD 6 undef=.pointer (some ⟨B,0,none⟩):=hk.was 6;exact zai (v:=.agg (cellsOf bs).toArray) (w':=w) rfl (zgs rfl s6 (HA.out.later hk.ext) hb) (Ext.refl w) rfl
   ·intro _ a w hk;exact hk.call cf47 (zrP (gp m k ee) c bs w hb (zhX HM.out _) hc (hO.out.later hk.ext)) (fun e w' h=>retX e w' h)
   ·intro _ a w hk;have s31:=hk.eq_ 0 31;have s32:=hk.eq_ 1 32;refine za ?_;have hlti:(k:Int)<256:=by omega
    go_simp
   ·intro a w1 hf;have hx:=hf.ext;have e:=hf.fr;clear hf;simp only[zqy,frV,kPut,Act.put,List.setIfInBounds_toArray,List.set_cons_zero,List.set_cons_succ] at e;subst e;have HX1:=hid (Ext.trans HX.out hx);obtain⟨old,hcell,hfrz,hown1⟩:=zmE (n:=mkF ee m bs c k) HC.out hx hlt (zfp _ (zqv hc));have HO1:=hid hown1;have HA1:=hid (HA.out.later hx);refine zdd (.tmp 41) (.tmp 40) rfl rfl (B+1) k (mkF ee m bs c k) old rfl rfl hcell hfrz ?_;clear hx hown1 hcell hfrz;go_wp2_with fail
    go_roundw
    case rel=>exact⟨k+1,by omega,by go_num,HO1.out,Arr8.set_ HA1.out,Below.setCell HX1.out (by have:=HB.out;simp;omega) _⟩
    case measure=>simp[intOf];omega
  ·obtain rfl:k=256:=by omega
   rw[zaE] at hown;have HC:=hid hown;have HX:=hid hx;clear hown hA hx;go_wp2_with fail
   go_ret;exact⟨_,rfl,HB.out ▸ HC.out,HX.out⟩
def zm2(ee m k c B:Nat)(bs:List UInt8):List K:=[.eq (.slice (some ⟨B+1,0,none⟩) 256 256),.eq (.int .i64 k),.eq (.int .i64 k),.eq (.int .u8 k),.eq (.int .i64 ee),.eq (.int .i64 m),.eq (.int .u8 (gp m k ee:Nat)),.eq (.agg (cellsOf bs).toArray),.eq (.int .u8 c),.eq (.int .u8 (mkF ee m bs c k:Nat)),.eq (.pointer (some ⟨B+1,k,none⟩)),.any]
theorem zi0(ee m c:Nat)(bs:List UInt8)(w:World)(hb:bs.length=8)(he:ee<=1000)(hm:zal m)(hc:c<256):
  Calls Tryz.prog 104 #[.int .i64 ee,.int .i64 m,.agg (cellsOf bs).toArray,.int .u8 c] w (RetB w (mkL ee m bs c)):=by
 have h0:=hm.lo;have h1:=hm.hi;have HM:=hid hm;go_enter Tryz.func104,Tryz.ntmps104;have hA0:Arr8 (w.alloc (.cells (cellsOf bs).toArray 184)) w.heap.size bs:=heap_alloc_new w _;have hE0:=Ext.alloc w (.cells (cellsOf bs).toArray 184);clear hm;go_wp2_with (at_make;refine zaP rfl (.const (.int .i64 256)) (.const (.int .i64 256)) 22 rfl Tryz.underlying22 Tryz.info5 .i64 _ 256 rfl rfl rfl (by omega) w.heap.size (by simp) ?_;intro w2 hown2 hx2 _)
 have hA:=hA0.later hx2;have hE:=hE0.trans hx2;obtain⟨B,hB⟩:∃B,w.heap.size=B:=⟨_,rfl⟩;have HB:=hid hB;rw[show(w.alloc (.cells (cellsOf bs).toArray 184)).heap.size=w.heap.size+1 by simp] at hown2;rw[hB] at hown2 hA ⊢;have HH:=hid (show Own w2 B (.slice (some ⟨B+1,0,none⟩) 256 256) (zao (mkU ee m bs c) 256 0)/\Arr8 w2 B bs/\Ext w w2 from⟨by rw[zaG];exact hown2,hA,hE⟩);clear hown2 hA hE hA0 hE0 hx2 hB;go_loopw [10] (fun i wr=>∃k:Nat,k<=256/\i=.int .i64 k/\Own wr B (.slice (some ⟨B+1,0,none⟩) 256 256) (zao (mkU ee m bs c) 256 k)/\Arr8 wr B bs/\Ext w wr) (fun i _=>256-(intOf i).toNat)
 case atStart=>exact⟨0,by omega,rfl,HH.out⟩
 case round =>
  obtain⟨k,hk,rfl,hown,hA,hx⟩:=hrel;clear HH;by_cases hlt:k<256
  ·have HC:=hid hown;have HA:=hid hA;have HX:=hid hx;have HE6:=hid (show ee<=1000000 by omega);clear hown hA hx;go_wp2_with fail
   refine zb4 11 (zm2 ee m k c B bs) (zab ⟨fun _ _ _ h=>h.mv,fun _ _ _ h=>h.mv,fun _ _ _ h=>h.mv,?_,fun _ _ _ h=>h.mv,fun _ _ _ h=>h.mv,?_,?_,fun _ _ _ h=>h.mv,?_,?_,fun h=>absurd rfl h,trivial⟩) ?_
   ·intro _ a w hk;have s18:=hk.eq_ 2 18;refine za ?_;go_simp;exact IntWalk.u8_in _ (by omega)
   ·exact fun _ _ w h=>h.call cf54 (zpf k ee m w HM.out hlt HE6.out) (fun e w' h=>retE e w' h)
   ·intro _ a w hk;have s6:a.tmps.getD 6 undef=.pointer (some ⟨B,0,none⟩):=hk.was 6;exact zai (v:=.agg (cellsOf bs).toArray) (w':=w) rfl (zgs rfl s6 (HA.out.later hk.ext) hb) (Ext.refl w) rfl
   ·exact fun _ _ w h=>h.call cf53 (zp2 (gp m k ee) c bs w hb (zhX HM.out _) hc) (fun e w' h=>retX e w' h)
   ·intro _ a w hk;have s16:=hk.eq_ 0 16;have s17:=hk.eq_ 1 17;refine za ?_;have hlti:(k:Int)<256:=by omega
    go_simp
   ·intro a w1 hf;have hx:=hf.ext;have e:=hf.fr;clear hf;simp only[zm2,frV,kPut,Act.put,List.setIfInBounds_toArray,List.set_cons_zero,List.set_cons_succ] at e;subst e;have HX1:=hid (Ext.trans HX.out hx);obtain⟨old,hcell,hfrz,hown1⟩:=zmE (n:=mkF ee m bs c k) HC.out hx hlt (zfp _ (zqv hc));have HO1:=hid hown1;have HA1:=hid (HA.out.later hx);refine zdd (.tmp 26) (.tmp 25) rfl rfl (B+1) k (mkF ee m bs c k) old rfl rfl hcell hfrz ?_;clear hx hown1 hcell hfrz;go_wp2_with fail
    go_roundw
    case rel=>exact⟨k+1,by omega,by go_num,HO1.out,Arr8.set_ HA1.out,Below.setCell HX1.out (by have:=HB.out;simp;omega) _⟩
    case measure=>simp[intOf];omega
  ·obtain rfl:k=256:=by omega
   rw[zaE] at hown;have HC:=hid hown;have HX:=hid hx;clear hown hA hx;go_wp2_with fail
   go_ret;exact⟨_,rfl,HB.out ▸ HC.out,HX.out⟩
def rows1:List UInt8:=[241,227,199,143,31,62,124,248]
def rows2:List UInt8:=[122,188,235,185,52,129,186,203]
def S1:List UInt8:=[99,124,119,123,242,107,111,197,48,1,103,43,254,215,171,118,202,130,201,125,250,89,71,240,173,212,162,175,156,164,114,192,183,253,147,38,54,63,247,204,52,165,229,241,113,216,49,21,4,199,35,195,24,150,5,154,7,18,128,226,235,39,178,117,9,131,44,26,27,110,90,160,82,59,214,179,41,227,47,132,83,209,0,237,32,252,177,91,106,203,190,57,74,76,88,207,208,239,170,251,67,77,51,133,69,249,2,127,80,60,159,168,81,163,64,143,146,157,56,245,188,182,218,33,16,255,243,210,205,12,19,236,95,151,68,23,196,167,126,61,100,93,25,115,96,129,79,220,34,42,144,136,70,238,184,20,222,94,11,219,224,50,58,10,73,6,36,92,194,211,172,98,145,149,228,121,231,200,55,109,141,213,78,169,108,86,244,234,101,122,174,8,186,120,37,46,28,166,180,198,232,221,116,31,75,189,139,138,112,62,181,102,72,3,246,14,97,53,87,185,134,193,29,158,225,248,152,17,105,217,142,148,155,30,135,233,206,85,40,223,140,161,137,13,191,230,66,104,65,153,45,15,176,84,187,22]
def S2:List UInt8:=[226,78,84,252,148,194,74,204,98,13,106,70,60,77,139,209,94,250,100,203,180,151,190,43,188,119,46,3,211,25,89,193,29,6,65,107,85,240,153,105,234,156,24,174,99,223,231,187,0,115,102,251,150,76,133,228,58,9,69,170,15,238,16,235,45,127,244,41,172,207,173,145,141,120,200,149,249,47,206,205,8,122,136,56,92,131,42,40,71,219,184,199,147,164,18,83,255,135,14,49,54,33,88,72,1,142,55,116,50,202,233,177,183,171,12,215,196,86,66,38,7,152,96,217,182,185,17,64,236,32,140,189,160,201,132,4,73,35,241,79,80,31,19,220,216,192,158,87,227,195,123,101,59,2,143,62,232,37,146,229,21,221,253,23,169,191,212,154,126,197,57,103,254,118,157,67,167,225,208,245,104,242,27,52,112,5,163,138,213,121,134,168,48,198,81,75,30,166,39,246,53,210,110,36,22,130,95,218,230,117,162,239,44,178,28,159,93,111,128,10,114,68,155,108,144,11,91,51,125,90,82,243,97,161,247,176,214,63,124,109,237,20,224,165,61,34,179,248,137,222,113,26,175,186,181,129]
def X1:List UInt8:=[82,9,106,213,48,54,165,56,191,64,163,158,129,243,215,251,124,227,57,130,155,47,255,135,52,142,67,68,196,222,233,203,84,123,148,50,166,194,35,61,238,76,149,11,66,250,195,78,8,46,161,102,40,217,36,178,118,91,162,73,109,139,209,37,114,248,246,100,134,104,152,22,212,164,92,204,93,101,182,146,108,112,72,80,253,237,185,218,94,21,70,87,167,141,157,132,144,216,171,0,140,188,211,10,247,228,88,5,184,179,69,6,208,44,30,143,202,63,15,2,193,175,189,3,1,19,138,107,58,145,17,65,79,103,220,234,151,242,207,206,240,180,230,115,150,172,116,34,231,173,53,133,226,249,55,232,28,117,223,110,71,241,26,113,29,41,197,137,111,183,98,14,170,24,190,27,252,86,62,75,198,210,121,32,154,219,192,254,120,205,90,244,31,221,168,51,136,7,199,49,177,18,16,89,39,128,236,95,96,81,127,169,25,181,74,13,45,229,122,159,147,201,156,239,160,224,59,77,174,42,245,176,200,235,187,60,131,83,153,97,23,43,4,126,186,119,214,38,225,105,20,99,85,33,12,125]
def X2:List UInt8:=[48,104,153,27,135,185,33,120,80,57,219,225,114,9,98,60,62,126,94,142,241,160,204,163,42,29,251,182,214,32,196,141,129,101,245,137,203,157,119,198,87,67,86,23,212,64,26,77,192,99,108,227,183,200,100,106,83,170,56,152,12,244,155,237,127,34,118,175,221,58,11,88,103,136,6,195,53,13,1,139,140,194,230,95,2,36,117,147,102,30,229,226,84,216,16,206,122,232,8,44,18,151,50,171,180,39,10,35,223,239,202,217,184,250,220,49,107,209,173,25,73,189,81,150,238,228,168,65,218,255,205,85,134,54,190,97,82,248,187,14,130,72,105,154,224,71,158,92,4,75,52,21,121,38,167,222,41,174,146,215,132,233,210,186,93,243,197,176,191,164,59,113,68,70,43,252,235,111,213,246,20,254,124,112,90,125,253,47,24,131,22,165,145,31,5,149,116,169,193,91,74,133,109,19,7,79,78,69,178,15,201,28,166,188,236,115,144,123,207,89,143,161,249,45,242,177,0,148,55,159,208,46,156,110,40,63,128,240,61,211,37,138,181,231,66,179,199,234,247,76,17,51,3,162,172,96]
theorem zeZ:zal 283:=⟨by omega,by omega⟩
theorem zmP{m e c:Nat}{bs:List UInt8}(hm:zal m)(he:e<1024):mkL e m bs c=(List.range 256).map fun x=>UInt8.ofNat (affN (pw m x e) (nb bs) c):=by
 unfold mkL tabF;refine List.map_congr_left fun x hx=>?_
 rw[mkF,zuC hm (List.mem_range.1 hx) he]
theorem mk1:mkL 254 283 rows1 99=S1:=by rw[zmP zeZ (by omega)];decide +kernel
theorem mk2:mkL 247 283 rows2 226=S2:=by rw[zmP zeZ (by omega)];decide +kernel
theorem zr8:∀i<256,nb X1 (nb S1 i)=i:=by decide +kernel
theorem zr9:∀i<256,nb X2 (nb S2 i)=i:=by decide +kernel
theorem zuX:∀i<256,nb S1 (nb X1 i)=i:=by decide +kernel
theorem zvj:∀i<256,nb S2 (nb X2 i)=i:=by decide +kernel
theorem zns:IsT 256 S1:=⟨by decide +kernel,fun i _=>zcW _ _,fun i j hi hj h=>by rw[<-zr8 i hi,h,zr8 j hj]⟩
theorem zlY:IsT 256 S2:=⟨by decide +kernel,fun i _=>zcW _ _,fun i j hi hj h=>by rw[<-zr9 i hi,h,zr9 j hj]⟩
theorem out1:outB S1=X1:=by rw[zjK zns];decide +kernel
theorem out2:outB S2=X2:=by rw[zjK zlY];decide +kernel
def tabT:Nat->List UInt8
 | 0=>S1
 | 1=>S2
 | 2=>X1
 | _=>X2
theorem za5(k:Nat):(tabT k).length=256:=by
 match k with
 | 0=>decide +kernel
 | 1=>decide +kernel
 | 2=>decide +kernel
 | _+3=>exact(by decide +kernel:X2.length=256)
def layF(which:Nat)(b:List UInt8)(i:Nat):UInt8:=(tabT ((2*(which-1)+i)%4)).getD (nb b i) 0
def layL(which:Nat)(b:List UInt8):List UInt8:=(List.range 16).map (layF which b)
theorem zbf(which:Nat)(b:List UInt8):(layL which b).length=16:=by simp[layL]
def sevT:List (List Nat):=[[3,4,6,8,9,13,14],[2,5,7,8,9,12,15],[1,4,6,10,11,12,15],[0,5,7,10,11,13,14],[0,2,5,8,11,14,15],[1,3,4,9,10,14,15],[0,2,7,9,10,12,13],[1,3,6,8,11,12,13],[0,1,4,7,10,13,15],[0,1,5,6,11,12,14],[2,3,5,6,8,13,15],[2,3,4,7,9,12,14],[1,2,6,7,9,11,12],[0,3,6,7,8,10,13],[0,3,4,5,9,11,14],[1,2,4,5,8,10,15]]
def sevN(i j:Nat):Nat:=(sevT.getD i []).getD j 0
theorem zfQ:∀i<16,∀j<7,sevN i j<16:=by decide
def mixK(b:List UInt8)(i:Nat):Nat->UInt8
 | 0=>0
 | k+1=>mixK b i k^^^b.getD (sevN i k) 0
def mixF(b:List UInt8)(i:Nat):UInt8:=mixK b i 7
def mixL(b:List UInt8):List UInt8:=(List.range 16).map (mixF b)
theorem zaA(b:List UInt8):(mixL b).length=16:=by simp[mixL]
def zbH(i:Nat)(b k:List UInt8):List UInt8:=layL (1+i%2) (xorL b k 16)
theorem za4(i:Nat)(b k:List UInt8):(zbH i b k).length=16:=zbf _ _
def chi(i:Nat):Int:=[5871781006564002452,7904181063698728992,15821769039155751280].getD i 0
def clo(i:Nat):Int:=[18308165927316385504,18386141011142107824,226472410124699918].getD i 0
def zaS(i:Nat):List UInt8:=zay (chi (i%3)) 8++zay (clo (i%3)) 8
theorem zaJ(v:Int)(n:Nat):(zay v n).length=n:=by simp[zay]
theorem zcu(i:Nat):(zaS i).length=16:=by rw[zaS,List.length_append,zaJ,zaJ]
def zbx(key:List UInt8)(o:Nat):List UInt8:=(List.range 16).map fun i=>key.getD (o+i) 0
theorem zbb(key:List UInt8)(o:Nat):(zbx key o).length=16:=by simp[zbx]
def zn5(key:List UInt8):Nat->List UInt8×List UInt8
 | 0=>(zbx key 0,zbx key 16)
 | i+1=>(xorL (mixL (zbH i (zn5 key i).1 (zaS (key.length/8-2+i)))) (zn5 key i).2 16,(zn5 key i).1)
def zbi(key:List UInt8)(i:Nat):List UInt8:=(zn5 key i).1
def zjy(key:List UInt8)(i:Nat):List UInt8:=(zn5 key i).2
theorem zdX(key:List UInt8)(i:Nat):zbi key (i+1)=xorL (mixL (zbH i (zbi key i) (zaS (key.length/8-2+i)))) (zjy key i) 16:=rfl
theorem ze4(key:List UInt8)(i:Nat):zjy key (i+1)=zbi key i:=rfl
theorem zbd(key:List UInt8):∀i,(zbi key i).length=16
 | 0=>zbb _ _
 | _+1=>zar _ _ _
theorem zi3(key:List UInt8):∀i,(zjy key i).length=16
 | 0=>zbb _ _
 | i+1=>zbd key i
def ziV(q:Nat):Int:=[-19,-31,61,31,19].getD q 0
def zga(b:List UInt8)(q:Nat):List UInt8:=zbe b 16 (tf (ziV q) 16) (ts (ziV q))
theorem zcP(b:List UInt8)(q:Nat):(zga b q).length=16:=zbT _ _ _ _
def keyF(key:List UInt8)(i:Nat):List UInt8:=xorL (zbi key (i%4)) (zga (zbi key ((i+1)%4)) (i/4)) 16
theorem zbz(key:List UInt8)(i:Nat):(keyF key i).length=16:=zar _ _ _
def keyN(key:List UInt8):Nat:=9+key.length/4
def zdo(key:List UInt8):List (List UInt8):=(List.range (keyN key)).map (keyF key)
def zeD(ks:Nat->List UInt8)(b:List UInt8):Nat->List UInt8
 | 0=>b
 | i+1=>mixL (zbH i (zeD ks b i) (ks i))
def zcN(ks:Nat->List UInt8)(r:Nat)(b:List UInt8):List UInt8:=xorL (zbH (r-1) (zeD ks b (r-1)) (ks (r-1))) (ks r) 16
theorem ziG(ks:Nat->List UInt8){b:List UInt8}(h:b.length=16):∀i,(zeD ks b i).length=16
 | 0=>h
 | _+1=>zaA _
theorem zcm(ks:Nat->List UInt8)(r:Nat)(b:List UInt8):(zcN ks r b).length=16:=zar _ _ _
def zbo(ks:Nat->List UInt8)(r i:Nat):List UInt8:=if 0<i/\i<r then mixL (ks (r-i)) else ks (r-i)
theorem xor4(a b c d:UInt8):(a^^^b)^^^(c^^^d)=(a^^^c)^^^(b^^^d):=by
 rw[UInt8.xor_assoc,UInt8.xor_assoc,<-UInt8.xor_assoc b c d,UInt8.xor_comm b c,UInt8.xor_assoc c b d]
def zcX(p:List UInt8)(c:Nat->Bool):Nat->UInt8
 | 0=>0
 | n+1=>zcX p c n^^^(if c n then p.getD n 0 else 0)
theorem zfB(p:List UInt8)(c d:Nat->Bool):∀n,zcX p (fun m=>c m != d m) n=zcX p c n^^^zcX p d n
 | 0=>by simp[zcX]
 | n+1=>by rw[zcX,zcX,zcX,zfB p c d n,xor4];congr 1;cases c n<;>cases d n<;>simp
theorem zeM(p:List UInt8):∀n,zcX p (fun _=>false) n=0
 | 0=>rfl
 | n+1=>by rw[zcX,zeM p n];simp
theorem zgS(p:List UInt8)(m:Nat):∀n,n<=m->zcX p (fun k=>k==m) n=0
 | 0,_=>rfl
 | n+1,h=>by
   rw[zcX,zgS p m n (by omega)];have:(n==m)=false:=by simp;omega
   simp[this]
theorem zgr(p:List UInt8)(m:Nat):∀n,m<n->zcX p (fun k=>k==m) n=p.getD m 0
 | n+1,h=>by
   rw[zcX];by_cases e:n=m
   ·subst e;rw[zgS p n n (Nat.le_refl _)];simp
   ·rw[zgr p m n (by omega)];have:(n==m)=false:=by simp;omega
    simp[this]
theorem zf6(p:List UInt8){c d:Nat->Bool}:∀n,(∀m,m<n->c m=d m)->zcX p c n=zcX p d n
 | 0,_=>rfl
 | n+1,h=>by rw[zcX,zcX,zf6 p n (fun m hm=>h m (by omega)),h n (by omega)]
def hasX(i:Nat):Nat->Nat->Bool
 | 0,_=>false
 | j+1,m=>hasX i j m != (m==sevN i j)
def hasY(i:Nat):Nat->Nat->Bool
 | 0,_=>false
 | j+1,m=>hasY i j m != hasX (sevN i j) 7 m
theorem ziP(p:List UInt8)(i:Nat)(hi:i<16):∀j,j<=7->mixK p i j=zcX p (hasX i j) 16
 | 0,_=>(zeM p 16).symm
 | j+1,hj=>by rw[mixK,ziP p i hi j (by omega),<-zgr p (sevN i j) 16 (zfQ i hi j (by omega)),<-zfB];rfl
theorem znU(p:List UInt8)(i:Nat)(hi:i<16):(mixL p).getD i 0=zcX p (hasX i 7) 16:=by
 rw[<-ziP p i hi 7 (by omega)];simp[mixL,mixF,List.getD_eq_getElem?_getD,hi]
theorem ziU(p:List UInt8)(i:Nat)(hi:i<16):∀j,j<=7->mixK (mixL p) i j=zcX p (hasY i j) 16
 | 0,_=>(zeM p 16).symm
 | j+1,hj=>by rw[mixK,ziU p i hi j (by omega),znU p _ (zfQ i hi j (by omega)),<-zfB];rfl
theorem zpp:∀i<16,∀m<16,hasY i 7 m=(m==i):=by decide +kernel
theorem zgt(p:List UInt8)(h:p.length=16):mixL (mixL p)=p:=by
 apply List.ext_getElem
 ·rw[zaA,h]
 ·intro i h1 h2;have hi:i<16:=by omega
  refine Eq.trans (show _=mixK (mixL p) i 7 by simp[mixL,mixF]) ?_;rw[ziU p i hi 7 (by omega),zf6 p 16 (zpp i hi),zgr p i 16 hi];simp[List.getD_eq_getElem?_getD,h2]
theorem zm4(q v:Nat)(hq:q<4)(hv:v<256):nb (tabT ((2+q)%4)) (nb (tabT q) v)=v:=by
 match q,hq with
 | 0,_=>exact zr8 v hv
 | 1,_=>exact zr9 v hv
 | 2,_=>exact zuX v hv
 | 3,_=>exact zvj v hv
theorem lay_get(which:Nat)(p:List UInt8)(i:Nat)(hi:i<16):nb (layL which p) i=nb (tabT ((2*(which-1)+i)%4)) (nb p i):=by
 show((layL which p).getD i 0).toNat=_;have:(layL which p).getD i 0=layF which p i:=by simp[layL,List.getD_eq_getElem?_getD,hi]
 rw[this];rfl
theorem zvv(p:List UInt8)(h:p.length=16):layL 2 (layL 1 p)=p:=by
 refine zod (n:=16) (zbf _ _) h fun i hi=>?_
 rw[lay_get _ _ _ hi,lay_get _ _ _ hi,show(2*(2-1)+i)%4=(2+(2*(1-1)+i)%4)%4 by omega];exact zm4 _ (nb p i) (Nat.mod_lt _ (by omega)) (zcW _ _)
theorem zu3(p:List UInt8)(h:p.length=16):layL 1 (layL 2 p)=p:=by
 refine zod (n:=16) (zbf _ _) h fun i hi=>?_
 rw[lay_get _ _ _ hi,lay_get _ _ _ hi,show(2*(1-1)+i)%4=(2+(2*(2-1)+i)%4)%4 by omega];exact zm4 _ (nb p i) (Nat.mod_lt _ (by omega)) (zcW _ _)
theorem zkE{i j:Nat}(hij:i%2≠j%2)(p:List UInt8)(h:p.length=16):layL (1+i%2) (layL (1+j%2) p)=p:=by
 rcases (by omega:(i%2=0/\j%2=1)\/(i%2=1/\j%2=0)) with⟨a,b⟩|⟨a,b⟩
 ·rw[a,b];exact zu3 p h
 ·rw[a,b];exact zvv p h
theorem zcV(p q:List UInt8)(m:Nat)(hm:m<16):(xorL p q 16).getD m 0=p.getD m 0^^^q.getD m 0:=by
 simp[xorL,xorF,List.getD_eq_getElem?_getD,hm]
theorem zmN{l m:List UInt8}(hl:l.length=16)(hm:m.length=16)(h:∀i,i<16->l.getD i 0=m.getD i 0):l=m :=
 zod hl hm fun i hi=>by unfold nb;rw[h i hi]
theorem zgw(p q:List UInt8)(h:p.length=16):xorL (xorL p q 16) q 16=p :=
 zmN (zar _ _ _) h fun i hi=>by rw[zcV _ _ _ hi,zcV _ _ _ hi,UInt8.xor_assoc,UInt8.xor_self,UInt8.xor_zero]
theorem zkU(p q:List UInt8)(i:Nat)(hi:i<16):∀j,j<=7->mixK (xorL p q 16) i j=mixK p i j^^^mixK q i j
 | 0,_=>by simp[mixK]
 | j+1,hj=>by rw[mixK,mixK,mixK,zkU p q i hi j (by omega),zcV p q _ (zfQ i hi j (by omega)),xor4]
theorem zkd(p:List UInt8)(i:Nat)(hi:i<16):(mixL p).getD i 0=mixK p i 7:=by simp[mixL,mixF,List.getD_eq_getElem?_getD,hi]
theorem zrt(p q:List UInt8):mixL (xorL p q 16)=xorL (mixL p) (mixL q) 16 :=
 zmN (zaA _) (zar _ _ _) fun i hi=>by rw[zcV _ _ _ hi,zkd _ i hi,zkd _ i hi,zkd _ i hi,zkU p q i hi 7 (by omega)]
theorem zk4{ks:Nat->List UInt8}{r:Nat}{b:List UInt8}(hb:b.length=16)(hr:r%2=0)(h0:0<r):∀i,i<r ->
  zbH i (zeD (zbo ks r) (zcN ks r b) i) (zbo ks r i)=xorL (zeD ks b (r-1-i)) (ks (r-1-i)) 16
 | 0,_=>by
   show layL (1+0%2) (xorL (zcN ks r b) (zbo ks r 0) 16)=_;have hu:zbo ks r 0=ks r:=by unfold zbo;simp
   rw[hu,zcN,zgw _ _ (za4 _ _ _),zbH,zkE (by omega) _ (zar _ _ _)];rfl
 | i+1,hi=>by
   have hu:zbo ks r (i+1)=mixL (ks (r-1-i)):=by unfold zbo;rw[if_pos ⟨by omega,hi⟩,show r-(i+1)=r-1-i by omega]
   obtain⟨m,hm⟩:∃m,r-1-i=m+1:=⟨r-1-i-1,by omega⟩;show layL (1+(i+1)%2) (xorL (mixL (zbH i (zeD (zbo ks r) (zcN ks r b) i) (zbo ks r i))) (zbo ks r (i+1)) 16)=_;rw[zk4 hb hr h0 i (by omega),hu,zrt,zgw _ _ (zaA _),hm,show r-1-(i+1)=m by omega];show layL _ (mixL (mixL (zbH m _ _)))=_;rw[zgt _ (za4 _ _ _),zbH,zkE (by omega) _ (zar _ _ _)]
theorem zko(ks:Nat->List UInt8){r:Nat}{b:List UInt8}(hb:b.length=16)(hr:r%2=0)(h0:0<r):zcN (zbo ks r) r (zcN ks r b)=b:=by
 rw[zcN,zk4 hb hr h0 (r-1) (by omega),show r-1-(r-1)=0 by omega];have hu:zbo ks r r=ks 0:=by unfold zbo;simp
 rw[hu];exact zgw _ _ hb
theorem zfX{f g:Nat->List UInt8}(b:List UInt8):∀i,(∀j,j<i->f j=g j)->zeD f b i=zeD g b i
 | 0,_=>rfl
 | i+1,h=>by rw[zeD,zeD,zfX b i fun j hj=>h j (by omega),h i (by omega)]
theorem zj1{f g:Nat->List UInt8}(b:List UInt8)(r:Nat)(h0:0<r)(h:∀j,j<=r->f j=g j):zcN f r b=zcN g r b:=by
 rw[zcN,zcN,zfX b (r-1) fun j hj=>h j (by omega),h (r-1) (by omega),h r (by omega)]
theorem zjr{ks:Nat->List UInt8}(hk:∀j,(ks j).length=16)(r j:Nat)(hj:j<=r):zbo (zbo ks r) r j=ks j:=by
 unfold zbo;by_cases h:0<j/\j<r
 ·rw[if_pos h,if_pos ⟨by omega,by omega⟩,zgt _ (hk _),show r-(r-j)=j by omega]
 ·rw[if_neg h,if_neg (by omega),show r-(r-j)=j by omega]
theorem zpK{ks:Nat->List UInt8}(hk:∀j,(ks j).length=16){r:Nat}{b:List UInt8}(hb:b.length=16)(hr:r%2=0)(h0:0<r):zcN ks r (zcN (zbo ks r) r b)=b:=by
 have h:=zko (zbo ks r) hb hr h0;rwa[zj1 (f:=zbo (zbo ks r) r) (g:=ks) _ r h0 (fun j hj=>zjr hk r j hj)] at h
def zaF(key:List UInt8)(back:Bool)(b:List UInt8):List UInt8:=zcN (if back then zbo (keyF key) (keyN key-1) else keyF key) (keyN key-1) b
theorem zbc(key:List UInt8)(back:Bool)(b:List UInt8):(zaF key back b).length=16:=zcm _ _ _
theorem zck(key:List UInt8)(hk:key.length=16\/key.length=24\/key.length=32)(b:List UInt8)(hb:b.length=16):zaF key true (zaF key false b)=b/\zaF key false (zaF key true b)=b:=by
 have hr:(keyN key-1)%2=0/\0<keyN key-1:=by unfold keyN;omega
 exact⟨zko _ hb hr.1 hr.2,zpK (zbz key) hb hr.1 hr.2⟩
section
variable {P:Program} {ops:Array Oper} {Q:Exit->Act->World->Prop} {r n:Nat}
variable {P:Program} {l:List Oper} {V:Nat->World->Value->Prop} {a0:Act} {w0:World}
theorem zem:Inv l.toArray V a0 w0 (Array.replicate l.toArray.size false) a0 { w0 with drawn:=w0.drawn+1 }:=by
 refine⟨by simp,Ext.drew w0,rfl,rfl,?_,fun _ _=>rfl,?_⟩
 ·intro j x _ hl;rw[getD_replicate_false] at hl;cases hl
 ·intro j x t _ hl;rw[getD_replicate_false] at hl;cases hl
structure InvO (l:List Oper) (V:Nat->World->Value->Prop) (a0:Act) (s1:Nat) (I1 I2:World->Prop) (listed:Array Bool) (a:Act) (w:World):Prop where
 inv:Inv l.toArray V a0 w listed a w
 pre:listed.getD s1 false=false->I1 w
 post:listed.getD s1 false=true->I2 w
theorem InvO.any{s1:Nat}{I1 I2:World->Prop}{listed:Array Bool}{a:Act}{w:World}(h:InvO l V a0 s1 I1 I2 listed a w):I1 w\/I2 w:=by
 cases hl:listed.getD s1 false with
 | false=>exact .inl (h.pre hl)
 | true=>exact .inr (h.post hl)
theorem zhs{Q:Exit->Act->World->Prop}{n s s1:Nat}{I1 I2:World->Prop}(hok:zb1 l.toArray n=true)(hn:a0.tmps.size=n)(hs:zcs l.toArray s=true)(hseq:Region.seqB .any l.toArray (l.length-s) s (za7 l.length s)=true)
  (hs1:s1<s) {os:Oper} (hos:l[s1]? = some os) (hg:os.guard=none)
  (hV:∀i w w' v,Ext w w'->V i w v->V i w' v) (h1:∀w w',Ext w w'->I1 w->I1 w') (h2:∀w w',Ext w w'->I2 w->I2 w')
  (step:∀i o,(l.take s).toArray[i]? = some o->i≠s1->∀a w,Kn l.toArray V a0 w i a w->(I1 w\/I2 w)->(waits os i=true->I1 w)->Step P l.toArray V Q i o a w)
  (wr:∀a w,Kn l.toArray V a0 w s1 a w->I1 w->os.wp P a w (fun a' w'=>∃v,a'=a.put os.dst v/\I2 w'/\V s1 w' v/\∀i v,i≠s1->V i w v->V i w' v) Q)
  (last:∀a w,Fin_ (l.take s).toArray V a0 w a w->I2 w->wpList P l.toArray Q (l.drop s) a w):
  ∀(fuel:Nat) (listed:Array Bool) (a:Act) (w:World),listed.toList.count false=fuel->(∀j,listed.getD j false=true->j<s)->InvO l V a0 s1 I1 I2 listed a w->wpAny P .any l.toArray Q fuel listed a w:=by
 have hsn:s<l.length:=by unfold zcs at hs;simp only[Bool.and_eq_true,decide_eq_true_eq,List.size_toArray] at hs;exact hs.1.1
 have hlast:∀(listed:Array Bool) (a:Act) (w:World),(∀j,listed.getD j false=true->j<s)->InvO l V a0 s1 I1 I2 listed a w->(∀j,j<s->listed.getD j false=true)->wpAny P .any l.toArray Q (listed.toList.count false) listed a w:=by
  intro listed a w hlo h hall;have hsz:listed.size=l.length:=by rw[h.inv.lsize,List.size_toArray]
  have e:=zew hsz (by omega) hall hlo;have hc:listed.toList.count false=(l.drop s).length:=by rw[e];simp[za7,List.count_append,List.count_replicate]
  rw[hc];refine wpAny_of_seq (l.drop s) s listed a w (fun j=>by simp) (by rw[List.length_drop,e];exact hseq) (last a w ⟨Ext.refl _,h.inv.defers,h.inv.size,fun t ht=>h.inv.old t fun j x hx hd=>?_,fun j x t hx hd=>?_⟩ (h.post (hall s1 hs1)))
  ·cases hl:listed.getD j false with
   | false=>rfl
   | true =>
     have hj:=hlo j hl;exact absurd hd (ht j x (by
      have:l[j]? = some x:=by simpa using hx
      simp[hj,this]))
  ·have hx2:(l.take s)[j]? = some x:=by simpa using hx
   have hj:j<s:=by
    rcases Nat.lt_or_ge j s with h1|h1
    ·exact h1
    ·rw[List.getElem?_eq_none (by simp;omega)] at hx2;cases hx2
   rw[List.getElem?_take,if_pos hj] at hx2;exact h.inv.new j x t (by simpa using hx2) (hall j hj) hd
 intro fuel;induction fuel with
 | zero =>
   intro listed a w hc hlo h;by_cases hall:∀j,j<s->listed.getD j false=true
   ·rw[<-hc];exact hlast listed a w hlo h hall
   ·exfalso;refine hall fun j hj=>?_
    have hjs:j<listed.size:=by rw[h.inv.lsize,List.size_toArray];omega
    cases hl:listed.getD j false with
    | true=>rfl
    | false =>
      have hm:false ∈ listed.toList:=by
       have:listed[j]=false:=by simpa [hjs] using hl
       rw[<-this];simp
      have:=List.count_pos_iff.2 hm;omega
 | succ fuel ih =>
   intro listed a w hc hlo h;by_cases hall:∀j,j<s->listed.getD j false=true
   ·rw[<-hc];exact hlast listed a w hlo h hall
   ·refine⟨fun hr=>absurd (fun j hj=>zbS hok h.inv.lsize hr j (by rw[List.size_toArray];omega)) hall,fun i hi=>?_⟩;have his:i<s:=(zdQ hs h.inv hlo hi).resolve_right hall;obtain⟨hun,o,ho,_⟩:=mem_ready.1 hi;have hcs:=count_set listed i hun;have ho2:(l.take s).toArray[i]? = some o:=by
     have:l[i]? = some o:=by simpa using ho
     simp[his,this]
    have hlo2:∀j,(listed.setIfInBounds i true).getD j false=true->j<s:=fun j hl=>by
     by_cases hj:j=i
     ·omega
     ·rw[getD_set_ne false (Ne.symm hj)] at hl;exact hlo j hl
    have hli:i<listed.size:=by rw[h.inv.lsize];exact(Array.getElem?_eq_some_iff.1 ho).1
    have hun':listed.getD i false=false:=by simpa [hli] using hun
    have hat:∀ {w1:World},Inv l.toArray V a0 w listed a w1->Inv l.toArray V a0 w1 listed a w1:=fun h=>⟨h.lsize,Ext.refl _,h.defers,h.size,h.closed,h.old,h.new⟩
    by_cases hi1:i=s1
    ·subst hi1;have hoe:o=os:=by
      have:l[i]? = some o:=by simpa using ho
      rw[hos] at this;exact(Option.some.inj this).symm
     subst hoe;have hwr:=wr a w (h.inv.kn hok hn hi) (h.pre hun');have hwant:Region.wanted o (yielded l.toArray a.tmps)=true:=by simp[Region.wanted,hg]
     unfold wpOp;simp only[ho];rw[if_pos hwant];refine .inl (Oper.wp_mono (fun a' w' hh=>?_) hwr);obtain⟨v,rfl,hi2,hv,hkeep⟩:=hh;have hI:Inv l.toArray V a0 w' listed a w':=⟨h.inv.lsize,Ext.refl _,h.inv.defers,h.inv.size,h.inv.closed,h.inv.old,fun j x t hx hl hd=>hkeep _ _ (fun e=>by subst e;rw[hun'] at hl;cases hl) (h.inv.new j x t hx hl hd)⟩;refine ih _ _ _ (by omega) hlo2 ⟨hI.put hok hn hV hi ho (Ext.refl _) hv,fun hl=>?_,fun _=>hi2⟩;simp[hli] at hl
    ·have hset:(listed.setIfInBounds i true).getD s1 false=listed.getD s1 false:=getD_set_ne false hi1;have hst:=step i o ho2 hi1 a w (h.inv.kn hok hn hi) h.any (fun hwt=>by
      refine h.pre ?_;cases hl:listed.getD s1 false with
      | false=>rfl
      | true =>
        obtain⟨e,he,hb,rfl⟩:=zbD hwt;have hos':l.toArray[s1]? = some os:=by simpa using hos
        have:=h.inv.closed s1 os hos' hl e he hb;rw[hun'] at this;cases this)
     unfold wpOp;simp only[ho];unfold Step at hst;split
     ·rename_i hw;rw[if_pos hw] at hst;refine .inl (Oper.wp_mono (fun a' w' hh=>?_) hst);obtain⟨v,rfl,he,hv⟩:=hh;have hp:=h.inv.put hok hn hV hi ho he hv;exact ih _ _ _ (by omega) hlo2 ⟨⟨hp.lsize,Ext.refl _,hp.defers,hp.size,hp.closed,hp.old,hp.new⟩,fun hl=>h1 _ _ he (h.pre (by rw[<-hset];exact hl)),fun hl=>h2 _ _ he (h.post (by rw[<-hset];exact hl))⟩
     ·rename_i hw;rw[if_neg hw] at hst;have hp:=h.inv.put hok hn hV hi ho (Ext.refl _) hst;exact ih _ _ _ (by omega) hlo2 ⟨⟨hp.lsize,Ext.refl _,hp.defers,hp.size,hp.closed,hp.old,hp.new⟩,fun hl=>h.pre (by rw[<-hset];exact hl),fun hl=>h.post (by rw[<-hset];exact hl)⟩
theorem zm3{Q:Exit->Act->World->Prop}{id n:Nat}(s s1:Nat)(os:Oper)(I1 I2:World->Prop)(hm:P.follows .mixedOrders=true)(hn:a0.tmps.size=n)(hok:zb1 l.toArray n=true)
  (hs:zcs l.toArray s=true) (hseq:Region.seqB .any l.toArray (l.length-s) s (za7 l.length s)=true)
  (hs1:s1<s) (hos:l[s1]? = some os) (hg:os.guard=none)
  (V:Nat->World->Value->Prop) (hV:∀i w w' v,Ext w w'->V i w v->V i w' v) (h1:∀w w',Ext w w'->I1 w->I1 w') (h2:∀w w',Ext w w'->I2 w->I2 w') (h0:I1 w0)
  (step:∀i o,(l.take s).toArray[i]? = some o->i≠s1->∀a w,Kn l.toArray V a0 w i a w->(I1 w\/I2 w)->(waits os i=true->I1 w)->Step P l.toArray V Q i o a w)
  (wr:∀a w,Kn l.toArray V a0 w s1 a w->I1 w->os.wp P a w (fun a' w'=>∃v,a'=a.put os.dst v/\I2 w'/\V s1 w' v/\∀i v,i≠s1->V i w v->V i w' v) Q)
  (last:∀a w,Fin_ (l.take s).toArray V a0 w a w->I2 w->wpList P l.toArray Q (l.drop s) a w):(Code.region id l.toArray true).wp P Q a0 w0:=by
 have hi:Inv l.toArray V a0 w0 (Array.replicate l.toArray.size false) a0 { w0 with drawn:=w0.drawn+1 }:=zem;refine wp_region_any hm (zhs (V:=V) hok hn hs hseq hs1 hos hg hV h1 h2 step wr last l.toArray.size _ _ _ ?_ ?_ ⟨⟨hi.lsize,Ext.refl _,hi.defers,hi.size,hi.closed,hi.old,hi.new⟩,fun _=>h1 _ _ (Ext.drew w0) h0,fun hl=>?_⟩)
 ·simp
 ·intro j hl;rw[getD_replicate_false] at hl;cases hl
 ·rw[getD_replicate_false] at hl;cases hl
end
def bv(bs:List UInt8):Value:=.agg (cellsOf bs).toArray
structure RW (w:World) (g o:Nat) (bs:List UInt8):Prop where
 rd:w.rangeAt g o (cellsOf bs)
 wr:w.there g o bs.length
theorem RW.lt{w:World}{g o:Nat}{bs:List UInt8}(h:RW w g o bs)(hp:0<bs.length):g<w.heap.size:=by
 have:=h.rd 0 _ (zam bs 0 hp);exact World.block_lt_of_cell? w _ this
theorem RW.keep{w w':World}{g o:Nat}{bs:List UInt8}(h:RW w g o bs)(hk:w'.heap[g]? = w.heap[g]?):RW w' g o bs:=by
 have hc:∀k,w'.cell? ⟨g,k,none⟩=w.cell? ⟨g,k,none⟩:=fun k=>by simp[World.cell?,hk]
 have hf:∀k,w'.frozen? ⟨g,k,none⟩=w.frozen? ⟨g,k,none⟩:=fun k=>by simp[World.frozen?,hk]
 exact⟨fun j v hv=>(hc _).trans (h.rd j v hv),fun j hj=>by rw[hc,hf];exact h.wr j hj⟩
theorem RW.below{w w':World}{B g o:Nat}{bs:List UInt8}(h:RW w g o bs)(hx:Below B w w')(hg:g<B):RW w' g o bs :=
 h.keep (hx.block g hg)
theorem RW.later{w w':World}{g o:Nat}{bs:List UInt8}(h:RW w g o bs)(hp:0<bs.length)(hx:Ext w w'):RW w' g o bs:=h.below hx (h.lt hp)
theorem zd9{w:World}{g o:Nat}{bs:List UInt8}(h:w.rangeAt g o (cellsOf bs))(k n:Nat)(_hk:k+n<=bs.length):w.rangeAt g (o+k) (cellsOf ((bs.drop k).take n)):=by
 intro j v hv;have e:cellsOf ((bs.drop k).take n)=((cellsOf bs).drop k).take n:=by simp[cellsOf,List.map_drop,List.map_take]
 rw[e,List.getElem?_take] at hv;split at hv
 ·rw[List.getElem?_drop] at hv;have:=h (k+j) v hv;rwa[Nat.add_assoc]
 ·cases hv
theorem RW.cut{w:World}{g o:Nat}{bs:List UInt8}(h:RW w g o bs)(k n:Nat)(hk:k+n<=bs.length):RW w g (o+k) ((bs.drop k).take n) :=
 ⟨zd9 h.rd k n hk,fun j hj=>by have:=h.wr (k+j) (by simp at hj;omega);rwa[Nat.add_assoc]⟩
theorem RW.cell{w:World}{g o:Nat}{bs:List UInt8}(h:RW w g o bs)(k:Nat)(hk:k<bs.length):w.cell? ⟨g,o+k,none⟩=some (.int .u8 (zah bs k)):=h.rd k _ (zam bs k hk)
theorem RW.free{w:World}{g o:Nat}{bs:List UInt8}(h:RW w g o bs)(k:Nat)(hk:k<bs.length):w.frozen? ⟨g,o+k,none⟩=false:=(h.wr k hk).2
theorem RW.of_block{w:World}{g:Nat}{t:TypeId}{bs:List UInt8}(h:w.heap[g]? = some (.cells (cellsOf bs).toArray t (0,0))):RW w g 0 bs:=by
 have hc:∀k,w.cell? ⟨g,0+k,none⟩=(cellsOf bs)[k]?:=fun k=>by rw[Nat.zero_add,cell_of_row w g k _ t _ h];simp
 refine⟨fun j v hv=>(hc j).trans hv,fun j hj=>⟨?_,?_⟩⟩
 ·rw[hc,zam bs j hj];rfl
 ·exact frozen_of_row w g _ _ t h
theorem RW.new(w:World)(t:TypeId)(bs:List UInt8):RW (w.alloc (.cells (cellsOf bs).toArray t)) w.heap.size 0 bs:=RW.of_block (heap_alloc_new w _)
def lay(bs:List UInt8)(k:Nat)(cs:List UInt8):List UInt8:=(List.range bs.length).map fun i=>if k<=i/\i<k+cs.length then cs.getD (i-k) 0 else bs.getD i 0
theorem zgU(bs:List UInt8)(k:Nat)(cs:List UInt8):(lay bs k cs).length=bs.length:=by simp[lay]
theorem zbQ(bs:List UInt8)(k:Nat)(h:k<bs.length):(cellsOf bs)[k]? = some (.int .u8 ((bs.getD k 0).toNat:Int)):=zam bs k h
theorem zpC(bs:List UInt8)(k:Nat)(cs:List UInt8)(i:Nat)(hi:i<bs.length):(lay bs k cs).getD i 0=if k<=i/\i<k+cs.length then cs.getD (i-k) 0 else bs.getD i 0:=by
 simp only[lay,List.getD_eq_getElem?_getD,List.getElem?_map,List.getElem?_range hi,Option.map_some,Option.getD_some]
theorem lay_all(bs cs:List UInt8)(h:cs.length=bs.length):lay bs 0 cs=cs:=by
 apply List.ext_getElem
 ·rw[zgU,h]
 ·intro i h1 h2;simp only[lay,List.getElem_map,List.getElem_range];rw[if_pos ⟨Nat.zero_le _,by omega⟩,Nat.sub_zero,List.getD_eq_getElem?_getD,List.getElem?_eq_getElem h2];rfl
theorem RW.store{w:World}{g o:Nat}{bs:List UInt8}(h:RW w g o bs)(k:Nat)(cs:List UInt8)(hk:k+cs.length<=bs.length):RW (w.setCells g (o+k) (cellsOf cs)) g o (lay bs k cs):=by
 have hl:=zgU bs k cs;refine⟨fun j v hv=>?_,?_⟩
 ·have hj:j<bs.length:=by have:=(List.getElem?_eq_some_iff.1 hv).1;rw[zaa,hl] at this;exact this
  rw[zbQ _ _ (by omega),zpC _ _ _ _ hj] at hv;cases hv
  by_cases hc:k<=j/\j<k+cs.length
  ·rw[if_pos hc];have hs:=World.cell?_setCells_in g (cellsOf cs) (o+k) w (fun i hi=>by have:=(h.wr (k+i) (by rw[zaa] at hi;omega)).1;rwa[<-Nat.add_assoc] at this) (j-k) (by rw[zaa];omega);rw[show o+k+(j-k)=o+j by omega] at hs;rw[hs];have:=zbQ cs (j-k) (by omega);rw[List.getElem?_eq_getElem (by rw[zaa];omega)] at this;exact this
  ·rw[if_neg hc,World.cell?_setCells_out g (cellsOf cs) (o+k) w ⟨g,o+j,none⟩ (fun _ _=>by rw[zaa];show o+j<o+k\/o+k+cs.length<=o+j;omega)];exact h.rd j _ (zbQ bs j hj)
 ·rw[hl];exact World.there_setCells h.wr g (o+k) (cellsOf cs)
theorem RW.store0{w:World}{g:Nat}{bs:List UInt8}(h:RW w g 0 bs)(cs:List UInt8)(hk:cs.length=bs.length):RW (w.setCells g 0 (cellsOf cs)) g 0 cs:=by
 have:=h.store 0 cs (by omega);rw[lay_all bs cs hk] at this;exact this
theorem RW.apart{w:World}{g o:Nat}{bs:List UInt8}(h:RW w g o bs)(g' o':Nat)(vs:List Value)(ha:g≠g'):RW (w.setCells g' o' vs) g o bs :=
 ⟨World.rangeAt_setCells_apart h.rd g' o' vs (.inl ha),World.there_setCells h.wr g' o' vs⟩
theorem RW.set_{w:World}{g o:Nat}{bs:List UInt8}(h:RW w g o bs)(k:Nat)(hk:k<bs.length)(x:UInt8):RW (w.setCell ⟨g,o+k,none⟩ (.int .u8 (x.toNat:Int))) g o (bs.set k x):=by
 obtain⟨old,hold⟩:=Option.isSome_iff_exists.1 (h.wr k hk).1;have hf:∀a:Addr,(w.setCell ⟨g,o+k,none⟩ (.int .u8 (x.toNat:Int))).frozen? a=w.frozen? a:=fun a=>World.frozen?_setCells g [.int .u8 (x.toNat:Int)] (o+k) w a
 refine⟨fun j v hv=>?_,fun j hj=>?_⟩
 ·have hj:j<bs.length:=by have:=(List.getElem?_eq_some_iff.1 hv).1;rw[zaa,List.length_set] at this;exact this
  rw[zbQ _ _ (by rw[List.length_set];exact hj)] at hv;cases hv
  by_cases e:k=j
  ·subst e;rw[World.cell?_setCell_same _ _ _ hold];simp[hj]
  ·rw[World.cell?_setCell_other _ _ _ _ (by simp)];rw[h.rd j _ (zbQ bs j hj)];simp[e]
 ·rw[hf];refine⟨?_,(h.wr j (by simpa using hj)).2⟩;exact World.isSome_setCells g [.int .u8 (x.toNat:Int)] (o+k) w _ (h.wr j (by simpa using hj)).1
theorem RW.apart1{w:World}{g o:Nat}{bs:List UInt8}(h:RW w g o bs)(a:Addr)(v:Value)(ha:g≠a.block):RW (w.setCell a v) g o bs :=
 h.keep (heap_setCell_other w a g v ha)
theorem below_setCells{B b:Nat}{a:World}(hb:B<=b):∀(vs:List Value) (o:Nat) (w:World),Below B a w->Below B a (w.setCells b o vs)
 | [],_,_,h=>h
 | _::vs,o,_,h=>below_setCells hb vs (o+1) _ (h.setCell (p:=⟨b,o,none⟩) hb _)
theorem RW.drew{w:World}{g o:Nat}{bs:List UInt8}(h:RW w g o bs):RW w.drew g o bs:=⟨h.rd,h.wr⟩
theorem RW.drewN{w:World}{g o:Nat}{bs:List UInt8}(h:RW w g o bs)(n:Nat):RW (w.drewN n) g o bs:=⟨h.rd,h.wr⟩
theorem RW.slice{w:World}{g o n B:Nat}{bs:List UInt8}(h:RW w g o bs)(hn:bs.length=n)(hg:g<B):Rd w B (some ⟨g,o,none⟩) n bs :=
 ⟨hn,fun _=>⟨g,o,rfl,hg,fun k hk=>h.cell k (by omega)⟩⟩
theorem zbF{w:World}{B n b o:Nat}{bs:List UInt8}(h:Rd w B (some ⟨b,o,none⟩) n bs):w.rangeAt b o (cellsOf bs):=fun j v hv=>by
 have hj:j<n:=by have:=(List.getElem?_eq_some_iff.1 hv).1;rw[zaa,h.len] at this;exact this
 obtain⟨b',o',e,_,hc⟩:=h.at_ (by omega);cases e
 rw[hc j hj];rw[zam bs j (by rw[h.len];exact hj)] at hv;exact hv
theorem zot:(Tryz.prog.info? 166).map (·.size)=some 16:=by kernel_rfl
theorem zu:(Tryz.prog.info? 206).map (·.size)=some 64:=by kernel_rfl
theorem ztw:(Tryz.prog.info? 163).map (·.size)=some 1024:=by kernel_rfl
theorem zs7:(Tryz.prog.info? 239).map (·.size)=some 112:=by kernel_rfl
theorem zul:(Tryz.prog.info? 238).map (·.size)=some 7:=by kernel_rfl
theorem zaB{bs:List UInt8}(h:bs.length=16):(Tryz.prog.info? 166).map (·.size)=some (cellsOf bs).length:=by rw[zot,zaa,h]
theorem znq{bs:List UInt8}(h:bs.length=64):(Tryz.prog.info? 206).map (·.size)=some (cellsOf bs).length:=by rw[zu,zaa,h]
theorem zqO{bs:List UInt8}(h:bs.length=1024):(Tryz.prog.info? 163).map (·.size)=some (cellsOf bs).length:=by rw[ztw,zaa,h]
theorem zrE{bs:List UInt8}(h:bs.length=112):(Tryz.prog.info? 239).map (·.size)=some (cellsOf bs).length:=by rw[zs7,zaa,h]
theorem zqK{bs:List UInt8}(h:bs.length=7):(Tryz.prog.info? 238).map (·.size)=some (cellsOf bs).length:=by rw[zul,zaa,h]
theorem zdm{fn:Func}{R:Ending->World->Prop}{a:Act}{w:World}{p:Tmp}{ty e:TypeId}{N:Nat}(hres:fn.results=#[.cell p ty])(hd:a.defers = [])(g:Nat)(bs:List UInt8)
  (hp:a.tmps.getD p undef=.pointer (some ⟨g,0,none⟩)) (hg:w.rangeAt g 0 (cellsOf bs)) (hu:Tryz.prog.underlying ty=some (.array N e))
  (hi:(Tryz.prog.info? ty).map (·.size)=some (cellsOf bs).length) (h:R (.returned (bv bs)) w):
  bodyPost Tryz.prog fn R .ret a w:=by
 refine bodyPost_ret (v:=bv bs) ?_ hd h;have hp':a.tmps[p]?.getD undef=.pointer (some ⟨g,0,none⟩):=by simpa using hp
 have hl:=run_loadVar_mid (P:=Tryz.prog) w g 0 ty (cellsOf bs) _ hg hu rfl hi;simp[results,hres,hp',asAddr,hl,bv]
theorem zaN{o:Oper}{a:Act}{w:World}{ty:TypeId}{t:Tmp}{g k:Nat}{bs:List UInt8}{N:Nat}{e:TypeId}(ho:o.op=.load ty (.tmp t))(ht:a.tmps.getD t undef=.pointer (some ⟨g,k,none⟩))(hc:w.rangeAt g k (cellsOf bs))
  (hu:Tryz.prog.underlying ty=some (.array N e)) (hi:(Tryz.prog.info? ty).map (·.size)=some (cellsOf bs).length):
  (execOp a.eval o).run Tryz.prog w=.ok (.value (bv bs)) w:=by
 have h:=run_loadAt_mid (P:=Tryz.prog) w g k ty (cellsOf bs) _ hc hu rfl hi;unfold execOp;simp only[ho,Act.eval,ht,Sem.run_bind,h,Sem.run_pure,Result.andThen,bv]
theorem zeX{ops:Array Oper}{rest:List Oper}{o:Oper}{a:Act}{w:World}{Q:Exit->Act->World->Prop}(hgd:o.guard=none)(arr e:TypeId)(n:Nat)(x:Operand)(ho:o.op=.sliceToArrayPointer arr x)
  (A:Option Addr) (len cap:Nat) (hx:a.eval x=.slice A len cap) (hu:Tryz.prog.underlying arr=some (.array n e)) (hn:n<=len)
  (h:wpList Tryz.prog ops Q rest (a.put o.dst (.pointer A)) w):wpList Tryz.prog ops Q (o::rest) a w :=
 wpList_plain hgd fun K hK=>by have hk:=hK _ _ h;clear hK h;unfold Oper.wp execOp;simp only[ho,hx,Sem.run_bind,run_arrayAt w arr e n A len cap hu hn,Result.andThen_ok,Sem.run_pure];exact hk
theorem zk7{o:Oper}{a:Act}{w:World}{arr e:TypeId}{n:Nat}{t:Tmp}{A:Option Addr}{len cap:Nat}(ho:o.op=.sliceToArrayPointer arr (.tmp t))(ht:a.tmps.getD t undef=.slice A len cap)
  (hu:Tryz.prog.underlying arr=some (.array n e)) (hn:n<=len):(execOp a.eval o).run Tryz.prog w=.ok (.value (.pointer A)) w:=by
 unfold execOp;simp only[ho,Act.eval,ht,Sem.run_bind,run_arrayAt w arr e n A len cap hu hn,Sem.run_pure,Result.andThen]
theorem zaI{ops:Array Oper}{rest:List Oper}{o:Oper}{a:Act}{w:World}{Q:Exit->Act->World->Prop}(hgd:o.guard=none)(ty:TypeId)(x:Operand)(ho:o.op=.load ty x)
  (g k:Nat) (hx:a.eval x=.pointer (some ⟨g,k,none⟩)) (bs:List UInt8) {N:Nat} {e:TypeId} (hc:w.rangeAt g k (cellsOf bs))
  (hu:Tryz.prog.underlying ty=some (.array N e)) (hi:(Tryz.prog.info? ty).map (·.size)=some (cellsOf bs).length)
  (h:wpList Tryz.prog ops Q rest (a.put o.dst (.agg (cellsOf bs).toArray)) w):wpList Tryz.prog ops Q (o::rest) a w :=
 wpList_load_mid hgd ty x ho g k hx (cellsOf bs) _ hc hu rfl hi h
theorem zaY{ops:Array Oper}{rest:List Oper}{o:Oper}{a:Act}{w:World}{Q:Exit->Act->World->Prop}(hgd:o.guard=none)(ty:TypeId)(x y:Operand)(ho:o.op=.store ty x y)
  (g k:Nat) (bs:List UInt8) (hx:a.eval x=.pointer (some ⟨g,k,none⟩)) (hy:a.eval y=.agg (cellsOf bs).toArray)
  (ht:w.there g k bs.length) (hi:(Tryz.prog.info? ty).map (·.size)=some (cellsOf bs).length)
  (h:wpList Tryz.prog ops Q rest (a.put o.dst undef) (w.setCells g k (cellsOf bs))):wpList Tryz.prog ops Q (o::rest) a w :=
 wpList_store_mid hgd ty x y ho g k (cellsOf bs).toArray hx hy (by simpa [zaa] using ht) (by rw[hi];simp) (zbk bs) h
theorem zbV{o:Oper}{a:Act}{w:World}{K:Act->World->Prop}{Q:Exit->Act->World->Prop}(ty:TypeId)(x y:Operand)(ho:o.op=.store ty x y)(hd:o.dst=none)
  (g k:Nat) (bs:List UInt8) (hx:a.eval x=.pointer (some ⟨g,k,none⟩)) (hy:a.eval y=bv bs)
  (ht:w.there g k bs.length) (hi:(Tryz.prog.info? ty).map (·.size)=some (cellsOf bs).length)
  (h:K a (w.setCells g k (cellsOf bs))):o.wp Tryz.prog a w K Q:=by
 refine wp_store_mid ty x y ho g k (cellsOf bs).toArray hx hy (by simpa [zaa] using ht) (by rw[hi];simp) (zbk bs) ?_;rw[hd];exact h
theorem cf51(vs:Array Value)(w:World):(callFunc 44 vs).run Tryz.prog w=.ok (.enter 44 vs) w:=by go_simp
theorem ztr{w:World}{xs ys:List UInt8}(e:Ending)(w':World)(h:∃v,e=.returned (.tuple #[v,.bool true])/\Own w' w.heap.size v (xorL xs ys 16)/\Below w.heap.size w w'):
  ∃u,e=.returned u/\Ext w w'/\K.holds (.bytb 16 (xorL xs ys 16) true) w' u:=by
 obtain⟨v,rfl,ho,hb⟩:=h;obtain⟨A,c,rfl,hr,_⟩:=ho.rdn (zar xs ys 16);exact⟨_,rfl,hb,A,c,rfl,hr⟩
def z16:List UInt8:=List.replicate 16 0
theorem zas:z16.length=16:=by simp[z16]
theorem zbv:(cellsOf z16).toArray=#[.int .u8 0,.int .u8 0,.int .u8 0,.int .u8 0,.int .u8 0,.int .u8 0,.int .u8 0,.int .u8 0,.int .u8 0,.int .u8 0,.int .u8 0,.int .u8 0,.int .u8 0,.int .u8 0,.int .u8 0,.int .u8 0]:=rfl
def ztc(xs ys:List UInt8):List K:=[.byt 16 (xs),.byt 16 (ys),.bytb 16 (xorL xs ys 16) true,.bytb 16 (xorL xs ys 16) true,.byt 16 (xorL xs ys 16),.eq (.bool true),.byt 16 (xorL xs ys 16),.eq (.bool true)]
theorem zb9(xs ys:List UInt8)(w:World)(hx:xs.length=16)(hy:ys.length=16):
  Calls Tryz.prog 136 #[bv xs,bv ys] w fun e w'=>e=.returned (bv (xorL xs ys 16))/\Ext w w':=by
 unfold bv;go_enter Tryz.func136,Tryz.ntmps136;go_wp2_with fail
 rw[<-zbv];have h1:=RW.new w 166 xs;have x1:=Ext.alloc w (.cells (cellsOf xs).toArray 166);obtain⟨W1,hW1⟩:∃W1,w.alloc (.cells (cellsOf xs).toArray 166)=W1:=⟨_,rfl⟩;have z1:W1.heap.size=w.heap.size+1:=by rw[<-hW1];simp
 rw[hW1] at h1 x1 ⊢;have h2:=RW.new W1 166 ys;have x2:=Ext.alloc W1 (.cells (cellsOf ys).toArray 166);obtain⟨W2,hW2⟩:∃W2,W1.alloc (.cells (cellsOf ys).toArray 166)=W2:=⟨_,rfl⟩;have z2:W2.heap.size=w.heap.size+1+1:=by rw[<-hW2,<-z1];simp
 rw[hW2] at h2 x2 ⊢;have h3:=RW.new W2 166 z16;have x3:=Ext.alloc W2 (.cells (cellsOf z16).toArray 166);obtain⟨W3,hW3⟩:∃W3,W2.alloc (.cells (cellsOf z16).toArray 166)=W3:=⟨_,rfl⟩;rw[hW3] at h3 x3 ⊢;have h1:=(h1.later (by omega) x2).later (by omega) x3;have h2:=h2.later (by omega) x3;obtain⟨G,hG⟩:∃G,w.heap.size=G:=⟨_,rfl⟩;rw[z1] at h2;rw[z2] at h3;have HXT:=hid ((x1.trans x2).trans x3);rw[hG] at h1 h2 h3 ⊢;have HX:=hid h1;have HY:=hid h2;have HZ:=hid h3;have HG:=hid hG;clear hW1 hW2 hW3 z1 z2 x1 x2 x3 h1 h2 h3 hG;refine zdj (ztc xs ys) (zab ⟨?_,?_,?_,?_,?_,?_,?_,?_,trivial⟩) ?_
 ·intro a w hk;have s2:a.tmps.getD 2 undef=.pointer (some ⟨G,0,none⟩):=hk.was 2;refine zaW (.slice (some ⟨G,0,none⟩) 16 16) ?_ ⟨_,_,rfl,((HX.out.later (by simp[*]) hk.ext).slice hx ((HX.out.later (by simp[*]) hk.ext).lt (by simp[*])))⟩;go_simp
 ·intro a w hk;have s3:a.tmps.getD 3 undef=.pointer (some ⟨G+1,0,none⟩):=hk.was 3;refine zaW (.slice (some ⟨G+1,0,none⟩) 16 16) ?_ ⟨_,_,rfl,((HY.out.later (by simp[*]) hk.ext).slice hy ((HY.out.later (by simp[*]) hk.ext).lt (by simp[*])))⟩;go_simp
 ·intro a w hk;obtain⟨A8,c8,s8,r8⟩:=hk.byt_ 0 8;obtain⟨A9,c9,s9,r9⟩:=hk.byt_ 1 9;exact za0 rfl rfl (by simp only[List.map_toArray,List.map_cons,List.map_nil,Act.eval,s8,s9]<;>rfl) cf51 (zoi A8 A9 16 c8 c9 xs ys w r8 r9 (by omega)) (fun e w1 h=>ztr e w1 h)
 ·intro a w hk;obtain⟨A10,c10,s10,r10⟩:=hk.val 2 10;exact zau rfl rfl s10 ⟨A10,c10,rfl,r10⟩
 ·intro a w hk;obtain⟨A7,c7,s7,r7⟩:=hk.val 3 7;exact zfj rfl rfl s7 rfl ⟨_,_,rfl,r7⟩
 ·intro a w hk;obtain⟨A7,c7,s7,r7⟩:=hk.val 3 7;exact zfj rfl rfl s7 rfl rfl
 ·intro a w hk;obtain⟨A11,c11,s11,r11⟩:=hk.byt_ 4 11;exact zaM rfl rfl s11 ⟨_,_,rfl,r11⟩
 ·intro a w hk;have s12:=hk.eq_ 5 12;exact zaM rfl rfl s12 rfl
 ·intro a w1 hf;obtain⟨A8,c8,s8,r8⟩:=hf.val 0 8;obtain⟨A9,c9,s9,r9⟩:=hf.val 1 9;obtain⟨A10,c10,s10,r10⟩:=hf.val 2 10;obtain⟨A7,c7,s7,r7⟩:=hf.val 3 7;obtain⟨A11,c11,s11,r11⟩:=hf.val 4 11;obtain⟨A5,c5,s5,r5⟩:=hf.val 6 5;have hx:=hf.ext;have e:=hf.fr;clear hf;simp only[ztc,frV,kPut,Act.put,List.setIfInBounds_toArray,List.set_cons_zero,List.set_cons_succ,s8,s9,s10,s7,s11,s5] at e;clear s8 s9 s10 s7 s11 s5;subst e;have HO:=hid (HZ.out.later (by simp[z16]) hx);obtain⟨b,o,rfl,_,_⟩:=r5.at_ (by omega);have HR:=hid (zbF r5);have HX1:=hid (Ext.trans HXT.out hx);have HZB:=hid (below_setCells (B:=w.heap.size) (b:=G+1+1) (a:=w) (by have:=HG.out;omega) (cellsOf (xorL xs ys 16)) 0 w1 HX1.out);have HST:=hid (HO.out.store0 (xorL xs ys 16) (by rw[zar,zas]));have HSZ:=hid (zaB (zar xs ys 16));have HTH:=hid (show w1.there (G+1+1) 0 (xorL xs ys 16).length by rw[zar];exact HO.out.wr)
  clear hx r8 r9 r10 r7 r11 r5 HO;go_wp2_with (first
   | (refine zeX rfl 166 5 16 (.tmp 13) rfl (some ⟨b,o,none⟩) 16 c5 rfl Tryz.underlying166 (Nat.le_refl _) ?_)
   | (refine zaI rfl 166 (.tmp 14) rfl b o rfl (xorL xs ys 16) HR.out Tryz.underlying166 HSZ.out ?_)
   | (refine zaY rfl 166 (.tmp 4) (.tmp 15) rfl (G+1+1) 0 (xorL xs ys 16) rfl rfl HTH.out HSZ.out ?_))
  refine zdm rfl rfl (G+1+1) (xorL xs ys 16) rfl HST.out.rd Tryz.underlying166 HSZ.out ⟨rfl,HZB.out⟩
theorem zj3(w:World)(bs:List UInt8)(k:Nat)(h:bs.length=7)(hk:k<7):
  (Instr.index 238 (.agg (cellsOf bs).toArray) (.int .i64 k)).run Tryz.prog w=.ok (.int .u8 (nb bs k:Nat)) w:=by
 have hc:(cellsOf bs)[k]? = some (.int .u8 (zah bs k)):=zam bs k (by omega);simp only[Instr.index,asIntOf,Sem.run_bind,Sem.run_pure,Result.andThen_ok,run_underlying Tryz.underlying238];rw[if_pos ⟨by omega,by omega⟩];simp[part,hc,zaV]
theorem zgG(w:World)(bs:List UInt8)(k:Nat)(h:bs.length=16)(hk:k<16):
  (Instr.index 166 (.agg (cellsOf bs).toArray) (.int .i64 k)).run Tryz.prog w=.ok (.int .u8 (nb bs k:Nat)) w:=by
 have hc:(cellsOf bs)[k]? = some (.int .u8 (zah bs k)):=zam bs k (by omega);simp only[Instr.index,asIntOf,Sem.run_bind,Sem.run_pure,Result.andThen_ok,run_underlying Tryz.underlying166];rw[if_pos ⟨by omega,by omega⟩];simp[part,hc,zaV]
theorem znl(w:World):(sizeOf 238).run Tryz.prog w=.ok 7 w:=by kernel_rfl
theorem zj7(w:World)(bs:List UInt8)(k:Nat)(_h:bs.length=112)(hk:k<16):
  (Instr.index 239 (.agg (cellsOf bs).toArray) (.int .i64 k)).run Tryz.prog w=.ok (.agg (cellsOf ((bs.drop (k*7)).take 7)).toArray) w:=by
 simp only[Instr.index,asIntOf,Sem.run_bind,Sem.run_pure,Result.andThen_ok,run_underlying Tryz.underlying239];rw[if_pos ⟨by omega,by omega⟩];simp only[part,Sem.run_bind,Tryz.isAgg238,znl,Result.andThen_ok,Sem.run_pure,Int.toNat_natCast,if_true];congr 2;apply Array.toList_inj.1;simp[cellsOf,List.map_drop,List.map_take,List.extract_eq_take_drop]
def sevB:List UInt8:=sevT.flatten.map UInt8.ofNat
theorem zdh:sevB.length=112:=by decide +kernel
def sevR(i:Nat):List UInt8:=(sevB.drop (i*7)).take 7
theorem zjS:∀i<16,(sevR i).length=7:=by decide +kernel
theorem zrz:∀i<16,∀k<7,nb (sevR i) k=sevN i k:=by decide +kernel
def Sev(w:World):Prop:=w.rangeAt 5 0 (cellsOf sevB)
theorem zaj{w w':World}{g o:Nat}{cs:List Value}(h:w.rangeAt g o cs)(hx:Ext w w'):w'.rangeAt g o cs:=fun j v hv=>by
 have h1:=h j v hv;exact(Below.cell hx (p:=⟨g,o+j,none⟩) (World.block_lt_of_cell? w _ h1)).trans h1
theorem Sev.later{w w':World}(h:Sev w)(hx:Ext w w'):Sev w':=zaj h hx
def z7:List UInt8:=List.replicate 7 0
theorem zo8:(cellsOf z7).toArray=#[.int .u8 0,.int .u8 0,.int .u8 0,.int .u8 0,.int .u8 0,.int .u8 0,.int .u8 0]:=rfl
def mixS(b:List UInt8)(i k:Nat):List UInt8:=(List.range 16).map fun j=>if j<i then mixF b j else if j=i then mixK b i k else 0
theorem zbL(b:List UInt8)(i k:Nat):(mixS b i k).length=16:=by simp[mixS]
theorem ziZ(b:List UInt8):mixS b 0 0=z16:=by
 apply List.ext_getElem
 ·simp[mixS,z16]
 ·intro j h1 h2;simp only[mixS,z16,List.getElem_map,List.getElem_range,List.getElem_replicate,Nat.not_lt_zero,if_false];split<;>rfl
theorem ziv(b:List UInt8)(i:Nat):mixS b i 7=mixS b (i+1) 0:=by
 refine List.map_congr_left fun j _=>?_
 by_cases h1:j<i
 ·rw[if_pos h1,if_pos (by omega)]
 ·by_cases h2:j=i
  ·subst h2;rw[if_neg h1,if_pos rfl,if_pos (by omega)];rfl
  ·rw[if_neg h1,if_neg h2,if_neg (by omega)];split<;>rfl
theorem zja(b:List UInt8):mixS b 16 0=mixL b:=by
 refine List.map_congr_left fun j hj=>?_
 rw[if_pos (List.mem_range.1 hj)]
theorem zor(b:List UInt8)(i k:Nat)(hi:i<16):(mixS b i k).getD i 0=mixK b i k:=by
 simp[mixS,List.getD_eq_getElem?_getD,hi]
theorem zky(b:List UInt8)(i k:Nat)(_hi:i<16):(mixS b i k).set i (mixK b i (k+1))=mixS b i (k+1):=by
 apply List.ext_getElem
 ·simp[mixS]
 ·intro j h1 h2;simp only[List.getElem_set,mixS,List.getElem_map,List.getElem_range];by_cases e:i=j
  ·subst e;simp
  ·rw[if_neg e];by_cases h3:j<i
   ·rw[if_pos h3,if_pos h3]
   ·rw[if_neg h3,if_neg h3,if_neg (Ne.symm e),if_neg (Ne.symm e)]
theorem zgR(x y:UInt8):bits .xor .u8 (x.toNat:Int) (y.toNat:Int)=((x^^^y).toNat:Int):=by
 rw[UInt8.toNat_xor,u8_xor_nat _ _ (UInt8.toNat_lt _) (UInt8.toNat_lt _)]
theorem zc5(bs:List UInt8)(w:World)(hb:bs.length=16)(hs:Sev w):
  Calls Tryz.prog 139 #[bv bs] w fun e w'=>e=.returned (bv (mixL bs))/\Ext w w':=by
 unfold bv;have hlt3:5<w.heap.size:=World.block_lt_of_cell? w _ (hs 0 _ (zam sevB 0 (by rw[zdh];omega)));have HS83:=hid (zrE zdh);have h1:=RW.new w 166 bs;have x1:=Ext.alloc w (.cells (cellsOf bs).toArray 166);obtain⟨W1,hW1⟩:∃W1,w.alloc (.cells (cellsOf bs).toArray 166)=W1:=⟨_,rfl⟩;have z1:W1.heap.size=w.heap.size+1:=by rw[<-hW1];simp
 have h2:=RW.new W1 166 z16;have x2:=Ext.alloc W1 (.cells (cellsOf z16).toArray 166);obtain⟨W2,hW2⟩:∃W2,W1.alloc (.cells (cellsOf z16).toArray 166)=W2:=⟨_,rfl⟩;have z2:W2.heap.size=w.heap.size+1+1:=by rw[<-hW2,<-z1];simp
 have h3:=RW.new W2 166 z16;have x3:=Ext.alloc W2 (.cells (cellsOf z16).toArray 166);obtain⟨W3,hW3⟩:∃W3,W2.alloc (.cells (cellsOf z16).toArray 166)=W3:=⟨_,rfl⟩;rw[hW1] at h1 x1;rw[hW2] at h2 x2;rw[hW3] at h3 x3;have h1:=(h1.later (by omega) x2).later (by omega) x3;have h2:=h2.later (by rw[zas];omega) x3;have hs3:=((hs.later x1).later x2).later x3;obtain⟨G,hG⟩:∃G,w.heap.size=G:=⟨_,rfl⟩;rw[z1] at h2;rw[z2] at h3;have HXT:=hid ((x1.trans x2).trans x3);rw[hG] at h1 h2 h3;have HX:=hid h1;have HR:=hid h2;have HO:=hid h3;have HSV:=hid hs3;have HG:=hid hG;have HW:=hid (And.intro hW1 (And.intro hW2 hW3));clear hW1 hW2 hW3 z1 z2 x1 x2 x3 h1 h2 h3 hs3 hs hG;go_enter Tryz.func139,Tryz.ntmps139;go_wp2_with (first
  | (rw[<-zbv,HW.out.1,HW.out.2.1,HW.out.2.2,HG.out];clear HW;refine zaI rfl 239 (.global 5) rfl 5 0 rfl sevB HSV.out Tryz.underlying239 HS83.out ?_))
 go_loopw [9] (fun v wr=>∃i:Nat,i<=16/\v=.int .i64 i/\RW wr G 0 bs/\RW wr (G+1) 0 z16/\RW wr (G+1+1) 0 (mixS bs i 0)/\Ext w wr) (fun v _=>16-(intOf v).toNat)
 case atStart=>exact⟨0,by omega,rfl,HX.out,HR.out,by rw[ziZ];exact HO.out,HXT.out⟩
 case round =>
  clear HX HR HO HXT HSV;obtain⟨i,hi,rfl,hX,hR,hO,hx⟩:=hrel;by_cases hlt:i<16
  ·have HI:=hid hlt;have HL7:=hid (zjS i hlt);have h5:=RW.new wr 238 z7;have x5:=Ext.alloc wr (.cells (cellsOf z7).toArray 238);obtain⟨W5,hW5⟩:∃W5,wr.alloc (.cells (cellsOf z7).toArray 238)=W5:=⟨_,rfl⟩;rw[hW5] at h5 x5;obtain⟨S,hS⟩:∃S,wr.heap.size=S:=⟨_,rfl⟩;rw[hS] at h5;have gx:=hX.lt (by omega);have gr:=hR.lt (by rw[zas];omega);have go:=hO.lt (by rw[zbL];omega);rw[hS] at gx gr go;have hX:=(hX.later (by omega) x5).apart S 0 (cellsOf (sevR i)) (by omega);have hR:=(hR.later (by rw[zas];omega) x5).apart S 0 (cellsOf (sevR i)) (by omega);have hO:=(hO.later (by rw[zbL];omega) x5).apart S 0 (cellsOf (sevR i)) (by omega);have h6:=h5.store0 (sevR i) (by rw[HL7.out];rfl);have hx5:=hx.trans x5;have hx6:=below_setCells (B:=w.heap.size) (b:=S) (a:=w) (by have:=HG.out;omega) (cellsOf (sevR i)) 0 W5 hx5;have HTH:=hid (show W5.there S 0 (sevR i).length by rw[HL7.out];exact h5.wr)
   obtain⟨W6,hW6⟩:∃W6,W5.setCells S 0 (cellsOf (sevR i))=W6:=⟨_,rfl⟩;rw[hW6] at hX hR hO h6 hx6;have HQ:=hid (And.intro hX (And.intro hR (And.intro hO hx6)));have H6:=hid h6;have HW:=hid (And.intro hW5 (And.intro hS hW6));have HSZ:=hid (zqK HL7.out);clear hX hR hO hx6 hx h6 h5 hx5 x5 hW5 hW6 hS gx gr go;go_wp2_with fail
   rw[zj7 _ _ i zdh hlt];simp only[Result.andThen];rw[Oper.upon_value];rw[show(sevB.drop (i*7)).take 7=sevR i from rfl];go_wp2_with (first
    | (rw[<-zo8,HW.out.1,HW.out.2.1];refine zaY rfl 238 (.tmp 5) (.tmp 12) rfl S 0 (sevR i) rfl rfl HTH.out HSZ.out ?_;rw[HW.out.2.2];clear HW HTH)
    | (refine zaI rfl 238 (.tmp 5) rfl S 0 rfl (sevR i) H6.out.rd Tryz.underlying238 HSZ.out ?_))
   clear H6;go_loopw [14] (fun v wr=>∃k:Nat,k<=7/\v=.int .i64 k/\RW wr G 0 bs/\RW wr (G+1) 0 z16/\RW wr (G+1+1) 0 (mixS bs i k)/\Ext w wr) (fun v _=>7-(intOf v).toNat)
   case atStart=>exact⟨0,by omega,rfl,HQ.out⟩
   case round =>
    clear HQ;obtain⟨k,hk,rfl,hX,hR,hO,hx⟩:=hrel;by_cases hkt:k<7
    ·have hv:=zfQ i hlt k hkt;have hc1:=hX.cell (sevN i k) (by omega);have hc2:=hO.cell i (by rw[zbL];exact hlt);have hf2:=hO.free i (by rw[zbL];exact hlt);rw[Nat.zero_add] at hc1 hc2 hf2;have e2:zah (mixS bs i k) i=((mixK bs i k).toNat:Int):=by unfold zah;rw[zor bs i k hlt]
     have hset:=hO.set_ i (by rw[zbL];exact hlt) (mixK bs i (k+1));rw[zky bs i k hlt,Nat.zero_add] at hset;have e3:((mixK bs i (k+1)).toNat:Int)=bits .xor .u8 ((mixK bs i k).toNat:Int) (zah bs (sevN i k)):=by rw[show zah bs (sevN i k)=((bs.getD (sevN i k) 0).toNat:Int) from rfl,zgR];rfl
     rw[e3] at hset;rw[e2] at hc2;have hX2:=hX.apart1 ⟨G+1+1,i,none⟩ (.int .u8 (bits .xor .u8 ((mixK bs i k).toNat:Int) (zah bs (sevN i k)))) (by simp;omega);have hR2:=hR.apart1 ⟨G+1+1,i,none⟩ (.int .u8 (bits .xor .u8 ((mixK bs i k).toNat:Int) (zah bs (sevN i k)))) (by simp);have hx2:=hx.setCell (p:=⟨G+1+1,i,none⟩) (by have:=HG.out;simp;omega) (.int .u8 (bits .xor .u8 ((mixK bs i k).toNat:Int) (zah bs (sevN i k))));have b1:=zae bs (sevN i k);have b2:=zaf bs (sevN i k);have b3:=(mixK bs i k).toNat_lt;obtain⟨M,hM⟩:∃M:Nat,(mixK bs i k).toNat=M:=⟨_,rfl⟩;obtain⟨V,hV⟩:∃V,sevN i k=V:=⟨_,rfl⟩;have HN:=hid (show nb (sevR i) k=V by rw[zrz i hlt k hkt,hV]);rw[hM] at hc2 hset hX2 hR2 hx2 b3;rw[hV] at hc1 hset hX2 hR2 hx2 b1 b2 hv;have HQ:=hid (And.intro hX2 (And.intro hR2 (And.intro hset hx2)));clear hX hR hO hx hset hX2 hR2 hx2 e2 e3 hM hV;go_wp2_with fail
     rw[zj3 _ _ k HL7.out hkt,HN.out];simp only[Result.andThen];rw[Oper.upon_value];go_wp2_with fail
     go_region;go_wp2_with fail
     go_roundw
     case rel=>exact⟨k+1,by omega,by go_num,HQ.out.1.drew,HQ.out.2.1.drew,HQ.out.2.2.1.drew,HQ.out.2.2.2.drew⟩
     case measure=>simp[intOf];omega
    ·obtain rfl:k=7:=by omega
     rw[ziv] at hO;have HQ:=hid (And.intro hX (And.intro hR (And.intro hO hx)));clear hX hR hO hx;go_wp2_with fail
     go_roundw
     case rel=>exact⟨i+1,by omega,by go_num,HQ.out⟩
     case measure=>simp[intOf];omega
  ·obtain rfl:i=16:=by omega
   rw[zja] at hO;have hS:=hR.store0 (mixL bs) (by rw[zaA,zas]);have hx2:=below_setCells (B:=w.heap.size) (b:=G+1) (a:=w) (by have:=HG.out;omega) (cellsOf (mixL bs)) 0 wr hx;have HO:=hid hO.rd;have HS:=hid hS.rd;have HX2:=hid hx2;have HSZ:=hid (zaB (zaA bs));have HTH:=hid (show wr.there (G+1) 0 (mixL bs).length by rw[zaA];exact hR.wr);clear hX hR hO hx hS hx2;go_wp2_with (first
    | (refine zaI rfl 166 (.tmp 3) rfl (G+1+1) 0 rfl (mixL bs) HO.out Tryz.underlying166 HSZ.out ?_)
    | (refine zaY rfl 166 (.tmp 2) (.tmp 27) rfl (G+1) 0 (mixL bs) rfl rfl HTH.out HSZ.out ?_))
   refine zdm rfl rfl (G+1) (mixL bs) rfl HS.out Tryz.underlying166 HSZ.out ⟨rfl,HX2.out⟩
def tabB:List UInt8:=S1++S2++X1++X2
theorem zaQ:tabB.length=1024:=by decide +kernel
theorem zmm:∀q<4,∀x<256,nb tabB (q*256+x)=nb (tabT q) x:=by decide +kernel
def TB(w:World)(g:Nat):Prop:=w.rangeAt g 0 (cellsOf tabB)
theorem TB.later{w w':World}{g:Nat}(h:TB w g)(hx:Ext w w'):TB w' g:=zaj h hx
theorem TB.lt{w:World}{g:Nat}(h:TB w g):g<w.heap.size:=World.block_lt_of_cell? w _ (h 0 _ (zam tabB 0 (by rw[zaQ];omega)))
def layS(which:Nat)(b:List UInt8)(i:Nat):List UInt8:=(List.range 16).map fun j=>if j<i then layF which b j else b.getD j 0
theorem zca(which:Nat)(b:List UInt8)(i:Nat):(layS which b i).length=16:=by simp[layS]
theorem zif(which:Nat)(b:List UInt8)(h:b.length=16):layS which b 0=b:=by
 apply List.ext_getElem
 ·simp[layS,h]
 ·intro j h1 h2;simp[layS,h2]
theorem ziO(which:Nat)(b:List UInt8):layS which b 16=layL which b:=by
 refine List.map_congr_left fun j hj=>?_
 rw[if_pos (List.mem_range.1 hj)]
theorem zli(which:Nat)(b:List UInt8)(i:Nat)(_hi:i<16):(layS which b i).set i (layF which b i)=layS which b (i+1):=by
 apply List.ext_getElem
 ·simp[layS]
 ·intro j h1 h2;simp only[List.getElem_set,layS,List.getElem_map,List.getElem_range];by_cases e:i=j
  ·subst e;simp
  ·rw[if_neg e];by_cases h3:j<i
   ·rw[if_pos h3,if_pos (by omega)]
   ·rw[if_neg h3,if_neg (by omega)]
theorem zn0(g which:Nat)(bs:List UInt8)(w:World)(hw:which=1\/which=2)(hb:bs.length=16)(ht:TB w g):
  Calls Tryz.prog 187 #[.pointer (some ⟨g,0,none⟩),.int .i64 which,bv bs] w fun e w'=>e=.returned (bv (layL which bs))/\Ext w w':=by
 unfold bv;have HT:=hid ht;have h1:=RW.new w 166 bs;have x1:=Ext.alloc w (.cells (cellsOf bs).toArray 166);obtain⟨W1,hW1⟩:∃W1,w.alloc (.cells (cellsOf bs).toArray 166)=W1:=⟨_,rfl⟩;have z1:W1.heap.size=w.heap.size+1:=by rw[<-hW1];simp
 have h2:=RW.new W1 166 z16;have x2:=Ext.alloc W1 (.cells (cellsOf z16).toArray 166);obtain⟨W2,hW2⟩:∃W2,W1.alloc (.cells (cellsOf z16).toArray 166)=W2:=⟨_,rfl⟩;rw[hW1] at h1 x1;rw[hW2] at h2 x2;have h1:=h1.later (by omega) x2;obtain⟨G,hG⟩:∃G,w.heap.size=G:=⟨_,rfl⟩;rw[z1] at h2;have HXT:=hid (x1.trans x2);rw[hG] at h1 h2;have HX:=hid h1;have HR:=hid h2;have HG:=hid hG;have HW:=hid (And.intro hW1 hW2);have HSZ:=hid (zaB hb);clear hW1 hW2 z1 x1 x2 h1 h2 ht hG;rcases hw with rfl|rfl
 ·go_enter Tryz.func187,Tryz.ntmps187;go_wp2_with (first
   | (refine zaI rfl 166 (.tmp 5) rfl G 0 rfl bs HX.out.rd Tryz.underlying166 HSZ.out ?_)
   | (rw[<-zbv,HW.out.1,HW.out.2,HG.out];clear HW))
  go_loopw [14] (fun v wr=>∃i:Nat,i<=16/\v=.int .i64 i/\RW wr G 0 (layS 1 bs i)/\RW wr (G+1) 0 z16/\Ext w wr) (fun v _=>16-(intOf v).toNat)
  case atStart=>exact⟨0,by omega,rfl,by rw[zif _ _ hb];exact HX.out,HR.out,HXT.out⟩
  case round =>
   clear HX HR HXT;obtain⟨i,hi,rfl,hX,hR,hx⟩:=hrel;by_cases hlt:i<16
   ·have ht:=zaj HT.out hx;obtain⟨q,hq⟩:∃q,(0+i)%4=q:=⟨_,rfl⟩;have hq4:q<4:=by omega
    have htm:(i:Int).tmod 4=(q:Int):=by rw[Int.tmod_eq_emod_of_nonneg (by omega)];omega
    have hvl:=zcW bs i;have hcT:wr.cell? ⟨g,q*256+nb bs i,none⟩=some (.int .u8 ((layF 1 bs i).toNat:Int)):=by have h1:=ht (q*256+nb bs i) _ (zam tabB _ (by rw[zaQ];omega));rw[Nat.zero_add] at h1;rw[h1,zaV,zmm q hq4 _ hvl];unfold layF nb;rw[show(2*(1-1)+i)%4=q from hq]
    have hset:=hX.set_ i (by rw[zca];exact hlt) (layF 1 bs i);rw[zli 1 bs i hlt,Nat.zero_add] at hset;have hcX:=hX.cell i (by rw[zca];exact hlt);have hfX:=hX.free i (by rw[zca];exact hlt);rw[Nat.zero_add] at hcX hfX;have hR2:=hR.apart1 ⟨G,i,none⟩ (.int .u8 ((layF 1 bs i).toNat:Int)) (by simp);have hx2:=hx.setCell (p:=⟨G,i,none⟩) (by have:=HG.out;simp;omega) (.int .u8 ((layF 1 bs i).toNat:Int));obtain⟨V,hV⟩:∃V,nb bs i=V:=⟨_,rfl⟩;have HN:=hid hV;rw[hV] at hcT hvl;have hL:=(layF 1 bs i).toNat_lt;obtain⟨M,hM⟩:∃M:Nat,(layF 1 bs i).toNat=M:=⟨_,rfl⟩;rw[hM] at hcT hset hR2 hx2 hL;have HQ:=hid (And.intro hset (And.intro hR2 hx2));clear hX hR hx hset hR2 hx2 ht hV hM hq;go_wp2_with fail
    rw[zgG _ _ i hb hlt,HN.out];simp only[Result.andThen];rw[Oper.upon_value];go_wp2_with fail
    go_roundw
    case rel=>exact⟨i+1,by omega,by go_num,HQ.out⟩
    case measure=>simp[intOf];omega
   ·obtain rfl:i=16:=by omega
    rw[ziO] at hX;have hS:=hR.store0 (layL 1 bs) (by rw[zbf,zas]);have hx2:=below_setCells (B:=w.heap.size) (b:=G+1) (a:=w) (by have:=HG.out;omega) (cellsOf (layL 1 bs)) 0 wr hx;have HO:=hid hX.rd;have HS:=hid hS.rd;have HX2:=hid hx2;have HSZ:=hid (zaB (zbf 1 bs));have HTH:=hid (show wr.there (G+1) 0 (layL 1 bs).length by rw[zbf];exact hR.wr);clear hX hR hx hS hx2;go_wp2_with (first
     | (refine zaI rfl 166 (.tmp 5) rfl G 0 rfl (layL 1 bs) HO.out Tryz.underlying166 HSZ.out ?_)
     | (refine zaY rfl 166 (.tmp 6) (.tmp 31) rfl (G+1) 0 (layL 1 bs) rfl rfl HTH.out HSZ.out ?_))
    refine zdm rfl rfl (G+1) (layL 1 bs) rfl HS.out Tryz.underlying166 HSZ.out ⟨rfl,HX2.out⟩
 ·go_enter Tryz.func187,Tryz.ntmps187;go_wp2_with (first
   | (refine zaI rfl 166 (.tmp 5) rfl G 0 rfl bs HX.out.rd Tryz.underlying166 HSZ.out ?_)
   | (rw[<-zbv,HW.out.1,HW.out.2,HG.out];clear HW))
  go_loopw [14] (fun v wr=>∃i:Nat,i<=16/\v=.int .i64 i/\RW wr G 0 (layS 2 bs i)/\RW wr (G+1) 0 z16/\Ext w wr) (fun v _=>16-(intOf v).toNat)
  case atStart=>exact⟨0,by omega,rfl,by rw[zif _ _ hb];exact HX.out,HR.out,HXT.out⟩
  case round =>
   clear HX HR HXT;obtain⟨i,hi,rfl,hX,hR,hx⟩:=hrel;by_cases hlt:i<16
   ·have ht:=zaj HT.out hx;obtain⟨q,hq⟩:∃q,(2+i)%4=q:=⟨_,rfl⟩;have hq4:q<4:=by omega
    have htm:(2+(i:Int)).tmod 4=(q:Int):=by rw[Int.tmod_eq_emod_of_nonneg (by omega)];omega
    have hvl:=zcW bs i;have hcT:wr.cell? ⟨g,q*256+nb bs i,none⟩=some (.int .u8 ((layF 2 bs i).toNat:Int)):=by have h1:=ht (q*256+nb bs i) _ (zam tabB _ (by rw[zaQ];omega));rw[Nat.zero_add] at h1;rw[h1,zaV,zmm q hq4 _ hvl];unfold layF nb;rw[show(2*(2-1)+i)%4=q from hq]
    have hset:=hX.set_ i (by rw[zca];exact hlt) (layF 2 bs i);rw[zli 2 bs i hlt,Nat.zero_add] at hset;have hcX:=hX.cell i (by rw[zca];exact hlt);have hfX:=hX.free i (by rw[zca];exact hlt);rw[Nat.zero_add] at hcX hfX;have hR2:=hR.apart1 ⟨G,i,none⟩ (.int .u8 ((layF 2 bs i).toNat:Int)) (by simp);have hx2:=hx.setCell (p:=⟨G,i,none⟩) (by have:=HG.out;simp;omega) (.int .u8 ((layF 2 bs i).toNat:Int));obtain⟨V,hV⟩:∃V,nb bs i=V:=⟨_,rfl⟩;have HN:=hid hV;rw[hV] at hcT hvl;have hL:=(layF 2 bs i).toNat_lt;obtain⟨M,hM⟩:∃M:Nat,(layF 2 bs i).toNat=M:=⟨_,rfl⟩;rw[hM] at hcT hset hR2 hx2 hL;have HQ:=hid (And.intro hset (And.intro hR2 hx2));clear hX hR hx hset hR2 hx2 ht hV hM hq;go_wp2_with fail
    rw[zgG _ _ i hb hlt,HN.out];simp only[Result.andThen];rw[Oper.upon_value];go_wp2_with fail
    go_roundw
    case rel=>exact⟨i+1,by omega,by go_num,HQ.out⟩
    case measure=>simp[intOf];omega
   ·obtain rfl:i=16:=by omega
    rw[ziO] at hX;have hS:=hR.store0 (layL 2 bs) (by rw[zbf,zas]);have hx2:=below_setCells (B:=w.heap.size) (b:=G+1) (a:=w) (by have:=HG.out;omega) (cellsOf (layL 2 bs)) 0 wr hx;have HO:=hid hX.rd;have HS:=hid hS.rd;have HX2:=hid hx2;have HSZ:=hid (zaB (zbf 2 bs));have HTH:=hid (show wr.there (G+1) 0 (layL 2 bs).length by rw[zbf];exact hR.wr);clear hX hR hx hS hx2;go_wp2_with (first
     | (refine zaI rfl 166 (.tmp 5) rfl G 0 rfl (layL 2 bs) HO.out Tryz.underlying166 HSZ.out ?_)
     | (refine zaY rfl 166 (.tmp 6) (.tmp 31) rfl (G+1) 0 (layL 2 bs) rfl rfl HTH.out HSZ.out ?_))
    refine zdm rfl rfl (G+1) (layL 2 bs) rfl HS.out Tryz.underlying166 HSZ.out ⟨rfl,HX2.out⟩
theorem zkI(g i:Nat)(b k:List UInt8)(w:World)(hb:b.length=16)(hk:k.length=16)(hi:i<=1000)(ht:TB w g):
  Calls Tryz.prog 171 #[.pointer (some ⟨g,0,none⟩),.int .i64 i,bv b,bv k] w fun e w'=>e=.returned (bv (zbH i b k))/\Ext w w':=by
 have hgw:=ht.lt;have HI:=hid hi;unfold bv;have h1:=RW.new w 166 b;have x1:=Ext.alloc w (.cells (cellsOf b).toArray 166);obtain⟨W1,hW1⟩:∃W1,w.alloc (.cells (cellsOf b).toArray 166)=W1:=⟨_,rfl⟩;have z1:W1.heap.size=w.heap.size+1:=by rw[<-hW1];simp
 have h2:=RW.new W1 166 k;have x2:=Ext.alloc W1 (.cells (cellsOf k).toArray 166);obtain⟨W2,hW2⟩:∃W2,W1.alloc (.cells (cellsOf k).toArray 166)=W2:=⟨_,rfl⟩;have z2:W2.heap.size=w.heap.size+1+1:=by rw[<-hW2,<-z1];simp
 have h3:=RW.new W2 166 z16;have x3:=Ext.alloc W2 (.cells (cellsOf z16).toArray 166);obtain⟨W3,hW3⟩:∃W3,W2.alloc (.cells (cellsOf z16).toArray 166)=W3:=⟨_,rfl⟩;rw[hW1] at h1 x1;rw[hW2] at h2 x2;rw[hW3] at h3 x3;have h1:=(h1.later (by omega) x2).later (by omega) x3;have h2:=h2.later (by omega) x3;obtain⟨G,hG⟩:∃G,w.heap.size=G:=⟨_,rfl⟩;rw[z1] at h2;rw[z2] at h3;have hx:=(x1.trans x2).trans x3;have HT:=hid (ht.later hx);have HXT:=hid hx;rw[hG] at h1 h2 h3;have HX:=hid h1;have HY:=hid h2;have HR:=hid h3;have HG:=hid hG;have HW:=hid (And.intro hW1 (And.intro hW2 hW3));have HSB:=hid (zaB hb);have HSK:=hid (zaB hk);have HSO:=hid (zaB (za4 i b k));obtain⟨r,hr⟩:∃r,i%2=r:=⟨_,rfl⟩;have hr2:r<2:=by omega
 have htm:(i:Int).tmod 2=(r:Int):=by rw[Int.tmod_eq_emod_of_nonneg (by omega)];omega
 have HSL:=hid (show zbH i b k=layL (1+r) (xorL b k 16) by rw[zbH,hr]);clear hW1 hW2 hW3 z1 z2 x1 x2 x3 h1 h2 h3 hG hx ht hr hi hgw;go_enter Tryz.func171,Tryz.ntmps171;go_wp2_with (first
  | (rw[<-zbv,HW.out.1,HW.out.2.1,HW.out.2.2,HG.out];clear HW;refine zaI rfl 166 (.tmp 6) rfl G 0 rfl b HX.out.rd Tryz.underlying166 HSB.out ?_)
  | (refine zaI rfl 166 (.tmp 6) rfl G 0 rfl b HX.out.rd Tryz.underlying166 HSB.out ?_)
  | (refine zaI rfl 166 (.tmp 7) rfl (G+1) 0 rfl k HY.out.rd Tryz.underlying166 HSK.out ?_))
 refine(zb9 b k _ hb hk).mono ?_;rintro e w1 ⟨rfl,hx1⟩;have HC:=hid (zn0 g (1+r) (xorL b k 16) w1 (by omega) (zar _ _ _) (HT.out.later hx1));have HX1:=hid hx1;clear hx1;go_wp2_with fail
 refine HC.out.mono ?_;rintro e w2 ⟨rfl,hx2⟩;rw[<-HSL.out];have hxx:=Ext.trans HX1.out hx2;have hr:=HR.out.later (by rw[zas];omega) hxx;have HS:=hid (hr.store0 (zbH i b k) (by rw[za4,zas])).rd;have HXE:=hid (below_setCells (B:=w.heap.size) (b:=G+1+1) (a:=w) (by have:=HG.out;omega) (cellsOf (zbH i b k)) 0 w2 (Ext.trans HXT.out hxx));have HTH:=hid (show w2.there (G+1+1) 0 (zbH i b k).length by rw[za4];exact hr.wr);clear hx2 hxx hr HC;go_wp2_with (refine zaY rfl 166 (.tmp 8) (.tmp 16) rfl (G+1+1) 0 (zbH i b k) rfl rfl HTH.out HSO.out ?_)
 refine zdm rfl rfl (G+1+1) (zbH i b k) rfl HS.out Tryz.underlying166 HSO.out ⟨rfl,HXE.out⟩
def RowsB(w:World)(b o:Nat)(ls:List (List UInt8)):Prop :=
 ∀i,i<ls.length->∃A c,w.cell? ⟨b,o+i,none⟩=some (.slice A (ls.getD i []).length c)/\Rd w w.heap.size A (ls.getD i []).length (ls.getD i [])
theorem RowsB.later{w w':World}{b o:Nat}{ls:List (List UInt8)}(h:RowsB w b o ls)(hx:Ext w w'):RowsB w' b o ls:=fun i hi=>by
 obtain⟨A,c,h1,h2⟩:=h i hi;exact⟨A,c,(Below.cell hx (p:=⟨b,o+i,none⟩) (World.block_lt_of_cell? w _ h1)).trans h1,h2.later hx⟩
theorem zb5{α:Type}(ls:List (List α))(k:Nat)(h:k<ls.length):(ls.take (k+1)).flatten=(ls.take k).flatten++ls.getD k []:=by
 rw[List.take_succ_eq_append_getElem h,List.flatten_append,za1 _ _ _ h];simp
theorem zbr{α:Type}(ls:List (List α))(k:Nat)(h:k<ls.length):zbI ls (k+1)=zbI ls k+(ls.getD k []).length:=by
 unfold zbI;rw[zb5 ls k h,List.length_append]
theorem zbC(w:World)(vs:List Value)(e:TypeId)(i:Nat)(v:Value)(h:vs[i]? = some v):(w.alloc (.cells vs.toArray e)).cell? ⟨w.heap.size,0+i,none⟩=some v:=by
 rw[Nat.zero_add,cell_of_row _ _ _ _ _ _ (heap_alloc_new w (.cells vs.toArray e))];simpa using h
theorem RowsB.lit(w:World)(vs:List Value)(e:TypeId)(ls:List (List UInt8))(h:∀i,i<ls.length->∃A c,vs[i]? = some (.slice A (ls.getD i []).length c)/\Rd w w.heap.size A (ls.getD i []).length (ls.getD i [])):
  RowsB (w.alloc (.cells vs.toArray e)) w.heap.size 0 ls:=fun i hi=>by
 obtain⟨A,c,h1,h2⟩:=h i hi;exact⟨A,c,zbC w vs e i _ h1,h2.later (Ext.alloc _ _)⟩
theorem RowsB.two(w:World)(A1 A2:Option Addr)(n1 n2 c1 c2:Nat)(e:TypeId)(xs ys:List UInt8)(h1:Rd w w.heap.size A1 n1 xs)(h2:Rd w w.heap.size A2 n2 ys):
  RowsB (w.alloc (.cells #[.slice A1 n1 c1,.slice A2 n2 c2] e)) w.heap.size 0 [xs,ys]:=by
 have e1:=h1.len;have e2:=h2.len;subst e1 e2;refine RowsB.lit w [.slice A1 xs.length c1,.slice A2 ys.length c2] e [xs,ys] fun i hi=>?_
 match i,hi with
 | 0,_=>exact⟨A1,c1,rfl,h1⟩
 | 1,_=>exact⟨A2,c2,rfl,h2⟩
theorem zdN(n:Nat)(w:World)(h0:0<n)(hn:n<=1000):
  Calls Tryz.prog 69 #[.slice none 0 0,.int .i64 n] w fun e w'=>∃v,e=.returned v/\Own w' w.heap.size v []/\Below w.heap.size w w':=by
 obtain⟨i0,hi0,hz0,hz1,hz2⟩:=info_parts Tryz.info5;have hr:=fun ty=>Lib.run_append_nil_zeros (P:=Tryz.prog) w 22 3 ty 5 i0 (.int .u8 0) .i64 .i64 Tryz.underlying22 Tryz.underlying3 hi0 hz0 n h0 (by omega) (by omega) (by rw[hz2];omega)
 have hc1:=grownCap_ge w n 0 5;have hc2:=grownCap_le_maxLen w n 0 5 (by unfold maxLen;omega);obtain⟨G,hG⟩:∃G,G=grownCap w n 0 5:=⟨_,rfl⟩;rw[<-hG] at hc1 hc2 hr;have hown:Own (w.drew.alloc (.cells (Builtin.zeroCells (Value.int .u8 0).cells n++Builtin.zeroCells (Value.int .u8 0).cells (G-n)) 5)) w.heap.size (.slice (some ⟨w.heap.size,0,none⟩) 0 G) [] :=
  World.ownsRow_made (w:=w.drew) (e:=5) (size:=1) _ G (Nat.le_refl _) hc2 (by have e1:(Value.int .u8 0).cells.size=1:=rfl;simp[Builtin.zeroCells,e1];omega)
 have hb:Below w.heap.size w (w.drew.alloc (.cells (Builtin.zeroCells (Value.int .u8 0).cells n++Builtin.zeroCells (Value.int .u8 0).cells (G-n)) 5)):=(Ext.drew1 w).trans (Ext.alloc _ _);have HO:=hid hown;have HB:=hid hb;unfold maxLen at hc2;clear hown hb hG hi0 hz0 hz1 hz2;go_enter Tryz.func69,Tryz.ntmps69;go_wp2_with (at_builtin;refine Lib.wpList_append_run _ rfl _ _ _ _ rfl _ _ rfl rfl _ _ (hr _) ?_)
 go_ret;exact⟨_,rfl,HO.out,HB.out⟩
theorem zcc(b o m c:Nat)(ls:List (List UInt8))(w:World)(hm:m=ls.length)(h:RowsB w b o ls)(h0:0<ls.flatten.length)(hl:ls.flatten.length<=1000)(hm2:m<=1000):
  Calls Tryz.prog 45 #[.slice (some ⟨b,o,none⟩) m c] w fun e w'=>∃v,e=.returned v/\Own w' w.heap.size v ls.flatten/\Below w.heap.size w w':=by
 go_enter Tryz.func45,Tryz.ntmps45;go_wp2_with fail
 go_loopw [3,11] (fun s i wr=>∃k:Nat,k<=m/\i=.int .i64 k/\s=.int .i64 (zbI ls k:Nat)/\Ext w wr) (fun _ i _=>m-(intOf i).toNat)
 case atStart=>exact⟨0,Nat.zero_le _,rfl,rfl,Below.refl _ _⟩
 case round =>
  obtain⟨k,hk,rfl,rfl,hx⟩:=hrel;by_cases hlt:k<m
  ·obtain⟨A,c1,hc,hrd⟩:=(h.later hx) k (by omega);have hs:=zbr ls k (by omega);have hle:=zcS ls k (by omega);obtain⟨S,hS⟩:∃S,zbI ls k=S:=⟨_,rfl⟩;obtain⟨L,hL⟩:∃L,(ls.getD k []).length=L:=⟨_,rfl⟩;obtain⟨S2,hS2⟩:∃S2,zbI ls (k+1)=S2:=⟨_,rfl⟩;rw[hL] at hc hs;rw[hS] at hs ⊢;rw[hS2] at hs hle;have HX:=hid hx;have HS2:=hid hS2;clear hL hS hS2 hrd hx h;go_wp2_with fail
   go_roundw
   case rel=>exact⟨k+1,by omega,by go_num,by rw[HS2.out,hs];go_num,HX.out⟩
   case measure=>simp[intOf];omega
  ·obtain rfl:k=m:=by omega
   have hall:zbI ls k=ls.flatten.length:=by rw[hm];exact zes ls
   rw[hall];obtain⟨T,hT⟩:∃T,ls.flatten.length=T:=⟨_,rfl⟩;rw[hT] at h0 hl ⊢;have HX:=hid hx;clear hx hall;have h1000:(T:Int)<=1000:=by omega
   go_wp2_with (go_at_call 69;refine(zdN _ _ h0 hl).mono ?_;rintro e w1 ⟨v1,rfl,hown1,hb1⟩)
   have HX1:=hid (Ext.trans HX.out hb1);have hown1:Own w1 w.heap.size v1 []:=hown1.base_mono (Below.size HX.out);clear HX hb1;go_wp2_with fail
   go_loopw [6,27] (fun v i wr=>∃j:Nat,j<=k/\i=.int .i64 j/\Own wr w.heap.size v (ls.take j).flatten/\Below w.heap.size w wr) (fun _ i _=>k-(intOf i).toNat)
   case atStart=>exact⟨0,Nat.zero_le _,rfl,by simpa using hown1,HX1.out⟩
   case round =>
    clear hown1 HX1;obtain⟨j,hj,rfl,hown,hb⟩:=hrel;by_cases hjt:j<k
    ·obtain⟨A,c1,hc,hrd⟩:=(h.later hb) j (by omega);have hle:=zcS ls j (by omega);have hss:=zbr ls j (by omega);have ht:=zb5 ls j (by omega);obtain⟨L,hL⟩:∃L,ls.getD j []=L:=⟨_,rfl⟩;rw[hL] at hc hrd hss ht;have hsz:=hb.size;have HB:=hid hb;have HT:=hid ht;have hxl:(ls.take j).flatten.length=zbI ls j:=rfl;obtain⟨X,hX⟩:∃X,(ls.take j).flatten=X:=⟨_,rfl⟩;rw[hX] at hown hxl;have HXX:=hid hX;obtain⟨M,hM⟩:∃M,L.length=M:=⟨_,rfl⟩;rw[hM] at hc hrd hss;rw[hT] at hle;clear hb ht hX h hL;go_wp2_with (at_builtin;refine za9 _ rfl (.tmp 31) (.tmp 32) 22 rfl Tryz.underlying22 Tryz.info5 w.heap.size _ X rfl hown _ A M c1 L rfl hrd (by omega) (by omega) ?_;intro v2 w2 hown2 hb2)
     have HO2:=hid hown2;have HB2:=hid (HB.out.trans hb2);clear hown2 hb2;go_roundw
     case rel=>exact⟨j+1,by omega,by go_num,by rw[HT.out,HXX.out];exact HO2.out,HB2.out⟩
     case measure=>simp[intOf];omega
    ·obtain rfl:j=k:=by omega
     have e:ls.take j=ls:=by rw[hm,List.take_length]
     rw[e] at hown;have HO:=hid hown;have HB:=hid hb;clear hown hb e;go_wp2_with fail
     go_ret;exact⟨_,rfl,HO.out,HB.out⟩
theorem cf63(vs:Array Value)(w:World):(callFunc 188 vs).run Tryz.prog w=.ok (.enter 188 vs) w:=by go_simp
theorem cf62(vs:Array Value)(w:World):(callFunc 45 vs).run Tryz.prog w=.ok (.enter 45 vs) w:=by go_simp
def RowP(xs ys:List UInt8)(w:World)(v:Value):Prop:=∃b,v=.slice (some ⟨b,0,none⟩) 2 2/\RowsB w b 0 [xs,ys]
theorem RowP.keep(xs ys:List UInt8):∀w w' v,Ext w w'->RowP xs ys w v->RowP xs ys w' v:=fun _ _ _ hx ⟨b,h1,h2⟩=>⟨b,h1,h2.later hx⟩
def AtP(bs:List UInt8)(w:World)(v:Value):Prop:=∃b o,v=.pointer (some ⟨b,o,none⟩)/\w.rangeAt b o (cellsOf bs)
theorem AtP.keep(bs:List UInt8):∀w w' v,Ext w w'->AtP bs w v->AtP bs w' v:=fun _ _ _ hx ⟨b,o,h1,h2⟩=>⟨b,o,h1,zaj h2 hx⟩
theorem zgf(A1 A2:Option Addr)(n1 n2 c1 c2:Nat)(w:World):(Instr.buildSlice 109 2 #[(0,.slice A1 n1 c1),(1,.slice A2 n2 c2)]).run Tryz.prog w=.ok (.slice (some ⟨w.heap.size,0,none⟩) 2 2) (w.alloc (.cells #[.slice A1 n1 c1,.slice A2 n2 c2] 22)):=by go_simp
theorem zhV{w:World}{b:Nat}{xs ys:List UInt8}(h:RowsB w b 0 [xs,ys])(hl:xs.length+ys.length=16):
  Calls Tryz.prog 45 #[.slice (some ⟨b,0,none⟩) 2 2] w (RetB w (xs++ys)):=by
 have hf:([xs,ys]:List (List UInt8)).flatten=xs++ys:=by simp
 have h1:=zcc b 0 2 2 [xs,ys] w rfl h (by rw[hf,List.length_append];omega) (by rw[hf,List.length_append];omega) (by omega);rw[hf] at h1;exact h1
def Con(w:World):Prop:=∀j,j<3->w.rangeAt 7 (j*2) [.int .u64 (chi j),.int .u64 (clo j)]
theorem Con.later{w w':World}(h:Con w)(hx:Ext w w'):Con w':=fun j hj=>zaj (h j hj) hx
def Two(w:World)(S r:Nat):Prop:=w.cell? ⟨S,0,none⟩=some (.int .u64 (chi r))/\w.cell? ⟨S,1,none⟩=some (.int .u64 (clo r))
theorem Two.later{w w':World}{S r:Nat}(h:Two w S r)(hx:Ext w w'):Two w' S r :=
 ⟨(Below.cell hx (p:=⟨S,0,none⟩) (World.block_lt_of_cell? w _ h.1)).trans h.1,(Below.cell hx (p:=⟨S,1,none⟩) (World.block_lt_of_cell? w _ h.2)).trans h.2⟩
theorem zqI:(Tryz.prog.info? 253).map (·.size)=some 2:=by kernel_rfl
def zsZ(S r:Nat):List K:=[.eq (.pointer (some ⟨S,0,none⟩)),.eq (.int .u64 (chi r)),.byt 8 (zay (chi r) 8),.eq (.pointer (some ⟨S,1,none⟩)),.eq (.int .u64 (clo r)),.byt 8 (zay (clo r) 8),.gen (RowP (zay (chi r) 8) (zay (clo r) 8)) (RowP.keep _ _),.byt 16 (zay (chi r) 8++zay (clo r) 8),.gen (AtP (zay (chi r) 8++zay (clo r) 8)) (AtP.keep _),.eq (bv (zay (chi r) 8++zay (clo r) 8)),.any]
theorem zl0(i:Nat)(w:World)(hi:i<=1000)(hc:Con w):
  Calls Tryz.prog 172 #[.int .i64 i] w fun e w'=>e=.returned (bv (zaS i))/\Ext w w':=by
 obtain⟨r,hr⟩:∃r,i%3=r:=⟨_,rfl⟩;have hr3:r<3:=by omega
 have htm:(i:Int).tmod 3=(r:Int):=by rw[Int.tmod_eq_emod_of_nonneg (by omega)];omega
 have hri:(r:Int)<3:=by omega
 have HCL:=hid (show zay (chi r) 8++zay (clo r) 8=zaS i by rw[zaS,hr]);have h3:=RW.new w 166 z16;have x3:=Ext.alloc w (.cells (cellsOf z16).toArray 166);obtain⟨W1,hW1⟩:∃W1,w.alloc (.cells (cellsOf z16).toArray 166)=W1:=⟨_,rfl⟩;have z1:W1.heap.size=w.heap.size+1:=by rw[<-hW1];simp
 rw[hW1] at h3 x3;have HL:=hid ((hc.later x3) r hr3);have x4:=Ext.alloc W1 (.cells #[.int .u64 (chi r),.int .u64 (clo r)] 253);have h4:Two (W1.alloc (.cells #[.int .u64 (chi r),.int .u64 (clo r)] 253)) (w.heap.size+1) r:=by rw[<-z1];have e:=heap_alloc_new W1 (.cells #[.int .u64 (chi r),.int .u64 (clo r)] 253);exact⟨by rw[cell_of_row _ _ _ _ _ _ e];rfl,by rw[cell_of_row _ _ _ _ _ _ e];rfl⟩
 obtain⟨W2,hW2⟩:∃W2,W1.alloc (.cells #[.int .u64 (chi r),.int .u64 (clo r)] 253)=W2:=⟨_,rfl⟩;rw[hW2] at h4 x4;have HXT:=hid (x3.trans x4);have HR:=hid (h3.later (by rw[zas];omega) x4);obtain⟨G,hG⟩:∃G,w.heap.size=G:=⟨_,rfl⟩;obtain⟨S,hS⟩:∃S,G+1=S:=⟨_,rfl⟩;rw[hG] at HR h4;rw[hS] at h4;have HS:=hid h4;have HG:=hid hG;have HW:=hid (And.intro hW1 (And.intro hW2 (And.intro hG (show W1.heap.size=S by omega))));clear hW1 hW2 z1 x3 x4 h3 h4 hG hS hr hc;go_enter Tryz.func172,Tryz.ntmps172;go_wp2_with (first
  | (rw[<-zbv,HW.out.1];refine wpList_load_mid rfl 253 (.tmp 6) rfl 7 (r*2) rfl [.int .u64 (chi r),.int .u64 (clo r)] _ HL.out Tryz.underlying253 rfl zqI ?_))
 rw[HW.out.2.1,HW.out.2.2.1,HW.out.2.2.2];clear HW HL htm;refine zb4 10 (zsZ S r) (zab ⟨?_,?_,?_,?_,?_,?_,?_,?_,?_,?_,fun h=>absurd rfl h,trivial⟩) ?_
 ·intro _ a w hk;have s3:a.tmps.getD 3 undef=.pointer (some ⟨S,0,none⟩):=hk.was 3;refine za ?_;go_simp
 ·intro _ a w hk;have s8:=hk.eq_ 0 8;refine za ?_;have hc:=(HS.out.later hk.ext).1;go_simp
 ·exact fun _ _ w h=>h.call cf63 (zgl (chi r) w) (fun e w1 h=>RetB.k (zaJ _ _) e w1 h)
 ·intro _ a w hk;have s3:a.tmps.getD 3 undef=.pointer (some ⟨S,0,none⟩):=hk.was 3;refine za ?_;go_simp
 ·intro _ a w hk;have s11:=hk.eq_ 3 11;refine za ?_;have hc:=(HS.out.later hk.ext).2;go_simp
 ·exact fun _ _ w h=>h.call cf63 (zgl (clo r) w) (fun e w1 h=>RetB.k (zaJ _ _) e w1 h)
 ·intro _ a w hk;obtain⟨A10,c10,s10,r10⟩:=hk.byt_ 2 10;obtain⟨A13,c13,s13,r13⟩:=hk.byt_ 5 13;refine zai (v:=.slice (some ⟨w.heap.size,0,none⟩) 2 2) (w':=w.alloc (.cells #[.slice A10 8 c10,.slice A13 8 c13] 22)) rfl ?_ (Ext.alloc _ _) ⟨_,rfl,RowsB.two w A10 A13 8 8 c10 c13 22 _ _ r10 r13⟩;have e:=zgf A10 A13 8 8 c10 c13 w;simp only[execOp,Act.eval,List.map_toArray,List.map_cons,List.map_nil,s10,s13,Sem.run_bind,e,Sem.run_pure,Result.andThen]
 ·intro _ a w hk;obtain⟨b14,s14,g14⟩:=hk.val 6 14;exact za0 rfl rfl (by simp only[List.map_toArray,List.map_cons,List.map_nil,Act.eval,s14]<;>rfl) cf62 (zhV g14 (by simp[zaJ])) (fun e w1 h=>RetB.k (by simp[zaJ]) e w1 h)
 ·intro _ a w hk;obtain⟨A15,c15,s15,r15⟩:=hk.byt_ 7 15;obtain⟨b,o,rfl,_,_⟩:=r15.at_ (by omega);exact zai (v:=.pointer (some ⟨b,o,none⟩)) (w':=w) rfl (zk7 rfl s15 Tryz.underlying166 (Nat.le_refl _)) (Ext.refl w) ⟨b,o,rfl,zbF r15⟩
 ·intro _ a w hk;obtain⟨b16,o16,s16,g16⟩:=hk.val 8 16;exact zai (v:=bv (zay (chi r) 8++zay (clo r) 8)) (w':=w) rfl (zaN rfl s16 g16 Tryz.underlying166 (zaB (by simp[zaJ]))) (Ext.refl w) rfl
 ·intro a w1 hf;obtain⟨A10,c10,s10,r10⟩:=hf.val 2 10;obtain⟨A13,c13,s13,r13⟩:=hf.val 5 13;obtain⟨b14,s14,g14⟩:=hf.val 6 14;obtain⟨A15,c15,s15,r15⟩:=hf.val 7 15;obtain⟨b16,o16,s16,g16⟩:=hf.val 8 16;have hx:=hf.ext;have e:=hf.fr;clear hf;simp only[zsZ,frV,kPut,Act.put,List.setIfInBounds_toArray,List.set_cons_zero,List.set_cons_succ,s10,s13,s14,s15,s16] at e;clear s10 s13 s14 s15 s16;subst e;have HXE:=hid (below_setCells (B:=w.heap.size) (b:=G) (a:=w) (by have:=HG.out;omega) (cellsOf (zay (chi r) 8++zay (clo r) 8)) 0 w1 (Ext.trans HXT.out hx));have hr:=HR.out.later (by rw[zas];omega) hx;have hl:(zay (chi r) 8++zay (clo r) 8).length=16:=by simp[zaJ]
  have HS2:=hid (hr.store0 (zay (chi r) 8++zay (clo r) 8) (by rw[hl,zas])).rd;refine zbV 166 (.tmp 2) (.tmp 17) rfl rfl G 0 (zay (chi r) 8++zay (clo r) 8) rfl rfl (by rw[hl];exact hr.wr) (zaB hl) ?_;clear hx hr;go_wp2_with fail
  refine zdm rfl rfl G (zay (chi r) 8++zay (clo r) 8) rfl HS2.out Tryz.underlying166 (zaB hl) ⟨by rw[HCL.out],HXE.out⟩
theorem zhI(w:World)(dT sT ty elem:TypeId)(b o dLen dCap:Nat)(a:Addr)(sLen sCap sz:Nat)(cs:List Value)
  (hu:Tryz.prog.underlying dT=some (.slice elem)) (hs:(Tryz.prog.info? elem).map (·.size)=some sz) (hn:cs.length=Nat.min sLen dLen*sz)
  (hsrc:∀j v,cs[j]? = some v->w.cell? (a.add j)=some v) (hc:∀j,j<cs.length->(w.cell? ⟨b,o+j,none⟩).isSome=true) (hf:∀j,j<cs.length->w.frozen? ⟨b,o+j,none⟩=false) (h1:∀v ∈ cs,v.oneCell'=true):
  (Builtin.copy_ #[dT,sT] ty #[.slice (some ⟨b,o,none⟩) dLen dCap,.slice (some a) sLen sCap]).run Tryz.prog w=.ok (goInt (Nat.min sLen dLen:Nat)) (w.setCells b o cs):=by
 have hl:=run_loadCells_list (P:=Tryz.prog) w a cs hsrc;have hst:=run_storeCells_cells (P:=Tryz.prog) b o cs 0 w (by simpa using hc) (by simpa using hf) h1;cases hq:Tryz.prog.info? elem with
 | none=>simp[hq] at hs
 | some i =>
   have hi:i.size=sz:=by simpa [hq] using hs
   simp[Builtin.copy_,run_underlying hu,Builtin.lenOf,Builtin.firstCells,sizeOf,typeInfo,hq,hi,<-hn,hl,hst]
theorem zgo{ops:Array Oper}{rest:List Oper}{o:Oper}{a:Act}{w:World}{Q:Exit->Act->World->Prop}(hgd:o.guard=none)(d s:Operand)(dT sT elem:TypeId)(sz:Nat)
  (ho:o.op=.call { callee:=.builtin .copy,args:=#[d,s],argTypes:=#[dT,sT] }) (hu:Tryz.prog.underlying dT=some (.slice elem)) (hs:(Tryz.prog.info? elem).map (·.size)=some sz)
  (g k dLen dCap sLen sCap b p:Nat) (bs:List UInt8) (hd:a.eval d=.slice (some ⟨g,k,none⟩) dLen dCap) (hx:a.eval s=.slice (some ⟨b,p,none⟩) sLen sCap)
  (hl:bs.length=Nat.min sLen dLen*sz) (hc:w.rangeAt b p (cellsOf bs)) (ht:w.there g k bs.length)
  (h:wpList Tryz.prog ops Q rest (a.put o.dst (goInt (Nat.min sLen dLen:Nat))) (w.setCells g k (cellsOf bs))):wpList Tryz.prog ops Q (o::rest) a w :=
 wpList_plain hgd fun K hK=>by
  have hk:=hK _ _ h;clear hK h;have hr:=fun ty=>zhI w dT sT ty elem g k dLen dCap ⟨b,p,none⟩ sLen sCap sz (cellsOf bs) hu hs (by rw[zaa];exact hl)
   (fun j v hv=>by rw[Addr.add_mid];exact hc j v hv) (fun j hj=>(ht j (by rw[zaa] at hj;exact hj)).1) (fun j hj=>(ht j (by rw[zaa] at hj;exact hj)).2) (zby bs)
  have hrun:=hr o.type;unfold Oper.wp;simp[execOp,ho,resolve,invoke,builtin,hd,hx,hrun,Result.andThen];exact hk
def FL(f:Nat->List UInt8)(n:Nat):List UInt8:=(List.range (n*16)).map fun p=>(f (p/16)).getD (p%16) 0
theorem zaq(f:Nat->List UInt8)(n:Nat):(FL f n).length=n*16:=by simp[FL]
theorem zq(f:Nat->List UInt8)(n j:Nat)(hj:j<n)(hl:(f j).length=16):((FL f n).drop (j*16)).take 16=f j:=by
 apply List.ext_getElem
 ·simp[FL,hl];omega
 ·intro i h1 h2;have hi:i<16:=by omega
  simp only[FL,List.getElem_take,List.getElem_drop,List.getElem_map,List.getElem_range];rw[show(j*16+i)/16=j by omega,show(j*16+i)%16=i by omega];simp[List.getD_eq_getElem?_getD,h2]
theorem zb7{f h:Nat->List UInt8}{n:Nat}(e:∀j,j<n->f j=h j):FL f n=FL h n:=by
 refine List.map_congr_left fun p hp=>?_
 have:=List.mem_range.1 hp;rw[e (p/16) (by omega)]
theorem zt9(f:Nat->List UInt8)(n j:Nat)(c:List UInt8)(_hj:j<n)(hc:c.length=16):lay (FL f n) (j*16) c=FL (fun k=>if k=j then c else f k) n:=by
 unfold lay;rw[zaq];refine List.map_congr_left fun p hp=>?_
 have hp:=List.mem_range.1 hp;by_cases h:j*16<=p/\p<j*16+c.length
 ·rw[if_pos h];show _=(if p/16=j then c else f (p/16)).getD (p%16) 0;rw[if_pos (by omega),show p-j*16=p%16 by omega]
 ·rw[if_neg h];show _=(if p/16=j then c else f (p/16)).getD (p%16) 0;rw[if_neg (by omega)];simp[FL,List.getD_eq_getElem?_getD,hp]
theorem zri(n:Nat):FL (fun _=>z16) n=List.replicate (n*16) 0:=by
 apply List.ext_getElem
 ·simp[FL]
 ·intro p h1 h2;simp only[FL,List.getElem_map,List.getElem_range,List.getElem_replicate,z16];rw[List.getD_eq_getElem?_getD,List.getElem?_replicate];split<;>rfl
theorem RW.blk{w:World}{g n:Nat}{f:Nat->List UInt8}(h:RW w g 0 (FL f n))(j:Nat)(hj:j<n)(hl:(f j).length=16):RW w g (j*16) (f j):=by
 have:=h.cut (j*16) 16 (by rw[zaq];omega);rw[zq f n j hj hl,Nat.zero_add] at this;exact this
theorem RW.setBlk{w:World}{g n:Nat}{f:Nat->List UInt8}(h:RW w g 0 (FL f n))(j:Nat)(c:List UInt8)(hj:j<n)(hc:c.length=16):RW (w.setCells g (j*16) (cellsOf c)) g 0 (FL (fun k=>if k=j then c else f k) n):=by
 have:=h.store (j*16) c (by rw[zaq];omega);rw[zt9 f n j c hj hc,Nat.zero_add] at this;exact this
theorem zgB{w:World}{g n o:Nat}{f:Nat->List UInt8}(h:w.rangeAt g o (cellsOf (FL f n)))(j:Nat)(hj:j<n)(hl:(f j).length=16):w.rangeAt g (o+j*16) (cellsOf (f j)):=by
 have:=zd9 h (j*16) 16 (by rw[zaq];omega);rw[zq f n j hj hl] at this;exact this
theorem cf50(vs:Array Value)(w:World):(callFunc 172 vs).run Tryz.prog w=.ok (.enter 172 vs) w:=by go_simp
theorem cf46(vs:Array Value)(w:World):(callFunc 171 vs).run Tryz.prog w=.ok (.enter 171 vs) w:=by go_simp
theorem cf27(vs:Array Value)(w:World):(callFunc 139 vs).run Tryz.prog w=.ok (.enter 139 vs) w:=by go_simp
theorem cf36(vs:Array Value)(w:World):(callFunc 136 vs).run Tryz.prog w=.ok (.enter 136 vs) w:=by go_simp
theorem ziy:Tryz.prog.underlying 22=some (.slice (Tryz.prog.elem 22)):=by kernel_rfl
theorem zmz(w:World):(sizeOf (Tryz.prog.elem 22)).run Tryz.prog w=.ok 1 w:=by kernel_rfl
theorem sz5:(Tryz.prog.info? 5).map (·.size)=some 1:=by kernel_rfl
theorem zeL{ops:Array Oper}{rest:List Oper}{o:Oper}{a:Act}{w:World}{Q:Exit->Act->World->Prop}(hgd:o.guard=none)(d s:Operand)
  (ho:o.op=.call { callee:=.builtin .copy,args:=#[d,s],argTypes:=#[22,22] })
  (g k dLen dCap B m c:Nat) (A:Option Addr) (bs:List UInt8) (hd:a.eval d=.slice (some ⟨g,k,none⟩) dLen dCap) (hx:a.eval s=.slice A m c)
  (hr:Rd w B A m bs) (q:Nat) (hq:Nat.min m dLen=q) (ht:w.there g k q)
  (h:wpList Tryz.prog ops Q rest (a.put o.dst (.int .i64 q)) (w.setCells g k (cellsOf (bs.take dLen)))):wpList Tryz.prog ops Q (o::rest) a w:=by
 subst hq;have hl:=hr.len;by_cases hm:0<m
 ·obtain⟨b,p,rfl,_,_⟩:=hr.at_ hm;have hc:=zd9 (zbF hr) 0 (Nat.min m dLen) (by rw[hl,Nat.zero_add];exact Nat.min_le_left _ _);have e:(bs.drop 0).take (Nat.min m dLen)=bs.take dLen:=by
   rw[List.drop_zero];rcases Nat.le_total m dLen with h1|h1
   ·rw[show Nat.min m dLen=m from Nat.min_eq_left h1,List.take_of_length_le (by omega),List.take_of_length_le (by omega)]
   ·rw[show Nat.min m dLen=dLen from Nat.min_eq_right h1]
  rw[e,Nat.add_zero] at hc;have hlen:(bs.take dLen).length=Nat.min m dLen:=by rw[<-e,List.drop_zero,List.length_take,hl];exact Nat.min_eq_left (Nat.min_le_left _ _)
  exact zgo hgd d s 22 22 5 1 ho Tryz.underlying22 sz5 g k dLen dCap m c b p (bs.take dLen) hd hx (by rw[hlen,Nat.mul_one]) hc (by rw[hlen];exact ht) h
 ·obtain rfl:m=0:=by omega
  obtain rfl:bs = []:=List.eq_nil_of_length_eq_zero hl;have hn:Nat.min 0 dLen=0:=Nat.zero_min _;rw[hn] at h;exact wpList_plain hgd fun K hK=>by
   have hk:K (a.put o.dst (goInt 0)) w:=by have:=hK _ _ h;simpa [cellsOf,World.setCells,goInt] using this
   clear hK h;have hrun:=run_copy_none (P:=Tryz.prog) w 22 22 o.type 5 (some ⟨g,k,none⟩) A dLen dCap 0 c Tryz.underlying22 sz5 hn;unfold Oper.wp;simp[execOp,ho,resolve,invoke,builtin,hd,hx,hrun,Result.andThen];exact hk
def z64:List UInt8:=FL (fun _=>z16) 4
theorem zbq:z64.length=64:=zaq _ _
theorem zi9:(cellsOf z64).toArray=#[.int .u8 0,.int .u8 0,.int .u8 0,.int .u8 0,.int .u8 0,.int .u8 0,.int .u8 0,.int .u8 0,.int .u8 0,.int .u8 0,.int .u8 0,.int .u8 0,.int .u8 0,.int .u8 0,.int .u8 0,.int .u8 0,.int .u8 0,.int .u8 0,.int .u8 0,.int .u8 0,.int .u8 0,.int .u8 0,.int .u8 0,.int .u8 0,.int .u8 0,.int .u8 0,.int .u8 0,.int .u8 0,.int .u8 0,.int .u8 0,.int .u8 0,.int .u8 0,.int .u8 0,.int .u8 0,.int .u8 0,.int .u8 0,.int .u8 0,.int .u8 0,.int .u8 0,.int .u8 0,.int .u8 0,.int .u8 0,.int .u8 0,.int .u8 0,.int .u8 0,.int .u8 0,.int .u8 0,.int .u8 0,.int .u8 0,.int .u8 0,.int .u8 0,.int .u8 0,.int .u8 0,.int .u8 0,.int .u8 0,.int .u8 0,.int .u8 0,.int .u8 0,.int .u8 0,.int .u8 0,.int .u8 0,.int .u8 0,.int .u8 0,.int .u8 0]:=by kernel_rfl
def wS(key:List UInt8)(i:Nat):List UInt8:=FL (fun j=>if j<=i then zbi key j else z16) 4
theorem zeC(key:List UInt8)(i:Nat):(wS key i).length=64:=zaq _ _
theorem zr3(key:List UInt8):wS key 3=FL (zbi key) 4:=zb7 fun j hj=>by rw[if_pos (by omega)]
theorem zm6{key:List UInt8}(h:16<=key.length):key.take 16=zbx key 0:=by
 apply List.ext_getElem
 ·simp[zbx];omega
 ·intro i h1 h2;have hi:i<16:=by simpa [zbx] using h2
  simp[zbx,List.getElem?_eq_getElem (show i<key.length by omega)]
theorem zqY{key:List UInt8}(h:key.length<=32):lay z16 0 ((key.drop 16).take 16)=zbx key 16:=by
 unfold lay zbx;rw[zas];refine List.map_congr_left fun i hi=>?_
 have hi:=List.mem_range.1 hi;by_cases h1:16+i<key.length
 ·rw[if_pos ⟨Nat.zero_le _,by simp;omega⟩];simp[List.getElem?_drop,hi,Nat.sub_zero]
 ·rw[if_neg (by simp;omega)];rw[List.getD_eq_getElem?_getD,List.getD_eq_getElem?_getD,List.getElem?_eq_none (show key.length<=16+i by omega),z16,List.getElem?_replicate];split<;>rfl
theorem zqR{key:List UInt8}:FL (fun k=>if k=0 then zbx key 0 else z16) 4=wS key 0:=zb7 fun j _=>by
 by_cases h:j=0
 ·subst h;rfl
 ·simp only[h,if_false,show ¬j<=0 by omega]
theorem zq4(key:List UInt8)(i:Nat):FL (fun k=>if k=i+1 then zbi key (i+1) else(if k<=i then zbi key k else z16)) 4=wS key (i+1):=zb7 fun j _=>by
 by_cases h:j=i+1
 ·subst h;simp
 ·by_cases h2:j<=i
  ·simp only[h,if_false,h2,if_true,show j<=i+1 by omega]
  ·simp only[h,if_false,h2,show ¬j<=i+1 by omega]
def zlX(G n:Nat)(key:List UInt8):List K:=[.eq (.slice (some ⟨G+1+1,0,none⟩) 16 16),.byc n (key),.byt (n-16) (key.drop 16),.any]
def znn(g G F i:Nat)(SI HI SJ:List UInt8):List K:=[.eq (.int .i64 i),.eq (.int .i64 (i+1:Nat)),.eq (.pointer (some ⟨g,0,none⟩)),.eq (.int .i64 i),.eq (.int .i64 i),.eq (.pointer (some ⟨G+1,i*16,none⟩)),.eq (bv SI),.eq (.int .i64 F),.eq (.int .i64 i),.eq (.int .i64 (F+i:Nat)),.eq (bv (zaS (F+i))),.eq (bv (zbH i SI (zaS (F+i)))),.eq (bv (mixL (zbH i SI (zaS (F+i))))),.eq (bv HI),.eq (bv SJ),.eq (.pointer (some ⟨G+1,(i+1)*16,none⟩)),.any]
theorem zng(g n c:Nat)(A:Option Addr)(key:List UInt8)(w:World)(h:Rd w w.heap.size A n key)(hn:n=16\/n=24\/n=32)(hc:n<=c)(ht:TB w g)(hs:Sev w)(hco:Con w):
  Calls Tryz.prog 135 #[.pointer (some ⟨g,0,none⟩),.slice A n c] w fun e w'=>e=.returned (.agg (cellsOf (FL (zbi key) 4)).toArray)/\Ext w w':=by
 have hl:=h.len;have h1:=RW.new w 206 z64;have x1:=Ext.alloc w (.cells (cellsOf z64).toArray 206);obtain⟨W1,hW1⟩:∃W1,w.alloc (.cells (cellsOf z64).toArray 206)=W1:=⟨_,rfl⟩;have z1:W1.heap.size=w.heap.size+1:=by rw[<-hW1];simp
 have h2:=RW.new W1 206 z64;have x2:=Ext.alloc W1 (.cells (cellsOf z64).toArray 206);obtain⟨W2,hW2⟩:∃W2,W1.alloc (.cells (cellsOf z64).toArray 206)=W2:=⟨_,rfl⟩;have z2:W2.heap.size=w.heap.size+1+1:=by rw[<-hW2,<-z1];simp
 have h3:=RW.new W2 166 z16;have x3:=Ext.alloc W2 (.cells (cellsOf z16).toArray 166);obtain⟨W3,hW3⟩:∃W3,W2.alloc (.cells (cellsOf z16).toArray 166)=W3:=⟨_,rfl⟩;rw[hW1] at h1 x1;rw[hW2] at h2 x2;rw[hW3] at h3 x3;have h1:=(h1.later (by rw[zbq];omega) x2).later (by rw[zbq];omega) x3;have h2:=h2.later (by rw[zbq];omega) x3;obtain⟨G,hG⟩:∃G,w.heap.size=G:=⟨_,rfl⟩;rw[z1] at h2;rw[z2] at h3;have hx3:=(x1.trans x2).trans x3;have hK3:=h.later hx3;rw[hG] at h1 h2 h3;have h2':=h2.setBlk 0 (key.take 16) (by omega) (by rw[List.length_take,hl];omega);rw[zm6 (by omega),zqR,Nat.zero_mul] at h2';have h1':=h1.apart (G+1) 0 (cellsOf (key.take 16)) (by omega);have h3':=h3.apart (G+1) 0 (cellsOf (key.take 16)) (by omega);have hx4:=below_setCells (B:=w.heap.size) (b:=G+1) (a:=w) (by omega) (cellsOf (key.take 16)) 0 W3 hx3;rw[zm6 (by omega)] at h1' h3' hx4
 have HKR:=hid ((h.below hx4 (Nat.le_refl _)).more hx4.size);have HK3:=hid hK3;have HTH1:=hid (show W3.there (G+1) 0 16 from fun j hj=>h2.wr j (by rw[zbq];omega));have HQ16:=hid (show Nat.min n 16=16 from Nat.min_eq_right (by omega));obtain⟨W4,hW4⟩:∃W4,W3.setCells (G+1) 0 (cellsOf (zbx key 0))=W4:=⟨_,rfl⟩;rw[hW4] at h1' h2' h3' hx4 HKR;have HQ4:=hid (And.intro h1' (And.intro h2' h3'));have HX4:=hid hx4;have HW:=hid (And.intro hW1 (And.intro hW2 (And.intro hW3 (And.intro hG (And.intro (zm6 (key:=key) (by omega)) hW4)))));have HG:=hid hG;have HN16:=hid (show 16<=n by omega);have HNC:=hid hc;have HLN:=hid hl;have HTB0:=hid ht;have HSV0:=hid hs;have HCO0:=hid hco;clear hW1 hW2 hW3 hW4 z1 z2 x1 x2 x3 h1 h2 h3 h1' h2' h3' hx3 hx4 hK3 hG ht hs hco h hl hc;go_enter Tryz.func135,Tryz.ntmps135;go_wp2_with (first
  | (rw[<-zbv,<-zi9,HW.out.1,HW.out.2.1,HW.out.2.2.1,HW.out.2.2.2.1];refine zeL rfl (.tmp 10) (.tmp 11) rfl (G+1) 0 16 16 _ n c A key rfl rfl HK3.out 16 HQ16.out HTH1.out ?_;rw[HW.out.2.2.2.2.1,HW.out.2.2.2.2.2];clear HW HK3 HTH1))
 go_wp2_with fail
 refine zaD 3 (zlX G n key) (zab ⟨?_,?_,?_,trivial⟩) ?_
 ·intro a w hk;have s6:a.tmps.getD 6 undef=.pointer (some ⟨G+1+1,0,none⟩):=hk.was 6;refine za ?_;go_simp
 ·intro a w hk;have s1:a.tmps.getD 1 undef=.slice A n c:=hk.was 1;have k1:=HNC.out;have r1:=(HKR.out).later hk.ext;exact zau rfl rfl s1 ⟨_,_,rfl,k1,r1⟩
 ·intro a w hk;obtain⟨A14,c14,s14,k14,r14⟩:=hk.val 1 14;exact zhK (l:=16) rfl rfl s14 rfl ziy zmz HN16.out k14 r14 (fun _ h=>h)
 ·intro a w1 hf;obtain⟨A14,c14,s14,k14,r14⟩:=hf.val 1 14;obtain⟨A15,c15,s15,r15⟩:=hf.val 2 15;have hx:=hf.ext;have e:=hf.fr;clear hf;simp only[List.take_succ_cons,List.take_zero,zlX,frV,kPut,Act.put,List.setIfInBounds_toArray,List.set_cons_zero,List.set_cons_succ,s14,s15] at e;clear s14 s15;subst e;simp only[List.drop_succ_cons,List.drop_zero];have hq:=HQ4.out;have k1:=(hq.1.later (by rw[zbq];omega) hx).apart (G+1+1) 0 (cellsOf ((key.drop 16).take 16)) (by omega);have k2:=(hq.2.1.later (by rw[zeC];omega) hx).apart (G+1+1) 0 (cellsOf ((key.drop 16).take 16)) (by omega);have k3:=hq.2.2.later (by rw[zas];omega) hx;have hl15:((key.drop 16).take 16).length=n-16:=by rw[List.length_take,List.length_drop,HLN.out];omega
  have k3':=k3.store 0 ((key.drop 16).take 16) (by rw[hl15,zas];omega);rw[zqY (by rw[HLN.out];omega)] at k3';have HTH2:=hid (show w1.there (G+1+1) 0 (n-16) from fun j hj=>k3.wr j (by rw[zas];omega));have HM:=hid (show Nat.min (n-16) 16=n-16 from Nat.min_eq_left (by omega));have hx5:=below_setCells (B:=w.heap.size) (b:=G+1+1) (a:=w) (by have:=HG.out;omega) (cellsOf ((key.drop 16).take 16)) 0 w1 (Ext.trans HX4.out hx);obtain⟨m16,h16⟩:∃m,n-16=m:=⟨_,rfl⟩;rw[h16] at r15 HTH2 HM ⊢;have HR15:=hid r15;obtain⟨W5,hW5⟩:∃W5,w1.setCells (G+1+1) 0 (cellsOf ((key.drop 16).take 16))=W5:=⟨_,rfl⟩;rw[hW5] at k1 k2 k3' hx5;have HQ5:=hid (show RW W5 G 0 z64/\RW W5 (G+1) 0 (wS key 0)/\RW W5 (G+1+1) 0 (zjy key 0)/\Ext w W5 from⟨k1,k2,k3',hx5⟩);have HW5:=hid hW5;obtain⟨F,hF⟩:∃F,n/8-2=F:=⟨_,rfl⟩;have hF1:(n:Int).tdiv 8=(F:Int)+2:=by rw[Int.tdiv_eq_ediv_of_nonneg (by omega)];omega
  have HF2:=hid (show F<=2 by omega);have hF3:(F:Int)<=2:=by omega
  have HFK:=hid (show key.length/8-2=F by rw[HLN.out,hF]);clear hq k1 k2 k3 k3' hl15 hx5 hx r14 r15 hW5 hF h16 HQ4 HX4;go_wp2_with (refine zeL rfl (.tmp 13) (.tmp 15) rfl (G+1+1) 0 16 16 _ m16 c15 A15 (key.drop 16) rfl rfl HR15.out m16 HM.out HTH2.out ?_;rw[HW5.out];clear HW5 HR15 HM HTH2)
  clear hF1 hF3;go_loopw [21] (fun v wr=>∃i:Nat,i<=3/\v=.int .i64 i/\RW wr G 0 z64/\RW wr (G+1) 0 (wS key i)/\RW wr (G+1+1) 0 (zjy key i)/\Ext w wr) (fun v _=>3-(intOf v).toNat)
  case atStart=>exact⟨0,by omega,rfl,HQ5.out⟩
  case round =>
   clear HQ5;obtain⟨i,hi,rfl,hZ,hS,hH,hx⟩:=hrel;by_cases hlt:i<3
   ·have HI3:=hid hlt;have HI1000:=hid (show i<=1000 by omega);have HFI:=hid (show F+i<=1000 by have:=HF2.out;omega);have HTB:=hid (HTB0.out.later hx);have HSV:=hid (HSV0.out.later hx);have HCO:=hid (HCO0.out.later hx);have hblk:=hS.blk i (by omega) (by rw[if_pos (Nat.le_refl i)];exact zbd key i);rw[if_pos (Nat.le_refl i)] at hblk;obtain⟨SI,hSI⟩:∃SI,zbi key i=SI:=⟨_,rfl⟩;obtain⟨HI,hHI⟩:∃HI,zjy key i=HI:=⟨_,rfl⟩;obtain⟨SJ,hSJ⟩:∃SJ,zbi key (i+1)=SJ:=⟨_,rfl⟩;have HSJ:=hid (show xorL (mixL (zbH i SI (zaS (F+i)))) HI 16=SJ by rw[<-hSJ,zdX,hSI,hHI,HFK.out]);have HLS:=hid (show SI.length=16/\HI.length=16 by rw[<-hSI,<-hHI];exact⟨zbd key i,zi3 key i⟩);have HLJ:=hid (show SJ.length=16 by rw[<-hSJ];exact zbd key _);rw[hHI] at hH;rw[hSI] at hblk;have HS:=hid (And.intro hblk.rd hH.rd);have HA:=hid (And.intro hZ (And.intro hS (And.intro hH hx)))
    have HTH:=hid (show ∀w1,Ext wr w1->w1.there (G+1) ((i+1)*16) SJ.length from fun w1 hx1=>by have h2:=hS.later (by rw[zeC];omega) hx1;exact fun j hj=>by have:=h2.wr ((i+1)*16+j) (by rw[zeC];rw[HLJ.out] at hj;omega);rwa[Nat.zero_add] at this);have HN:=hid (And.intro hSI (And.intro hHI hSJ));clear hS hH hZ hx hblk hSI hHI hSJ;go_wp2_with fail
    refine zb4 16 (znn g G F i SI HI SJ) (zab ⟨fun _ _ _ h=>h.mv,?_,fun _ _ _ h=>h.mv,fun _ _ _ h=>h.mv,fun _ _ _ h=>h.mv,?_,?_,fun _ _ _ h=>h.mv,fun _ _ _ h=>h.mv,?_,?_,?_,?_,?_,?_,?_,fun h=>absurd rfl h,trivial⟩) ?_
    ·intro _ a w hk;have s24:=hk.eq_ 0 24;refine za ?_;have hi3:(i:Int)<3:=by have:=HI3.out;omega
     go_simp;exact IntWalk.i64_in _ (by omega)
    ·intro _ a w hk;have s5:a.tmps.getD 5 undef=.pointer (some ⟨G+1,0,none⟩):=hk.was 5;have s28:=hk.eq_ 4 28;refine za ?_;have hi3:(i:Int)<4:=by have:=HI3.out;omega
     go_simp
    ·intro _ a w hk;have s29:=hk.eq_ 5 29;exact zai (v:=bv SI) (w':=w) rfl (zaN rfl s29 (zaj HS.out.1 hk.ext) Tryz.underlying166 (zaB HLS.out.1)) (Ext.refl w) rfl
    ·intro _ a w hk;have s31:=hk.eq_ 7 31;have s32:=hk.eq_ 8 32;refine za ?_;have hi3:(i:Int)<3:=by have:=HI3.out;omega
     have hf:(F:Int)<=2:=by have:=HFI.out;have:=HF2.out;omega
     go_simp;exact IntWalk.i64_in _ (by omega)
    ·intro _ a w hk;exact hk.call cf50 (zl0 (F+i) w HFI.out (HCO.out.later hk.ext)) (fun e w1 h=>retX e w1 h)
    ·intro _ a w hk;exact hk.call cf46 (zkI g i SI (zaS (F+i)) w HLS.out.1 (zcu _) HI1000.out (HTB.out.later hk.ext)) (fun e w1 h=>retX e w1 h)
    ·intro _ a w hk;exact hk.call cf27 (zc5 (zbH i SI (zaS (F+i))) w (za4 _ _ _) (HSV.out.later hk.ext)) (fun e w1 h=>retX e w1 h)
    ·intro _ a w hk;have s6:a.tmps.getD 6 undef=.pointer (some ⟨G+1+1,0,none⟩):=hk.was 6;exact zai (v:=bv HI) (w':=w) rfl (zaN rfl s6 (zaj HS.out.2 hk.ext) Tryz.underlying166 (zaB HLS.out.2)) (Ext.refl w) rfl
    ·exact fun _ _ w h=>h.call cf36 (zb9 (mixL (zbH i SI (zaS (F+i)))) HI w (zaA _) HLS.out.2) (fun e w1 h=>retX e w1 (by rw[HSJ.out] at h;exact h))
    ·intro _ a w hk;have s5:a.tmps.getD 5 undef=.pointer (some ⟨G+1,0,none⟩):=hk.was 5;have s25:=hk.eq_ 1 25;refine za ?_;have hi3:i<3:=HI3.out;obtain⟨j,hj⟩:∃j,i+1=j:=⟨_,rfl⟩;rw[hj] at s25 ⊢;have hj4:(j:Int)<4:=by omega
     go_simp
    ·intro a w1 hf;have hx:=hf.ext;have e:=hf.fr;clear hf;simp only[znn,frV,kPut,Act.put,List.setIfInBounds_toArray,List.set_cons_zero,List.set_cons_succ] at e;subst e;have ha:=HA.out;have hz:=(ha.1.later (by rw[zbq];omega) hx).apart (G+1) ((i+1)*16) (cellsOf SJ) (by omega);have hs:=(ha.2.1.later (by rw[zeC];omega) hx).setBlk (i+1) SJ (by omega) HLJ.out;rw[<-HN.out.2.2,zq4,HN.out.2.2] at hs;have hh:=(ha.2.2.1.later (by rw[HLS.out.2];omega) hx).apart (G+1) ((i+1)*16) (cellsOf SJ) (by omega);have hxx:=below_setCells (B:=w.heap.size) (b:=G+1) (a:=w) (by have:=HG.out;omega) (cellsOf SJ) ((i+1)*16) w1 (Ext.trans ha.2.2.2 hx);refine zbV 166 (.tmp 39) (.tmp 38) rfl rfl (G+1) ((i+1)*16) SJ rfl rfl (HTH.out w1 hx) (zaB HLJ.out) ?_;obtain⟨W7,hW7⟩:∃W7,w1.setCells (G+1) ((i+1)*16) (cellsOf SJ)=W7:=⟨_,rfl⟩;rw[hW7] at hz hs hh hxx ⊢
     have hb:=hs.blk i (by omega) (by rw[if_pos (by omega)];exact zbd key i);rw[if_pos (by omega),HN.out.1] at hb;have hz8:=hz.apart (G+1+1) 0 (cellsOf SI) (by omega);have hs8:=hs.apart (G+1+1) 0 (cellsOf SI) (by omega);have hh8:=hh.store0 SI (by rw[HLS.out.1,HLS.out.2]);have hx8:=below_setCells (B:=w.heap.size) (b:=G+1+1) (a:=w) (by have:=HG.out;omega) (cellsOf SI) 0 W7 hxx;have HB:=hid hb.rd;have HTH8:=hid (show W7.there (G+1+1) 0 SI.length by rw[HLS.out.1,<-HLS.out.2];exact hh.wr);obtain⟨W8,hW8⟩:∃W8,W7.setCells (G+1+1) 0 (cellsOf SI)=W8:=⟨_,rfl⟩;rw[hW8] at hz8 hs8 hh8 hx8;have HQ8:=hid (And.intro hz8 (And.intro hs8 (And.intro (show RW W8 (G+1+1) 0 (zjy key (i+1)) by rw[ze4,HN.out.1];exact hh8) hx8)));have HW8:=hid hW8;have HSI:=hid (zaB HLS.out.1);have hi4:(i:Int)<4:=by omega
     clear hx hW7 hW8 ha hz hs hh hxx hb hz8 hs8 hh8 hx8 HA HS HTB HSV HCO HSJ HTH;go_wp2_with (first
      | (refine zaI rfl 166 (.tmp 41) rfl (G+1) (i*16) rfl SI HB.out Tryz.underlying166 HSI.out ?_)
      | (refine zaY rfl 166 (.tmp 6) (.tmp 42) rfl (G+1+1) 0 SI rfl rfl HTH8.out HSI.out ?_;rw[HW8.out];clear HW8 HTH8 HB))
     go_roundw
     case rel=>exact⟨i+1,by omega,by go_num,HQ8.out⟩
     case measure=>simp[intOf];omega
   ·obtain rfl:i=3:=by omega
    rw[zr3] at hS;have hs:=hZ.store0 (FL (zbi key) 4) (by rw[zaq,zbq]);have hx2:=below_setCells (B:=w.heap.size) (b:=G) (a:=w) (by have:=HG.out;omega) (cellsOf (FL (zbi key) 4)) 0 wr hx;have HO:=hid hS.rd;have HS:=hid hs.rd;have HX2:=hid hx2;have HSZ:=hid (znq (zaq (zbi key) 4));have HTH:=hid (show wr.there G 0 (FL (zbi key) 4).length by rw[zaq];have:=hZ.wr;rw[zbq] at this;exact this);clear hZ hS hH hx hs hx2;go_wp2_with (first
     | (refine zaI rfl 206 (.tmp 5) rfl (G+1) 0 rfl (FL (zbi key) 4) HO.out Tryz.underlying206 HSZ.out ?_)
     | (refine zaY rfl 206 (.tmp 4) (.tmp 44) rfl G 0 (FL (zbi key) 4) rfl rfl HTH.out HSZ.out ?_))
    refine zdm rfl rfl G (FL (zbi key) 4) rfl HS.out Tryz.underlying206 HSZ.out ⟨rfl,HX2.out⟩
theorem cf37(vs:Array Value)(w:World):(callFunc 24 vs).run Tryz.prog w=.ok (.enter 24 vs) w:=by go_simp
theorem zty:(Tryz.prog.info? 166).map (fun i=>(i.zero,i.size,i.bytes))=some (some (.agg (cellsOf z16).toArray),16,16):=by kernel_rfl
theorem zoV(n:Nat):(madeCells (Value.agg (cellsOf z16).toArray).cells (n*16)).toList=cellsOf (FL (fun _=>z16) n):=by
 rw[zri];apply List.ext_getElem
 ·simp[madeCells,cellsOf]
 ·intro i h1 h2;have r:(cellsOf (List.replicate (n*16) 0))[i]=Value.int .u8 0:=by simp[cellsOf]
  rw[r];have e:∀k<16,(Value.agg (cellsOf z16).toArray).cells[k]! = .int .u8 0:=by
   intro k hk
   match k,hk with|0,_=>exact rfl|1,_=>exact rfl|2,_=>exact rfl|3,_=>exact rfl|4,_=>exact rfl|5,_=>exact rfl|6,_=>exact rfl|7,_=>exact rfl|8,_=>exact rfl|9,_=>exact rfl|10,_=>exact rfl|11,_=>exact rfl|12,_=>exact rfl|13,_=>exact rfl|14,_=>exact rfl|15,_=>exact rfl|k+16,h=>exact absurd h (by omega)
  have hs:(Value.agg (cellsOf z16).toArray).cells.size=16:=rfl;simp only[madeCells,Array.toList_map,Array.toList_range,List.getElem_map,List.getElem_range];rw[hs];exact e _ (Nat.mod_lt _ (by omega))
theorem zjZ{w:World}{ops:Array Oper}{rest:List Oper}{o:Oper}{a:Act}{Q:Exit->Act->World->Prop}
  (hg:o.guard=none) (l c:Operand) (hop:o.op=Op.makeSlice 171 l c) (n:Nat) (hl:a.eval l=.int .i64 n) (hc:a.eval c=.int .i64 n) (hn:n<=1000)
  (hK:∀w',RW w' w.heap.size 0 (FL (fun _=>z16) n)->Ext w w'->wpList Tryz.prog ops Q rest (a.put o.dst (.slice (some ⟨w.heap.size,0,none⟩) n n)) w'):
  wpList Tryz.prog ops Q (o::rest) a w:=by
 obtain⟨i0,hi0,hz0,hz1,hz2⟩:=info_parts zty;refine wpList_make_full w hg l c 171 hop w.heap.size 166 i0 _ 16 Tryz.underlying171 hi0 hz0 hz1 .i64 .i64 n n n hl hc rfl rfl (by rw[hz2];omega) (by unfold maxLen;omega) (Nat.le_refl _) ?_;intro w' hown hgr;refine hK w' ?_ ((Below.refl _ _).grown hgr (Nat.le_refl _) (by simp));rw[zoV] at hown;rcases hown.2 with⟨h,_⟩|⟨g,cap,cur,h,_,hh,_,_,hsz,htk⟩
 ·cases h
 ·simp only[Value.slice.injEq,Option.some.injEq,Addr.mk.injEq,and_true] at h;obtain⟨rfl,_,rfl⟩:=h;rw[List.take_of_length_le (by simp;omega)] at htk;refine RW.of_block (t:=166) ?_;rw[hh,<-htk]
def kS(key:List UInt8)(N i:Nat):List UInt8:=FL (fun j=>if j<i then keyF key j else z16) N
theorem zdK(key:List UInt8)(N i:Nat):(kS key N i).length=N*16:=zaq _ _
theorem zrO(key:List UInt8)(N:Nat):FL (fun _=>z16) N=kS key N 0:=zb7 fun j _=>by simp
theorem zrq(key:List UInt8)(N:Nat):kS key N N=FL (keyF key) N:=zb7 fun j hj=>by simp[hj]
theorem zqZ(key:List UInt8)(i N:Nat):FL (fun k=>if k=i then keyF key i else(if k<i then keyF key k else z16)) N=kS key N (i+1):=zb7 fun j _=>by
 by_cases h:j=i
 ·subst h;simp
 ·by_cases h2:j<i
  ·simp only[h,if_false,h2,if_true,show j<i+1 by omega]
  ·simp only[h,if_false,h2,show ¬j<i+1 by omega]
def Tu(w:World):Prop:=∀q,q<5->w.cell? ⟨3,q,none⟩=some (.int .i64 (ziV q))
theorem Tu.later{w w':World}(h:Tu w)(hx:Ext w w'):Tu w':=fun q hq=>(Below.cell hx (p:=⟨3,q,none⟩) (World.block_lt_of_cell? w _ (h q hq))).trans (h q hq)
def zmS(S K i N q4 d4:Nat)(SA SB KF:List UInt8):List Go.Proofs.YtokbbmngfogbbaaGreatDoor.K:=[.eq (.slice (some ⟨K,0,none⟩) N N),.eq (.int .i64 i),.eq (.int .i64 i),.eq (.int .i64 q4),.eq (.pointer (some ⟨S,q4*16,none⟩)),.eq (bv SA),.byt 16 (SB),.eq (.int .i64 i),.eq (.int .i64 d4),.eq (.pointer (some ⟨3,d4,none⟩)),.eq (.int .i64 (ziV d4)),.byt 16 (zga SB d4),.gen (AtP (zga SB d4)) (AtP.keep _),.eq (bv (zga SB d4)),.eq (bv KF),.eq (.pointer (some ⟨K,i*16,none⟩)),.any]
theorem zcv(g n c:Nat)(A:Option Addr)(key:List UInt8)(w:World)(h:Rd w w.heap.size A n key)(hn:n=16\/n=24\/n=32)(hc:n<=c)(ht:TB w g)(hs:Sev w)(hco:Con w)(htu:Tu w):
  Calls Tryz.prog 91 #[.pointer (some ⟨g,0,none⟩),.slice A n c] w fun e w'=>∃K,e=.returned (.slice (some ⟨K,0,none⟩) (keyN key) (keyN key))/\w.heap.size<=K/\RW w' K 0 (FL (keyF key) (keyN key))/\Ext w w':=by
 have hl:=h.len;have HC:=hid (zng g n c A key w h hn hc ht hs hco);have HTU0:=hid htu;obtain⟨N,hN⟩:∃N,keyN key=N:=⟨_,rfl⟩;have hNn:9+n/4=N:=by rw[<-hN,keyN,hl]
 have HN0:=hid hN;rw[hN];obtain⟨D,hD⟩:∃D,n/4=D:=⟨_,rfl⟩;have htd:(n:Int).tdiv 4=(D:Int):=by rw[Int.tdiv_eq_ediv_of_nonneg (by omega)];omega
 have h9:9+(D:Int)=(N:Int):=by omega
 have hD8:(D:Int)<=8:=by omega
 have hN1:13<=N/\N<=17:=by omega
 clear h ht hs hco htu hN hl hNn hD;go_enter Tryz.func91,Tryz.ntmps91;go_wp2_with fail
 refine HC.out.mono ?_;rintro e w1 ⟨rfl,hx1⟩;have h5:=RW.new w1 206 z64;have x5:=Ext.alloc w1 (.cells (cellsOf z64).toArray 206);obtain⟨W2,hW2⟩:∃W2,w1.alloc (.cells (cellsOf z64).toArray 206)=W2:=⟨_,rfl⟩;rw[hW2] at h5 x5;obtain⟨S,hS⟩:∃S,w1.heap.size=S:=⟨_,rfl⟩;rw[hS] at h5;have h6:=h5.store0 (FL (zbi key) 4) (by rw[zaq,zbq]);have hx5:=hx1.trans x5;have hx6:=below_setCells (B:=w.heap.size) (b:=S) (a:=w) (by have:=hx1.size;omega) (cellsOf (FL (zbi key) 4)) 0 W2 hx5;have HTH:=hid (show W2.there S 0 (FL (zbi key) 4).length by rw[zaq];have:=h5.wr;rw[zbq] at this;exact this);have HSZ:=hid (znq (zaq (zbi key) 4));obtain⟨W3,hW3⟩:∃W3,W2.setCells S 0 (cellsOf (FL (zbi key) 4))=W3:=⟨_,rfl⟩;rw[hW3] at h6 hx6;have hSW:S<W3.heap.size:=h6.lt (by rw[zaq];omega);have HW:=hid (And.intro hW2 (And.intro hS hW3));have H6:=hid h6;have HX6:=hid hx6;have HSW:=hid hSW
 clear HC hx1 h5 x5 hW2 hS h6 hx5 hx6 hW3 hSW;go_wp2_with (first
  | (rw[<-zi9,HW.out.1,HW.out.2.1];refine zaY rfl 206 (.tmp 5) (.tmp 11) rfl S 0 (FL (zbi key) 4) rfl rfl HTH.out HSZ.out ?_;rw[HW.out.2.2];clear HW HTH)
  | (at_make;refine zjZ rfl (.tmp 15) (.tmp 15) rfl N rfl rfl (by omega) ?_;intro w4 hB hx4))
 have hsz4:=hx4.size;obtain⟨K,hK⟩:∃K,W3.heap.size=K:=⟨_,rfl⟩;have HKB:=hid (show w.heap.size<=K by rw[<-hK];exact HX6.out.size);have HSK:=hid (show S≠K by have:=HSW.out;omega);rw[hK] at hB ⊢;rw[zrO key] at hB;have HQ4:=hid (And.intro hB (And.intro (H6.out.later (by rw[zaq];omega) hx4) (Ext.trans HX6.out hx4)));clear hsz4 hK hB hx4 htd h9 hD8 H6 HX6 HSW;go_loopw [19] (fun v wr=>∃i:Nat,i<=N/\v=.int .i64 i/\RW wr K 0 (kS key N i)/\RW wr S 0 (FL (zbi key) 4)/\Ext w wr) (fun v _=>N-(intOf v).toNat)
 case atStart=>exact⟨0,by omega,rfl,HQ4.out⟩
 case round =>
  clear HQ4;obtain⟨i,hi,rfl,hO,hS,hx⟩:=hrel;by_cases hlt:i<N
  ·have HI3:=hid hlt;have HTU:=hid (HTU0.out.later hx);obtain⟨p4,hp4⟩:∃p,(i+1)%4=p:=⟨_,rfl⟩;obtain⟨q4,hq4⟩:∃q,i%4=q:=⟨_,rfl⟩;obtain⟨d4,hd4⟩:∃d,i/4=d:=⟨_,rfl⟩;have hpt:((i:Int)+1).tmod 4=(p4:Int):=by rw[Int.tmod_eq_emod_of_nonneg (by omega)];omega
   have hp44:(p4:Int)<4:=by omega
   have HQ:=hid (show(i:Int).tmod 4=(q4:Int)/\q4<4/\(i:Int).tdiv 4=(d4:Int)/\d4<5 from⟨by rw[Int.tmod_eq_emod_of_nonneg (by omega)];omega,by omega,by rw[Int.tdiv_eq_ediv_of_nonneg (by omega)];omega,by omega⟩);have hbp:=hS.blk p4 (by omega) (zbd key p4);have hbq:=hS.blk q4 (by omega) (zbd key q4);have hKF:keyF key i=xorL (zbi key q4) (zga (zbi key p4) d4) 16:=by rw[keyF,hp4,hq4,hd4]
   obtain⟨SA,hSA⟩:∃SA,zbi key q4=SA:=⟨_,rfl⟩;obtain⟨SB,hSB⟩:∃SB,zbi key p4=SB:=⟨_,rfl⟩;obtain⟨KF,hKF2⟩:∃KF,keyF key i=KF:=⟨_,rfl⟩;have HLS:=hid (show SA.length=16/\SB.length=16 by rw[<-hSA,<-hSB];exact⟨zbd key _,zbd key _⟩);rw[hSA] at hbq;rw[hSB] at hbp;have HKF:=hid (show xorL SA (zga SB d4) 16=KF by rw[<-hKF2,hKF,hSA,hSB]);have HLF:=hid (show KF.length=16 by rw[<-hKF2];exact zbz key i);have HN:=hid (And.intro hSA hKF2);have HBP:=hid hbp.rd;have h5:=RW.new wr 166 z16;have x5:=Ext.alloc wr (.cells (cellsOf z16).toArray 166);obtain⟨W5,hW5⟩:∃W5,wr.alloc (.cells (cellsOf z16).toArray 166)=W5:=⟨_,rfl⟩;rw[hW5] at h5 x5;have gK:=hO.lt (by rw[zdK];omega);have gS:=hS.lt (by rw[zaq];omega);obtain⟨V,hV⟩:∃V,wr.heap.size=V:=⟨_,rfl⟩;rw[hV] at h5 gK gS;have h6:=h5.store0 SB (by rw[HLS.out.2,zas]);have hO6:=(hO.later (by rw[zdK];omega) x5).apart V 0 (cellsOf SB) (by omega)
   have hS6:=(hS.later (by rw[zaq];omega) x5).apart V 0 (cellsOf SB) (by omega);have hbq6:=(hbq.later (by rw[HLS.out.1];omega) x5).apart V 0 (cellsOf SB) (by omega);have hx6:=below_setCells (B:=w.heap.size) (b:=V) (a:=w) (by have:=HKB.out;omega) (cellsOf SB) 0 W5 (Ext.trans hx x5);have hx6r:=below_setCells (B:=wr.heap.size) (b:=V) (a:=wr) (by omega) (cellsOf SB) 0 W5 x5;have HTH:=hid (show W5.there V 0 SB.length by rw[HLS.out.2];have:=h5.wr;rw[zas] at this;exact this);obtain⟨W6,hW6⟩:∃W6,W5.setCells V 0 (cellsOf SB)=W6:=⟨_,rfl⟩;rw[hW6] at h6 hO6 hS6 hbq6 hx6 hx6r;have HA:=hid (And.intro hO6 (And.intro hS6 hx6));have HSA:=hid hbq6.rd;have HSB:=hid h6;have HTU:=hid (HTU.out.later hx6r);have HW:=hid (And.intro hW5 (And.intro hV hW6));have HSZ:=hid (zaB HLS.out.2);clear hO hS hx hbp hbq hKF hSA hSB hKF2 h5 x5 hW5 hW6 hV gK gS h6 hO6 hS6 hbq6 hx6 hx6r hp4 hq4 hd4;go_wp2_with (first
    | (refine zaI rfl 166 (.tmp 25) rfl S (p4*16) rfl SB HBP.out Tryz.underlying166 HSZ.out ?_)
    | (rw[<-zbv,HW.out.1,HW.out.2.1];refine zaY rfl 166 (.tmp 8) (.tmp 26) rfl V 0 SB rfl rfl HTH.out HSZ.out ?_;rw[HW.out.2.2];clear HW HTH HBP))
   refine zb4 16 (zmS S K i N q4 d4 SA SB KF) (zab ⟨fun _ _ _ h=>h.mv,fun _ _ _ h=>h.mv,fun _ _ _ h=>h.mv,?_,?_,?_,?_,fun _ _ _ h=>h.mv,?_,?_,?_,?_,?_,?_,?_,?_,fun h=>absurd rfl h,trivial⟩) ?_
   ·intro _ a w hk;have s29:=hk.eq_ 2 29;refine za ?_;have e:=HQ.out.1;go_simp
   ·intro _ a w hk;have s5:a.tmps.getD 5 undef=.pointer (some ⟨S,0,none⟩):=hk.was 5;have s30:=hk.eq_ 3 30;refine za ?_;have hi3:(q4:Int)<4:=by have:=HQ.out.2.1;omega
    go_simp
   ·intro _ a w hk;have s31:=hk.eq_ 4 31;exact zai (v:=bv SA) (w':=w) rfl (zaN rfl s31 (zaj HSA.out hk.ext) Tryz.underlying166 (zaB HLS.out.1)) (Ext.refl w) rfl
   ·intro _ a w hk;have s8:a.tmps.getD 8 undef=.pointer (some ⟨V,0,none⟩):=hk.was 8;refine zaW (.slice (some ⟨V,0,none⟩) 16 16) ?_ ⟨_,_,rfl,((HSB.out.later (by rw[HLS.out.2];omega) hk.ext).slice HLS.out.2 ((HSB.out.later (by rw[HLS.out.2];omega) hk.ext).lt (by rw[HLS.out.2];omega)))⟩;go_simp
   ·intro _ a w hk;have s34:=hk.eq_ 7 34;refine za ?_;have e:=HQ.out.2.2.1;go_simp;exact IntWalk.i64_in _ (by have:=HQ.out.2.2.2;omega)
   ·intro _ a w hk;have s35:=hk.eq_ 8 35;refine za ?_;have hi3:(d4:Int)<5:=by have:=HQ.out.2.2.2;omega
    go_simp
   ·intro _ a w hk;have s36:=hk.eq_ 9 36;refine za ?_;have hc:=(HTU.out.later hk.ext) d4 HQ.out.2.2.2;go_simp
   ·intro _ a w hk;obtain⟨A33,c33,s33,r33⟩:=hk.byt_ 6 33;have s37:=hk.eq_ 10 37;exact za0 rfl rfl (by simp only[List.map_toArray,List.map_cons,List.map_nil,Act.eval,s33,s37]<;>rfl) cf37 (zpJ A33 16 c33 (ziV d4) SB w r33 (by omega)) (fun e w1 h=>RetB.k (zcP SB d4) e w1 h)
   ·intro _ a w hk;obtain⟨A38,c38,s38,r38⟩:=hk.byt_ 11 38;obtain⟨b,o,rfl,_,_⟩:=r38.at_ (by omega);exact zai (v:=.pointer (some ⟨b,o,none⟩)) (w':=w) rfl (zk7 rfl s38 Tryz.underlying166 (Nat.le_refl _)) (Ext.refl w) ⟨b,o,rfl,zbF r38⟩
   ·intro _ a w hk;obtain⟨b39,o39,s39,g39⟩:=hk.val 12 39;exact zai (v:=bv (zga SB d4)) (w':=w) rfl (zaN rfl s39 g39 Tryz.underlying166 (zaB (zcP SB d4))) (Ext.refl w) rfl
   ·exact fun _ _ w h=>h.call cf36 (zb9 SA (zga SB d4) w HLS.out.1 (zcP _ _)) (fun e w1 h=>retX e w1 (by rw[HKF.out] at h;exact h))
   ·intro _ a w hk;have s27:=hk.eq_ 0 27;have s28:=hk.eq_ 1 28;refine za ?_;have hi3:(i:Int)<N:=by have:=HI3.out;omega
    go_simp
   ·intro a w1 hf;obtain⟨A33,c33,s33,r33⟩:=hf.val 6 33;obtain⟨A38,c38,s38,r38⟩:=hf.val 11 38;obtain⟨b39,o39,s39,g39⟩:=hf.val 12 39;have hx:=hf.ext;have e:=hf.fr;clear hf;simp only[zmS,frV,kPut,Act.put,List.setIfInBounds_toArray,List.set_cons_zero,List.set_cons_succ,s33,s38,s39] at e;clear s33 s38 s39;subst e;have ha:=HA.out;have ho:=(ha.1.later (by rw[zdK];have:=HI3.out;omega) hx).setBlk i KF HI3.out HLF.out;rw[<-HN.out.2,zqZ,HN.out.2] at ho;have hs:=(ha.2.1.later (by rw[zaq];omega) hx).apart K (i*16) (cellsOf KF) HSK.out;have hxx:=below_setCells (B:=w.heap.size) (b:=K) (a:=w) HKB.out (cellsOf KF) (i*16) w1 (Ext.trans ha.2.2 hx);refine zbV 166 (.tmp 42) (.tmp 41) rfl rfl K (i*16) KF rfl rfl (fun j hj=>by have h2:=(ha.1.later (by rw[zdK];have:=HI3.out;omega) hx).wr (i*16+j) (by rw[zdK];rw[HLF.out] at hj;have:=HI3.out;omega);rwa[Nat.zero_add] at h2) (zaB HLF.out) ?_
    obtain⟨W7,hW7⟩:∃W7,w1.setCells K (i*16) (cellsOf KF)=W7:=⟨_,rfl⟩;rw[hW7] at ho hs hxx ⊢;have HQ8:=hid (And.intro ho (And.intro hs hxx));clear hx hW7 ha ho hs hxx HA HSA HSB HTU HKF r33 r38 g39;go_wp2_with fail
    go_roundw
    case rel=>exact⟨i+1,by omega,by go_num,HQ8.out⟩
    case measure=>simp[intOf];omega
  ·obtain rfl:i=N:=by omega
   rw[zrq] at hO;have HQ:=hid (And.intro hO hx);clear hO hS hx;go_wp2_with fail
   go_ret;exact⟨K,rfl,HKB.out,HQ.out⟩
def zdZ:List UInt8:=List.replicate 1024 0
theorem zba:zdZ.length=1024:=List.length_replicate
theorem zc50:Tryz.zeroCells163=(cellsOf zdZ).toArray:=by kernel_rfl
def tS(i:Nat):List UInt8:=(List.range 1024).map fun p=>if p<i*256 then(tabT (p/256)).getD (p%256) 0 else 0
theorem zeG(i:Nat):(tS i).length=1024:=by simp[tS]
theorem zq6:tS 0=zdZ:=by
 apply List.ext_getElem
 ·rw[zeG,zba]
 ·intro p h1 h2;simp only[tS,List.getElem_map,Nat.zero_mul,Nat.not_lt_zero,if_false];exact(List.getElem_replicate _).symm
theorem zrw:tS 4=tabB:=by decide +kernel
theorem zdr(g:Nat):∀(vs:List Value) (o:Nat) (w:World) (k:Nat),k≠g->(w.setCells g o vs).heap[k]? = w.heap[k]?
 | [],_,_,_,_=>rfl
 | v::vs,o,w,k,h=>(zdr g vs (o+1) _ k h).trans (heap_setCell_other w ⟨g,o,none⟩ k v h)
theorem zsa(i:Nat)(_hi:i<4):lay (tS i) (i*256) (tabT i)=tS (i+1):=by
 unfold lay;rw[zeG];refine List.map_congr_left fun p hp=>?_
 have hp:=List.mem_range.1 hp;rw[za5];by_cases h:i*256<=p/\p<i*256+256
 ·rw[if_pos h,if_pos (by omega),show p/256=i by omega,show p-i*256=p%256 by omega]
 ·rw[if_neg h];have e:(tS i).getD p 0=if p<i*256 then(tabT (p/256)).getD (p%256) 0 else 0:=by simp[tS,List.getD_eq_getElem?_getD,hp]
  rw[e];by_cases h2:p<i*256
  ·have h3:p<(i+1)*256:=by clear e hp;omega
   rw[if_pos h2,if_pos h3]
  ·have h3:¬p<(i+1)*256:=by clear e;omega
   rw[if_neg h2,if_neg h3]
def Rws(w:World):Prop:=w.rangeAt 1 0 (cellsOf rows1)/\w.rangeAt 2 0 (cellsOf rows2)
theorem Rws.later{w w':World}(h:Rws w)(hx:Ext w w'):Rws w':=⟨zaj h.1 hx,zaj h.2 hx⟩
theorem sz71{bs:List UInt8}(h:bs.length=8):(Tryz.prog.info? 184).map (·.size)=some (cellsOf bs).length:=by rw[zp8,zaa,h]
theorem zu6(w:World)(ho:Odd w):Calls Tryz.prog 133 #[.int .i64 254,.int .i64 283,.agg (cellsOf rows1).toArray,.int .u8 99] w (RetB w S1):=by
 have h:=zlh 254 283 99 rows1 w rfl (by omega) zeZ (by omega) ho;rw[mk1] at h;exact h
theorem zvo(w:World)(ho:Odd w):Calls Tryz.prog 133 #[.int .i64 247,.int .i64 283,.agg (cellsOf rows2).toArray,.int .u8 226] w (RetB w S2):=by
 have h:=zlh 247 283 226 rows2 w rfl (by omega) zeZ (by omega) ho;rw[mk2] at h;exact h
theorem zvu(A:Option Addr)(c:Nat)(w:World)(h:Rd w w.heap.size A 256 S1):Calls Tryz.prog 134 #[.slice A 256 c] w fun e w'=>∃A' c',e=.returned (.tuple #[.slice A' 256 c',.bool true])/\Rd w' w'.heap.size A' 256 X1/\Ext w w':=by
 refine(zkp A 256 c S1 w h (by omega)).mono ?_;rintro e w' ⟨A',c',rfl,hr,hx⟩;rw[out1,show X1.length=256 from za5 2] at hr ⊢;rw[zfV zns];exact⟨A',c',rfl,hr,hx⟩
theorem zvs(A:Option Addr)(c:Nat)(w:World)(h:Rd w w.heap.size A 256 S2):Calls Tryz.prog 134 #[.slice A 256 c] w fun e w'=>∃A' c',e=.returned (.tuple #[.slice A' 256 c',.bool true])/\Rd w' w'.heap.size A' 256 X2/\Ext w w':=by
 refine(zkp A 256 c S2 w h (by omega)).mono ?_;rintro e w' ⟨A',c',rfl,hr,hx⟩;rw[out2,show X2.length=256 from za5 3] at hr ⊢;rw[zfV zlY];exact⟨A',c',rfl,hr,hx⟩
theorem zh8(w:World)(ho:Odd w)(hr:Rws w):Calls Tryz.prog 90 #[] w fun e w'=>e=.returned (bv tabB)/\Ext w w':=by
 unfold bv;have h1:=RW.new w 163 zdZ;have x1:=Ext.alloc w (.cells (cellsOf zdZ).toArray 163);obtain⟨W1,hW1⟩:∃W1,w.alloc (.cells (cellsOf zdZ).toArray 163)=W1:=⟨_,rfl⟩;rw[hW1] at h1 x1;obtain⟨R0,hR0⟩:∃R0,w.heap.size=R0:=⟨_,rfl⟩;rw[hR0] at h1;have HW1:=hid (And.intro hW1 hR0);have HX0:=hid (show w.heap.size<=R0 by omega);have H1:=hid h1;have X1x:=hid x1;have HO:=hid (ho.later x1);have HRW:=hid (hr.later x1);clear h1 x1 hW1 hR0 ho hr;go_enter Tryz.func90,Tryz.ntmps90;go_wp2_with (first
  | (rw[zc50,HW1.out.1,HW1.out.2];refine zaI rfl 184 (.global 1) rfl 1 0 rfl rows1 HRW.out.1 Tryz.underlying184 (sz71 rfl) ?_))
 refine(zu6 _ HO.out).mono ?_;rintro e w2 ⟨v1,rfl,ho1,hx2⟩;have HX2:=hid hx2;obtain⟨A1,c1,rfl,hr1,_⟩:=ho1.rdn (n:=256) (za5 0);have HR1:=hid hr1;clear ho1 hx2 hr1;go_wp2_with (refine zaI rfl 184 (.global 2) rfl 2 0 rfl rows2 (HRW.out.later HX2.out).2 Tryz.underlying184 (sz71 rfl) ?_)
 refine(zvo _ (HO.out.later HX2.out)).mono ?_;rintro e w3 ⟨v2,rfl,ho2,hx3⟩;have HX3:=hid (Ext.trans HX2.out hx3);obtain⟨A2,c2,rfl,hr2,_⟩:=ho2.rdn (n:=256) (za5 1);have HR1:=hid (HR1.out.later hx3);have HR2:=hid hr2;clear ho2 hx3 hr2;go_wp2_with fail
 refine(zvu _ _ _ HR1.out).mono ?_;rintro e w4 ⟨A3,c3,rfl,hr3,hx4⟩;have HX4:=hid (Ext.trans HX3.out hx4);have HR1:=hid (HR1.out.later hx4);have HR2:=hid (HR2.out.later hx4);have HR3:=hid hr3;clear hx4 hr3;go_wp2_with fail
 refine(zvs _ _ _ HR2.out).mono ?_;rintro e w5 ⟨A4,c4,rfl,hr4,hx5⟩;have HX5:=hid (Ext.trans HX4.out hx5);have HR1:=hid (HR1.out.later hx5);have HR2:=hid (HR2.out.later hx5);have HR3:=hid (HR3.out.later hx5);have HR4:=hid hr4;clear hx5 hr4;have h6:=RW.new w5 163 zdZ;have x6:=Ext.alloc w5 (.cells (cellsOf zdZ).toArray 163);obtain⟨W6,hW6⟩:∃W6,w5.alloc (.cells (cellsOf zdZ).toArray 163)=W6:=⟨_,rfl⟩;have z6:W6.heap.size=w5.heap.size+1:=by rw[<-hW6];simp
 rw[hW6] at h6 x6;have h7:=heap_alloc_new W6 (.cells #[.slice A1 256 c1,.slice A2 256 c2,.slice A3 256 c3,.slice A4 256 c4] 22);have x7:=Ext.alloc W6 (.cells #[.slice A1 256 c1,.slice A2 256 c2,.slice A3 256 c3,.slice A4 256 c4] 22);obtain⟨W7,hW7⟩:∃W7,W6.alloc (.cells #[.slice A1 256 c1,.slice A2 256 c2,.slice A3 256 c3,.slice A4 256 c4] 22)=W7:=⟨_,rfl⟩;rw[hW7] at h7 x7;have h6:=h6.later (by rw[zba];omega) x7;obtain⟨O,hO⟩:∃O,w5.heap.size=O:=⟨_,rfl⟩;rw[z6,hO] at h7;rw[hO] at h6;have hb7:Below O w5 W7:=by rw[<-hO];exact x6.trans x7
 have HQ7:=hid (show RW W7 O 0 (tS 0)/\W7.heap[O+1]? = some (.cells #[.slice A1 256 c1,.slice A2 256 c2,.slice A3 256 c3,.slice A4 256 c4] 22 (0,0))/\Below O w5 W7 from⟨by rw[zq6];exact h6,h7,hb7⟩);have HTT:=hid (show ∀i,i<4->∃A c,(#[Value.slice A1 256 c1,.slice A2 256 c2,.slice A3 256 c3,.slice A4 256 c4]:Array Value)[i]? = some (.slice A 256 c)/\Rd w5 O A 256 (tabT i) from fun i hi=>by
  rw[<-hO]
  match i,hi with
  | 0,_=>exact⟨A1,c1,rfl,HR1.out⟩
  | 1,_=>exact⟨A2,c2,rfl,HR2.out⟩
  | 2,_=>exact⟨A3,c3,rfl,HR3.out⟩
  | 3,_=>exact⟨A4,c4,rfl,HR4.out⟩)
 have HW:=hid (And.intro hW6 (And.intro hW7 (And.intro hO (show W6.heap.size=O+1 by omega))));have HRW5:=hid (H1.out.later (by rw[zba];omega) HX5.out);have HRO:=hid (show R0<O by rw[<-hO];exact HRW5.out.lt (by rw[zba];omega));have HXT:=hid (Ext.trans X1x.out HX5.out);have HWO:=hid (show w.heap.size<=O by rw[<-hO];exact HXT.out.size);clear h6 h7 hb7 x6 x7 z6 hW6 hW7 hO HR1 HR2 HR3 HR4 HX2 HX3 HX4 HX5 X1x HO HRW H1 HW1;go_wp2_with fail
 rw[zc50,HW.out.1,HW.out.2.1,HW.out.2.2.1];clear HW;go_loopw [30] (fun v wr=>∃i:Nat,i<=4/\v=.int .i64 i/\RW wr O 0 (tS i)/\wr.heap[O+1]? = some (.cells #[.slice A1 256 c1,.slice A2 256 c2,.slice A3 256 c3,.slice A4 256 c4] 22 (0,0))/\Below O w5 wr) (fun v _=>4-(intOf v).toNat)
 case atStart=>exact⟨0,by omega,rfl,HQ7.out⟩
 case round =>
  clear HQ7;obtain⟨i,hi,rfl,hO,hL,hb⟩:=hrel;by_cases hlt:i<4
  ·obtain⟨A,c,hA,hr⟩:=HTT.out i hlt;have hr':=hr.below hb (Nat.le_refl _);have hcl:wr.cell? ⟨O+1,i,none⟩=some (.slice A 256 c):=by rw[cell_of_row _ _ _ _ _ _ hL];exact hA
   have hO2:=hO.store (i*256) (tabT i) (by rw[zeG,za5];omega);rw[zsa i hlt,Nat.zero_add] at hO2;have hL2:(wr.setCells O (i*256) (cellsOf (tabT i))).heap[O+1]? = some (.cells #[.slice A1 256 c1,.slice A2 256 c2,.slice A3 256 c3,.slice A4 256 c4] 22 (0,0)):=by rw[zdr O (cellsOf (tabT i)) (i*256) wr (O+1) (by omega)];exact hL
   have hb2:=below_setCells (B:=O) (b:=O) (a:=w5) (Nat.le_refl _) (cellsOf (tabT i)) (i*256) wr hb;have HTH:=hid (show wr.there O (i*256) 256 from fun j hj=>by have:=hO.wr (i*256+j) (by rw[zeG];omega);rwa[Nat.zero_add] at this);have hi4:(i:Int)<4:=by omega
   have HM:=hid (show Nat.min 256 256=256 from rfl);have HTK:=hid (show(tabT i).take 256=tabT i from List.take_of_length_le (by rw[za5];omega));have HR:=hid hr';obtain⟨W8,hW8⟩:∃W8,wr.setCells O (i*256) (cellsOf (tabT i))=W8:=⟨_,rfl⟩;rw[hW8] at hO2 hL2 hb2;have HQ:=hid (And.intro hO2 (And.intro hL2 hb2));have HW8:=hid hW8;clear hO hL hb hr hr' hO2 hL2 hb2 hA hW8;go_wp2_with (refine zeL rfl (.tmp 37) (.tmp 38) rfl O (i*256) 256 256 _ 256 c A (tabT i) rfl rfl HR.out 256 HM.out HTH.out ?_;rw[HTK.out,HW8.out];clear HTH HW8 HR HTK HM)
   go_roundw
   case rel=>exact⟨i+1,by omega,by go_num,HQ.out⟩
   case measure=>simp[intOf];omega
  ·obtain rfl:i=4:=by omega
   rw[zrw] at hO;have hR:=HRW5.out.below hb HRO.out;have hs:=hR.store0 tabB (by rw[zaQ,zba]);have hx2:=below_setCells (B:=w.heap.size) (b:=R0) (a:=w) (by have:=HX0.out;omega) (cellsOf tabB) 0 wr (Below.trans HXT.out (hb.mono HWO.out));have HO:=hid hO.rd;have HS:=hid hs.rd;have HX2:=hid hx2;have HSZ:=hid (zqO zaQ);have HTH:=hid (show wr.there R0 0 tabB.length by rw[zaQ];have:=hR.wr;rw[zba] at this;exact this);clear hO hL hb hR hs hx2;go_wp2_with (first
    | (refine zaI rfl 163 (.tmp 7) rfl O 0 rfl tabB HO.out Tryz.underlying163 HSZ.out ?_)
    | (refine zaY rfl 163 (.tmp 0) (.tmp 41) rfl R0 0 tabB rfl rfl HTH.out HSZ.out ?_))
   refine zdm rfl rfl R0 tabB rfl HS.out Tryz.underlying163 HSZ.out ⟨rfl,HX2.out⟩
def OwnV(e:TypeId)(w:World)(base:Nat)(v:Value)(vs:List Value):Prop:=w.ownsRow base e 1 v vs.length vs
theorem Tryz.info22:(Tryz.prog.info? 22).map (fun i=>(i.zero,i.size,i.bytes))=some (some (.slice none 0 0),1,24):=by kernel_rfl
theorem OwnV.kept{e:TypeId}{w w':World}{base:Nat}{v:Value}{vs:List Value}(h:OwnV e w base v vs)(hb:Ext w w'):OwnV e w' base v vs:=by
 refine⟨h.1,?_⟩;rcases h.2 with hn|⟨g,cap,cur,rfl,hbg,hh,r⟩
 ·exact .inl hn
 ·exact .inr ⟨g,cap,cur,rfl,hbg,by rw[Below.block hb g (Array.getElem?_eq_some_iff.1 hh).1];exact hh,r⟩
theorem OwnV.celln{e:TypeId}{w:World}{base g n c:Nat}{vs:List Value}(h:OwnV e w base (.slice (some ⟨g,0,none⟩) n c) vs)(hn:vs.length=n)(j:Nat)(hj:j<n):w.cell? ⟨g,j,none⟩=vs[j]?:=by
 subst hn;exact World.ownsRow.cellAt h j (by omega)
theorem zbn{P:Program}(w:World){ops:Array Oper}{rest:List Oper}{o:Oper}{a:Act}{Q:Exit->Act->World->Prop}(hgd:o.guard=none)(s x:Operand)(t e:TypeId)
  (ho:o.op=.call { callee:=.builtin .append,args:=#[s,x],argTypes:=#[t,t] }) (hu:P.underlying t=some (.slice e))
  (hin:(P.info? e).map (fun i=>(i.zero,i.size,i.bytes))=some (some (.slice none 0 0),1,24))
  (base:Nat) (v:Value) (xs:List Value) (hs:a.eval s=v) (hown:OwnV e w base v xs)
  (g c:Nat) (u:Value) (hx:a.eval x=.slice (some ⟨g,0,none⟩) 1 c) (hc:w.cell? ⟨g,0,none⟩=some u) (h1:u.oneCell'=true) (hlen:xs.length<=1000) (hbase:base<=w.heap.size)
  (h:∀v' w',OwnV e w' base v' (xs++[u])->w.grownBy w' v.ownBlock->wpList P ops Q rest (a.put o.dst v') w'):wpList P ops Q (o::rest) a w:=by
 obtain⟨i0,hi0,hz0,hz1,hz2⟩:=info_parts hin;refine wpList_append_own w hgd s x t ho base e i0 (.slice none 0 0) 1 24 hu hi0 hz0 hz1 hz2 rfl (by omega) v xs.length xs hs hown ⟨g,0,none⟩ 1 c [u] hx rfl ?_ (by intro y hy;simp at hy;subst hy;exact h1) (by unfold maxLen;omega) (by omega) hbase ?_
 ·intro j y hy
  match j with
  | 0=>simp at hy;subst hy;rw[zd2];exact hc
  | j+1=>simp at hy
 ·intro v' w' h2 h3 _;exact h v' w' (by simpa [OwnV] using h2) h3
theorem OwnV.block_ne{e:TypeId}{w:World}{base:Nat}{v:Value}{vs:List Value}(h:OwnV e w base v vs){b:Nat}{cur:Array Value}{e2:TypeId}{f:Nat×Nat}(hb:w.heap[b]? = some (.cells cur e2 f))(hne:e2≠e):some b≠v.ownBlock:=by
 rcases h.2 with⟨rfl,_⟩|⟨g,cap,cur2,rfl,_,hh,_⟩
 ·simp[Value.ownBlock]
 ·simp only[Value.ownBlock,ne_eq,Option.some.injEq];rintro rfl;rw[hh] at hb;cases hb
  exact hne rfl
theorem OwnV.below{e:TypeId}{w w':World}{base:Nat}{v:Value}{vs:List Value}(hv:OwnV e w base v vs)(hbase:base<=w.heap.size)(hg:w.grownBy w' v.ownBlock):Below base w w' :=
 (Below.refl _ _).grown hg hbase fun k hk=>(World.ownsRow.lt hv k hk).1
def zgC(n:Nat):Prop:=n=16\/n=24\/n=32
theorem zlq(A:Option Addr)(n c:Nat)(w:World)(hn:zgC n):Calls Tryz.prog 89 #[.slice A n c] w fun e w'=>e=.returned (.bool true)/\w=w':=by
 rcases hn with rfl|rfl|rfl
 all_goals
  go_enter Tryz.func89,Tryz.ntmps89;go_wp2;go_ret;exact⟨rfl,rfl⟩
structure GK (w:World):Prop where
 odd:Odd w
 rws:Rws w
 sev:Sev w
 con:Con w
 tu:Tu w
theorem GK.later{w w':World}(h:GK w)(hx:Ext w w'):GK w':=⟨h.odd.later hx,h.rws.later hx,h.sev.later hx,h.con.later hx,h.tu.later hx⟩
end Go.Proofs.YtokbbmngfogbbaaGreatDoor.A
