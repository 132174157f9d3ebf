/- Own lemmas of the verifier on memory, numbers and the functions that the laws call; no statement is proved here. -/
import Derived.Test.YtokbbmngfogbbaaGreatDoorQH
import Derived.Test.YtokbbmngfogbbaaGreatDoorProg
import Derived.Deep.QuietTactic
import Derived.BigQuiet
import Derived.Laws.BitsAllLaws
import Derived.WalkMore
import Derived.ScopeJumps
import Derived.Deep.WholeRow
import Derived.RegionTactic
import Derived.StillTailTactics
import Derived.Deep.MidRow
namespace Go.Proofs.YtokbbmngfogbbaaGreatDoor.I
open Go.RowKit
set_option maxRecDepth 100000
set_option maxHeartbeats 8000000
theorem Tryz.info5:(Tryz.prog.info? 5).map (fun i=>(i.zero,i.size,i.bytes))=some (some (.int .u8 0),1,1):=by kernel_rfl
theorem zef(a n:Int)(hn:0<n) : - n<a.tmod n:=by
 have h:=@Int.tmod_eq_emod a n;have h1:=Int.emod_nonneg a (Int.ne_of_gt hn);have h2:=Int.emod_lt_of_pos a hn;split at h<;>omega
theorem zbm(a n:Int)(hn:0<n):(a.tmod n+n)%n=a%n:=by
 have h:=@Int.tmod_eq_emod a n;rw[Int.add_emod_right];split at h
 ·rw[h];simp
 ·rw[h,Int.sub_emod];
  have:(n.natAbs:Int)%n=0:=by rw[Int.natAbs_of_nonneg (by omega)];simp
  rw[this];simp
theorem zcH(a n:Int)(w:World)(h0:0<n)(h1:n<=4611686018427387903):
  Calls Tryz.prog 116 #[.int .i64 a,.int .i64 n] w fun e w'=>e=.returned (.int .i64 (a%n))/\w=w':=by
 have b1:=Int.tmod_lt_of_pos a h0;have b2:=zef a n h0;have hf:=zbm a n h0;have HF:=hid hf;clear hf;go_enter Tryz.func116,Tryz.ntmps116;go_wp2;go_ret;exact⟨zak HF.out,rfl⟩
theorem zcw(A:Option Addr)(n c:Nat)(t:Int)(bs:List UInt8)(w:World)(h:Rd w w.heap.size A n bs)(hn:n<=140737488355328)(h0:0<n):
  Calls Tryz.prog 24 #[.slice A n c,.int .i64 t] w (RetB w (zbe bs n (tf t n) (ts t))):=by
 have hz:((n:Int)==0)=false:=by simp;omega
 have ht:=ztT t;obtain⟨f,hf⟩:∃f:Nat,t/8%n=f:=⟨(t/8%n).toNat,by have:=Int.emod_nonneg (t/8) (show(n:Int)≠0 by omega);omega⟩;obtain⟨s,hs⟩:∃s:Nat,t%8=s:=⟨(t%8).toNat,by omega⟩;have hs7:s<=7:=by omega
 have hfn:f<n:=by have:=Int.emod_lt_of_pos (t/8) (show(0:Int)<n by omega);omega
 have HT:=hid (show tf t n=f/\ts t=s by unfold tf ts;omega);rw[hs] at ht;have HF:=hid hf;clear hs hf;go_enter Tryz.func24,Tryz.ntmps24;go_wp2_with (first
  | (go_at_call 46;refine(zkT _ _ _ (by omega) (by omega)).mono ?_;rintro e w' ⟨rfl,rfl⟩;rw[HF.out])
  | (at_make;refine zaP rfl (.tmp 21) (.tmp 21) 22 rfl Tryz.underlying22 Tryz.info5 .i64 n n rfl rfl rfl (by omega) w.heap.size (Nat.le_refl _) ?_;intro w1 hown1 hb1 _))
 go_loopw [5,25] (fun x i wr=>∃k fr:Nat,k<=n/\fr<n/\i=.int .i64 k/\x=.int .i64 fr/\fr=(f+k)%n/\Own wr w.heap.size (.slice (some ⟨w.heap.size,0,none⟩) n n) (zao (zd0 bs n f s) n k)/\Below w.heap.size w wr) (fun _ i _=>n-(intOf i).toNat)
 case atStart=>exact⟨0,f,Nat.zero_le _,hfn,rfl,rfl,by rw[Nat.add_zero,Nat.mod_eq_of_lt hfn],by rw[zaG];exact hown1,hb1⟩
 case round =>
  obtain⟨k,fr,hk,hfr,rfl,rfl,hfk,hown,hb⟩:=hrel;have HK:=hid hfk;clear hfk;by_cases hlt:k<n
  ·obtain⟨b1,o1,rfl,hb1',hc1⟩:=(h.below hb (Nat.le_refl _)).at_ (by omega);have hck1:=hc1 fr hfr;obtain⟨nx,hnx⟩:∃nx,nx=if fr+1=n then 0 else fr+1:=⟨_,rfl⟩
   have hnk:nx=(f+k+1)%n:=by rw[zk5 _ _ h0,<-HK.out];exact hnx
   have hnl:nx<n:=by rw[hnk];exact Nat.mod_lt _ h0
   have hck2:=hc1 nx hnl;have r1:=zae bs fr;have r2:=zaf bs fr;have r3:=zae bs nx;have r4:=zaf bs nx;obtain⟨cur,hcur⟩:∃cur,zao (zd0 bs n f s) n k=cur:=⟨_,rfl⟩;have hcl:cur.length=n:=by rw[<-hcur];exact zad _ _ _
   rw[hcur] at hown;have hown0:Own wr w.heap.size (.slice (some ⟨w.heap.size,0,none⟩) cur.length n) cur:=by rw[hcl];exact hown
   have hcell:=hown0.cell k (by omega);have hfree:=hown0.free k;have hset:=hown0.set_ k (zd0 bs n f s k);rw[<-hcur,zaO _ _ _ _ rfl,zad] at hset;rw[zdF,<-HK.out,<-hnk] at hset;have HH:=hid hset;have HB:=hid hb;have HN:=hid hnk;clear hset hown0 hown hb hcl hcur hown1 hb1 h hc1 hnk;by_cases hw:fr+1=n
   ·rw[if_pos hw] at hnx;have g1:n<=fr+1:=by omega
    have g2:((fr:Int)+1==(n:Int))=true:=by simp;omega
    subst hnx;rw[Nat.add_zero] at hck2;clear hw;go_wp2;go_region;go_wp2;go_roundw
    case rel=>exact⟨k+1,0,by omega,by omega,by go_num,rfl,HN.out,HH.out,(HB.out.setCell (by simp) _).drew⟩
    case measure=>simp[intOf];omega
   ·rw[if_neg hw] at hnx;have g2:((fr:Int)+1==(n:Int))=false:=by simp;omega
    have g3:fr+1<n:=by omega
    subst hnx;clear hw;go_wp2;go_region;go_wp2;go_roundw
    case rel=>exact⟨k+1,fr+1,by omega,by omega,by go_num,by go_num,HN.out,HH.out,(HB.out.setCell (by simp) _).drew⟩
    case measure=>simp[intOf];omega
  ·obtain rfl:k=n:=by omega
   have HH:=hid (And.intro hown hb);clear hown hb hown1 hb1;go_wp2;go_ret;exact⟨_,rfl,by have:=HH.out.1;rw[zaE] at this;rw[HT.out.1,HT.out.2];exact this,HH.out.2⟩
theorem zdl{w:World}{base:Nat}{v u:Value}{p:Addr}{bs:List UInt8}(h:Own (w.setCell p u) base v bs)(n:Nat):Own ((w.drewN n).setCell p u) base v bs:=h
theorem below_drewN'{B:Nat}{a w:World}(h:Below B a w)(n:Nat):Below B a (w.drewN n):=⟨h.os,h.tape,h.output,h.size,h.block⟩
theorem zer(A:Option Addr)(n c:Nat)(t:Int)(bs:List UInt8)(w:World)(h:Rd w w.heap.size A n bs)(hn:n<=140737488355328)(h0:0<n):
  Calls Tryz.prog 101 #[.slice A n c,.int .i64 t] w (RetB w (zbe bs n (tf t n) (ts t))):=by
 have hz:((n:Int)==0)=false:=by simp;omega
 obtain⟨f,hf⟩:∃f:Nat,t/8%n=f:=⟨(t/8%n).toNat,by have:=Int.emod_nonneg (t/8) (show(n:Int)≠0 by omega);omega⟩;obtain⟨s,hs⟩:∃s:Nat,t%8=s:=⟨(t%8).toNat,by omega⟩;have hs7:s<=7:=by omega
 have hfn:f<n:=by have:=Int.emod_lt_of_pos (t/8) (show(0:Int)<n by omega);omega
 have HT:=hid (show tf t n=f/\ts t=s by unfold tf ts;omega);have hK:t%(8*(n:Int))=((8*f+s:Nat):Int):=by rw[zqt t n h0,hf,hs];omega
 have HF:=hid hK;obtain⟨K,hKK⟩:∃K,K=8*f+s:=⟨_,rfl⟩;rw[<-hKK] at HF;have HD:=hid (show(K:Int)/8=f/\(K:Int)%8=s by omega);have hKb:K<8*n:=by omega
 clear hs hf hK hKK;go_enter Tryz.func101,Tryz.ntmps101;go_wp2_with (first
  | (go_at_call 116;refine(zcH _ _ _ (by omega) (by omega)).mono ?_;rintro e w' ⟨rfl,rfl⟩;rw[HF.out])
  | (at_make;refine zaP rfl (.tmp 11) (.tmp 11) 22 rfl Tryz.underlying22 Tryz.info5 .i64 n n rfl rfl rfl (by omega) w.heap.size (Nat.le_refl _) ?_;intro w1 hown1 hb1 _))
 go_loopw [7] (fun i wr=>∃k:Nat,k<=n/\i=.int .i64 k/\Own wr w.heap.size (.slice (some ⟨w.heap.size,0,none⟩) n n) (zao (zd0 bs n f s) n k)/\Below w.heap.size w wr) (fun i _=>n-(intOf i).toNat)
 case atStart=>exact⟨0,Nat.zero_le _,rfl,by rw[zaG];exact hown1,hb1⟩
 case round =>
  obtain⟨k,hk,rfl,hown,hb⟩:=hrel;by_cases hlt:k<n
  ·obtain⟨b1,o1,rfl,hb1',hc1⟩:=(h.below hb (Nat.le_refl _)).at_ (by omega);have hl1:(f+k)%n<n:=Nat.mod_lt _ h0;have hl2:(f+k+1)%n<n:=Nat.mod_lt _ h0;have hck1:=hc1 _ hl1;have hck2:=hc1 _ hl2;have r1:=zae bs ((f+k)%n);have r2:=zaf bs ((f+k)%n);have r3:=zae bs ((f+k+1)%n);have r4:=zaf bs ((f+k+1)%n);obtain⟨cur,hcur⟩:∃cur,zao (zd0 bs n f s) n k=cur:=⟨_,rfl⟩;have hcl:cur.length=n:=by rw[<-hcur];exact zad _ _ _
   rw[hcur] at hown;have hown0:Own wr w.heap.size (.slice (some ⟨w.heap.size,0,none⟩) cur.length n) cur:=by rw[hcl];exact hown
   have hcell:=hown0.cell k (by omega);have hfree:=hown0.free k;have hset:=hown0.set_ k (zd0 bs n f s k);rw[<-hcur,zaO _ _ _ _ rfl,zad] at hset;rw[zdF,Nat.add_comm f k] at hset;have HH:=hid hset;have HB:=hid hb;clear hset hown0 hown hb hcl hcur hown1 hb1 h hc1;have hD1:=HD.out.1;have hD2:=HD.out.2;rw[Nat.add_comm f k] at hck1 hck2;have q1:(0:Int)<=((k:Int)+f)%n:=Int.emod_nonneg _ (by omega);have q2:((k:Int)+f)%n<n:=Int.emod_lt_of_pos _ (by omega);have q3:(0:Int)<=((k:Int)+f+1)%n:=Int.emod_nonneg _ (by omega);have q4:((k:Int)+f+1)%n<n:=Int.emod_lt_of_pos _ (by omega);go_wp2;go_quiet (fail)
   go_wp2;go_roundw
   case rel=>exact⟨k+1,by omega,by go_num,zdl HH.out nq,(below_drewN' HB.out nq).setCell (by simp) _⟩
   case measure=>simp[intOf];omega
  ·obtain rfl:k=n:=by omega
   have HH:=hid (And.intro hown hb);clear hown hb hown1 hb1;go_wp2;go_ret;exact⟨_,rfl,by have:=HH.out.1;rw[zaE] at this;rw[HT.out.1,HT.out.2];exact this,HH.out.2⟩
end Go.Proofs.YtokbbmngfogbbaaGreatDoor.I
namespace Go.Proofs.YtokbbmngfogbbaaGreatDoor.I
set_option maxRecDepth 100000
set_option maxHeartbeats 8000000
structure Pr (p:Nat):Prop where
 one:1<p
 co:∀x,0<x->x<p->Nat.Coprime p x
theorem Pr.dvd{p x y:Nat}(h:Pr p)(hd:p ∣ x*y)(h0:0<x)(h1:x<p):p ∣ y:=(h.co x h0 h1).dvd_of_dvd_mul_left hd
theorem znB{p x y:Nat}(h:x%p=y%p):p ∣ x-y:=Nat.dvd_of_mod_eq_zero (Nat.sub_mod_eq_zero_of_mod_eq h)
theorem zqa{p x:Nat}(h:p ∣ x)(hl:x<p):x=0:=by
 obtain⟨k,rfl⟩:=h;rcases Nat.eq_zero_or_pos k with rfl|hk
 ·rfl
 ·have:=Nat.le_mul_of_pos_right p hk;omega
theorem Pr.cancel{p a x y:Nat}(h:Pr p)(h0:0<a)(h1:a<p)(he:a*x%p=a*y%p):x%p=y%p:=by
 have key:∀x y,y<=x->a*x%p=a*y%p->x%p=y%p:=by intro x y hxy he;have hd:=znB he;rw[<-Nat.mul_sub] at hd;obtain⟨k,hk⟩:=h.dvd hd h0 h1;rw[show x=y+p*k by omega,Nat.add_mul_mod_self_left]
 rcases Nat.le_total y x with hl|hl
 ·exact key x y hl he
 ·exact(key y x hl he.symm).symm
theorem zle(a p:Nat):∀l:List Nat,(l.map fun k=>a*k%p).prod%p=a^l.length*l.prod%p
 | []=>by simp
 | x::l=>by have ih:=zle a p l;rw[List.map_cons,List.prod_cons,List.prod_cons,List.length_cons,Nat.mul_mod,ih,Nat.mod_mod,<-Nat.mul_mod,Nat.pow_succ];congr 1;rw[Nat.mul_assoc,Nat.mul_assoc];rw[show x*(a^l.length*l.prod)=a^l.length*(x*l.prod) by rw[<-Nat.mul_assoc,Nat.mul_comm x,Nat.mul_assoc]];rw[<-Nat.mul_assoc,Nat.mul_comm a,Nat.mul_assoc]
theorem znp{p:Nat}:∀l:List Nat,(∀x ∈ l,Nat.Coprime p x)->Nat.Coprime p l.prod
 | [],_=>by simp
 | x::l,h=>by rw[List.prod_cons];exact Nat.Coprime.mul_right (h x (by simp)) (znp l fun y hy=>h y (by simp[hy]))
theorem Pr.fermat{p a:Nat}(h:Pr p)(h0:0<a)(h1:a<p):a^(p-1)%p=1:=by
 have hp:=h.one;obtain⟨n,rfl⟩:∃n,p=n+1:=⟨p-1,by omega⟩;rw[Nat.add_sub_cancel];have hne:∀i,i<n->a*(i+1)%(n+1)≠0:=fun i hi he=>by have:=h.dvd (Nat.dvd_of_mod_eq_zero he) h0 h1;have:=zqa this (by omega);omega
 have hlt:∀i,a*(i+1)%(n+1)<n+1:=fun i=>Nat.mod_lt _ (by omega)
 have hinj:∀i j,i<n->j<n->a*(i+1)%(n+1)=a*(j+1)%(n+1)->i=j:=fun i j hi hj he=>by have:=h.cancel h0 h1 he;rw[Nat.mod_eq_of_lt (by omega),Nat.mod_eq_of_lt (by omega)] at this;omega
 have honto:=zlb n (fun i=>a*(i+1)%(n+1)-1) (fun i hi=>by have:=hne i hi;have:=hlt i;show _-1<n;omega)
  (fun i j hi hj he=>hinj i j hi hj (by have:=hne i hi;have:=hne j hj;have he:a*(i+1)%(n+1)-1=a*(j+1)%(n+1)-1:=he;omega))
 obtain⟨L,hL⟩:∃L,(List.range n).map (· + 1)=L:=⟨_,rfl⟩;have hmem:∀x,x ∈ L↔1<=x/\x<=n:=fun x=>by
  rw[<-hL,List.mem_map];constructor
  ·rintro⟨i,hi,rfl⟩;have:=List.mem_range.1 hi;omega
  ·rintro⟨q1,q2⟩;exact⟨x-1,List.mem_range.2 (by omega),by omega⟩
 have hlen:L.length=n:=by rw[<-hL];simp
 have hnd:L.Nodup:=by rw[<-hL];refine List.pairwise_map.2 (List.Pairwise.imp (fun {a b} hab=>?_) List.pairwise_lt_range);omega
 have hnd2:(L.map fun k=>a*k%(n+1)).Nodup:=by rw[<-hL,List.map_map];refine List.pairwise_map.2 ?_;refine List.Pairwise.imp_of_mem (fun {i j} hi hj hij=>?_) List.pairwise_lt_range;intro he;have:=hinj i j (List.mem_range.1 hi) (List.mem_range.1 hj) he;omega
 have hperm:(L.map fun k=>a*k%(n+1)).Perm L:=by
  refine(List.perm_ext_iff_of_nodup hnd2 hnd).2 fun y=>?_
  rw[List.mem_map,hmem];constructor
  ·rintro⟨x,hx,rfl⟩;have hx':=(hmem x).1 hx;have h3:=hne (x-1) (by omega);have h4:=hlt (x-1);rw[show x-1+1=x by omega] at h3 h4;omega
  ·rintro⟨hy1,hy2⟩;obtain⟨i,hi,he⟩:=honto (y-1) (by omega);have h3:=hne i hi;refine⟨i+1,(hmem _).2 (by omega),?_⟩;have he:a*(i+1)%(n+1)-1=y-1:=he;omega
 have hpr:=zle a (n+1) L;rw[hperm.prod_nat,hlen] at hpr;have hco:=znp L fun x hx=>h.co x (by have:=(hmem x).1 hx;omega) (by have:=(hmem x).1 hx;omega)
 have hd:=znB hpr.symm;have hpos:1<=a^n:=Nat.one_le_pow _ _ h0;rw[show a^n*L.prod-L.prod=L.prod*(a^n-1) by rw[Nat.mul_sub,Nat.mul_one,Nat.mul_comm]] at hd;obtain⟨k,hk⟩:=hco.dvd_of_dvd_mul_left hd;rw[show a^n=1+(n+1)*k by omega,Nat.add_mul_mod_self_left,Nat.mod_eq_of_lt (by omega)]
theorem zhj:∀d,d<257->2<=d->65537%d≠0:=by decide +kernel
theorem zfa:Pr 65537:=by
 refine⟨by omega,fun x h0 h1=>?_⟩;have hg1:Nat.gcd 65537 x ∣ 65537:=Nat.gcd_dvd_left _ _;have hg2:Nat.gcd 65537 x ∣ x:=Nat.gcd_dvd_right _ _;have hgx:=Nat.le_of_dvd h0 hg2;obtain⟨k,hk⟩:=hg1;show Nat.gcd 65537 x=1;obtain⟨g,hg⟩:∃g,Nat.gcd 65537 x=g:=⟨_,rfl⟩;rw[hg] at hk hgx ⊢;have hg0:g≠0:=by rintro rfl;omega
 have hk0:k≠0:=by rintro rfl;omega
 rcases Nat.lt_or_ge g 257 with h2|h2
 ·rcases Nat.lt_or_ge g 2 with h3|h3
  ·omega
  ·exact absurd (by rw[hk];exact Nat.mul_mod_right g k) (zhj g h2 h3)
 ·rcases Nat.lt_or_ge k 257 with h4|h4
  ·rcases Nat.lt_or_ge k 2 with h3|h3
   ·have:k=1:=by omega
    subst this;omega
   ·exact absurd (by rw[hk];exact Nat.mul_mod_left g k) (zhj k h4 h3)
  ·have:=Nat.mul_le_mul h2 h4;omega
def st(a:Nat):Nat:=if a=0 then 65536 else a
theorem ziC(a:Nat):0<st a:=by unfold st;split<;>omega
theorem zf8{a:Nat}(h:a<65536):st a<65537:=by unfold st;split<;>omega
theorem zqe{r:Nat}(h0:0<r)(h1:r<65537):st (r%65536)=r:=by
 unfold st;split<;>omega
theorem ziS{a b:Nat}(ha:a<65536)(hb:b<65536)(h:st a=st b):a=b:=by
 unfold st at h;split at h<;>split at h<;>omega
theorem zkW{x y:Nat}(h0:0<x)(h1:x<65537)(h2:0<y)(h3:y<65537):0<x*y%65537:=by
 rcases Nat.eq_zero_or_pos (x*y%65537) with h|h
 ·have:=zqa (zfa.dvd (Nat.dvd_of_mod_eq_zero h) h0 h1) h3;omega
 ·exact h
def mulF(a b:Nat):Nat:=st a*st b%65537%65536
theorem zcr(a b:Nat):mulF a b<65536:=Nat.mod_lt _ (by omega)
theorem zfd{a b:Nat}(ha:a<65536)(hb:b<65536):st (mulF a b)=st a*st b%65537 :=
 zqe (zkW (ziC a) (zf8 ha) (ziC b) (zf8 hb)) (Nat.mod_lt _ (by omega))
theorem znV(a b:Nat):mulF a b=mulF b a:=by unfold mulF;rw[Nat.mul_comm]
theorem zlU{a b c:Nat}(ha:a<65536)(hb:b<65536)(hc:c<65536):mulF (mulF a b) c=mulF a (mulF b c):=by
 refine ziS (zcr _ _) (zcr _ _) ?_;rw[zfd (zcr _ _) hc,zfd ha (zcr _ _),zfd ha hb,zfd hb hc];simp only[Nat.mod_mul_mod,Nat.mul_mod_mod,Nat.mul_assoc]
theorem zoT{a:Nat}(ha:a<65536):mulF a 1=a:=by
 refine ziS (zcr _ _) ha ?_;rw[zfd ha (by omega),show st 1=1 from rfl,Nat.mul_one,Nat.mod_eq_of_lt (zf8 ha)]
theorem zjG{a b c:Nat}(ha:a<65536)(hb:b<65536)(hc:c<65536)(h:mulF a b=mulF a c):b=c:=by
 have h2:st (mulF a b)=st (mulF a c):=by rw[h]
 rw[zfd ha hb,zfd ha hc] at h2;have:=zfa.cancel (ziC a) (zf8 ha) h2;rw[Nat.mod_eq_of_lt (zf8 hb),Nat.mod_eq_of_lt (zf8 hc)] at this;exact ziS hb hc this
def pwF(a n:Nat):Nat:=st a^n%65537%65536
theorem zg4(a n:Nat):pwF a n<65536:=Nat.mod_lt _ (by omega)
theorem zfn{a:Nat}(ha:a<65536):∀n,0<st a^n%65537
 | 0=>by simp
 | n+1=>by have ih:=zfn ha n;rw[Nat.pow_succ,Nat.mul_mod,Nat.mod_eq_of_lt (zf8 ha)];exact zkW ih (Nat.mod_lt _ (by omega)) (ziC a) (zf8 ha)
theorem zpN{a:Nat}(ha:a<65536)(n:Nat):st (pwF a n)=st a^n%65537:=zqe (zfn ha n) (Nat.mod_lt _ (by omega))
theorem zpb(a:Nat):pwF a 0=1:=by unfold pwF;rw[Nat.pow_zero]
theorem zoz{a:Nat}(ha:a<65536):pwF a 1=a:=ziS (zg4 _ _) ha (by rw[zpN ha,Nat.pow_one,Nat.mod_eq_of_lt (zf8 ha)])
theorem zjo{a:Nat}(ha:a<65536)(m n:Nat):mulF (pwF a m) (pwF a n)=pwF a (m+n):=by
 refine ziS (zcr _ _) (zg4 _ _) ?_;rw[zfd (zg4 _ _) (zg4 _ _),zpN ha,zpN ha,zpN ha,Nat.pow_add,<-Nat.mul_mod]
def invF(a:Nat):Nat:=pwF a 65535
theorem zf2(a:Nat):invF a<65536:=zg4 _ _
theorem zi{a:Nat}(ha:a<65536):mulF a (invF a)=1:=by
 have h1:=zjo ha 1 65535;rw[zoz ha] at h1;unfold invF;rw[h1];have hf:=zfa.fermat (ziC a) (zf8 ha);unfold pwF;rw[show(1+65535:Nat)=65537-1 from rfl,hf]
end Go.Proofs.YtokbbmngfogbbaaGreatDoor.I
namespace Go.Proofs.YtokbbmngfogbbaaGreatDoor.I
open Go.RowKit
set_option maxRecDepth 100000
set_option maxHeartbeats 8000000
theorem zir(a:Nat)(w:World)(h:a<65536):Calls Tryz.prog 178 #[.int .i64 a] w fun e w'=>e=.returned (.bool true)/\w=w':=by
 go_enter Tryz.func178,Tryz.ntmps178;go_wp2;go_ret;exact⟨zht (by simp;omega),rfl⟩
theorem zfl(a:Nat)(w:World)(h:a<65536):Calls Tryz.prog 179 #[.int .i64 a] w fun e w'=>e=.returned (.int .u64 (st a:Nat))/\w=w':=by
 by_cases h0:a=0
 ·subst h0;go_enter Tryz.func179,Tryz.ntmps179;go_wp2;go_ret;exact⟨rfl,rfl⟩
 ·have hs:st a=a:=if_neg h0;rw[hs];have hz:((a:Int)==0)=false:=by simp;omega
  clear hs;go_enter Tryz.func179,Tryz.ntmps179;go_wp2;go_ret;exact⟨rfl,rfl⟩
theorem nat_mask16(n:Nat):n&&&65535=n%65536:=by
 rw[show(65535:Nat)=2^16-1 from rfl,Nat.and_two_pow_sub_one_eq_mod]
theorem ztk(n:Nat)(h:n<65537):bits .and .u64 (n:Int) 65535=((n%65536:Nat):Int):=by
 rw[show(65535:Int)=((65535:Nat):Int) from rfl,u64_and_nat _ _ (by omega) (by omega),nat_mask16]
theorem zqE(t:Int):bits .and .i64 t 65535=t%65536:=by
 have e0:bits .and .i64 t 65535=IntKind.i64.wrap ((BitVec.ofInt 64 t&&&BitVec.ofInt 64 65535).toNat:Int):=rfl;have e:(BitVec.ofInt 64 t&&&BitVec.ofInt 64 65535).toNat=(t%65536).toNat:=by rw[BitVec.toNat_and,BitVec.toNat_ofInt,BitVec.toNat_ofInt];have:(65535%((2^64:Nat):Int)).toNat=65535:=rfl;rw[this,nat_mask16];omega
 rw[e0,e];simp[IntKind.wrap,IntKind.bits,IntKind.signed];omega
theorem zts{a:Nat}(h:a<65536):st a<=65536:=by have:=zf8 h;omega
theorem zbO(a b:Nat)(w:World)(ha:a<65536)(hb:b<65536):Calls Tryz.prog 163 #[.int .i64 a,.int .i64 b] w fun e w'=>e=.returned (.int .i64 (mulF a b:Nat))/\w=w':=by
 have hS:=zts ha;have hT:=zts hb;have hF:mulF a b=st a*st b%65537%65536:=rfl;obtain⟨S,hS1⟩:∃S,st a=S:=⟨_,rfl⟩;obtain⟨T,hT1⟩:∃T,st b=T:=⟨_,rfl⟩;have c1:=fun w=>zfl a w ha
 have c2:=fun w=>zfl b w hb
 rw[hS1] at hS c1 hF;rw[hT1] at hT c2 hF;have hM:S*T<=65536*65536:=Nat.mul_le_mul hS hT;obtain⟨M,hM1⟩:∃M,S*T=M:=⟨_,rfl⟩;rw[hM1] at hM hF;have hMi:(S:Int)*(T:Int)=(M:Int):=by rw[<-hM1];simp
 have hA:=ztk (M%65537) (Nat.mod_lt _ (by omega));rw[<-hF] at hA;have hl:=zcr a b;obtain⟨R,hR⟩:∃R,mulF a b=R:=⟨_,rfl⟩;rw[hR] at hA hl ⊢;have hA2:bits .and .u64 ((M:Int)%65537) 65535=(R:Int):=by rw[<-hA];rfl
 clear hA hF hM1 hS1 hT1 hR;have C1:=hid c1;have C2:=hid c2;clear c1 c2;go_enter Tryz.func163,Tryz.ntmps163;go_wp2_with (first
  | (go_at_call 178;refine(zir _ _ (by omega)).mono ?_;rintro e w' ⟨rfl,rfl⟩)
  | (go_at_call 179;refine(C1.out _).mono ?_;rintro e w' ⟨rfl,rfl⟩)
  | (go_at_call 179;refine(C2.out _).mono ?_;rintro e w' ⟨rfl,rfl⟩))
 go_ret;exact⟨rfl,rfl⟩
theorem zd7(a b:Nat)(w:World)(ha:a<65536)(hb:b<65536):Calls Tryz.prog 227 #[.int .i64 a,.int .i64 b] w fun e w'=>e=.returned (.int .i64 ((a+b)%65536:Nat))/\w=w':=by
 have hA:=zqE ((a:Int)+b);go_enter Tryz.func227,Tryz.ntmps227;go_wp2;go_ret;exact⟨zak (by omega),rfl⟩
def negF(a:Nat):Nat:=(65536-a)%65536
theorem ziB(a:Nat)(w:World)(ha:a<65536):Calls Tryz.prog 127 #[.int .i64 a] w fun e w'=>e=.returned (.int .i64 (negF a:Nat))/\w=w':=by
 have hA:=zqE (-(a:Int));go_enter Tryz.func127,Tryz.ntmps127;go_wp2;go_ret;exact⟨zak (by unfold negF;omega),rfl⟩
theorem zna{a:Nat}(ha:a<65536)(k:Nat):mulF (mulF (pwF a (2^k-1)) (pwF a (2^k-1))) a=pwF a (2^(k+1)-1):=by
 have hp:1<=2^k:=Nat.one_le_pow _ _ (by omega);rw[zjo ha];have h1:=zjo ha (2^k-1+(2^k-1)) 1;rw[zoz ha] at h1;rw[h1,Nat.pow_succ];congr 1;omega
def InvJ(a:Nat)(w:World)(a':Act)(w':World):Prop :=
 w=w'/\∃(k:Nat) (u5 u6 u7 u8 u9 u10 u11 u12 u13:Value),
  a' = { tmps:=#[.int .i64 a,undef,.int .i64 0,.int .i64 (pwF a (2^k-1):Nat),.int .i64 k,u5,u6,u7,u8,u9,u10,u11,u12,u13,undef],defers:=[] }/\k<16
def iOf(a:Act):Nat:=match a.tmps.getD 4 undef with | .int _ q=>q.toNat|_=>0
theorem zh3(a:Nat)(w:World)(ha:a<65536):
  Calls Tryz.prog 126 #[.int .i64 a] w fun e w'=>e=.returned (.int .i64 (invF a:Nat))/\w=w':=by
 go_enter Tryz.func126,Tryz.ntmps126;go_wp2_with fail
 refine zat 0 (InvJ a w) (fun a' _=>16-iOf a') rfl ?_ ?_
 ·rintro a' w' ⟨rfl,k,u5,u6,u7,u8,u9,u10,u11,u12,u13,rfl,hk⟩;have hs:=hid (zna ha k);have hl:=zg4 a (2^k-1);obtain⟨p,hp⟩:∃p,pwF a (2^k-1)=p:=⟨_,rfl⟩;rw[hp] at hs hl ⊢;have hm:=zcr p p;clear hp;go_wp2_with fail
  refine(zbO p p _ hl hl).mono ?_;rintro e w' ⟨rfl,rfl⟩;go_wp2_with fail
  refine(zbO (mulF p p) a _ hm ha).mono ?_;rintro e w' ⟨rfl,rfl⟩;rw[hs.out];clear hm;by_cases hlt:k+1<16
  ·have hlt2:(k:Int)+1<16:=by omega
   go_wp2_with fail
   go_step3;refine⟨rfl,⟨rfl,k+1,ex8 ⟨_,rfl,hlt⟩⟩,?_⟩;simp[iOf];omega
  ·obtain rfl:k=15:=by omega
   go_wp2_with fail
   simp only[Exit.jump];go_ret;exact⟨rfl,rfl⟩
 ·intro hfirst;go_wp2_with fail
  go_step3;simp only[Exit.then];rename_i hK;refine hK _ _ ?_;exact hfirst.out _ _ ⟨rfl,0,ex8 ⟨_,by rw[show pwF a (2^0-1)=1 from zpb a];rfl,by omega⟩⟩
theorem Tryz.info3:(Tryz.prog.info? 3).map (fun i=>(i.zero,i.size,i.bytes))=some (some (.int .i64 0),1,8):=by kernel_rfl
def tabN(f:Nat->Nat)(n:Nat):List Int:=(List.range n).map fun i=>((f i:Nat):Int)
theorem zav(f:Nat->Nat)(n:Nat):(tabN f n).length=n:=by simp[tabN]
theorem zhR(f:Nat->Nat)(n j:Nat)(h:j<n):(tabN f n).getD j 0=(f j:Nat):=by simp[tabN,List.getD,h]
def zaR(f:Nat->Nat)(n k:Nat):List Int:=(List.range n).map fun i=>if i<k then((f i:Nat):Int) else 0
theorem zax(f:Nat->Nat)(n k:Nat):(zaR f n k).length=n:=by simp[zaR]
theorem zc2(f:Nat->Nat)(n:Nat):zaR f n 0=List.replicate n 0:=by
 apply List.ext_getElem<;>simp[zaR]
theorem zc6(f:Nat->Nat)(n:Nat):zaR f n n=tabN f n:=by
 apply List.ext_getElem
 ·simp[zaR,tabN]
 ·intro i h1 h2;have:i<n:=by simpa [zaR] using h1
  simp[zaR,tabN,this]
theorem zgH(f:Nat->Nat)(n k:Nat)(y:Int)(hy:y=(f k:Nat)):(zaR f n k).set k y=zaR f n (k+1):=by
 subst hy;apply List.ext_getElem
 ·simp[zaR]
 ·intro i h1 h2;simp only[zaR,List.getElem_set,List.getElem_map,List.getElem_range];by_cases h:k=i
  ·subst h;simp
  ·rw[if_neg h];by_cases h':i<k
   ·rw[if_pos h',if_pos (by omega)]
   ·rw[if_neg h',if_neg (by omega)]
def numF(bs:List UInt8)(j:Nat):Nat:=256*nb bs (2*j)+nb bs (2*j+1)
theorem zfH(bs:List UInt8)(j:Nat):numF bs j<65536:=by
 unfold numF;have:=zcW bs (2*j);have:=zcW bs (2*j+1);omega
theorem zlr(a b:Nat)(ha:a<2^63)(hb:b<2^63):bits .or .i64 (a:Int) (b:Int)=((a|||b:Nat):Int):=by
 have e0:bits .or .i64 (a:Int) (b:Int)=IntKind.i64.wrap ((BitVec.ofInt 64 (a:Int)|||BitVec.ofInt 64 (b:Int)).toNat:Int):=rfl;have h:a|||b<2^63:=Nat.or_lt_two_pow ha hb
 have e:(BitVec.ofInt 64 (a:Int)|||BitVec.ofInt 64 (b:Int)).toNat=a|||b:=by
  rw[BitVec.toNat_or,BitVec.toNat_ofInt,BitVec.toNat_ofInt];have h1:((a:Int)%((2^64:Nat):Int)).toNat=a:=by omega
  have h2:((b:Int)%((2^64:Nat):Int)).toNat=b:=by omega
  rw[h1,h2]
 rw[e0,e];simp[IntKind.wrap,IntKind.bits,IntKind.signed];omega
theorem zn3{x y:Nat}(hx:x<256)(hy:y<256):bits .or .i64 ((x:Int)*256) (y:Int)=(x:Int)*256+y:=by
 have e:(x:Int)*256=((256*x:Nat):Int):=by omega
 rw[e,zlr _ _ (by omega) (by omega)];have h1:256*x|||y=256*x+y:=by rw[show(256:Nat)=2^8 from rfl,<-Nat.two_pow_add_eq_or_of_lt (show y<2^8 by omega)]
 rw[h1];omega
theorem zeg(A:Option Addr)(m c:Nat)(bs:List UInt8)(w:World)(h:Rd w w.heap.size A (2*m) bs)(hm:m<=1000):
  Calls Tryz.prog 125 #[.slice A (2*m:Nat) c] w fun e w'=>e=.returned (.slice (some ⟨w.heap.size,0,none⟩) m m)/\OwnN .i64 3 w' w.heap.size (.slice (some ⟨w.heap.size,0,none⟩) m m) (tabN (numF bs) m)/\Below w.heap.size w w':=by
 have h2:((2*m:Nat):Int)/2=(m:Int):=by omega
 go_enter Tryz.func125,Tryz.ntmps125;go_wp2_with (at_make;refine zc3 rfl (.tmp 7) (.tmp 7) 38 rfl Tryz.underlying38 8 Tryz.info3 .i64 m m rfl rfl rfl (by omega) (by unfold maxLen;omega) w.heap.size (Nat.le_refl _) ?_;intro w1 hown1 hb1)
 go_loopw [11] (fun i wr=>∃k:Nat,k<=m/\i=.int .i64 k/\OwnN .i64 3 wr w.heap.size (.slice (some ⟨w.heap.size,0,none⟩) m m) (zaR (numF bs) m k)/\Below w.heap.size w wr) (fun i _=>m-(intOf i).toNat)
 case atStart=>exact⟨0,Nat.zero_le _,rfl,by rw[zc2];exact hown1,hb1⟩
 case round =>
  obtain⟨k,hk,rfl,hown,hb⟩:=hrel;by_cases hlt:k<m
  ·obtain⟨b1,o1,rfl,hb1',hc1⟩:=(h.below hb (Nat.le_refl _)).at_ (by omega);have hck1:=hc1 (2*k) (by omega);have hck2:=hc1 (2*k+1) (by omega);rw[zaV] at hck1 hck2;have r1:=zcW bs (2*k);have r2:=zcW bs (2*k+1);have HV:=hid (show((numF bs k:Nat):Int)=(nb bs (2*k):Int)*256+nb bs (2*k+1) by unfold numF;omega);obtain⟨x,hx⟩:∃x,nb bs (2*k)=x:=⟨_,rfl⟩;obtain⟨y,hy⟩:∃y,nb bs (2*k+1)=y:=⟨_,rfl⟩;rw[hx] at hck1 r1 HV;rw[hy] at hck2 r2 HV;have hor:=zn3 r1 r2;have hl:=zax (numF bs) m k;have hcell:=hown.celln hl k hlt;have hfree:=hown.free k;have hset:=hown.setn hl k ((x:Int)*256+y);rw[zgH _ _ _ _ HV.out.symm] at hset;have HH:=hid hset;have HB:=hid hb;clear hset hown hb hown1 hb1 h hc1 hx hy hl HV;go_wp2_with fail
   go_region;go_wp2_with fail
   go_roundw
   case rel=>exact⟨k+1,by omega,by go_num,HH.out,(HB.out.setCell (by simp) _).drew⟩
   case measure=>simp[intOf];omega
  ·obtain rfl:k=m:=by omega
   have HH:=hid (And.intro hown hb);clear hown hb hown1 hb1;go_wp2_with fail
   go_ret;exact⟨rfl,by have:=HH.out.1;rw[zc6] at this;exact this,HH.out.2⟩
def rowT(key:List UInt8):Nat->List UInt8
 | 0=>key
 | r+1=>zbe (rowT key r) 16 (tf 25 16) (ts 25)
def keyF(key:List UInt8)(i:Nat):Nat:=numF (rowT key (i/8)) (i%8)
theorem zjI(key:List UInt8)(i:Nat):keyF key i<65536:=zfH _ _
theorem znb(key:List UInt8)(r i:Nat)(h:i<8):keyF key (8*r+i)=numF (rowT key r) i:=by
 unfold keyF;rw[show(8*r+i)/8=r by omega,show(8*r+i)%8=i by omega]
structure F4 where
 a:Nat
 b:Nat
 c:Nat
 d:Nat
deriving DecidableEq
structure F4.ok (x:F4):Prop where
 a:x.a<65536
 b:x.b<65536
 c:x.c<65536
 d:x.d<65536
def F4.cells(x:F4):Array Value:=#[.int .i64 (x.a:Nat),.int .i64 (x.b:Nat),.int .i64 (x.c:Nat),.int .i64 (x.d:Nat)]
def byF(x:F4)(k:Nat->Nat):F4:=⟨mulF x.a (k 0),(x.b+k 1)%65536,(x.c+k 2)%65536,mulF x.d (k 3)⟩
theorem zme(x:F4)(k:Nat->Nat):(byF x k).ok:=⟨zcr _ _,Nat.mod_lt _ (by omega),Nat.mod_lt _ (by omega),zcr _ _⟩
def mF(x:F4)(k5:Nat):Nat:=mulF (x.a^^^x.c) k5
def mG(x:F4)(k5 k6:Nat):Nat:=mulF (((x.b^^^x.d)+mF x k5)%65536) k6
def mH(x:F4)(k5 k6:Nat):Nat:=(mF x k5+mG x k5 k6)%65536
def mixF(x:F4)(k5 k6:Nat):F4:=⟨x.a^^^mG x k5 k6,x.c^^^mG x k5 k6,x.b^^^mH x k5 k6,x.d^^^mH x k5 k6⟩
theorem zdi{a b:Nat}(ha:a<65536)(hb:b<65536):a^^^b<65536:=Nat.xor_lt_two_pow (n:=16) ha hb
theorem zvA(x:F4)(k:Nat):mF x k<65536:=zcr _ _
theorem zsk(x:F4)(k l:Nat):mG x k l<65536:=zcr _ _
theorem zrF(x:F4)(k l:Nat):mH x k l<65536:=Nat.mod_lt _ (by omega)
theorem zrL{x:F4}(h:x.ok)(k5 k6:Nat):(mixF x k5 k6).ok :=
 ⟨zdi h.a (zsk _ _ _),zdi h.c (zsk _ _ _),zdi h.b (zrF _ _ _),zdi h.d (zrF _ _ _)⟩
def rndF(k:Nat->Nat)(x:F4):Nat->F4
 | 0=>x
 | r+1=>mixF (byF (rndF k x r) fun i=>k (6*r+i)) (k (6*r+4)) (k (6*r+5))
theorem zjO{k:Nat->Nat}{x:F4}(h:x.ok):∀r,(rndF k x r).ok
 | 0=>h
 | _+1=>zrL (zme _ _) _ _
def swF(x:F4):F4:=⟨x.a,x.c,x.b,x.d⟩
theorem zqr{x:F4}(h:x.ok):(swF x).ok:=⟨h.a,h.c,h.b,h.d⟩
def zcn(k:Nat->Nat)(x:F4):F4:=byF (swF (rndF k x 8)) fun i=>k (48+i)
theorem zfu(k:Nat->Nat)(x:F4):(zcn k x).ok:=zme _ _
theorem zgZ{k l:Nat->Nat}(x:F4):∀r,(∀i,i<6*r->k i=l i)->rndF k x r=rndF l x r
 | 0,_=>rfl
 | r+1,h=>by rw[rndF,rndF,zgZ x r fun i hi=>h i (by omega),h _ (show 6*r+4<6*(r+1) by omega),h _ (show 6*r+5<6*(r+1) by omega)];unfold byF;simp only[h _ (show 6*r+0<6*(r+1) by omega),h _ (show 6*r+1<6*(r+1) by omega),h _ (show 6*r+2<6*(r+1) by omega),h _ (show 6*r+3<6*(r+1) by omega)]
theorem zjj{k l:Nat->Nat}(x:F4)(h:∀i,i<52->k i=l i):zcn k x=zcn l x:=by
 unfold zcn;rw[zgZ x 8 fun i hi=>h i (by omega)];unfold byF;simp only[h (48+0) (by omega),h (48+1) (by omega),h (48+2) (by omega),h (48+3) (by omega)]
def undF(k:Nat->Nat)(i:Nat):Nat :=
 let r:=i/6
 let f:=48-6*r
 let s:=if 0<r/\r<8 then 1 else 0
 match i%6 with
 | 0=>invF (k f)
 | 1=>negF (k (f+1+s))
 | 2=>negF (k (f+2-s))
 | 3=>invF (k (f+3))
 | 4=>k (f-2)
 | _=>k (f-1)
theorem zsf(a:Nat):negF a<65536:=Nat.mod_lt _ (by omega)
theorem zoh{k:Nat->Nat}(h:∀i,k i<65536)(i:Nat):undF k i<65536:=by
 unfold undF;split<;>first|exact zf2 _|exact zsf _|exact h _
def inF(b:List UInt8):F4:=⟨numF b 0,numF b 1,numF b 2,numF b 3⟩
theorem zks(b:List UInt8):(inF b).ok:=⟨zfH _ _,zfH _ _,zfH _ _,zfH _ _⟩
def two(n:Nat):List UInt8:=[UInt8.ofNat (n/256),UInt8.ofNat n]
def outL(x:F4):List UInt8:=two x.a++two x.b++two x.c++two x.d
theorem zfS(x:F4):(outL x).length=8:=rfl
def dirK(k:Nat->Nat)(back:Bool):Nat->Nat:=if back then undF k else k
def zaF(k:Nat->Nat)(back:Bool)(b:List UInt8):List UInt8:=outL (zcn (dirK k back) (inF b))
theorem zbc(k:Nat->Nat)(back:Bool)(b:List UInt8):(zaF k back b).length=8:=rfl
theorem zoD{n:Nat}(h:n<65536):(UInt8.ofNat (n/256)).toNat*256+(UInt8.ofNat n).toNat=n:=by
 rw[UInt8.toNat_ofNat',UInt8.toNat_ofNat'];omega
theorem zh5{a k:Nat}(ha:a<65536)(hk:k<65536):mulF (mulF a k) (invF k)=a:=by
 rw[zlU ha hk (zf2 _),zi hk,zoT ha]
theorem zhD{a k:Nat}(ha:a<65536)(hk:k<65536):((a+k)%65536+negF k)%65536=a:=by
 unfold negF;omega
theorem znj{x:F4}(h:x.ok){k l:Nat->Nat}(hk:∀i,k i<65536)(h0:l 0=invF (k 0))(h1:l 1=negF (k 1))(h2:l 2=negF (k 2))(h3:l 3=invF (k 3)):byF (byF x k) l=x:=by
 unfold byF;simp only[h0,h1,h2,h3];rw[zh5 h.a (hk _),zh5 h.d (hk _),zhD h.b (hk _),zhD h.c (hk _)]
theorem zt2{x:F4}(h:x.ok){k l:Nat->Nat}(hk:∀i,k i<65536)(h0:l 0=invF (k 0))(h1:l 1=negF (k 2))(h2:l 2=negF (k 1))(h3:l 3=invF (k 3)):byF (swF (byF x k)) l=swF x:=by
 unfold byF swF;simp only[h0,h1,h2,h3];rw[zh5 h.a (hk _),zh5 h.d (hk _),zhD h.b (hk _),zhD h.c (hk _)]
theorem xx(a b g:Nat):(a^^^g)^^^(b^^^g)=a^^^b:=by
 rw[Nat.xor_comm b g,<-Nat.xor_assoc,Nat.xor_assoc a g g,Nat.xor_self,Nat.xor_zero]
theorem x2(a g:Nat):a^^^g^^^g=a:=by rw[Nat.xor_assoc,Nat.xor_self,Nat.xor_zero]
theorem zgt(x:F4)(k5 k6:Nat):mixF (swF (mixF x k5 k6)) k5 k6=swF x:=by
 have hF:mF (swF (mixF x k5 k6)) k5=mF x k5:=by show mulF ((x.a^^^mG x k5 k6)^^^(x.c^^^mG x k5 k6)) k5=_;rw[xx];rfl
 have hG:mG (swF (mixF x k5 k6)) k5 k6=mG x k5 k6:=by show mulF ((((x.b^^^mH x k5 k6)^^^(x.d^^^mH x k5 k6))+mF (swF (mixF x k5 k6)) k5)%65536) k6=_;rw[xx,hF];rfl
 have hH:mH (swF (mixF x k5 k6)) k5 k6=mH x k5 k6:=by show(mF (swF (mixF x k5 k6)) k5+mG (swF (mixF x k5 k6)) k5 k6)%65536=_;rw[hF,hG];rfl
 show F4.mk _ _ _ _=_;rw[hG,hH];show F4.mk (x.a^^^mG x k5 k6^^^mG x k5 k6) (x.c^^^mG x k5 k6^^^mG x k5 k6) (x.b^^^mH x k5 k6^^^mH x k5 k6) (x.d^^^mH x k5 k6^^^mH x k5 k6)=_;simp only[x2];rfl
theorem zvr(x:F4):swF (swF x)=x:=rfl
section
variable (k:Nat->Nat) (r:Nat)
theorem und0:undF k (6*r+0)=invF (k (48-6*r)):=by
 have h1:(6*r+0)/6=r:=by omega
 have h2:(6*r+0)%6=0:=by omega
 unfold undF;simp only[h1,h2]
theorem und1:undF k (6*r+1)=negF (k (48-6*r+1+if 0<r/\r<8 then 1 else 0)):=by
 have h1:(6*r+1)/6=r:=by omega
 have h2:(6*r+1)%6=1:=by omega
 unfold undF;simp only[h1,h2]
theorem und2:undF k (6*r+2)=negF (k (48-6*r+2-if 0<r/\r<8 then 1 else 0)):=by
 have h1:(6*r+2)/6=r:=by omega
 have h2:(6*r+2)%6=2:=by omega
 unfold undF;simp only[h1,h2]
theorem und3:undF k (6*r+3)=invF (k (48-6*r+3)):=by
 have h1:(6*r+3)/6=r:=by omega
 have h2:(6*r+3)%6=3:=by omega
 unfold undF;simp only[h1,h2]
theorem und4:undF k (6*r+4)=k (48-6*r-2):=by
 have h1:(6*r+4)/6=r:=by omega
 have h2:(6*r+4)%6=4:=by omega
 unfold undF;simp only[h1,h2]
theorem und5:undF k (6*r+5)=k (48-6*r-1):=by
 have h1:(6*r+5)/6=r:=by omega
 have h2:(6*r+5)%6=5:=by omega
 unfold undF;simp only[h1,h2]
end
theorem zoq{k:Nat->Nat}{x:F4}(h:x.ok)(hk:∀i,k i<65536):∀r,r<8 ->
  byF (rndF (undF k) (zcn k x) r) (fun i=>undF k (6*r+i))=swF (rndF k x (8-r))
 | 0,_=>by
   show byF (byF (swF (rndF k x 8)) fun i=>k (48+i)) _=_;refine znj (zqr (zjO h 8)) (fun i=>hk _) ?_ ?_ ?_ ?_
   ·exact und0 k 0
   ·exact und1 k 0
   ·exact und2 k 0
   ·exact und3 k 0
 | r+1,hr=>by
   obtain⟨m,hm⟩:∃m,8-(r+1)=m:=⟨_,rfl⟩;rw[rndF,zoq h hk r (by omega),show 8-r=m+1 by omega,rndF,und4,und5,show 48-6*r-2=6*m+4 by omega,show 48-6*r-1=6*m+5 by omega,zgt,hm];refine zt2 (zjO h m) (fun i=>hk _) ?_ ?_ ?_ ?_
   ·show undF k (6*(r+1)+0)=_;rw[und0,show 48-6*(r+1)=6*m+0 by omega]
   ·show undF k (6*(r+1)+1)=_;rw[und1,if_pos ⟨by omega,hr⟩,show 48-6*(r+1)+1+1=6*m+2 by omega]
   ·show undF k (6*(r+1)+2)=_;rw[und2,if_pos ⟨by omega,hr⟩,show 48-6*(r+1)+2-1=6*m+1 by omega]
   ·show undF k (6*(r+1)+3)=_;rw[und3,show 48-6*(r+1)+3=6*m+3 by omega]
theorem zi6{k:Nat->Nat}{x:F4}(h:x.ok)(hk:∀i,k i<65536):zcn (undF k) (zcn k x)=x:=by
 show byF (swF (rndF (undF k) (zcn k x) (7+1))) _=_;rw[rndF,zoq h hk 7 (by omega),show 8-7=0+1 by omega,rndF,und4,und5,show 48-6*7-2=6*0+4 by omega,show 48-6*7-1=6*0+5 by omega,zgt,zvr];refine znj h (fun i=>hk _) ?_ ?_ ?_ ?_
 ·exact und0 k 8
 ·exact und1 k 8
 ·exact und2 k 8
 ·exact und3 k 8
theorem zmA{a:Nat}(ha:a<65536):invF (invF a)=a:=by
 refine zjG (a:=invF a) (zf2 _) (zf2 _) ha ?_;rw[zi (zf2 _),znV,zi ha]
theorem zic{a:Nat}(ha:a<65536):negF (negF a)=a:=by unfold negF;omega
theorem zjr{k:Nat->Nat}(hk:∀i,k i<65536)(i:Nat)(hi:i<52):undF (undF k) i=k i:=by
 obtain⟨r,s,rfl,hs⟩:∃r s,i=6*r+s/\s<6:=⟨i/6,i%6,by omega,by omega⟩;obtain⟨q,hq⟩:∃q,8-r=q:=⟨_,rfl⟩;rcases (by omega:s=0\/s=1\/s=2\/s=3\/s=4\/s=5) with rfl|rfl|rfl|rfl|rfl|rfl
 ·rw[und0,show 48-6*r=6*q+0 by omega,und0,zmA (hk _),show 48-6*q=6*r+0 by omega]
 ·rw[und1];by_cases h:0<r/\r<8
  ·rw[if_pos h,show 48-6*r+1+1=6*q+2 by omega,und2,if_pos (by omega),zic (hk _),show 48-6*q+2-1=6*r+1 by omega]
  ·rw[if_neg h,show 48-6*r+1+0=6*q+1 by omega,und1,if_neg (by omega),zic (hk _),show 48-6*q+1+0=6*r+1 by omega]
 ·rw[und2];by_cases h:0<r/\r<8
  ·rw[if_pos h,show 48-6*r+2-1=6*q+1 by omega,und1,if_pos (by omega),zic (hk _),show 48-6*q+1+1=6*r+2 by omega]
  ·rw[if_neg h,show 48-6*r+2-0=6*q+2 by omega,und2,if_neg (by omega),zic (hk _),show 48-6*q+2-0=6*r+2 by omega]
 ·rw[und3,show 48-6*r+3=6*q+3 by omega,und3,zmA (hk _),show 48-6*q+3=6*r+3 by omega]
 ·rw[und4,show 48-6*r-2=6*(7-r)+4 by omega,und4,show 48-6*(7-r)-2=6*r+4 by omega]
 ·rw[und5,show 48-6*r-1=6*(7-r)+5 by omega,und5,show 48-6*(7-r)-1=6*r+5 by omega]
theorem znt{k:Nat->Nat}{x:F4}(h:x.ok)(hk:∀i,k i<65536):zcn k (zcn (undF k) x)=x:=by
 have e:=zi6 h (zoh hk);rwa[zjj (k:=undF (undF k)) (l:=k) _ (fun i hi=>zjr hk i hi)] at e
theorem zgm{x:F4}(h:x.ok):inF (outL x)=x:=by
 have key:∀n,n<65536->256*(UInt8.ofNat (n/256)).toNat+(UInt8.ofNat n).toNat=n:=fun n hn=>by rw[Nat.mul_comm];exact zoD hn
 obtain⟨a,b,c,d⟩:=x;show F4.mk (256*(UInt8.ofNat (a/256)).toNat+(UInt8.ofNat a).toNat) (256*(UInt8.ofNat (b/256)).toNat+(UInt8.ofNat b).toNat) (256*(UInt8.ofNat (c/256)).toNat+(UInt8.ofNat c).toNat) (256*(UInt8.ofNat (d/256)).toNat+(UInt8.ofNat d).toNat)=_;rw[key a h.a,key b h.b,key c h.c,key d h.d]
theorem zhH(x y:UInt8):two (256*x.toNat+y.toNat) = [x,y]:=by
 have hy:=y.toNat_lt;unfold two;rw[show(256*x.toNat+y.toNat)/256=x.toNat by omega];congr 1
 ·exact UInt8.ofNat_toNat
 ·congr 1;apply UInt8.toNat_inj.1;rw[UInt8.toNat_ofNat'];omega
theorem zgu(b:List UInt8)(hb:b.length=8):outL (inF b)=b:=by
 match b,hb with
 | [b0,b1,b2,b3,b4,b5,b6,b7],_ =>show two (256*b0.toNat+b1.toNat)++two (256*b2.toNat+b3.toNat)++two (256*b4.toNat+b5.toNat)++two (256*b6.toNat+b7.toNat)=_;rw[zhH,zhH,zhH,zhH];rfl
theorem zck{k:Nat->Nat}(hk:∀i,k i<65536)(b:List UInt8)(hb:b.length=8):zaF k true (zaF k false b)=b/\zaF k false (zaF k true b)=b:=by
 constructor
 ·show outL (zcn (undF k) (inF (outL (zcn k (inF b)))))=b;rw[zgm (zfu _ _),zi6 (zks b) hk,zgu b hb]
 ·show outL (zcn k (inF (outL (zcn (undF k) (inF b)))))=b;rw[zgm (zfu _ _),znt (zks b) hk,zgu b hb]
theorem zgE{g:Nat}{e:TypeId}{L:List Int}{w:World}{o:Oper}{a:Act}{K:Act->World->Prop}{Q:Exit->Act->World->Prop}(d s:Operand)(ho:o.op=.call { callee:=.builtin .copy,args:=#[d,s],argTypes:=#[38,38] })
  (off nd cap ns cs B q:Nat) (b0 o0:Nat) (ys:List Int) (hd:a.eval d=.slice (some ⟨g,off,none⟩) nd cap) (hs:a.eval s=.slice (some ⟨b0,o0,none⟩) ns cs)
  (hb:Blk w g e L) (hq:q=min ns nd) (hfit:off+q<=L.length) (hr:RdN .i64 w B (some ⟨b0,o0,none⟩) ns ys)
  (h:∀w',Blk w' g e (spl L off (ys.take q))->w.grownBy w' (some g)->K (a.put o.dst (goInt q)) w'):o.wp Tryz.prog a w K Q:=by
 have hyl:=hr.len;have hcl:(cN .i64 (ys.take q)).length=q:=by rw[zaH,List.length_take];omega
 have hrun:=run_copy_row Tryz.prog w 38 38 o.type 3 g off nd cap ⟨b0,o0,none⟩ ns cs (cN .i64 L).toArray e (cN .i64 (ys.take q)) Tryz.underlying38 (by kernel_rfl) hb (by rw[hcl];exact hq)
  (by
    intro j v hv;have hj:j<q:=by
     rcases Nat.lt_or_ge j q with hj|hj
     ·exact hj
     ·rw[List.getElem?_eq_none (by omega)] at hv;cases hv
    rw[zd1 _ _ j (by rw[List.length_take];omega)] at hv;cases hv
    obtain⟨b,o1,e1,_,hc⟩:=hr.at_ (by omega);cases e1
    rw[za2,hc j (by omega)];congr 2;simp[List.getD,hj]) (by rw[hcl,zd5];omega) (zhr _ _)
 have es:List.take off (cN .i64 L).toArray.toList++cN .i64 (ys.take q)++List.drop (off+(cN .i64 (ys.take q)).length) (cN .i64 L).toArray.toList=cN .i64 (spl L off (ys.take q)):=by unfold spl cN;simp[List.map_append,List.map_take,List.map_drop]
 rw[es,hcl] at hrun;have hfin:=h (w.setRow g (cN .i64 (spl L off (ys.take q))).toArray) (hb.put _) ⟨rfl,rfl,rfl,by simp[World.setRow],fun k _ hk=>by
  have hne:¬g=k:=fun e=>hk (by rw[e])
  exact setRow_other w g k _ (Ne.symm hne)⟩
 unfold Oper.wp;simp only[execOp,ho,resolve,invoke,builtin,Sem.run_bind,Sem.run_pure,Result.andThen_ok,List.map_toArray,List.map_cons,List.map_nil,hd,hs];rw[hrun];simp only[Result.andThen];rw[Oper.upon_value];exact hfin
theorem cf19(vs:Array Value)(w:World):(callFunc 125 vs).run Tryz.prog w=.ok (.enter 125 vs) w:=by go_simp
theorem zgW(g off n c l:Nat)(w:World)(hl:l<=n)(hc:l<c):
  (Instr.sliceAt 38 (.slice (some ⟨g,off,none⟩) n c) (some (.int .i64 (l:Int))) none none).run Tryz.prog w=.ok (.slice (some ⟨g,off+l,none⟩) (n-l) (c-l)) w:=by
 have ht:Tryz.prog.underlying 38=some (.slice (Tryz.prog.elem 38)):=by kernel_rfl
 have hs:(sizeOf (Tryz.prog.elem 38)).run Tryz.prog w=.ok 1 w:=by kernel_rfl
 rw[run_sliceAt_slice w 38 _ _ _ _ ht,run_slice_l w 38 (some ⟨g,off,none⟩) n c ht .i64 l (by omega) (by omega),hs];simp only[Result.andThen,sliced,Int.toNat_natCast];rw[if_neg (by omega)];simp[za2]
theorem _root_.Go.Proofs.YtokbbmngfogbbaaGreatDoor.Rd.grown{w w':World}{B n g:Nat}{A:Option Addr}{bs:List UInt8}(h:Rd w B A n bs)(hg:w.grownBy w' (some g))(_hB:B<=w.heap.size)(hne:∀a,A=some a->a.block≠g):Rd w' B A n bs :=
 ⟨h.len,fun hn=>by obtain⟨b,o,rfl,hb,hc⟩:=h.at_ hn;refine⟨b,o,rfl,hb,fun k hk=>?_⟩;have h1:=hne _ rfl;exact hg.cell (hc k hk) (by simpa using h1)⟩
theorem wrap_i64{x:Int}(h0 : -9223372036854775808<=x)(h1:x<=9223372036854775807):IntKind.i64.wrap x=x:=by
 simp[IntKind.wrap,IntKind.bits,IntKind.signed];omega
def copQ(r:Nat):Nat:=min 8 (52-8*r)
theorem zm9(key:List UInt8)(r:Nat)(hr:r<=6):spl (zaR (keyF key) 52 (8*r)) (8*r) ((tabN (numF (rowT key r)) 8).take (copQ r))=zaR (keyF key) 52 (8*r+copQ r):=by
 have hq:copQ r<=8/\8*r+copQ r<=52:=by unfold copQ;omega
 have hl:((tabN (numF (rowT key r)) 8).take (copQ r)).length=copQ r:=by rw[List.length_take,zav];omega
 refine znO (n:=52) (by rw[zg6 (by rw[hl,zax];omega),zax]) (zax _ _ _) fun j hj=>?_
 rw[znD (by rw[hl,zax];omega),hl];have hg:∀k,(zaR (keyF key) 52 k).getD j 0=if j<k then((keyF key j:Nat):Int) else 0:=fun k=>by simp[zaR,List.getD,hj]
 rw[hg,hg];by_cases h1:j<8*r
 ·rw[if_pos h1,if_pos h1,if_pos (by omega)]
 ·rw[if_neg h1,if_neg h1];by_cases h2:j<8*r+copQ r
  ·rw[if_pos h2,if_pos h2];have e:((tabN (numF (rowT key r)) 8).take (copQ r)).getD (j-8*r) 0=(tabN (numF (rowT key r)) 8).getD (j-8*r) 0:=by simp only[List.getD];rw[List.getElem?_take,if_pos (by omega)]
   rw[e,zhR _ _ _ (by omega),<-znb key r (j-8*r) (by omega),show 8*r+(j-8*r)=j by omega]
  ·rw[if_neg h2,if_neg h2]
def zkn(w:World)(key:List UInt8)(e:Ending)(w':World):Prop :=
 ∃g,e=.returned (.tuple #[.slice (some ⟨g,0,none⟩) 52 52,.int .i64 0])/\w.heap.size<=g/\Blk w' g 3 (tabN (keyF key) 52)/\Ext w w'
structure KeyS (key:List UInt8) (w:World) (g r:Nat) (A:Option Addr) (w1:World):Prop where
 hr:r<=6
 rd:Rd w1 w1.heap.size A 16 (rowT key r)
 ne:∀a,A=some a->a.block≠g
 blk:Blk w1 g 3 (zaR (keyF key) 52 (8*r))
 lt:w.heap.size<=g
 ext:Ext w w1
def KeyJ(key:List UInt8)(w:World)(a:Act)(w1:World):Prop :=
 ∃(g r:Nat) (A:Option Addr) (c:Nat) (u6 u7 u8 u9 u10 u11 u12 u13 u14 u15 u16 u17 u18 u19 u20 u21:Value),
  a = { tmps:=#[.slice A 16 c,undef,.slice none 0 0,.int .i64 0,.slice (some ⟨g,0,none⟩) 52 52,.int .i64 (8*r:Nat),u6,u7,u8,u9,u10,u11,u12,u13,u14,u15,u16,u17,u18,u19,u20,u21,undef],defers:=[] }/\KeyS key w g r A w1
def atOf(a:Act):Nat:=match a.tmps.getD 5 undef with | .int _ q=>q.toNat|_=>0
def zmS(key:List UInt8)(g r:Nat)(A:Option Addr)(c:Nat):List K:=[.eq (.int .i64 (8*r:Nat)),.eq (.slice (some ⟨g,0,none⟩) 52 52),.eq (.int .i64 (8*r:Nat)),.eq (.slice (some ⟨g,8*r,none⟩) (52-8*r) (52-8*r)),.eq (.slice A 16 c),
 .num g 8 (cN .i64 (tabN (numF (rowT key r)) 8)).toArray,.eq (.int .i64 (copQ r:Nat)),.eq (.int .i64 (8*r+copQ r:Nat)),.eq (.int .i64 (8*r+copQ r:Nat))]
theorem zcv(A:Option Addr)(c:Nat)(key:List UInt8)(w:World)(h:Rd w w.heap.size A 16 key):
  Calls Tryz.prog 86 #[.slice A 16 c] w (zkn w key):=by
 have HR:=hid h;clear h;go_enter Tryz.func86,Tryz.ntmps86;go_wp2_with fail
 refine zat 0 (KeyJ key w) (fun a _=>52-atOf a) rfl ?_ ?_
 ·rintro a w1 ⟨g,r,A1,c1,u6,u7,u8,u9,u10,u11,u12,u13,u14,u15,u16,u17,u18,u19,u20,u21,rfl,hS⟩;have hr:=hS.hr;have HS:=hid hS;clear hS;have hq:copQ r<=8/\8*r+copQ r<=52/\0<copQ r:=by unfold copQ;omega
  go_wp2_with fail
  refine zlz 6 _ (fun w2=>Blk w2 g 3 (zaR (keyF key) 52 (8*r+copQ r))/\Ext w w2/\Rd w2 w2.heap.size A1 16 (rowT key r)) mixed rfl (by kernel_rfl) rfl rfl (kV (zmS key g r A1 c1)) (zdA _)
   (fun w w' hx hh=>⟨hh.1.later hx,hh.2.1.trans hx,hh.2.2.later hx⟩) (zab ⟨?_,?_,?_,?_,?_,?_,fun h=>absurd rfl h,?_,?_,trivial⟩) ?_ ?_
  ·intro _ a w2 hk _;have s5:a.tmps.getD 5 undef=.int .i64 (8*r:Nat):=hk.was 5;exact zau rfl rfl s5 rfl
  ·intro _ a w2 hk _;have s4:a.tmps.getD 4 undef=.slice (some ⟨g,0,none⟩) 52 52:=hk.was 4;exact zau rfl rfl s4 rfl
  ·intro _ a w2 hk _;have s5:a.tmps.getD 5 undef=.int .i64 (8*r:Nat):=hk.was 5;exact zau rfl rfl s5 rfl
  ·intro _ a w2 hk _;have s11:=hk.eq_ 1 11;have s12:=hk.eq_ 2 12;refine zai (v:=.slice (some ⟨g,8*r,none⟩) (52-8*r) (52-8*r)) (w':=w2) rfl ?_ (Ext.refl w2) rfl;have e:=zgW g 0 52 52 (8*r) w2 (by omega) (by omega);rw[Nat.zero_add] at e;simp only[execOp,Act.eval,Option.map_some,Option.map_none,s11,s12,Sem.run_bind,e,Sem.run_pure,Result.andThen]
  ·intro _ a w2 hk _;have s0:a.tmps.getD 0 undef=.slice A1 16 c1:=hk.was 0;exact zau rfl rfl s0 rfl
  ·intro _ a w2 hk hx;have hx2:=hx (by kernel_rfl);have s14:=hk.eq_ 4 14;have hgl:=HS.out.blk.lt;have hz:=Below.size hx2;exact za0 rfl rfl (by simp only[List.map_toArray,List.map_cons,List.map_nil,Act.eval,s14]<;>rfl) cf19 (zeg A1 8 c1 (rowT key r) w2 (HS.out.rd.later hx2) (by omega))
    (fun e w' hh=>⟨_,hh.1,hh.2.2,_,rfl,by omega,zdY hh.2.1⟩)
  ·intro _ a w2 hk _;have s10:=hk.eq_ 0 10;have s16:=hk.eq_ 6 16;refine zai (v:=.int .i64 (8*r+copQ r:Nat)) (w':=w2) rfl ?_ (Ext.refl w2) rfl;go_simp;exact wrap_i64 (by omega) (by omega)
  ·intro _ a w2 hk _;have s17:=hk.eq_ 7 17;exact zaM rfl rfl s17 rfl
  ·intro a w2 hk;have s13:=hk.eq_ 3 13;obtain⟨b,s15,hbne,hbh⟩:=hk.val 5 15;have hx:=hk.ext;have hb1:=HS.out.blk.later hx;have hb2:Blk w2 b 3 (tabN (numF (rowT key r)) 8):=hbh;have hrd:=hb2.rd 0 8 (by rw[zav];omega);refine zgE (.tmp 13) (.tmp 15) rfl (8*r) (52-8*r) (52-8*r) 8 8 _ (copQ r) b 0 _ s13 s15 hb1 rfl (by rw[zax];omega) hrd ?_;intro w3 hb3 hg3;have e:(List.drop 0 (tabN (numF (rowT key r)) 8)).take 8=tabN (numF (rowT key r)) 8:=by rw[List.drop_zero,List.take_of_length_le (by rw[zav];omega)]
   rw[e,zm9 key r hr] at hb3;refine⟨_,rfl,⟨hb3,(HS.out.ext.trans hx).below hg3 HS.out.lt,?_⟩,rfl,fun i v hv=>zo7 (by simp[zmS,K.okG]) hg3 i v hv⟩;exact((HS.out.rd.later hx).grown hg3 (Nat.le_refl _) HS.out.ne).more hg3.size
  ·intro a w2 hf hW;have s10:=hf.eq_ 0 10;have s11:=hf.eq_ 1 11;have s12:=hf.eq_ 2 12;have s13:=hf.eq_ 3 13;have s14:=hf.eq_ 4 14;obtain⟨b,s15,hbne,hbh⟩:=hf.val 5 15;have s16:=hf.eq_ 6 16;have s17:=hf.eq_ 7 17;have s5:=hf.eq_ 8 5;have e:=hf.frame;clear hf;simp only[zaT,Act.put,List.setIfInBounds_toArray,List.set_cons_zero,List.set_cons_succ,s10,s11,s12,s13,s14,s15,s16,s17,s5] at e;clear s10 s11 s12 s13 s14 s15 s16 s17 s5 hbh hbne;subst e;have HW:=hid hW;clear hW;by_cases hlt:r<6
   ·have e8:8*r+copQ r=8*(r+1):=by unfold copQ;omega
    rw[e8] at HW ⊢;have hc1:((8*(r+1):Nat):Int)<52:=by omega
    go_wp2_with fail
    refine(zcw A1 16 c1 25 _ _ HW.out.2.2 (by omega) (by omega)).mono ?_;rintro e w3 ⟨v,rfl,ho,hb⟩;have hb:Ext w2 w3:=hb;obtain⟨A3,c3,rfl,hr3,_,hbase⟩:=ho.rd;rw[show(zbe (rowT key r) 16 (tf 25 16) (ts 25)).length=16 from zbT _ _ _ _] at hr3 ⊢;have hgl:=HW.out.1.lt;have HS3:=hid (show KeyS key w g (r+1) A3 w3 from⟨by omega,hr3,fun a ha=>by have:=hbase a ha;omega,HW.out.1.later hb,HS.out.lt,HW.out.2.1.trans hb⟩);clear ho hr3 hbase hb;go_wp2_with fail
    go_step3;refine⟨rfl,⟨g,r+1,A3,c3,ex8 (ex8 ⟨rfl,HS3.out⟩)⟩,?_⟩;simp[atOf];omega
   ·obtain rfl:r=6:=by omega
    have e8:8*6+copQ 6=52:=rfl;rw[e8] at HW ⊢;go_wp2_with fail
    simp only[Exit.jump];go_ret2;exact⟨g,rfl,HS.out.lt,by have:=HW.out.1;rw[zc6] at this;exact this,HW.out.2.1⟩
 ·intro hfirst;go_wp2_with (at_make;refine zc3 rfl (.const (.int .i64 52)) (.const (.int .i64 52)) 38 rfl Tryz.underlying38 8 Tryz.info3 .i64 _ 52 rfl rfl rfl (by omega) (by unfold maxLen;omega) w.heap.size (Nat.le_refl _) ?_;intro w1 hown1 hb1)
  go_step3;simp only[Exit.then];rename_i hK;refine hK _ _ ?_;have hblk:=zdY hown1;rw[<-zc2 (keyF key)] at hblk;exact hfirst.out _ _ ⟨_,0,A,c,_,_,_,_,_,_,_,_,_,_,_,_,_,_,_,_,rfl,⟨by omega,HR.out.later hb1,fun a ha=>by
   obtain⟨b,o,e,hb,_⟩:=HR.out.at_ (by omega);rw[e] at ha;cases ha
   show b≠w.heap.size;omega,hblk,Nat.le_refl _,hb1⟩⟩
theorem znG(f:Nat->Nat)(k:Nat):tabN f (k+1)=tabN f k++[((f k:Nat):Int)]:=by simp[tabN,List.range_succ]
theorem zrj{key:List UInt8}{r j:Nat}(hj:j<8):((keyF key (8*r+j):Nat):Int)=(nb (rowT key r) (2*j):Int)*256+nb (rowT key r) (2*j+1):=by
 rw[znb key r j hj];unfold numF;omega
theorem zjD{P:Program}(w:World){ops:Array Oper}{rest:List Oper}{o:Oper}{a:Act}{Q:Exit->Act->World->Prop}(hgd:o.guard=none)(s x:Operand)(t:TypeId)
  (ho:o.op=.call { callee:=.builtin .append,args:=#[s,x],argTypes:=#[t,t] }) (hu:P.underlying t=some (.slice 3))
  (hin:(P.info? 3).map (fun i=>(i.zero,i.size,i.bytes))=some (some (.int .i64 0),1,8))
  (base:Nat) (v:Value) (xs:List Int) (hs:a.eval s=v) (hown:OwnN .i64 3 w base v xs)
  (g c:Nat) (X:Int) (hx:a.eval x=.slice (some ⟨g,0,none⟩) 1 c) (hc:w.cell? ⟨g,0,none⟩=some (.int .i64 X)) (hlen:xs.length<=1000) (hbase:base<=w.heap.size)
  (h:∀v' w',OwnN .i64 3 w' base v' (xs++[X])->w.grownBy w' v.ownBlock->wpList P ops Q rest (a.put o.dst v') w'):wpList P ops Q (o::rest) a w:=by
 obtain⟨i0,hi0,hz0,hz1,hz2⟩:=info_parts hin;refine wpList_append_own w hgd s x t ho base 3 i0 (.int .i64 0) 1 8 hu hi0 hz0 hz1 hz2 rfl (by omega) v xs.length (cN .i64 xs) hs hown ⟨g,0,none⟩ 1 c [.int .i64 X] hx rfl ?_ (by intro y hy;simp at hy;subst hy;rfl) (by unfold maxLen;omega) (by omega) hbase ?_
 ·intro j y hy
  match j with
  | 0=>simp at hy;subst hy;rw[zd2];exact hc
  | j+1=>simp at hy
 ·intro v' w' h2 h3 _;refine h v' w' ?_ h3;unfold OwnN;rw[zcI,List.length_append];exact h2
theorem _root_.Go.Proofs.YtokbbmngfogbbaaGreatDoor.OwnN.block_ne{e:TypeId}{w:World}{base:Nat}{v:Value}{xs:List Int}(h:OwnN .i64 e w base v xs){b:Nat}{cur:Array Value}{e2:TypeId}{f:Nat×Nat}(hb:w.heap[b]? = some (.cells cur e2 f))(hne:e2≠e):some b≠v.ownBlock:=by
 rcases h.2 with⟨rfl,_⟩|⟨g,cap,cur2,rfl,_,hh,_⟩
 ·simp[Value.ownBlock]
 ·simp only[Value.ownBlock,ne_eq,Option.some.injEq];rintro rfl;rw[hh] at hb;cases hb
  exact hne rfl
theorem _root_.Go.Proofs.YtokbbmngfogbbaaGreatDoor.OwnN.block_ge{e:TypeId}{w:World}{base:Nat}{v:Value}{xs:List Int}(h:OwnN .i64 e w base v xs){b:Nat}(hb:b<base):some b≠v.ownBlock:=by
 rcases h.2 with⟨rfl,_⟩|⟨g,cap,cur2,rfl,hg,hh,_⟩
 ·simp[Value.ownBlock]
 ·simp only[Value.ownBlock,ne_eq,Option.some.injEq];omega
def KeyAt(w:World)(base:Nat)(A:Option Addr)(c:Nat)(bs:List UInt8):Prop:=base<=w.heap.size/\(Rd w base A 16 bs\/(bs.length=16/\Own w base (.slice A 16 c) bs))
theorem KeyAt.rd{w:World}{base c:Nat}{A:Option Addr}{bs:List UInt8}(h:KeyAt w base A c bs):Rd w w.heap.size A 16 bs:=by
 rcases h with⟨hz,h|⟨hl,h⟩⟩
 ·exact h.more hz
 ·obtain⟨A1,c1,e,hr,_⟩:=h.rdn hl;cases e
  exact hr
theorem KeyAt.later{w w':World}{base c:Nat}{A:Option Addr}{bs:List UInt8}(h:KeyAt w base A c bs)(hx:Ext w w'):KeyAt w' base A c bs:=by
 refine⟨Nat.le_trans h.1 (Below.size hx),?_⟩;rcases h with⟨hz,h|⟨hl,h⟩⟩
 ·exact .inl (h.below hx hz)
 ·exact .inr ⟨hl,h.kept hx⟩
theorem KeyAt.grown{w w':World}{base base2 c:Nat}{A:Option Addr}{bs:List UInt8}{v:Value}{xs:List Int}(h:KeyAt w base A c bs)(hv:OwnN .i64 3 w base2 v xs)(hb:base<=base2)(hg:w.grownBy w' v.ownBlock):KeyAt w' base A c bs:=by
 refine⟨Nat.le_trans h.1 hg.size,?_⟩;rcases h with⟨hz,h|⟨hl,h⟩⟩
 ·exact .inl ⟨h.len,fun hn=>by obtain⟨b,o,rfl,hb1,hc⟩:=h.at_ hn;exact⟨b,o,rfl,hb1,fun k hk=>hg.cell (hc k hk) (hv.block_ge (by show b<base2;omega))⟩⟩
 ·refine .inr ⟨hl,h.1,?_⟩;rcases h.2 with hn|⟨b,cap,cur,e,hbg,hh,rr⟩
  ·exact .inl hn
  ·exact .inr ⟨b,cap,cur,e,hbg,by rw[hg.block b (Array.getElem?_eq_some_iff.1 hh).1 (hv.block_ne hh (by decide))];exact hh,rr⟩
def zq7(w:World)(key:List UInt8)(e:Ending)(w':World):Prop :=
 ∃A c,e=.returned (.tuple #[.slice A 52 c,.int .i64 0])/\52<=c/\RdN .i64 w' w'.heap.size A 52 (tabN (keyF key) 52)/\Ext w w'
def zoW(r j b1 o1 c1 x y:Nat)(A3:Option Addr)(c3:Nat):List K:=[.eq (.slice A3 (8*r+j) c3),.eq (.slice (some ⟨b1,o1,none⟩) 16 c1),.eq (.int .i64 (2*j:Nat)),.eq (.pointer (some ⟨b1,o1+2*j,none⟩)),.eq (.int .u8 x),.eq (.int .i64 x),.eq (.int .i64 ((x:Int)*256)),.eq (.slice (some ⟨b1,o1,none⟩) 16 c1),.eq (.int .i64 (2*j:Nat)),.eq (.int .i64 (2*j+1:Nat)),.eq (.pointer (some ⟨b1,o1+(2*j+1),none⟩)),.eq (.int .u8 y),.eq (.int .i64 y),.eq (.int .i64 ((x:Int)*256+y)),.row 1 [.int .i64 ((x:Int)*256+y)],.any,.any]
theorem zjs{ops:Array Oper}{V:Nat->World->Value->Prop}{i:Nat}{a:Act}{w:World}{Q:Exit->Act->World->Prop}{o:Oper}{x:Operand}{X:Int}(hw:Region.wanted o (yielded ops a.tmps)=true)
  (hop:o.op=.buildSlice 38 1 #[(0,x)]) (hx:a.eval x=.int .i64 X) (hV:V i (w.alloc (.cells #[.int .i64 X] 3)) (.slice (some ⟨w.heap.size,0,none⟩) 1 1)):Step Tryz.prog ops V Q i o a w:=by
 have e:(Instr.buildSlice 38 1 #[(0,.int .i64 X)]).run Tryz.prog w=.ok (.slice (some ⟨w.heap.size,0,none⟩) 1 1) (w.alloc (.cells #[.int .i64 X] 3)):=by go_simp
 refine zai hw ?_ (Ext.alloc _ _) hV;simp only[execOp,hop,List.map_toArray,List.map_cons,List.map_nil,hx,Sem.run_bind,e,Sem.run_pure,Result.andThen]
theorem cell_later{w w':World}{p:Addr}{v:Value}(hx:Ext w w')(h:w.cell? p=some v):w'.cell? p=some v:=(Below.cell hx (World.block_lt_of_cell? w _ h)).trans h
theorem zbZ(A:Option Addr)(c:Nat)(key:List UInt8)(w:World)(h:Rd w w.heap.size A 16 key):
  Calls Tryz.prog 62 #[.slice A 16 c] w (zq7 w key):=by
 have HR:=hid h;clear h;go_enter Tryz.func62,Tryz.ntmps62;go_wp2_with fail
 go_loopw [0,4] (fun s v wr=>∃(r n:Nat) (A1:Option Addr) (c1:Nat),r<=7/\n=min (8*r) 52/\s=.slice A1 16 c1/\KeyAt wr w.heap.size A1 c1 (rowT key r)/\(∃A2 c2,v=.slice A2 n c2/\OwnN .i64 3 wr w.heap.size (.slice A2 n c2) (tabN (keyF key) n))/\Below w.heap.size w wr) (fun _ v _=>52-zdw v)
 case atStart=>exact⟨0,0,A,c,by omega,by omega,rfl,⟨Nat.le_refl _,.inl HR.out⟩,⟨none,0,rfl,World.ownsRow_nil _ _ _ _⟩,Below.refl _ _⟩
 case round =>
  obtain⟨r,n,A1,c1,hr,hn,rfl,hrd,⟨A2,c2,rfl,hown⟩,hb⟩:=hrel;have HRD:=hid hrd;have HOWN:=hid hown;have HB:=hid hb;clear hrd hown hb;by_cases hlt:n<52
  ·have hn8:n=8*r:=by omega
   have hr6:r<=6:=by omega
   clear hn;subst hn8;go_wp2_with fail
   rw[show decide (8*(r:Int)<52)=true by simp;omega];go_loopw [4,5] (fun v i wr=>∃(j:Nat) (A2:Option Addr) (c2:Nat),j<=8/\8*r+j<=52/\i=.int .i64 (2*j:Nat)/\v=.slice A2 (8*r+j) c2/\OwnN .i64 3 wr w.heap.size (.slice A2 (8*r+j) c2) (tabN (keyF key) (8*r+j))/\Below w.heap.size w wr/\KeyAt wr w.heap.size A1 c1 (rowT key r)) (fun v _ _=>52-zdw v)
   case atStart=>exact⟨0,A2,c2,by omega,by omega,rfl,rfl,HOWN.out,HB.out,HRD.out⟩
   case round =>
    clear HOWN HB HRD;obtain⟨j,A3,c3,hj,hjn,rfl,rfl,hown,hb,hrd⟩:=hrel;have hz:=hb.size;by_cases hgo:j<8/\8*r+j<52
    ·obtain⟨hj8,hj52⟩:=hgo;have h1:2*(j:Int)<16:=by omega
     have h2:2*(j:Int)+1<16:=by omega
     have h3:(0:Int)<=2*(j:Int):=by omega
     have h4:(0:Int)<=2*(j:Int)+1:=by omega
     have h5:(2*(j:Int)).toNat=2*j:=by omega
     have h6:(2*(j:Int)+1).toNat=2*j+1:=by omega
     have h7:IntKind.i64.wrap (2*(j:Int)+1)=2*(j:Int)+1:=wrap_i64 (by omega) (by omega);obtain⟨b1,o1,rfl,_,hc1⟩:=hrd.rd.at_ (by omega);have hck1:=hc1 (2*j) (by omega);have hck2:=hc1 (2*j+1) (by omega);rw[zaV] at hck1 hck2;have r1:=zcW (rowT key r) (2*j);have r2:=zcW (rowT key r) (2*j+1);have HV:=hid (zrj (key:=key) (r:=r) hj8);obtain⟨x,hx⟩:∃x,nb (rowT key r) (2*j)=x:=⟨_,rfl⟩;obtain⟨y,hy⟩:∃y,nb (rowT key r) (2*j+1)=y:=⟨_,rfl⟩;rw[hx] at hck1 r1 HV;rw[hy] at hck2 r2 HV;have hor:=zn3 r1 r2;have HO:=hid hown;have HB:=hid hb;have HK:=hid hrd;have HC1:=hid hck1;have HC2:=hid hck2;have HOR:=hid hor;clear hx hy hc1 hown hb hrd hck1 hck2 hor;go_wp2_with fail
     refine zaD 15 (zoW r j b1 o1 c1 x y A3 c3) (zab ⟨fun _ _ h=>h.mv,fun _ _ h=>h.mv,fun _ _ h=>h.mv,?_,?_,?_,?_,fun _ _ h=>h.mv,fun _ _ h=>h.mv,?_,?_,?_,?_,?_,?_,trivial⟩) ?_
     ·intro a w hk;have s22:=hk.eq_ 1 22;have s23:=hk.eq_ 2 23;refine za ?_;go_simp
     ·intro a w hk;have s24:=hk.eq_ 3 24;refine za ?_;have hc:=cell_later hk.ext HC1.out;go_simp
     ·intro a w hk;have s25:=hk.eq_ 4 25;refine za ?_;go_simp;exact wrap_i64 (by omega) (by omega)
     ·intro a w hk;have s26:=hk.eq_ 5 26;refine za ?_;go_simp;exact wrap_i64 (by omega) (by omega)
     ·intro a w hk;have s29:=hk.eq_ 8 29;refine za ?_;go_simp
     ·intro a w hk;have s28:=hk.eq_ 7 28;have s30:=hk.eq_ 9 30;refine za ?_;go_simp
     ·intro a w hk;have s31:=hk.eq_ 10 31;refine za ?_;have hc:=cell_later hk.ext HC2.out;go_simp
     ·intro a w hk;have s32:=hk.eq_ 11 32;refine za ?_;go_simp;exact wrap_i64 (by omega) (by omega)
     ·intro a w hk;have s27:=hk.eq_ 6 27;have s33:=hk.eq_ 12 33;refine za ?_;have hor:=HOR.out;go_simp
     ·intro a w hk;have s34:=hk.eq_ 13 34;exact zjs rfl rfl s34 ⟨w.heap.size,rfl,by simp,fun k hk=>by obtain rfl:k=0:=(by omega);exact(show Blk (w.alloc (.cells #[.int .i64 ((x:Int)*256+y)] 3)) w.heap.size 3 [(x:Int)*256+y] from heap_alloc_new w _).cell 0 (by simp)⟩
     ·intro a w1 hf;obtain⟨b35,s35,h35,g35⟩:=hf.val 14 35;have hx:=hf.ext;have e:=hf.fr;clear hf;simp only[List.take_succ_cons,List.take_zero,zoW,frV,kPut,Act.put,List.setIfInBounds_toArray,List.set_cons_zero,List.set_cons_succ,s35] at e;clear s35;subst e;simp only[List.drop_succ_cons,List.drop_zero];have hc35:=g35 0 (by omega);have hown1:=HO.out.kept hx;have hl1:=zav (keyF key) (8*r+j);have HK1:=hid (HK.out.later hx);have HB1:=hid (HB.out.trans (Below.mono hx hz));have hz1:=Below.size hx;have HT:=hid (znG (keyF key) (8*r+j));clear hx g35 h35;go_wp2_with (at_builtin;refine zjD _ rfl (.tmp 21) (.tmp 35) 38 rfl Tryz.underlying38 Tryz.info3 w.heap.size _ (tabN (keyF key) (8*r+j)) rfl hown1 b35 1 ((x:Int)*256+y) rfl hc35 (by omega) (by omega) ?_;intro v2 w2 hown2 hg2)
      have HB2:=hid (HB1.out.grown hg2 HB1.out.size (fun q hq=>by have:=(World.ownsRow.lt hown1 q hq).1;omega));have HK2:=hid (HK1.out.grown hown1 (Nat.le_refl _) hg2);have hlen:(tabN (keyF key) (8*r+j)++[(x:Int)*256+y]).length=8*r+(j+1):=by rw[List.length_append,zav];rfl
      obtain⟨A4,c4,rfl,_,hown2⟩:=hown2.rdn hlen;have HO2:=hid (show OwnN .i64 3 w2 w.heap.size (.slice A4 (8*r+(j+1)) c4) (tabN (keyF key) (8*r+(j+1))) by
       rw[show 8*r+(j+1)=8*r+j+1 by omega,HT.out,HV.out];exact hown2)
      clear hown1 hown2 hg2 hc35;go_wp2_with fail
      go_roundw
      case rel=>exact⟨j+1,A4,c4,by omega,by omega,by rw[show((2*(j+1):Nat):Int)=2*(j:Int)+2 by omega],rfl,HO2.out,HB2.out,HK2.out⟩
      case measure=>simp[zdw];omega
    ·have HO:=hid hown;have HB:=hid hb;have HK:=hid hrd;clear hown hb hrd;by_cases hj8:j<8
     ·have h1:2*(j:Int)<16:=by omega
      clear h1;obtain⟨rfl,rfl⟩:r=6/\j=4:=by omega
      go_wp2_with fail
      refine(zer A1 16 c1 25 _ _ HK.out.rd (by omega) (by omega)).mono ?_;rintro e w5 ⟨v5,rfl,ho5,hb5⟩;have hx5:Ext wr w5:=hb5;obtain⟨A5,c5,rfl,_,ho5⟩:=ho5.rdn (n:=16) (zbT _ _ _ _);have HH:=hid (show KeyAt w5 w.heap.size A5 c5 (rowT key (6+1))/\OwnN .i64 3 w5 w.heap.size (.slice A3 (8*6+4) c3) (tabN (keyF key) (8*6+4))/\Below w.heap.size w w5 from
       ⟨⟨by have:=Below.size hx5;omega,.inr ⟨zbT _ _ _ _,ho5.base_mono hz⟩⟩,HO.out.kept hx5,HB.out.trans (Below.mono hx5 hz)⟩)
      clear ho5 hb5 hx5;go_wp2_with fail
      go_roundw
      case rel=>exact⟨7,_,A5,c5,by omega,by omega,rfl,HH.out.1,⟨A3,c3,rfl,HH.out.2.1⟩,HH.out.2.2⟩
      case measure=>simp[zdw]
     ·obtain rfl:j=8:=by omega
      go_wp2_with fail
      refine(zer A1 16 c1 25 _ _ HK.out.rd (by omega) (by omega)).mono ?_;rintro e w5 ⟨v5,rfl,ho5,hb5⟩;have hx5:Ext wr w5:=hb5;obtain⟨A5,c5,rfl,_,ho5⟩:=ho5.rdn (n:=16) (zbT _ _ _ _);have HH:=hid (show KeyAt w5 w.heap.size A5 c5 (rowT key (r+1))/\OwnN .i64 3 w5 w.heap.size (.slice A3 (8*r+8) c3) (tabN (keyF key) (8*r+8))/\Below w.heap.size w w5 from
       ⟨⟨by have:=Below.size hx5;omega,.inr ⟨zbT _ _ _ _,ho5.base_mono hz⟩⟩,HO.out.kept hx5,HB.out.trans (Below.mono hx5 hz)⟩)
      clear ho5 hb5 hx5;go_wp2_with fail
      go_roundw
      case rel=>exact⟨r+1,8*r+8,A5,c5,by omega,by omega,rfl,HH.out.1,⟨A3,c3,rfl,HH.out.2.1⟩,HH.out.2.2⟩
      case measure=>simp[zdw];omega
  ·obtain rfl:n=52:=by omega
   obtain⟨A9,c9,e9,hc9,hr9,_⟩:=HOWN.out.rdc (zav _ _);cases e9
   have HH:=hid (And.intro hr9 (show Ext w wr from HB.out));clear hr9 hn hlt;go_wp2_with fail
   go_ret2;exact⟨A2,c2,rfl,hc9,HH.out.1,HH.out.2⟩
theorem cf13(vs:Array Value)(w:World):(callFunc 163 vs).run Tryz.prog w=.ok (.enter 163 vs) w:=by go_simp
theorem cf15(vs:Array Value)(w:World):(callFunc 126 vs).run Tryz.prog w=.ok (.enter 126 vs) w:=by go_simp
theorem cf25(vs:Array Value)(w:World):(callFunc 87 vs).run Tryz.prog w=.ok (.enter 87 vs) w:=by go_simp
theorem cf26(vs:Array Value)(w:World):(callFunc 224 vs).run Tryz.prog w=.ok (.enter 224 vs) w:=by go_simp
theorem cf29(vs:Array Value)(w:World):(callFunc 127 vs).run Tryz.prog w=.ok (.enter 127 vs) w:=by go_simp
theorem cf30(vs:Array Value)(w:World):(callFunc 225 vs).run Tryz.prog w=.ok (.enter 225 vs) w:=by go_simp
theorem cf31(vs:Array Value)(w:World):(callFunc 226 vs).run Tryz.prog w=.ok (.enter 226 vs) w:=by go_simp
theorem cf32(vs:Array Value)(w:World):(callFunc 227 vs).run Tryz.prog w=.ok (.enter 227 vs) w:=by go_simp
theorem retE{w:World}{v:Value}(e:Ending)(w':World)(h:e=.returned v/\w=w'):∃u,e=.returned u/\Ext w w'/\K.holds (.eq v) w' u:=by
 obtain⟨rfl,rfl⟩:=h;exact⟨_,rfl,Ext.refl _,rfl⟩
def KAt(w:World)(b o n:Nat)(k:Nat->Nat):Prop:=b<w.heap.size/\∀j,j<n->w.cell? ⟨b,o+j,none⟩=some (.int .i64 (k j:Nat))
theorem KAt.later{w w':World}{b o n:Nat}{k:Nat->Nat}(h:KAt w b o n k)(hx:Ext w w'):KAt w' b o n k :=
 ⟨Nat.lt_of_lt_of_le h.1 (Below.size hx),fun j hj=>cell_later hx (h.2 j hj)⟩
theorem KAt.cut{w:World}{b o n:Nat}{k:Nat->Nat}(h:KAt w b o n k)(l:Nat):KAt w b (o+l) (n-l) (fun i=>k (l+i)) :=
 ⟨h.1,fun j hj=>by rw[Nat.add_assoc];exact h.2 (l+j) (by omega)⟩
theorem KAt.drew{w:World}{b o n:Nat}{k:Nat->Nat}(h:KAt w b o n k):KAt w.drew b o n k:=h
theorem _root_.Go.Proofs.YtokbbmngfogbbaaGreatDoor.Blk.kat{w:World}{g n:Nat}{e:TypeId}{k:Nat->Nat}(h:Blk w g e (tabN k n)):KAt w g 0 n k :=
 ⟨h.lt,fun j hj=>by rw[Nat.zero_add,h.cell j (by rw[zav];exact hj),zhR _ _ _ hj]⟩
def F4.list(x:F4):List Int:=[((x.a:Nat):Int),((x.b:Nat):Int),((x.c:Nat):Int),((x.d:Nat):Int)]
theorem F4.size(x:F4):(Tryz.prog.info? 199).map (·.size)=some x.cells.size:=by
 have h:(Tryz.prog.info? 199).map (·.size)=some 4:=by kernel_rfl
 rw[h];rfl
theorem F4.all(x:F4):x.cells.all (·.oneCell')=true:=zgY x.list
def B4(w:World)(g:Nat)(x:F4):Prop:=Blk w g 199 x.list
theorem B4.heap{w:World}{g:Nat}{x:F4}(h:B4 w g x):w.heap[g]? = some (.cells x.cells 199 (0,0)):=h
theorem B4.alloc(w:World)(x:F4):B4 (w.alloc (.cells x.cells 199)) w.heap.size x:=heap_alloc_new w _
theorem B4.later{w w':World}{g:Nat}{x:F4}(h:B4 w g x)(hx:Ext w w'):B4 w' g x:=Blk.later h hx
theorem B4.put{w:World}{g:Nat}{x:F4}(h:B4 w g x)(y:F4):B4 (w.setRow g y.cells) g y:=Blk.put h y.list
theorem B4.ca{w:World}{g:Nat}{x:F4}(h:B4 w g x):w.cell? ⟨g,0,none⟩=some (.int .i64 (x.a:Nat)):=Blk.cell h 0 (by simp[F4.list])
theorem B4.cb{w:World}{g:Nat}{x:F4}(h:B4 w g x):w.cell? ⟨g,1,none⟩=some (.int .i64 (x.b:Nat)):=Blk.cell h 1 (by simp[F4.list])
theorem B4.cc{w:World}{g:Nat}{x:F4}(h:B4 w g x):w.cell? ⟨g,2,none⟩=some (.int .i64 (x.c:Nat)):=Blk.cell h 2 (by simp[F4.list])
theorem B4.cd{w:World}{g:Nat}{x:F4}(h:B4 w g x):w.cell? ⟨g,3,none⟩=some (.int .i64 (x.d:Nat)):=Blk.cell h 3 (by simp[F4.list])
theorem zaU{fn:Func}{R:Ending->World->Prop}{a:Act}{w:World}{p:Tmp}{ty e:TypeId}{N:Nat}(hres:fn.results=#[.cell p ty])(hd:a.defers = [])(g:Nat)(t:TypeId)(cs:Array Value)(fr:Nat×Nat)
  (hp:a.tmps.getD p undef=.pointer (some ⟨g,0,none⟩)) (hg:w.heap[g]? = some (.cells cs t fr)) (hu:Tryz.prog.underlying ty=some (.array N e))
  (hi:(Tryz.prog.info? ty).map (·.size)=some cs.size) (h:R (.returned (.agg cs)) w):
  bodyPost Tryz.prog fn R .ret a w:=bodyPost_ret (results_cell_row hres _ _ g t cs fr _ hp hg hu rfl hi) hd h
def byKs(G kb ko n c:Nat)(x:F4)(k:Nat->Nat):List K:=[.eq (.pointer (some ⟨G,0,none⟩)),.eq (.int .i64 (x.a:Nat)),.eq (.slice (some ⟨kb,ko,none⟩) n c),.eq (.pointer (some ⟨kb,ko,none⟩)),.eq (.int .i64 (k 0:Nat)),.eq (.int .i64 (mulF x.a (k 0):Nat)),.eq (.pointer (some ⟨G,1,none⟩)),.eq (.int .i64 (x.b:Nat)),.eq (.slice (some ⟨kb,ko,none⟩) n c),.eq (.pointer (some ⟨kb,ko+1,none⟩)),.eq (.int .i64 (k 1:Nat)),.eq (.int .i64 ((x.b+k 1)%65536:Nat)),.eq (.pointer (some ⟨G,2,none⟩)),.eq (.int .i64 (x.c:Nat)),.eq (.slice (some ⟨kb,ko,none⟩) n c),.eq (.pointer (some ⟨kb,ko+2,none⟩)),.eq (.int .i64 (k 2:Nat)),.eq (.int .i64 ((x.c+k 2)%65536:Nat)),.eq (.pointer (some ⟨G,3,none⟩)),.eq (.int .i64 (x.d:Nat)),.eq (.slice (some ⟨kb,ko,none⟩) n c),.eq (.pointer (some ⟨kb,ko+3,none⟩)),.eq (.int .i64 (k 3:Nat)),.eq (.int .i64 (mulF x.d (k 3):Nat)),.any,.any]
theorem zho(x:F4)(kb ko n c:Nat)(k:Nat->Nat)(w:World)(hx:x.ok)(hk:KAt w kb ko n k)(hl:∀i,k i<65536)(hn:4<=n)(hnb:n<=1000):
  Calls Tryz.prog 226 #[.agg x.cells,.slice (some ⟨kb,ko,none⟩) n c] w fun e w'=>e=.returned (.agg (byF x k).cells)/\Ext w w':=by
 have HO:=hid hx;have HL:=hid hl;have HKW:=hid hk;have HN:=hid (show ¬n=0/\¬((n:Int)<=1)/\(2:Int)<n/\(3:Int)<n from⟨by omega,by omega,by omega,by omega⟩);have hb0:=B4.alloc w x;have hx0:=Ext.alloc w (.cells x.cells 199);have h1:=heap_alloc2_old w (.cells x.cells 199) (.cells (F4.mk 0 0 0 0).cells 199);have h2:=heap_alloc2_new w (.cells x.cells 199) (.cells (F4.mk 0 0 0 0).cells 199);have h3:=(Ext.alloc w (.cells x.cells 199)).trans (Ext.alloc _ (.cells (F4.mk 0 0 0 0).cells 199));clear hx hl hk hb0 hx0;go_enter Tryz.func226,Tryz.ntmps226;go_wp2_with fail
 obtain⟨W1,hW1⟩:∃W1,(w.alloc (.cells x.cells 199)).alloc (.cells #[.int .i64 0,.int .i64 0,.int .i64 0,.int .i64 0] 199)=W1:=⟨_,rfl⟩;rw[show(w.alloc (.cells x.cells 199)).alloc (.cells (F4.mk 0 0 0 0).cells 199)=W1 from hW1] at h1 h2 h3;rw[hW1];obtain⟨G,hG⟩:∃G,w.heap.size=G:=⟨_,rfl⟩;rw[hG];have HX:=hid (show B4 W1 G x by rw[<-hG];exact h1);have HR:=hid (show B4 W1 (G+1) ⟨0,0,0,0⟩ by rw[<-hG];exact h2);have HE:=hid (show Ext w W1 from h3);have HK:=hid (HKW.out.later h3);have HG:=hid hG;clear hW1 h1 h2 h3 hG HKW;refine zaD 24 (byKs G kb ko n c x k) (zab ⟨?_,?_,fun _ _ h=>h.mv,?_,?_,?_,?_,?_,fun _ _ h=>h.mv,?_,?_,?_,?_,?_,fun _ _ h=>h.mv,?_,?_,?_,?_,?_,fun _ _ h=>h.mv,?_,?_,?_,trivial⟩) ?_
 ·intro a w hk;have s2:a.tmps.getD 2 undef=.pointer (some ⟨G,0,none⟩):=hk.was 2;refine za ?_;go_simp
 ·intro a w hk;have s5:=hk.eq_ 0 5;refine za ?_;have hc:=(HX.out.later hk.ext).ca;go_simp
 ·intro a w hk;have s7:=hk.eq_ 2 7;refine za ?_;have hn0:=HN.out.1;have hn1:=HN.out.2.1;have hn2:=HN.out.2.2.1;have hn3:=HN.out.2.2.2;go_simp
 ·intro a w hk;have s8:=hk.eq_ 3 8;refine za ?_;have hc:=(HK.out.later hk.ext).2 0 (by omega);rw[Nat.add_zero] at hc;go_simp
 ·exact fun _ w h=>h.call cf13 (zbO x.a (k 0) w HO.out.a (HL.out _)) (fun e w1 h=>retE e w1 h)
 ·intro a w hk;have s2:a.tmps.getD 2 undef=.pointer (some ⟨G,0,none⟩):=hk.was 2;refine za ?_;go_simp
 ·intro a w hk;have s11:=hk.eq_ 6 11;refine za ?_;have hc:=(HX.out.later hk.ext).cb;go_simp
 ·intro a w hk;have s13:=hk.eq_ 8 13;refine za ?_;have hn0:=HN.out.1;have hn1:=HN.out.2.1;have hn2:=HN.out.2.2.1;have hn3:=HN.out.2.2.2;go_simp
 ·intro a w hk;have s14:=hk.eq_ 9 14;refine za ?_;have hc:=(HK.out.later hk.ext).2 1 (by omega);go_simp
 ·exact fun _ w h=>h.call cf32 (zd7 x.b (k 1) w HO.out.b (HL.out _)) (fun e w1 h=>retE e w1 h)
 ·intro a w hk;have s2:a.tmps.getD 2 undef=.pointer (some ⟨G,0,none⟩):=hk.was 2;refine za ?_;go_simp
 ·intro a w hk;have s17:=hk.eq_ 12 17;refine za ?_;have hc:=(HX.out.later hk.ext).cc;go_simp
 ·intro a w hk;have s19:=hk.eq_ 14 19;refine za ?_;have hn0:=HN.out.1;have hn1:=HN.out.2.1;have hn2:=HN.out.2.2.1;have hn3:=HN.out.2.2.2;go_simp
 ·intro a w hk;have s20:=hk.eq_ 15 20;refine za ?_;have hc:=(HK.out.later hk.ext).2 2 (by omega);go_simp
 ·exact fun _ w h=>h.call cf32 (zd7 x.c (k 2) w HO.out.c (HL.out _)) (fun e w1 h=>retE e w1 h)
 ·intro a w hk;have s2:a.tmps.getD 2 undef=.pointer (some ⟨G,0,none⟩):=hk.was 2;refine za ?_;go_simp
 ·intro a w hk;have s23:=hk.eq_ 18 23;refine za ?_;have hc:=(HX.out.later hk.ext).cd;go_simp
 ·intro a w hk;have s25:=hk.eq_ 20 25;refine za ?_;have hn0:=HN.out.1;have hn1:=HN.out.2.1;have hn2:=HN.out.2.2.1;have hn3:=HN.out.2.2.2;go_simp
 ·intro a w hk;have s26:=hk.eq_ 21 26;refine za ?_;have hc:=(HK.out.later hk.ext).2 3 (by omega);go_simp
 ·exact fun _ w h=>h.call cf13 (zbO x.d (k 3) w HO.out.d (HL.out _)) (fun e w1 h=>retE e w1 h)
 ·intro a w1 hf;have hx:=hf.ext;have e:=hf.fr;clear hf;simp only[List.take_succ_cons,List.take_zero,byKs,frV,kPut,Act.put,List.setIfInBounds_toArray,List.set_cons_zero,List.set_cons_succ] at e;subst e;simp only[List.drop_succ_cons,List.drop_zero];have HR1:=hid ((HR.out.later hx).heap);have HR2:=hid (((HR.out.later hx).put (byF x k)).heap);have HE2:=hid (Below.setRow_ (HE.out.trans hx) (g:=G+1) (by have:=HG.out;omega) (byF x k).cells);clear hx;go_wp2_with (refine wpList_store_row rfl 199 (.tmp 4) (.tmp 29) rfl (G+1) (byF x k).cells rfl rfl 199 _ HR1.out (F4.size _) rfl (F4.all _) ?_)
  refine zaU rfl rfl (G+1) 199 _ (0,0) rfl HR2.out Tryz.underlying199 (F4.size _) ⟨rfl,HE2.out⟩
theorem zlx{a b:Nat}(ha:a<65536)(hb:b<65536):bits .xor .i64 (a:Int) (b:Int)=((a^^^b:Nat):Int):=by
 have e0:bits .xor .i64 (a:Int) (b:Int)=IntKind.i64.wrap ((BitVec.ofInt 64 (a:Int)^^^BitVec.ofInt 64 (b:Int)).toNat:Int):=rfl;have h:a^^^b<65536:=zdi ha hb;have e:(BitVec.ofInt 64 (a:Int)^^^BitVec.ofInt 64 (b:Int)).toNat=a^^^b:=by
  rw[BitVec.toNat_xor,BitVec.toNat_ofInt,BitVec.toNat_ofInt];have h1:((a:Int)%((2^64:Nat):Int)).toNat=a:=by omega
  have h2:((b:Int)%((2^64:Nat):Int)).toNat=b:=by omega
  rw[h1,h2]
 rw[e0,e];exact wrap_i64 (by omega) (by omega)
def zt6(G:Nat)(x:F4):List K:=[.eq (.pointer (some ⟨G,0,none⟩)),.eq (.int .i64 (x.a:Nat)),.eq (.pointer (some ⟨G,1,none⟩)),.eq (.int .i64 (x.b:Nat)),.eq (.pointer (some ⟨G,2,none⟩)),.eq (.int .i64 (x.c:Nat)),.eq (.pointer (some ⟨G,3,none⟩)),.eq (.int .i64 (x.d:Nat)),.eq (.int .i64 (x.a:Nat)),.eq (.int .i64 (x.b:Nat)),.eq (.int .i64 (x.c:Nat)),.eq (.int .i64 (x.d:Nat))]
theorem zdG(x:F4)(k5 k6:Nat)(w:World)(hx:x.ok)(h5:k5<65536)(h6:k6<65536):
  Calls Tryz.prog 225 #[.agg x.cells,.int .i64 k5,.int .i64 k6] w fun e w'=>e=.returned (.agg (mixF x k5 k6).cells)/\Ext w w':=by
 have h1:=heap_alloc2_old w (.cells x.cells 199) (.cells (F4.mk 0 0 0 0).cells 199);have h2:=heap_alloc2_new w (.cells x.cells 199) (.cells (F4.mk 0 0 0 0).cells 199);have h3:=(Ext.alloc w (.cells x.cells 199)).trans (Ext.alloc _ (.cells (F4.mk 0 0 0 0).cells 199));have l1:=zdi hx.a hx.c;have l2:=zdi hx.b hx.d;have l3:=zvA x k5;have l4:=zsk x k5 k6;have l5:=zrF x k5 k6;have e1:=zlx hx.a hx.c;have e2:=zlx hx.b hx.d;have e3:=zlx hx.a l4;have e4:=zlx hx.c l4;have e5:=zlx hx.b l5;have e6:=zlx hx.d l5;have c1:=fun w=>zbO (x.a^^^x.c) k5 w l1 h5
 have c2:=fun w=>zd7 (x.b^^^x.d) (mF x k5) w l2 l3
 have c3:=fun w=>zbO (((x.b^^^x.d)+mF x k5)%65536) k6 w (Nat.mod_lt _ (by omega)) h6
 have c4:=fun w=>zd7 (mF x k5) (mG x k5 k6) w l3 l4
 rw[show mulF (x.a^^^x.c) k5=mF x k5 from rfl] at c1;rw[show mulF (((x.b^^^x.d)+mF x k5)%65536) k6=mG x k5 k6 from rfl] at c3;rw[show(mF x k5+mG x k5 k6)%65536=mH x k5 k6 from rfl] at c4;have HM:=hid (show mixF x k5 k6=⟨x.a^^^mG x k5 k6,x.c^^^mG x k5 k6,x.b^^^mH x k5 k6,x.d^^^mH x k5 k6⟩ from rfl);obtain⟨y1,hy1⟩:∃y,x.a^^^x.c=y:=⟨_,rfl⟩;obtain⟨y2,hy2⟩:∃y,x.b^^^x.d=y:=⟨_,rfl⟩;obtain⟨y3,hy3⟩:∃y,x.a^^^mG x k5 k6=y:=⟨_,rfl⟩;obtain⟨y4,hy4⟩:∃y,x.c^^^mG x k5 k6=y:=⟨_,rfl⟩;obtain⟨y5,hy5⟩:∃y,x.b^^^mH x k5 k6=y:=⟨_,rfl⟩;obtain⟨y6,hy6⟩:∃y,x.d^^^mH x k5 k6=y:=⟨_,rfl⟩;rw[hy1] at e1 c1;rw[hy2] at e2 c2 c3;rw[hy3] at e3 HM;rw[hy4] at e4 HM;rw[hy5] at e5 HM;rw[hy6] at e6 HM;obtain⟨f,hf⟩:∃f,mF x k5=f:=⟨_,rfl⟩;obtain⟨g,hg⟩:∃g,mG x k5 k6=g:=⟨_,rfl⟩;obtain⟨u,hu⟩:∃u,mH x k5 k6=u:=⟨_,rfl⟩;rw[hf] at c1 c2 c3 c4;rw[hg] at c3 c4 e3 e4;rw[hu] at c4 e5 e6
 obtain⟨z,hz⟩:∃z,(y2+f)%65536=z:=⟨_,rfl⟩;rw[hz] at c2 c3;have C1:=hid c1;have C2:=hid c2;have C3:=hid c3;have C4:=hid c4;have EE:=hid (And.intro e1 (And.intro e2 (And.intro e3 (And.intro e4 (And.intro e5 e6)))));clear hf hg hu hz hy1 hy2 hy3 hy4 hy5 hy6 c1 c2 c3 c4 e1 e2 e3 e4 e5 e6 l1 l2 l3 l4 l5 hx h5 h6;go_enter Tryz.func225,Tryz.ntmps225;go_wp2_with fail
 obtain⟨W1,hW1⟩:∃W1,(w.alloc (.cells x.cells 199)).alloc (.cells #[.int .i64 0,.int .i64 0,.int .i64 0,.int .i64 0] 199)=W1:=⟨_,rfl⟩;rw[show(w.alloc (.cells x.cells 199)).alloc (.cells (F4.mk 0 0 0 0).cells 199)=W1 from hW1] at h1 h2 h3;rw[hW1];obtain⟨G,hG⟩:∃G,w.heap.size=G:=⟨_,rfl⟩;rw[hG];have HX:=hid (show B4 W1 G x by rw[<-hG];exact h1);have HR:=hid (show B4 W1 (G+1) ⟨0,0,0,0⟩ by rw[<-hG];exact h2);have HE:=hid (show Ext w W1 from h3);have HG:=hid hG;clear hW1 h1 h2 h3 hG;refine zdj (zt6 G x) (zab ⟨?_,?_,?_,?_,?_,?_,?_,?_,?_,?_,?_,?_,trivial⟩) ?_
 ·intro a w hk;have s3:a.tmps.getD 3 undef=.pointer (some ⟨G,0,none⟩):=hk.was 3;refine za ?_;go_simp
 ·intro a w hk;have s13:=hk.eq_ 0 13;refine za ?_;have hc:=(HX.out.later hk.ext).ca;go_simp
 ·intro a w hk;have s3:a.tmps.getD 3 undef=.pointer (some ⟨G,0,none⟩):=hk.was 3;refine za ?_;go_simp
 ·intro a w hk;have s15:=hk.eq_ 2 15;refine za ?_;have hc:=(HX.out.later hk.ext).cb;go_simp
 ·intro a w hk;have s3:a.tmps.getD 3 undef=.pointer (some ⟨G,0,none⟩):=hk.was 3;refine za ?_;go_simp
 ·intro a w hk;have s17:=hk.eq_ 4 17;refine za ?_;have hc:=(HX.out.later hk.ext).cc;go_simp
 ·intro a w hk;have s3:a.tmps.getD 3 undef=.pointer (some ⟨G,0,none⟩):=hk.was 3;refine za ?_;go_simp
 ·intro a w hk;have s19:=hk.eq_ 6 19;refine za ?_;have hc:=(HX.out.later hk.ext).cd;go_simp
 ·intro a w hk;have s14:=hk.eq_ 1 14;exact zaM rfl rfl s14 rfl
 ·intro a w hk;have s16:=hk.eq_ 3 16;exact zaM rfl rfl s16 rfl
 ·intro a w hk;have s18:=hk.eq_ 5 18;exact zaM rfl rfl s18 rfl
 ·intro a w hk;have s20:=hk.eq_ 7 20;exact zaM rfl rfl s20 rfl
 ·intro a w1 hf;have hx:=hf.ext;have e:=hf.fr;clear hf;simp only[zt6,frV,kPut,Act.put,List.setIfInBounds_toArray,List.set_cons_zero,List.set_cons_succ] at e;subst e;have HR1:=hid ((HR.out.later hx).heap);have HR2:=hid (((HR.out.later hx).put (mixF x k5 k6)).heap);have HE2:=hid (Below.setRow_ (HE.out.trans hx) (g:=G+1) (by have:=HG.out;omega) (mixF x k5 k6).cells);rw[HM.out] at HR2 HE2;obtain⟨e1,e2,e3,e4,e5,e6⟩:=EE.out;clear hx;go_wp2_with fail
  refine(C1.out _).mono ?_;rintro e w' ⟨rfl,rfl⟩;go_wp2_with fail
  refine(C2.out _).mono ?_;rintro e w' ⟨rfl,rfl⟩;go_wp2_with fail
  refine(C3.out _).mono ?_;rintro e w' ⟨rfl,rfl⟩;go_wp2_with fail
  refine(C4.out _).mono ?_;rintro e w' ⟨rfl,rfl⟩;go_wp2_with (refine wpList_store_row rfl 199 (.tmp 6) (.tmp 48) rfl (G+1) (F4.mk y3 y4 y5 y6).cells rfl rfl 199 _ HR1.out (F4.size _) rfl (F4.all _) ?_)
  refine zaU rfl rfl (G+1) 199 _ (0,0) rfl HR2.out Tryz.underlying199 (F4.size _) ⟨by rw[HM.out],HE2.out⟩
theorem zjJ{o:Oper}{a:Act}{w:World}{t:Tmp}{B:Nat}{x:F4}(ho:o.op=.load 199 (.tmp t))(ht:a.tmps.getD t undef=.pointer (some ⟨B,0,none⟩))(hA:B4 w B x):
  (execOp a.eval o).run Tryz.prog w=.ok (.value (.agg x.cells)) w:=by
 have h:=run_loadVar_row (P:=Tryz.prog) w B 199 199 x.cells (0,0) _ hA.heap Tryz.underlying199 rfl (F4.size x);unfold execOp;simp only[ho,Act.eval,ht,Instr.loadAt,Instr.sureAddr,Sem.run_bind,Sem.run_pure,Result.andThen_ok,h]
def zqi(kb ko c r:Nat)(y:F4)(k:Nat->Nat):List K:=[.eq (.agg y.cells),.eq (.slice (some ⟨kb,ko+6*r,none⟩) (52-6*r) (c-6*r)),.eq (.agg (byF y fun i=>k (6*r+i)).cells),.eq (.slice (some ⟨kb,ko+6*r,none⟩) (52-6*r) (c-6*r)),.eq (.pointer (some ⟨kb,ko+6*r+4,none⟩)),.eq (.int .i64 (k (6*r+4):Nat)),.eq (.slice (some ⟨kb,ko+6*r,none⟩) (52-6*r) (c-6*r)),.eq (.pointer (some ⟨kb,ko+6*r+5,none⟩)),.eq (.int .i64 (k (6*r+5):Nat)),.eq (.agg (mixF (byF y fun i=>k (6*r+i)) (k (6*r+4)) (k (6*r+5))).cells),.any]
structure zum (k:Nat->Nat) (x:F4) (kb ko:Nat) (w:World) (G r:Nat) (w1:World):Prop where
 hr:r<=8
 ext:Ext w w1
 blk:B4 w1 G (rndF k x r)
 res:B4 w1 (G+1) ⟨0,0,0,0⟩
 keys:KAt w1 kb ko 52 k
def zrN(k:Nat->Nat)(x:F4)(kb ko c:Nat)(w:World)(G:Nat)(a:Act)(w1:World):Prop :=
 ∃(r:Nat) (u5 u6 u7 u8 u9 u10 u11 u12 u13 u14 u15 u16 u17 u18 u19 u20 u21 u22 u23 u24 u25 u26 u27:Value),
  a = { tmps:=#[.agg x.cells,.slice (some ⟨kb,ko+6*r,none⟩) (52-6*r) (c-6*r),.pointer (some ⟨G,0,none⟩),undef,.pointer (some ⟨G+1,0,none⟩),u5,u6,u7,u8,u9,u10,u11,u12,u13,u14,u15,u16,u17,u18,u19,u20,u21,u22,u23,u24,u25,u26,u27,undef],defers:=[] }/\zum k x kb ko w G r w1
def zog(a:Act):Nat:=match a.tmps.getD 1 undef with | .slice _ n _=>n|_=>0
theorem zoa(x:F4):(x.list.set 1 (x.c:Nat)).set 2 (x.b:Nat)=(swF x).list:=rfl
theorem zd3{w:World}{g:Nat}{cs:Array Value}{p:Addr}(h:p.block≠g):(w.setRow g cs).cell? p=w.cell? p:=by
 unfold World.cell?;rw[setRow_other w g p.block cs h]
theorem znF(kb ko c r:Nat)(w:World)(hr:r<8)(hc:52<=c):
  (Instr.sliceAt 38 (.slice (some ⟨kb,ko+6*r,none⟩) (52-6*r) (c-6*r)) (some (.int .i64 6)) none none).run Tryz.prog w=.ok (.slice (some ⟨kb,ko+6*(r+1),none⟩) (52-6*(r+1)) (c-6*(r+1))) w:=by
 have e:=zgW kb (ko+6*r) (52-6*r) (c-6*r) 6 w (by omega) (by omega);rw[show((6:Nat):Int)=6 from rfl] at e;rw[e];congr 2<;>first|omega | (congr 2;omega)
theorem zeH(x:F4)(kb ko c:Nat)(k:Nat->Nat)(w:World)(hx:x.ok)(hk:KAt w kb ko 52 k)(hl:∀i,k i<65536)(hc:52<=c)(hcb:c<=1000):
  Calls Tryz.prog 224 #[.agg x.cells,.slice (some ⟨kb,ko,none⟩) 52 c] w fun e w'=>e=.returned (.agg (zcn k x).cells)/\Ext w w':=by
 have HXO:=hid hx;have HL:=hid hl;have HKW:=hid hk;have h1:=heap_alloc2_old w (.cells x.cells 199) (.cells (F4.mk 0 0 0 0).cells 199);have h2:=heap_alloc2_new w (.cells x.cells 199) (.cells (F4.mk 0 0 0 0).cells 199);have h3:=(Ext.alloc w (.cells x.cells 199)).trans (Ext.alloc _ (.cells (F4.mk 0 0 0 0).cells 199));clear hx hl hk;go_enter Tryz.func224,Tryz.ntmps224;go_wp2_with fail
 refine zat 0 (zrN k x kb ko c w w.heap.size) (fun a _=>zog a) rfl ?_ ?_
 ·clear h1 h2 h3;obtain⟨G,hG⟩:∃G,w.heap.size=G:=⟨_,rfl⟩;rw[hG];have HG:=hid hG;clear hG;rintro a w1 ⟨r,u5,u6,u7,u8,u9,u10,u11,u12,u13,u14,u15,u16,u17,u18,u19,u20,u21,u22,u23,u24,u25,u26,u27,rfl,hS⟩;have hr:=hS.hr;have HS:=hid hS;have HY:=hid hS.blk;have HO:=hid (zjO (k:=k) HXO.out r);have HST:=hid (show rndF k x (r+1)=mixF (byF (rndF k x r) fun i=>k (6*r+i)) (k (6*r+4)) (k (6*r+5)) from rfl);clear hS;by_cases hlt:r<8
  ·have HN:=hid (show(4:Int)<((52-6*r:Nat):Int)/\(5:Int)<((52-6*r:Nat):Int) from⟨by omega,by omega⟩);have HK:=hid (HS.out.keys.cut (6*r));obtain⟨y,hy⟩:∃y,rndF k x r=y:=⟨_,rfl⟩;rw[hy] at HY HO HST;clear hy;have hg4:4<52-6*r:=by omega
   have hg4i:(4:Int)<((52-6*r:Nat):Int):=by omega
   go_wp2_with fail
   refine zaD 10 (zqi kb ko c r y k) (zab ⟨?_,fun _ _ h=>h.mv,?_,fun _ _ h=>h.mv,?_,?_,fun _ _ h=>h.mv,?_,?_,?_,trivial⟩) ?_
   ·intro a w hk;have s2:a.tmps.getD 2 undef=.pointer (some ⟨G,0,none⟩):=hk.was 2;refine za ?_;exact zjJ rfl s2 (HY.out.later hk.ext)
   ·intro a w hk;exact hk.call cf31 (zho y kb (ko+6*r) (52-6*r) (c-6*r) (fun i=>k (6*r+i)) w HO.out (HK.out.later hk.ext) (fun i=>HL.out _) (by omega) (by omega)) (fun e w1 h=>retX e w1 h)
   ·intro a w hk;have s11:=hk.eq_ 3 11;refine za ?_;have hn4:=HN.out.1;have hn5:=HN.out.2;go_simp
   ·intro a w hk;have s12:=hk.eq_ 4 12;refine za ?_;have hc:=(HK.out.later hk.ext).2 4 (by omega);go_simp
   ·intro a w hk;have s14:=hk.eq_ 6 14;refine za ?_;have hn4:=HN.out.1;have hn5:=HN.out.2;go_simp
   ·intro a w hk;have s15:=hk.eq_ 7 15;refine za ?_;have hc:=(HK.out.later hk.ext).2 5 (by omega);go_simp
   ·exact fun _ w h=>h.call cf30 (zdG _ _ _ w (zme _ _) (HL.out _) (HL.out _)) (fun e w1 h=>retX e w1 h)
   ·intro a w1 hf;have hx:=hf.ext;have e:=hf.fr;clear hf;simp only[List.take_succ_cons,List.take_zero,zqi,frV,kPut,Act.put,List.setIfInBounds_toArray,List.set_cons_zero,List.set_cons_succ] at e;subst e;simp only[List.drop_succ_cons,List.drop_zero];have hb1:=(HS.out.blk.later hx);have hr1:=(HS.out.res.later hx);have HB1:=hid hb1.heap;have HS2:=hid (show zum k x kb ko w G (r+1) (w1.setRow G (mixF (byF y fun i=>k (6*r+i)) (k (6*r+4)) (k (6*r+5))).cells) from
     ⟨by omega,Below.setRow_ (HS.out.ext.trans hx) (by have:=HG.out;omega) _,by rw[HST.out];exact hb1.put _,Blk.putne hr1 _ _ (by omega),
      ⟨by rw[setRow_size];exact(HS.out.keys.later hx).1,fun j hj=>by rw[zd3 (by show kb≠G;have:=HKW.out.1;have:=HG.out;omega)];exact(HS.out.keys.later hx).2 j hj⟩⟩)
    have HSL:=hid (fun w=>znF kb ko c r w hlt hc);clear hb1 hr1 hx;go_wp2_with (first
     | (refine wpList_store_row rfl 199 (.tmp 2) (.tmp 17) rfl G (mixF (byF y fun i=>k (6*r+i)) (k (6*r+4)) (k (6*r+5))).cells rfl rfl 199 _ HB1.out (F4.size _) rfl (F4.all _) ?_)
     | (rw[HSL.out];simp only[Result.andThen];rw[Oper.upon_value]))
    go_step3;refine⟨rfl,⟨r+1,ex8 (ex8 ⟨_,_,_,_,_,_,_,rfl,HS2.out⟩)⟩,?_⟩;simp[zog];omega
  ·obtain rfl:r=8:=by omega
   have HE:=hid HS.out.ext;have hb0:=HS.out.blk;have hcb:=hb0.cb;have hcc:=hb0.cc;have hf1:=Blk.frozen hb0 1;have hf2:=Blk.frozen hb0 2;have hsw:=Blk.set_ (Blk.set_ hb0 1 ((rndF k x 8).c:Nat)) 2 ((rndF k x 8).b:Nat);rw[zoa] at hsw;have hext2:=Below.setCell (Below.setCell HS.out.ext (p:=⟨G,1,none⟩) (by have:=HG.out;simp;omega) (.int .i64 ((rndF k x 8).c:Nat))) (p:=⟨G,2,none⟩) (by have:=HG.out;simp;omega) (.int .i64 ((rndF k x 8).b:Nat));have hres2:=Blk.setne (Blk.setne HS.out.res ⟨G,1,none⟩ (.int .i64 ((rndF k x 8).c:Nat)) (by simp)) ⟨G,2,none⟩ (.int .i64 ((rndF k x 8).b:Nat)) (by simp);have hky:=HKW.out.later (show Ext w _ from hext2);obtain⟨y,hy⟩:∃y,rndF k x 8=y:=⟨_,rfl⟩;have HP:=hid (show zcn k x=byF (swF y) fun i=>k (48+i) by rw[<-hy];rfl);rw[hy] at hb0 hcb hcc hsw hext2 hres2 hky HO;have HSW:=hid (B4.heap hsw);have HEX:=hid hext2;have HRS:=hid hres2;have HKY:=hid (hky.cut 48)
   clear hy hb0 hsw hext2 hres2 hky HS HY HST;rw[show ko+6*8=ko+48 from rfl,show 52-6*8=4 from rfl,show c-6*8=c-48 from rfl];go_wp2_with (refine wpList_load_row rfl 199 (.tmp 2) rfl G rfl 199 (swF y).cells (0,0) _ HSW.out Tryz.underlying199 rfl (F4.size _) ?_)
   refine(zho (swF y) kb (ko+48) 4 (c-48) (fun i=>k (48+i)) _ (zqr HO.out) HKY.out (fun i=>HL.out _) (by omega) (by omega)).mono ?_;rintro e w3 ⟨rfl,hx3⟩;have HR1:=hid (B4.heap (B4.later (show B4 _ (G+1) ⟨0,0,0,0⟩ from HRS.out) hx3));have HR2:=hid (B4.heap ((B4.later (show B4 _ (G+1) ⟨0,0,0,0⟩ from HRS.out) hx3).put (byF (swF y) fun i=>k (48+i))));have HE2:=hid (Below.setRow_ (Ext.trans (show Ext w _ from HEX.out) hx3) (g:=G+1) (by have:=HG.out;omega) (byF (swF y) fun i=>k (48+i)).cells);clear hx3;go_wp2_with (refine wpList_store_row rfl 199 (.tmp 4) (.tmp 28) rfl (G+1) (byF (swF y) fun i=>k (48+i)).cells rfl rfl 199 _ HR1.out (F4.size _) rfl (F4.all _) ?_)
   (try simp only[Exit.jump])
   refine zaU rfl rfl (G+1) 199 _ (0,0) rfl HR2.out Tryz.underlying199 (F4.size _) ⟨by rw[HP.out],HE2.out⟩
 ·intro hfirst;go_wp2_with fail
  go_step3;simp only[Exit.then];rename_i hK;refine hK _ _ ?_;exact hfirst.out _ _ ⟨0,ex8 (ex8 ⟨_,_,_,_,_,_,_,rfl,⟨by omega,h3,h1,h2,HKW.out.later h3⟩⟩)⟩
theorem zeN(g l:Nat)(w:World)(hl:l<52):
  (Instr.sliceAt 151 (.pointer (some ⟨g,0,none⟩)) (some (.int .i64 (l:Int))) none none).run Tryz.prog w=.ok (.slice (some ⟨g,l,none⟩) (52-l) (52-l)) w:=by
 have hN:Tryz.prog.arrayLen 151=52:=by kernel_rfl
 have hs:(sizeOf (Tryz.prog.elem 151)).run Tryz.prog w=.ok 1 w:=by kernel_rfl
 rw[run_sliceAt_array_l w 151 ⟨g,0,none⟩ (by kernel_rfl) .i64 l (by omega) (by rw[hN];omega),hs,hN];simp only[Result.andThen,slicedAt,Int.toNat_natCast];rw[if_neg (by omega)];simp[za2]
theorem zkC(g l h:Nat)(w:World)(hl:l<52)(hh:h<=52)(hlh:l<=h):
  (Instr.sliceAt 151 (.pointer (some ⟨g,0,none⟩)) (some (.int .i64 (l:Int))) (some (.int .i64 (h:Int))) none).run Tryz.prog w=.ok (.slice (some ⟨g,l,none⟩) (h-l) (52-l)) w:=by
 have hN:Tryz.prog.arrayLen 151=52:=by kernel_rfl
 have hs:(sizeOf (Tryz.prog.elem 151)).run Tryz.prog w=.ok 1 w:=by kernel_rfl
 rw[run_sliceAt_array_lh w 151 ⟨g,0,none⟩ (by kernel_rfl) .i64 .i64 l h (by omega) (by omega) (by rw[hN];omega),hs,hN];simp only[Result.andThen,slicedAt,Int.toNat_natCast];rw[if_neg (by omega)];simp[za2]
theorem zie(g:Nat)(w:World):
  (Instr.sliceAt 151 (.pointer (some ⟨g,0,none⟩)) none none none).run Tryz.prog w=.ok (.slice (some ⟨g,0,none⟩) 52 52) w:=by
 have hN:Tryz.prog.arrayLen 151=52:=by kernel_rfl
 have hs:(sizeOf (Tryz.prog.elem 151)).run Tryz.prog w=.ok 1 w:=by kernel_rfl
 rw[run_sliceAt_array_all w 151 ⟨g,0,none⟩ (by kernel_rfl),hs,hN];simp[Result.andThen,slicedAt,za2]
theorem zfZ(g:Nat)(w:World):
  (Instr.sliceAt 199 (.pointer (some ⟨g,0,none⟩)) none none none).run Tryz.prog w=.ok (.slice (some ⟨g,0,none⟩) 4 4) w:=by
 have hN:Tryz.prog.arrayLen 199=4:=by kernel_rfl
 have hs:(sizeOf (Tryz.prog.elem 199)).run Tryz.prog w=.ok 1 w:=by kernel_rfl
 rw[run_sliceAt_array_all w 199 ⟨g,0,none⟩ (by kernel_rfl),hs,hN];simp[Result.andThen,slicedAt,za2]
theorem zql(L:List Int)(h:L.length=52):(Tryz.prog.info? 151).map (·.size)=some (cN .i64 L).toArray.size:=by
 have e:(Tryz.prog.info? 151).map (·.size)=some 52:=by kernel_rfl
 rw[e,zd5,h]
theorem sizes(L M:List Int)(h:L.length=M.length):(cN .i64 L).toArray.size=(cN .i64 M).toArray.size:=by rw[zd5,zd5,h]
theorem zkN(F:Nat->Nat)(n o:Nat)(ys:List Int)(m:Nat)(hm:ys.length=m)(h:o+m<=n)(hy:∀j,j<m->ys.getD j 0=(F (o+j):Nat)):spl (zaR F n o) o ys=zaR F n (o+m):=by
 subst hm;refine znO (n:=n) (by rw[zg6 (by rw[zax];omega),zax]) (zax _ _ _) fun j hj=>?_
 rw[znD (by rw[zax];omega)];have hg:∀k,(zaR F n k).getD j 0=if j<k then((F j:Nat):Int) else 0:=fun k=>by simp[zaR,List.getD,hj]
 rw[hg,hg];by_cases h1:j<o
 ·rw[if_pos h1,if_pos h1,if_pos (by omega)]
 ·rw[if_neg h1,if_neg h1];by_cases h2:j<o+ys.length
  ·rw[if_pos h2,if_pos h2,hy (j-o) (by omega),show o+(j-o)=j by omega]
  ·rw[if_neg h2,if_neg h2]
def undU(k:Nat->Nat)(f:Nat):F4:=(F4.mk (invF (k f)) (negF (k (f+1))) (negF (k (f+2))) (invF (k (f+3))))
theorem zfO(k:Nat->Nat)(r f:Nat)(hr:r<=8)(hf:f=48-6*r)(x:F4)(hx:x=if 0<r/\r<8 then swF (undU k f) else undU k f):
  spl (zaR (undF k) 52 (6*r)) (6*r) (((x.list.drop 0).take 4).take 4)=zaR (undF k) 52 (6*r+4):=by
 have e:((x.list.drop 0).take 4).take 4=x.list:=rfl;rw[e];refine zkN _ _ _ _ 4 rfl (by omega) fun j hj=>?_
 have hq:(6*r+j)/6=r:=by omega
 have hm:(6*r+j)%6=j:=by omega
 subst hf;by_cases hc:0<r/\r<8
 ·rw[if_pos hc] at hx;subst hx;unfold undF;simp only[hq,hm,if_pos hc]
  match j,hj with
  | 0,_=>rfl
  | 1,_=>rfl
  | 2,_=>rfl
  | 3,_=>rfl
 ·rw[if_neg hc] at hx;subst hx;unfold undF;simp only[hq,hm,if_neg hc]
  match j,hj with
  | 0,_=>rfl
  | 1,_=>rfl
  | 2,_=>rfl
  | 3,_=>rfl
theorem zha(k:Nat->Nat)(r f:Nat)(hr:r<8)(hf:f=48-6*r):
  spl (zaR (undF k) 52 (6*r+4)) (6*r+4) ((((tabN k 52).drop (f-2)).take 2).take 2)=zaR (undF k) 52 (6*r+6):=by
 refine zkN _ _ _ _ 2 (by simp[zav];omega) (by omega) fun j hj=>?_
 have e:((((tabN k 52).drop (f-2)).take 2).take 2).getD j 0=(tabN k 52).getD (f-2+j) 0:=by simp[List.getD,hj]
 rw[e,zhR _ _ _ (by omega)];have hq:(6*r+4+j)/6=r:=by omega
 have hm:(6*r+4+j)%6=4+j:=by omega
 subst hf;unfold undF;simp only[hq,hm]
 match j,hj with
 | 0,_=>rfl
 | 1,_ =>rw[show 48-6*r-2+1=48-6*r-1 by omega];rfl
theorem zcp{ops:Array Oper}{rest:List Oper}{o:Oper}{a:Act}{w:World}{Q:Exit->Act->World->Prop}{g:Nat}{e:TypeId}{L:List Int}(hgd:o.guard=none)(d s:Operand)(ho:o.op=.call { callee:=.builtin .copy,args:=#[d,s],argTypes:=#[38,38] })
  (off nd cap ns cs B q:Nat) (b0 o0:Nat) (ys:List Int) (hd:a.eval d=.slice (some ⟨g,off,none⟩) nd cap) (hs:a.eval s=.slice (some ⟨b0,o0,none⟩) ns cs)
  (hb:Blk w g e L) (hq:q=min ns nd) (hfit:off+q<=L.length) (hr:RdN .i64 w B (some ⟨b0,o0,none⟩) ns ys)
  (h:∀w',Blk w' g e (spl L off (ys.take q))->w.grownBy w' (some g)->wpList Tryz.prog ops Q rest (a.put o.dst (goInt q)) w'):wpList Tryz.prog ops Q (o::rest) a w :=
 wpList_plain hgd fun _ hK=>zgE d s ho off nd cap ns cs B q b0 o0 ys hd hs hb hq hfit hr fun w' h1 h2=>hK _ _ (h w' h1 h2)
theorem zke{ops:Array Oper}{V:Nat->World->Value->Prop}{i:Nat}{a:Act}{w:World}{Q:Exit->Act->World->Prop}{o:Oper}{x0 x1 x2 x3:Operand}{n0 n1 n2 n3:Int}(hw:Region.wanted o (yielded ops a.tmps)=true)
  (hop:o.op=.build 199 #[(0,x0),(1,x1),(2,x2),(3,x3)]) (h0:a.eval x0=.int .i64 n0) (h1:a.eval x1=.int .i64 n1) (h2:a.eval x2=.int .i64 n2) (h3:a.eval x3=.int .i64 n3)
  (hV:V i w (.agg #[.int .i64 n0,.int .i64 n1,.int .i64 n2,.int .i64 n3])):Step Tryz.prog ops V Q i o a w:=by
 have e:(Instr.build 199 #[(0,.int .i64 n0),(1,.int .i64 n1),(2,.int .i64 n2),(3,.int .i64 n3)]).run Tryz.prog w=.ok (.agg #[.int .i64 n0,.int .i64 n1,.int .i64 n2,.int .i64 n3]) w:=by go_simp
 refine zai hw ?_ (Ext.refl _) hV;simp only[execOp,hop,List.map_toArray,List.map_cons,List.map_nil,h0,h1,h2,h3,Sem.run_bind,e,Sem.run_pure,Result.andThen]
def und7(G f Hz v0 v1 v2 v3:Nat)(k:Nat->Nat):List K:=[.eq (.slice (some ⟨G,f,none⟩) (52-f) (52-f)),.eq (.pointer (some ⟨G,f,none⟩)),.eq (.int .i64 (k (f):Nat)),.eq (.int .i64 (v0:Nat)),.eq (.slice (some ⟨G,f,none⟩) (52-f) (52-f)),.eq (.pointer (some ⟨G,f+1,none⟩)),.eq (.int .i64 (k (f+1):Nat)),.eq (.int .i64 (v1:Nat)),.eq (.slice (some ⟨G,f,none⟩) (52-f) (52-f)),.eq (.pointer (some ⟨G,f+2,none⟩)),.eq (.int .i64 (k (f+2):Nat)),.eq (.int .i64 (v2:Nat)),.eq (.slice (some ⟨G,f,none⟩) (52-f) (52-f)),.eq (.pointer (some ⟨G,f+3,none⟩)),.eq (.int .i64 (k (f+3):Nat)),.eq (.int .i64 (v3:Nat)),.eq (.agg (F4.mk v0 v1 v2 v3).cells),.new Hz (F4.mk 0 0 0 0).cells 199,.any]
def zlG(G r b7:Nat):List K:=[.eq (.int .i64 (6*r:Nat)),.eq (.slice (some ⟨G+1+1,6*r,none⟩) (52-6*r) (52-6*r)),.eq (.slice (some ⟨b7,0,none⟩) 4 4),.any]
def zpq(G r f:Nat):List K:=[.eq (.int .i64 (6*r:Nat)),.eq (.int .i64 (6*r+4:Nat)),.eq (.slice (some ⟨G+1+1,6*r+4,none⟩) (52-(6*r+4)) (52-(6*r+4))),.eq (.int .i64 f),.eq (.int .i64 (f-2:Nat)),.eq (.int .i64 f),.eq (.slice (some ⟨G,f-2,none⟩) 2 (52-(f-2))),.any]
theorem zd6(k:Nat->Nat)(w:World)(hl:∀i,k i<65536):
  Calls Tryz.prog 87 #[.agg (cN .i64 (tabN k 52)).toArray] w fun e w'=>e=.returned (.agg (cN .i64 (tabN (undF k) 52)).toArray)/\Ext w w':=by
 have HL:=hid hl;have a1:=Blk.alloc w 151 (tabN k 52);have x1:=Ext.alloc w (.cells (cN .i64 (tabN k 52)).toArray 151);obtain⟨W2,hW2⟩:∃W2,w.alloc (.cells (cN .i64 (tabN k 52)).toArray 151)=W2:=⟨_,rfl⟩;have z2:W2.heap.size=w.heap.size+1:=by rw[<-hW2];simp
 have a2:=Blk.alloc W2 151 (zaR (undF k) 52 0);have x2:=Ext.alloc W2 (.cells (cN .i64 (zaR (undF k) 52 0)).toArray 151);obtain⟨W3,hW3⟩:∃W3,W2.alloc (.cells (cN .i64 (zaR (undF k) 52 0)).toArray 151)=W3:=⟨_,rfl⟩;have z3:W3.heap.size=w.heap.size+1+1:=by rw[<-hW3];simp[z2]
 have a3:=Blk.alloc W3 151 (zaR (undF k) 52 0);have x3:=Ext.alloc W3 (.cells (cN .i64 (zaR (undF k) 52 0)).toArray 151);obtain⟨W4,hW4⟩:∃W4,W3.alloc (.cells (cN .i64 (zaR (undF k) 52 0)).toArray 151)=W4:=⟨_,rfl⟩;rw[hW2] at a1 x1;rw[hW3] at a2 x2;rw[hW4] at a3 x3;rw[z2] at a2;rw[z3] at a3
 have HALL:=hid (show((w.alloc (.cells (cN .i64 (tabN k 52)).toArray 151)).alloc (.cells #[.int .i64 0,.int .i64 0,.int .i64 0,.int .i64 0,.int .i64 0,.int .i64 0,.int .i64 0,.int .i64 0,.int .i64 0,.int .i64 0,.int .i64 0,.int .i64 0,.int .i64 0,.int .i64 0,.int .i64 0,.int .i64 0,.int .i64 0,.int .i64 0,.int .i64 0,.int .i64 0,.int .i64 0,.int .i64 0,.int .i64 0,.int .i64 0,.int .i64 0,.int .i64 0,.int .i64 0,.int .i64 0,.int .i64 0,.int .i64 0,.int .i64 0,.int .i64 0,.int .i64 0,.int .i64 0,.int .i64 0,.int .i64 0,.int .i64 0,.int .i64 0,.int .i64 0,.int .i64 0,.int .i64 0,.int .i64 0,.int .i64 0,.int .i64 0,.int .i64 0,.int .i64 0,.int .i64 0,.int .i64 0,.int .i64 0,.int .i64 0,.int .i64 0,.int .i64 0] 151)).alloc (.cells #[.int .i64 0,.int .i64 0,.int .i64 0,.int .i64 0,.int .i64 0,.int .i64 0,.int .i64 0,.int .i64 0,.int .i64 0,.int .i64 0,.int .i64 0,.int .i64 0,.int .i64 0,.int .i64 0,.int .i64 0,.int .i64 0,.int .i64 0,.int .i64 0,.int .i64 0,.int .i64 0,.int .i64 0,.int .i64 0,.int .i64 0,.int .i64 0,.int .i64 0,.int .i64 0,.int .i64 0,.int .i64 0,.int .i64 0,.int .i64 0,.int .i64 0,.int .i64 0,.int .i64 0,.int .i64 0,.int .i64 0,.int .i64 0,.int .i64 0,.int .i64 0,.int .i64 0,.int .i64 0,.int .i64 0,.int .i64 0,.int .i64 0,.int .i64 0,.int .i64 0,.int .i64 0,.int .i64 0,.int .i64 0,.int .i64 0,.int .i64 0,.int .i64 0,.int .i64 0] 151)=W4 by rw[<-hW4,<-hW3,<-hW2,zc2];rfl)
 have HA0:=hid (a1.later (x2.trans x3));have HR0:=hid (a2.later x3);have HV0:=hid a3;have HE0:=hid ((x1.trans x2).trans x3);clear hl a1 x1 hW2 z2 a2 x2 hW3 z3 a3 x3 hW4;go_enter Tryz.func87,Tryz.ntmps87;go_wp2_with fail
 rw[HALL.out];obtain⟨G,hG⟩:∃G,w.heap.size=G:=⟨_,rfl⟩;rw[hG] at HA0 HR0 HV0 ⊢;have HG:=hid hG;clear HALL hG;go_loopw [4] (fun i wr=>∃(r:Nat),r<=9/\i=.int .i64 (6*r:Nat)/\Blk wr G 151 (tabN k 52)/\Blk wr (G+1+1) 151 (zaR (undF k) 52 (min (6*r) 52))/\Blk wr (G+1) 151 (zaR (undF k) 52 0)/\Ext w wr) (fun i _=>60-(intOf i).toNat)
 case atStart=>exact⟨0,by omega,rfl,HA0.out,HV0.out,HR0.out,HE0.out⟩
 case round =>
  clear HA0 HR0 HV0 HE0;obtain⟨r,hr,rfl,ha,hv,hrr,he⟩:=hrel;by_cases hlt:r<=8
  ·obtain⟨f,hf⟩:∃f,f=48-6*r:=⟨_,rfl⟩;have hfi:(48:Int)-6*(r:Int)=(f:Int):=by omega
   have hwf:IntKind.i64.wrap ((48:Int)-6*(r:Int))=(f:Int):=by rw[wrap_i64 (by omega) (by omega)];exact hfi
   have h52:6*(r:Int)<52:=by omega
   have HSL:=hid (fun w=>zeN G f w (by omega));have HKA:=hid (ha.kat);have HN:=hid (show ¬52-f=0/\(1:Int)<((52-f:Nat):Int)/\(2:Int)<((52-f:Nat):Int)/\(3:Int)<((52-f:Nat):Int) from⟨by omega,by omega,by omega,by omega⟩);obtain⟨Hz,hHz⟩:∃Hz,wr.heap.size=Hz:=⟨_,rfl⟩;have HZ:=hid hHz;have hGz:G+1+1<Hz:=by have:=hv.lt;omega
   rw[show min (6*r) 52=6*r by omega] at hv;have HA:=hid ha;have HV:=hid hv;have HRR:=hid hrr;have HE:=hid he;have HF:=hid hf;have HFI:=hid hfi;have hfb:f<=48:=by omega
   clear ha hv hrr he hHz hfi hf;go_wp2_with (rw[HSL.out];simp only[Result.andThen];rw[Oper.upon_value])
   obtain⟨v0,hv0⟩:∃v,invF (k f)=v:=⟨_,rfl⟩;obtain⟨v1,hv1⟩:∃v,negF (k (f+1))=v:=⟨_,rfl⟩;obtain⟨v2,hv2⟩:∃v,negF (k (f+2))=v:=⟨_,rfl⟩;obtain⟨v3,hv3⟩:∃v,invF (k (f+3))=v:=⟨_,rfl⟩;have C0:=hid (fun w=>show Calls Tryz.prog 126 #[.int .i64 (k f:Nat)] w fun e w'=>e=.returned (.int .i64 (v0:Nat))/\w=w' by rw[<-hv0];exact zh3 _ _ (HL.out _));have C1:=hid (fun w=>show Calls Tryz.prog 127 #[.int .i64 (k (f+1):Nat)] w fun e w'=>e=.returned (.int .i64 (v1:Nat))/\w=w' by rw[<-hv1];exact ziB _ _ (HL.out _));have C2:=hid (fun w=>show Calls Tryz.prog 127 #[.int .i64 (k (f+2):Nat)] w fun e w'=>e=.returned (.int .i64 (v2:Nat))/\w=w' by rw[<-hv2];exact ziB _ _ (HL.out _));have C3:=hid (fun w=>show Calls Tryz.prog 126 #[.int .i64 (k (f+3):Nat)] w fun e w'=>e=.returned (.int .i64 (v3:Nat))/\w=w' by rw[<-hv3];exact zh3 _ _ (HL.out _))
   have HUU:=hid (show undU k f=(F4.mk v0 v1 v2 v3) by unfold undU;rw[hv0,hv1,hv2,hv3]);clear hv0 hv1 hv2 hv3;go_wp2_with fail
   refine zaD 18 (und7 G f Hz v0 v1 v2 v3 k) (zab ⟨fun _ _ h=>h.mv,?_,?_,?_,fun _ _ h=>h.mv,?_,?_,?_,fun _ _ h=>h.mv,?_,?_,?_,fun _ _ h=>h.mv,?_,?_,?_,?_,?_,trivial⟩) ?_
   ·intro a w hk;have s16:=hk.eq_ 0 16;refine za ?_;obtain⟨hn0,hn1,hn2,hn3⟩:=HN.out;go_simp
   ·intro a w hk;have s17:=hk.eq_ 1 17;refine za ?_;have hc:=(HKA.out.later hk.ext).2 (f) (by omega);rw[Nat.zero_add] at hc;go_simp
   ·exact fun _ w h=>h.call cf15 (C0.out w) (fun e w1 h=>retE e w1 h)
   ·intro a w hk;have s20:=hk.eq_ 4 20;refine za ?_;obtain⟨hn0,hn1,hn2,hn3⟩:=HN.out;go_simp
   ·intro a w hk;have s21:=hk.eq_ 5 21;refine za ?_;have hc:=(HKA.out.later hk.ext).2 (f+1) (by omega);rw[Nat.zero_add] at hc;go_simp
   ·exact fun _ w h=>h.call cf29 (C1.out w) (fun e w1 h=>retE e w1 h)
   ·intro a w hk;have s24:=hk.eq_ 8 24;refine za ?_;obtain⟨hn0,hn1,hn2,hn3⟩:=HN.out;go_simp
   ·intro a w hk;have s25:=hk.eq_ 9 25;refine za ?_;have hc:=(HKA.out.later hk.ext).2 (f+2) (by omega);rw[Nat.zero_add] at hc;go_simp
   ·exact fun _ w h=>h.call cf29 (C2.out w) (fun e w1 h=>retE e w1 h)
   ·intro a w hk;have s28:=hk.eq_ 12 28;refine za ?_;obtain⟨hn0,hn1,hn2,hn3⟩:=HN.out;go_simp
   ·intro a w hk;have s29:=hk.eq_ 13 29;refine za ?_;have hc:=(HKA.out.later hk.ext).2 (f+3) (by omega);rw[Nat.zero_add] at hc;go_simp
   ·exact fun _ w h=>h.call cf15 (C3.out w) (fun e w1 h=>retE e w1 h)
   ·intro a w hk;have s19:=hk.eq_ 3 19;have s23:=hk.eq_ 7 23;have s27:=hk.eq_ 11 27;have s31:=hk.eq_ 15 31;exact zke rfl rfl s19 s23 s27 s31 rfl
   ·intro a w hk;refine zai (v:=.pointer (some ⟨w.heap.size,0,none⟩)) (w':=w.alloc (.cells (F4.mk 0 0 0 0).cells 199)) rfl ?_ (Ext.alloc _ _) ⟨w.heap.size,rfl,by have:=HZ.out;have:=Below.size hk.ext;omega,heap_alloc_new w _⟩;go_simp;rfl
   ·intro a w1 hf;obtain⟨b7,s7,h7,g7⟩:=hf.val 17 7;have hx:=hf.ext;have e:=hf.fr;clear hf;simp only[List.take_succ_cons,List.take_zero,und7,frV,kPut,Act.put,List.setIfInBounds_toArray,List.set_cons_zero,List.set_cons_succ,s7] at e;clear s7;subst e;simp only[List.drop_succ_cons,List.drop_zero];have HG7:=hid g7;have ha1:=HA.out.later hx;have hv1:=HV.out.later hx;have hr1:=HRR.out.later hx;have he1:=HE.out.trans hx;have hu1:B4 w1 b7 ⟨0,0,0,0⟩:=g7;obtain⟨W2,hW2⟩:∃W2,w1.setRow b7 (F4.mk v0 v1 v2 v3).cells=W2:=⟨_,rfl⟩;have HU2:=hid (show B4 W2 b7 (F4.mk v0 v1 v2 v3) by rw[<-hW2];exact hu1.put _);have HA2:=hid (show Blk W2 G 151 (tabN k 52) by rw[<-hW2];exact ha1.putne _ _ (by omega));have HV2:=hid (show Blk W2 (G+1+1) 151 (zaR (undF k) 52 (6*r)) by rw[<-hW2];exact hv1.putne _ _ (by omega))
    have HRR2:=hid (show Blk W2 (G+1) 151 (zaR (undF k) 52 0) by rw[<-hW2];exact hr1.putne _ _ (by omega));have HE2:=hid (show Ext w W2 by rw[<-hW2];exact Below.setRow_ he1 (by have:=HG.out;omega) _);have HW2:=hid hW2;clear ha1 hv1 hr1 he1 hu1 g7 hx hW2;have hcond:r=0\/(0<r/\r<8)\/r=8:=by omega
    rcases hcond with hr0|hrm|hr8
    ·have hd1:decide (0<6*(r:Int))=false:=by simp;omega
     have hd2:¬(0<6*(r:Int)):=by omega
     have hd3:(0:Int)<(f:Int):=by have:=HF.out;omega
     have HF1:=hid (zfO k r f hlt HF.out (F4.mk v0 v1 v2 v3) (by rw[if_neg (by omega),HUU.out]));have HF2:=hid (zha k r f (by omega) HF.out);have hf2:2<=f:=by have:=HF.out;omega
     have hrl:r<8:=by omega
     clear hr0;go_wp2_with (refine wpList_store_row rfl 199 (.tmp 7) (.tmp 32) rfl b7 (F4.mk v0 v1 v2 v3).cells rfl rfl 199 _ HG7.out (F4.size _) rfl (F4.all _) ?_)
     rw[HW2.out];refine zaD 3 (zlG G r b7) (zab ⟨fun _ _ h=>h.mv,?_,?_,trivial⟩) ?_
     ·intro a w hk;have s3:a.tmps.getD 3 undef=.pointer (some ⟨G+1+1,0,none⟩):=hk.was 3;have s45:=hk.eq_ 0 45;refine za ?_;have e:=zeN (G+1+1) (6*r) w (by omega);simp only[execOp,Act.eval,Option.map_some,Option.map_none,s3,s45,Sem.run_bind,e,Sem.run_pure,Result.andThen]
     ·intro a w hk;have s7:a.tmps.getD 7 undef=.pointer (some ⟨b7,0,none⟩):=hk.was 7;refine za ?_;have e:=zfZ b7 w;simp only[execOp,Act.eval,Option.map_none,s7,Sem.run_bind,e,Sem.run_pure,Result.andThen]
     ·intro a w1 hf;have hx:=hf.ext;have e:=hf.fr;clear hf;simp only[List.take_succ_cons,List.take_zero,zlG,frV,kPut,Act.put,List.setIfInBounds_toArray,List.set_cons_zero,List.set_cons_succ] at e;subst e;simp only[List.drop_succ_cons,List.drop_zero];have hv1:=HV2.out.later hx;have hu1:=B4.later HU2.out hx;have ha1:=HA2.out.later hx;have hr1:=HRR2.out.later hx;have he1:=HE2.out.trans hx;clear hx;refine zcp rfl (.tmp 46) (.tmp 47) rfl (6*r) (52-6*r) (52-6*r) 4 4 _ 4 b7 0 _ rfl rfl hv1 (by omega) (by rw[zax];omega) (Blk.rd hu1 0 4 (by simp[F4.list])) ?_;intro w5 hb5 hg5;rw[HF1.out] at hb5;have HV5:=hid hb5;have HA5:=hid (ha1.grown hg5 (by omega));have HR5:=hid (hr1.grown hg5 (by omega));have HE5:=hid (he1.below hg5 (by have:=HG.out;omega));clear hv1 hu1 ha1 hr1 he1 hb5 hg5 HV2 HU2 HA2 HRR2 HE2;go_wp2_with fail
      refine zaD 7 (zpq G r f) (zab ⟨fun _ _ h=>h.mv,?_,?_,fun _ _ h=>h.mv,?_,fun _ _ h=>h.mv,?_,trivial⟩) ?_
      ·intro a w hk;have s51:=hk.eq_ 0 51;refine za ?_;go_simp;exact wrap_i64 (by omega) (by omega)
      ·intro a w hk;have s3:a.tmps.getD 3 undef=.pointer (some ⟨G+1+1,0,none⟩):=hk.was 3;have s52:=hk.eq_ 1 52;refine za ?_;have e:=zeN (G+1+1) (6*r+4) w (by omega);simp only[execOp,Act.eval,Option.map_some,Option.map_none,s3,s52,Sem.run_bind,e,Sem.run_pure,Result.andThen]
      ·intro a w hk;have s54:=hk.eq_ 3 54;refine za ?_;have e2:IntKind.i64.wrap ((f:Int)-2)=((f-2:Nat):Int):=by rw[wrap_i64 (by omega) (by omega)];omega
       go_simp
      ·intro a w hk;have s1:a.tmps.getD 1 undef=.pointer (some ⟨G,0,none⟩):=hk.was 1;have s55:=hk.eq_ 4 55;have s56:=hk.eq_ 5 56;refine za ?_;have e:=zkC G (f-2) f w (by omega) (by omega) (by omega);rw[show f-(f-2)=2 by omega] at e;simp only[execOp,Act.eval,Option.map_some,Option.map_none,s1,s55,s56,Sem.run_bind,e,Sem.run_pure,Result.andThen]
      ·intro a w1 hf;have hx:=hf.ext;have e:=hf.fr;clear hf;simp only[List.take_succ_cons,List.take_zero,zpq,frV,kPut,Act.put,List.setIfInBounds_toArray,List.set_cons_zero,List.set_cons_succ] at e;subst e;simp only[List.drop_succ_cons,List.drop_zero];have hv1:=HV5.out.later hx;have ha1:=HA5.out.later hx;have hr1:=HR5.out.later hx;have he1:=HE5.out.trans hx;clear hx;refine zcp rfl (.tmp 53) (.tmp 57) rfl (6*r+4) (52-(6*r+4)) (52-(6*r+4)) 2 (52-(f-2)) _ 2 G (f-2) _ rfl rfl hv1 (by omega) (by rw[zax];omega) (ha1.rd (f-2) 2 (by rw[zav];omega)) ?_;intro w6 hb6 hg6;rw[HF2.out] at hb6;have HV6:=hid hb6;have HA6:=hid (ha1.grown hg6 (by omega));have HR6:=hid (hr1.grown hg6 (by omega));have HE6:=hid (he1.below hg6 (by have:=HG.out;omega));clear hv1 ha1 hr1 he1 hb6 hg6 HV5 HA5 HR5 HE5;go_wp2_with fail
       go_roundw
       case rel=>exact⟨r+1,by omega,by rw[show((6*(r+1):Nat):Int)=6*(r:Int)+6 by omega],HA6.out,by rw[show min (6*(r+1)) 52=6*r+6 by omega];exact HV6.out,HR6.out,HE6.out⟩
       case measure=>simp[intOf];omega
    ·have hd1:(0:Int)<6*(r:Int):=by omega
     have hd3:(0:Int)<(f:Int):=by have:=HF.out;omega
     have HF1:=hid (zfO k r f hlt HF.out ⟨v0,v2,v1,v3⟩ (by rw[if_pos hrm,HUU.out];rfl));have HF2:=hid (zha k r f (by omega) HF.out);have hfl:2<=f:=by have:=HF.out;omega
     have hrl:r<8:=by omega
     have hu2:=HU2.out;have hcb:=B4.cb hu2;have hcc:=B4.cc hu2;have hf1:=Blk.frozen hu2 1;have hf2:=Blk.frozen hu2 2;have hsw:=Blk.set_ (Blk.set_ hu2 1 (v2:Nat)) 2 (v1:Nat);have ha3:=Blk.setne (Blk.setne HA2.out ⟨b7,1,none⟩ (.int .i64 (v2:Nat)) (by simp;omega)) ⟨b7,2,none⟩ (.int .i64 (v1:Nat)) (by simp;omega);have hv3:=Blk.setne (Blk.setne HV2.out ⟨b7,1,none⟩ (.int .i64 (v2:Nat)) (by simp;omega)) ⟨b7,2,none⟩ (.int .i64 (v1:Nat)) (by simp;omega);have hr3:=Blk.setne (Blk.setne HRR2.out ⟨b7,1,none⟩ (.int .i64 (v2:Nat)) (by simp;omega)) ⟨b7,2,none⟩ (.int .i64 (v1:Nat)) (by simp;omega);have he3:=Below.setCell (Below.setCell HE2.out (p:=⟨b7,1,none⟩) (by have:=HG.out;simp;omega) (.int .i64 (v2:Nat))) (p:=⟨b7,2,none⟩) (by have:=HG.out;simp;omega) (.int .i64 (v1:Nat));have HSW:=hid hsw;have HA3:=hid ha3;have HV3:=hid hv3;have HR3:=hid hr3;have HE3:=hid he3;clear hsw ha3 hv3 hr3 he3 hu2 hrm
     go_wp2_with (refine wpList_store_row rfl 199 (.tmp 7) (.tmp 32) rfl b7 (F4.mk v0 v1 v2 v3).cells rfl rfl 199 _ HG7.out (F4.size _) rfl (F4.all _) ?_;rw[HW2.out])
     obtain⟨W3,hW3⟩:∃W3,(W2.setCell ⟨b7,1,none⟩ (.int .i64 (v2:Nat))).setCell ⟨b7,2,none⟩ (.int .i64 (v1:Nat))=W3:=⟨_,rfl⟩;rw[hW3] at HSW HA3 HV3 HR3 HE3 ⊢;have HU2:=hid (show B4 W3 b7 ⟨v0,v2,v1,v3⟩ from HSW.out);have HA2:=HA3;have HV2:=HV3;have HRR2:=HR3;have HE2:=hid (show Ext w W3 from HE3.out);clear hW3 HSW HA3 HV3 HR3 HE3 hcb hcc hf1 hf2;refine zaD 3 (zlG G r b7) (zab ⟨fun _ _ h=>h.mv,?_,?_,trivial⟩) ?_
     ·intro a w hk;have s3:a.tmps.getD 3 undef=.pointer (some ⟨G+1+1,0,none⟩):=hk.was 3;have s45:=hk.eq_ 0 45;refine za ?_;have e:=zeN (G+1+1) (6*r) w (by omega);simp only[execOp,Act.eval,Option.map_some,Option.map_none,s3,s45,Sem.run_bind,e,Sem.run_pure,Result.andThen]
     ·intro a w hk;have s7:a.tmps.getD 7 undef=.pointer (some ⟨b7,0,none⟩):=hk.was 7;refine za ?_;have e:=zfZ b7 w;simp only[execOp,Act.eval,Option.map_none,s7,Sem.run_bind,e,Sem.run_pure,Result.andThen]
     ·intro a w1 hf;have hx:=hf.ext;have e:=hf.fr;clear hf;simp only[List.take_succ_cons,List.take_zero,zlG,frV,kPut,Act.put,List.setIfInBounds_toArray,List.set_cons_zero,List.set_cons_succ] at e;subst e;simp only[List.drop_succ_cons,List.drop_zero];have hv1:=HV2.out.later hx;have hu1:=B4.later HU2.out hx;have ha1:=HA2.out.later hx;have hr1:=HRR2.out.later hx;have he1:=HE2.out.trans hx;clear hx;refine zcp rfl (.tmp 46) (.tmp 47) rfl (6*r) (52-6*r) (52-6*r) 4 4 _ 4 b7 0 _ rfl rfl hv1 (by omega) (by rw[zax];omega) (Blk.rd hu1 0 4 (by simp[F4.list])) ?_;intro w5 hb5 hg5;rw[HF1.out] at hb5;have HV5:=hid hb5;have HA5:=hid (ha1.grown hg5 (by omega));have HR5:=hid (hr1.grown hg5 (by omega));have HE5:=hid (he1.below hg5 (by have:=HG.out;omega));clear hv1 hu1 ha1 hr1 he1 hb5 hg5 HV2 HU2 HA2 HRR2 HE2;go_wp2_with fail
      refine zaD 7 (zpq G r f) (zab ⟨fun _ _ h=>h.mv,?_,?_,fun _ _ h=>h.mv,?_,fun _ _ h=>h.mv,?_,trivial⟩) ?_
      ·intro a w hk;have s51:=hk.eq_ 0 51;refine za ?_;go_simp;exact wrap_i64 (by omega) (by omega)
      ·intro a w hk;have s3:a.tmps.getD 3 undef=.pointer (some ⟨G+1+1,0,none⟩):=hk.was 3;have s52:=hk.eq_ 1 52;refine za ?_;have e:=zeN (G+1+1) (6*r+4) w (by omega);simp only[execOp,Act.eval,Option.map_some,Option.map_none,s3,s52,Sem.run_bind,e,Sem.run_pure,Result.andThen]
      ·intro a w hk;have s54:=hk.eq_ 3 54;refine za ?_;have e2:IntKind.i64.wrap ((f:Int)-2)=((f-2:Nat):Int):=by rw[wrap_i64 (by omega) (by omega)];omega
       go_simp
      ·intro a w hk;have s1:a.tmps.getD 1 undef=.pointer (some ⟨G,0,none⟩):=hk.was 1;have s55:=hk.eq_ 4 55;have s56:=hk.eq_ 5 56;refine za ?_;have e:=zkC G (f-2) f w (by omega) (by omega) (by omega);rw[show f-(f-2)=2 by omega] at e;simp only[execOp,Act.eval,Option.map_some,Option.map_none,s1,s55,s56,Sem.run_bind,e,Sem.run_pure,Result.andThen]
      ·intro a w1 hf;have hx:=hf.ext;have e:=hf.fr;clear hf;simp only[List.take_succ_cons,List.take_zero,zpq,frV,kPut,Act.put,List.setIfInBounds_toArray,List.set_cons_zero,List.set_cons_succ] at e;subst e;simp only[List.drop_succ_cons,List.drop_zero];have hv1:=HV5.out.later hx;have ha1:=HA5.out.later hx;have hr1:=HR5.out.later hx;have he1:=HE5.out.trans hx;clear hx;refine zcp rfl (.tmp 53) (.tmp 57) rfl (6*r+4) (52-(6*r+4)) (52-(6*r+4)) 2 (52-(f-2)) _ 2 G (f-2) _ rfl rfl hv1 (by omega) (by rw[zax];omega) (ha1.rd (f-2) 2 (by rw[zav];omega)) ?_;intro w6 hb6 hg6;rw[HF2.out] at hb6;have HV6:=hid hb6;have HA6:=hid (ha1.grown hg6 (by omega));have HR6:=hid (hr1.grown hg6 (by omega));have HE6:=hid (he1.below hg6 (by have:=HG.out;omega));clear hv1 ha1 hr1 he1 hb6 hg6 HV5 HA5 HR5 HE5;go_wp2_with fail
       go_roundw
       case rel=>exact⟨r+1,by omega,by rw[show((6*(r+1):Nat):Int)=6*(r:Int)+6 by omega],HA6.out,by rw[show min (6*(r+1)) 52=6*r+6 by omega];exact HV6.out,HR6.out,HE6.out⟩
       case measure=>simp[intOf];omega
    ·have hd1:(0:Int)<6*(r:Int):=by omega
     have hd2:decide ((0:Int)<(f:Int))=false:=by have:=HF.out;simp;omega
     have hd3:¬((0:Int)<(f:Int)):=by have:=HF.out;omega
     have HF1:=hid (zfO k r f hlt HF.out (F4.mk v0 v1 v2 v3) (by rw[if_neg (by omega),HUU.out]));have hre:8<=r:=by omega
     clear hr8;go_wp2_with (refine wpList_store_row rfl 199 (.tmp 7) (.tmp 32) rfl b7 (F4.mk v0 v1 v2 v3).cells rfl rfl 199 _ HG7.out (F4.size _) rfl (F4.all _) ?_)
     rw[HW2.out];refine zaD 3 (zlG G r b7) (zab ⟨fun _ _ h=>h.mv,?_,?_,trivial⟩) ?_
     ·intro a w hk;have s3:a.tmps.getD 3 undef=.pointer (some ⟨G+1+1,0,none⟩):=hk.was 3;have s45:=hk.eq_ 0 45;refine za ?_;have e:=zeN (G+1+1) (6*r) w (by omega);simp only[execOp,Act.eval,Option.map_some,Option.map_none,s3,s45,Sem.run_bind,e,Sem.run_pure,Result.andThen]
     ·intro a w hk;have s7:a.tmps.getD 7 undef=.pointer (some ⟨b7,0,none⟩):=hk.was 7;refine za ?_;have e:=zfZ b7 w;simp only[execOp,Act.eval,Option.map_none,s7,Sem.run_bind,e,Sem.run_pure,Result.andThen]
     ·intro a w1 hf;have hx:=hf.ext;have e:=hf.fr;clear hf;simp only[List.take_succ_cons,List.take_zero,zlG,frV,kPut,Act.put,List.setIfInBounds_toArray,List.set_cons_zero,List.set_cons_succ] at e;subst e;simp only[List.drop_succ_cons,List.drop_zero];have hv1:=HV2.out.later hx;have hu1:=B4.later HU2.out hx;have ha1:=HA2.out.later hx;have hr1:=HRR2.out.later hx;have he1:=HE2.out.trans hx;clear hx;refine zcp rfl (.tmp 46) (.tmp 47) rfl (6*r) (52-6*r) (52-6*r) 4 4 _ 4 b7 0 _ rfl rfl hv1 (by omega) (by rw[zax];omega) (Blk.rd hu1 0 4 (by simp[F4.list])) ?_;intro w5 hb5 hg5;rw[HF1.out] at hb5;have HV5:=hid hb5;have HA5:=hid (ha1.grown hg5 (by omega));have HR5:=hid (hr1.grown hg5 (by omega));have HE5:=hid (he1.below hg5 (by have:=HG.out;omega));clear hv1 hu1 ha1 hr1 he1 hb5 hg5 HV2 HU2 HA2 HRR2 HE2;go_wp2_with fail
      go_roundw
      case rel=>exact⟨r+1,by omega,by rw[show((6*(r+1):Nat):Int)=6*(r:Int)+6 by omega],HA5.out,by rw[show min (6*(r+1)) 52=6*r+4 by omega];exact HV5.out,HR5.out,HE5.out⟩
      case measure=>simp[intOf];omega
  ·obtain rfl:r=9:=by omega
   rw[show min (6*9) 52=52 from rfl,zc6] at hv;have h53:=zql (tabN (undF k) 52) (zav _ _);have hss:=sizes (zaR (undF k) 52 0) (tabN (undF k) 52) (by rw[zax,zav]);have HV:=hid hv;have HRR:=hid hrr;have HR2:=hid (hrr.put (tabN (undF k) 52));have HE2:=hid (Below.setRow_ he (g:=G+1) (by have:=HG.out;omega) (cN .i64 (tabN (undF k) 52)).toArray);have HS53:=hid (And.intro h53 hss);clear ha hv hrr he h53 hss;go_wp2_with (first
    | (refine wpList_load_row rfl 151 (.tmp 3) rfl (G+1+1) rfl 151 (cN .i64 (tabN (undF k) 52)).toArray (0,0) _ HV.out Tryz.underlying151 rfl HS53.out.1 ?_)
    | (refine wpList_store_row rfl 151 (.tmp 2) (.tmp 59) rfl (G+1) (cN .i64 (tabN (undF k) 52)).toArray rfl rfl 151 _ HRR.out HS53.out.1 HS53.out.2 (zgY _) ?_))
   refine zaU rfl rfl (G+1) 151 _ (0,0) rfl HR2.out Tryz.underlying151 HS53.out.1 ⟨rfl,HE2.out⟩
theorem zsw(k l:Nat->Nat)(w:World):(Instr.build 154 #[(0,.agg (cN .i64 (tabN k 52)).toArray),(1,.agg (cN .i64 (tabN l 52)).toArray)]).run Tryz.prog w=.ok (.agg (cN .i64 (tabN k 52++tabN l 52)).toArray) w:=by kernel_rfl
theorem s53(k:Nat->Nat):(Tryz.prog.info? 151).map (·.size)=some (cN .i64 (tabN k 52)).toArray.size:=zql _ (zav _ _)
theorem zfN{o:Oper}{a:Act}{w:World}{t:Tmp}{B:Nat}{e:TypeId}{k:Nat->Nat}(ho:o.op=.load 151 (.tmp t))(ht:a.tmps.getD t undef=.pointer (some ⟨B,0,none⟩))(hA:Blk w B e (tabN k 52)):
  (execOp a.eval o).run Tryz.prog w=.ok (.value (.agg (cN .i64 (tabN k 52)).toArray)) w:=by
 have h:=run_loadVar_row (P:=Tryz.prog) w B e 151 (cN .i64 (tabN k 52)).toArray (0,0) _ hA Tryz.underlying151 rfl (s53 k);unfold execOp;simp only[ho,Act.eval,ht,Instr.loadAt,Instr.sureAddr,Sem.run_bind,Sem.run_pure,Result.andThen_ok,h]
def IsIdea(w:World)(p:Nat)(k:Nat->Nat):Prop:=Blk w p 154 (tabN k 52++tabN (undF k) 52)
theorem IsIdea.later{w w':World}{p:Nat}{k:Nat->Nat}(h:IsIdea w p k)(hx:Ext w w'):IsIdea w' p k:=Blk.later h hx
def zb0(w:World)(key:List UInt8)(e:Ending)(w':World):Prop :=
 ∃p,e=.returned (.tuple #[.pointer (some ⟨p,0,none⟩),.int .i64 0])/\IsIdea w' p (keyF key)/\Ext w w'
def znu(Hz:Nat)(k:Nat->Nat):List K:=[.eq (.agg (cN .i64 (tabN k 52)).toArray),.eq (.agg (cN .i64 (tabN k 52)).toArray),.eq (.agg (cN .i64 (tabN (undF k) 52)).toArray),.eq (.agg (cN .i64 (tabN k 52++tabN (undF k) 52)).toArray),.new Hz (cN .i64 (tabN k 52++tabN (undF k) 52)).toArray 154,.new Hz (cN .i64 (tabN k 52++tabN (undF k) 52)).toArray 154,.eq (Value.int IntKind.i64 0)]
theorem zb8(A:Option Addr)(c:Nat)(key:List UInt8)(w:World)(h:Rd w w.heap.size A 16 key):
  Calls Tryz.prog 57 #[.slice A 16 c] w (zb0 w key):=by
 have HR:=hid h;have HL:=hid (zjI key);clear h;go_enter Tryz.func57,Tryz.ntmps57;go_wp2_with fail
 refine(zcv A c key _ HR.out).mono ?_;obtain⟨k,hk⟩:∃k,keyF key=k:=⟨_,rfl⟩;rintro e w1 ⟨g,rfl,hg,hb,hx⟩;rw[hk] at HL hb;have HKK:=hid hk;clear hk;have HG:=hid hb;have HX1:=hid hx;have HAT:=hid (fun w=>run_arrayAt (P:=Tryz.prog) w 151 3 52 (some ⟨g,0,none⟩) 52 52 Tryz.underlying151 (Nat.le_refl _));have HS:=hid (s53 k);clear hb hx hg;go_wp2_with (first
  | (rw[HAT.out];simp only[Result.andThen];rw[Oper.upon_value])
  | (refine wpList_load_row rfl 151 (.tmp 16) rfl g rfl 3 (cN .i64 (tabN k 52)).toArray (0,0) _ HG.out Tryz.underlying151 rfl HS.out ?_)
  | (refine wpList_store_row rfl 151 (.tmp 6) (.tmp 17) rfl w1.heap.size (cN .i64 (tabN k 52)).toArray rfl rfl 151 _ (heap_alloc_new _ _) HS.out (by rw[zd5,zav];rfl) (zgY _) ?_))
 obtain⟨W2,hW2⟩:∃W2,(w1.alloc (.cells #[.int .i64 0,.int .i64 0,.int .i64 0,.int .i64 0,.int .i64 0,.int .i64 0,.int .i64 0,.int .i64 0,.int .i64 0,.int .i64 0,.int .i64 0,.int .i64 0,.int .i64 0,.int .i64 0,.int .i64 0,.int .i64 0,.int .i64 0,.int .i64 0,.int .i64 0,.int .i64 0,.int .i64 0,.int .i64 0,.int .i64 0,.int .i64 0,.int .i64 0,.int .i64 0,.int .i64 0,.int .i64 0,.int .i64 0,.int .i64 0,.int .i64 0,.int .i64 0,.int .i64 0,.int .i64 0,.int .i64 0,.int .i64 0,.int .i64 0,.int .i64 0,.int .i64 0,.int .i64 0,.int .i64 0,.int .i64 0,.int .i64 0,.int .i64 0,.int .i64 0,.int .i64 0,.int .i64 0,.int .i64 0,.int .i64 0,.int .i64 0,.int .i64 0,.int .i64 0] 151)).setRow w1.heap.size (cN .i64 (tabN k 52)).toArray=W2:=⟨_,rfl⟩
 have hb2:Blk W2 w1.heap.size 151 (tabN k 52):=by rw[<-hW2];exact setRow_heap _ _ _ _ _ _ (heap_alloc_new w1 (.cells #[.int .i64 0,.int .i64 0,.int .i64 0,.int .i64 0,.int .i64 0,.int .i64 0,.int .i64 0,.int .i64 0,.int .i64 0,.int .i64 0,.int .i64 0,.int .i64 0,.int .i64 0,.int .i64 0,.int .i64 0,.int .i64 0,.int .i64 0,.int .i64 0,.int .i64 0,.int .i64 0,.int .i64 0,.int .i64 0,.int .i64 0,.int .i64 0,.int .i64 0,.int .i64 0,.int .i64 0,.int .i64 0,.int .i64 0,.int .i64 0,.int .i64 0,.int .i64 0,.int .i64 0,.int .i64 0,.int .i64 0,.int .i64 0,.int .i64 0,.int .i64 0,.int .i64 0,.int .i64 0,.int .i64 0,.int .i64 0,.int .i64 0,.int .i64 0,.int .i64 0,.int .i64 0,.int .i64 0,.int .i64 0,.int .i64 0,.int .i64 0,.int .i64 0,.int .i64 0] 151))
 have hx2:Ext w W2:=by rw[<-hW2];exact Below.setRow_ (HX1.out.trans (Ext.alloc _ _)) (by have:=Below.size HX1.out;omega) _
 rw[hW2];obtain⟨g6,hg6⟩:∃g,w1.heap.size=g:=⟨_,rfl⟩;rw[hg6] at hb2 ⊢;obtain⟨Hz,hHz⟩:∃Hz,W2.heap.size=Hz:=⟨_,rfl⟩;have HB:=hid hb2;have HX2:=hid hx2;have HZ:=hid hHz;clear hb2 hx2 hW2 hg6 hHz HX1 HG HR;refine zdj (znu Hz k) (zab ⟨?_,?_,?_,?_,?_,?_,?_,trivial⟩) ?_
 ·intro a w hk;have s6:a.tmps.getD 6 undef=.pointer (some ⟨g6,0,none⟩):=hk.was 6;refine za ?_;exact zfN rfl s6 (HB.out.later hk.ext)
 ·intro a w hk;have s6:a.tmps.getD 6 undef=.pointer (some ⟨g6,0,none⟩):=hk.was 6;refine za ?_;exact zfN rfl s6 (HB.out.later hk.ext)
 ·exact fun _ w h=>h.call cf25 (zd6 k w HL.out) (fun e w1 h=>retX e w1 h)
 ·intro a w hk;have s18:=hk.eq_ 0 18;have s20:=hk.eq_ 2 20;refine za ?_;have e:=zsw k (undF k) w;simp only[execOp,Act.eval,List.map_toArray,List.map_cons,List.map_nil,s18,s20,Sem.run_bind,e,Sem.run_pure,Result.andThen]
 ·intro a w hk;have s21:=hk.eq_ 3 21;refine zai (v:=.pointer (some ⟨w.heap.size,0,none⟩)) (w':=w.alloc (.cells (cN .i64 (tabN k 52++tabN (undF k) 52)).toArray 154)) rfl ?_ (Ext.alloc _ _) ⟨w.heap.size,rfl,by have:=HZ.out;have:=Below.size hk.ext;omega,heap_alloc_new w _⟩;go_simp
 ·intro a w hk;obtain⟨b22,s22,h22,g22⟩:=hk.val 4 22;exact zaM rfl rfl s22 ⟨_,rfl,h22,g22⟩
 ·intro a w hk;exact zaM rfl rfl rfl rfl
 ·intro a w1 hf;obtain⟨b22,s22,h22,g22⟩:=hf.val 4 22;obtain⟨b2,s2,h2,g2⟩:=hf.val 5 2;have hx:=hf.ext;have e:=hf.fr;clear hf;simp only[znu,frV,kPut,Act.put,List.setIfInBounds_toArray,List.set_cons_zero,List.set_cons_succ,s22,s2] at e;clear s22 s2;subst e;have HH:=hid (show IsIdea w1 b2 k/\Ext w w1 from⟨g2,HX2.out.trans hx⟩);clear g22 g2 hx;go_wp2_with fail
  go_ret2;exact⟨b2,rfl,by rw[HKK.out];exact HH.out.1,HH.out.2⟩
theorem zfo{o:Oper}{a:Act}{w:World}{t:Tmp}{B:Nat}{e:TypeId}{x:F4}(ho:o.op=.load 199 (.tmp t))(ht:a.tmps.getD t undef=.pointer (some ⟨B,0,none⟩))(hA:w.heap[B]? = some (.cells x.cells e (0,0))):
  (execOp a.eval o).run Tryz.prog w=.ok (.value (.agg x.cells)) w:=by
 have h:=run_loadVar_row (P:=Tryz.prog) w B e 199 x.cells (0,0) _ hA Tryz.underlying199 rfl (F4.size x);unfold execOp;simp only[ho,Act.eval,ht,Instr.loadAt,Instr.sureAddr,Sem.run_bind,Sem.run_pure,Result.andThen_ok,h]
theorem zhp(w:World)(o:Obj):(w.alloc o).heap.size=w.heap.size+1:=by simp
def F4.nth(x:F4)(j:Nat):Nat:=match j with
 | 0=>x.a
 | 1=>x.b
 | 2=>x.c
 | _=>x.d
theorem zqw{x:F4}(h:x.ok)(j:Nat):x.nth j<65536:=by
 unfold F4.nth;split
 ·exact h.a
 ·exact h.b
 ·exact h.c
 ·exact h.d
def outK(x:F4):Nat->List UInt8
 | 0=>[]
 | j+1=>outK x j++two (x.nth j)
theorem zee(x:F4):∀j,(outK x j).length=2*j
 | 0=>rfl
 | j+1=>by rw[outK,List.length_append,zee x j];rfl
theorem zfE(x:F4)(j:Nat)(w:World)(h:j<4):(Instr.index 199 (.agg x.cells) (.int .i64 (j:Nat))).run Tryz.prog w=.ok (.int .i64 (x.nth j:Nat)) w:=by
 match j,h with
 | 0,_=>exact(show(Instr.index 199 (.agg x.cells) (.int .i64 ((0:Nat):Int))).run Tryz.prog w=.ok (.int .i64 (x.a:Nat)) w by kernel_rfl)
 | 1,_=>exact(show(Instr.index 199 (.agg x.cells) (.int .i64 ((1:Nat):Int))).run Tryz.prog w=.ok (.int .i64 (x.b:Nat)) w by kernel_rfl)
 | 2,_=>exact(show(Instr.index 199 (.agg x.cells) (.int .i64 ((2:Nat):Int))).run Tryz.prog w=.ok (.int .i64 (x.c:Nat)) w by kernel_rfl)
 | 3,_=>exact(show(Instr.index 199 (.agg x.cells) (.int .i64 ((3:Nat):Int))).run Tryz.prog w=.ok (.int .i64 (x.d:Nat)) w by kernel_rfl)
theorem IsIdea.there{w:World}{p:Nat}{k:Nat->Nat}(h:IsIdea w p k):w.rangeAt p 0 (cN .i64 (tabN k 52)):=fun j v hv=>by
 have hj:j<52:=by
  rcases Nat.lt_or_ge j 52 with h1|h1
  ·exact h1
  ·rw[List.getElem?_eq_none (by rw[zaH,zav];exact h1)] at hv;cases hv
 rw[Nat.zero_add,cell_of_row w p j _ _ _ h,zcI,List.getElem?_toArray,List.getElem?_append_left (by rw[zaH,zav];exact hj)];exact hv
theorem IsIdea.back{w:World}{p:Nat}{k:Nat->Nat}(h:IsIdea w p k):w.rangeAt p 52 (cN .i64 (tabN (undF k) 52)):=fun j v hv=>by
 rw[cell_of_row w p (52+j) _ _ _ h,zcI,List.getElem?_toArray,List.getElem?_append_right (by rw[zaH,zav];omega),zaH,zav,show 52+j-52=j by omega];exact hv
theorem zj6(n:Nat):IntKind.u8.wrap (n:Int)=((UInt8.ofNat n).toNat:Int):=by
 rw[UInt8.toNat_ofNat'];simp[IntKind.wrap,IntKind.bits,IntKind.signed]
theorem zl8{n:Nat}(_h:n<65536):IntKind.u8.wrap ((n:Int)/256)=((UInt8.ofNat (n/256)).toNat:Int):=by
 rw[<-zj6];rfl
def zc1(w:World)(bs:List UInt8)(e:Ending)(w':World):Prop :=
 ∃A c,e=.returned (.tuple #[.slice A 8 c,.int .i64 0])/\(8<=c/\c<=9223372036854775807)/\Rd w' w'.heap.size A 8 bs/\Ext w w'/\Fr w.heap.size A
def zpG(A:Option Addr)(c g8:Nat)(b:List UInt8)(kk:Nat->Nat):List K:=[.eq (.slice A 8 c),.num g8 4 (inF b).cells,.new 0 (inF b).cells 3,.eq (.agg (inF b).cells),.eq (.slice (some ⟨g8,0,none⟩) 52 52),.eq (.agg (zcn kk (inF b)).cells),.eq (Value.int IntKind.i64 0)]
theorem zjg(A:Option Addr)(p c:Nat)(b:List UInt8)(k:Nat->Nat)(w:World)(hd:IsIdea w p k)(hl:∀i,k i<65536)(h:Rd w w.heap.size A 8 b):
  Calls Tryz.prog 223 #[.pointer (some ⟨p,0,none⟩),.slice A 8 c,.bool false] w (zc1 w (outL (zcn k (inF b)))):=by
 have HR0:=hid h;have HRG:=hid (hd.there);have HS:=hid (s53 k)
 have HB0:=hid (show Blk ((w.alloc (.cells #[.int .i64 0,.int .i64 0,.int .i64 0,.int .i64 0,.int .i64 0,.int .i64 0,.int .i64 0,.int .i64 0,.int .i64 0,.int .i64 0,.int .i64 0,.int .i64 0,.int .i64 0,.int .i64 0,.int .i64 0,.int .i64 0,.int .i64 0,.int .i64 0,.int .i64 0,.int .i64 0,.int .i64 0,.int .i64 0,.int .i64 0,.int .i64 0,.int .i64 0,.int .i64 0,.int .i64 0,.int .i64 0,.int .i64 0,.int .i64 0,.int .i64 0,.int .i64 0,.int .i64 0,.int .i64 0,.int .i64 0,.int .i64 0,.int .i64 0,.int .i64 0,.int .i64 0,.int .i64 0,.int .i64 0,.int .i64 0,.int .i64 0,.int .i64 0,.int .i64 0,.int .i64 0,.int .i64 0,.int .i64 0,.int .i64 0,.int .i64 0,.int .i64 0,.int .i64 0] 151)).setRow w.heap.size (cN .i64 (tabN k 52)).toArray) w.heap.size 151 (tabN k 52) from setRow_heap _ _ _ _ _ _ (heap_alloc_new w (.cells #[.int .i64 0,.int .i64 0,.int .i64 0,.int .i64 0,.int .i64 0,.int .i64 0,.int .i64 0,.int .i64 0,.int .i64 0,.int .i64 0,.int .i64 0,.int .i64 0,.int .i64 0,.int .i64 0,.int .i64 0,.int .i64 0,.int .i64 0,.int .i64 0,.int .i64 0,.int .i64 0,.int .i64 0,.int .i64 0,.int .i64 0,.int .i64 0,.int .i64 0,.int .i64 0,.int .i64 0,.int .i64 0,.int .i64 0,.int .i64 0,.int .i64 0,.int .i64 0,.int .i64 0,.int .i64 0,.int .i64 0,.int .i64 0,.int .i64 0,.int .i64 0,.int .i64 0,.int .i64 0,.int .i64 0,.int .i64 0,.int .i64 0,.int .i64 0,.int .i64 0,.int .i64 0,.int .i64 0,.int .i64 0,.int .i64 0,.int .i64 0,.int .i64 0,.int .i64 0] 151)))
 have HL:=hid (hl);clear hd h hl;go_enter Tryz.func223,Tryz.ntmps223;go_wp2_with (first
  | (refine wpList_load_mid rfl 151 (.tmp 17) rfl p 0 rfl (cN .i64 (tabN k 52)) _ HRG.out Tryz.underlying151 rfl (by rw[HS.out];simp) ?_)
  | (refine wpList_store_row rfl 151 (.tmp 8) (.tmp 18) rfl w.heap.size (cN .i64 (tabN k 52)).toArray rfl rfl 151 _ (heap_alloc_new _ _) HS.out (by rw[zd5,zav];rfl) (zgY _) ?_)
  | (at_make;refine wpList_make_own _ rfl (.const (.int .i64 0)) (.const (.int .i64 8)) 22 rfl w.heap.size 5 _ _ 1 Tryz.underlying22 rfl rfl rfl .i64 .i64 _ 8 rfl rfl rfl (by decide) (by unfold maxLen;omega) (by simp) ?_;intro w1 hown1 hg1))
 obtain⟨Wn,hWn⟩:∃Wn,(w.alloc (.cells #[.int .i64 0,.int .i64 0,.int .i64 0,.int .i64 0,.int .i64 0,.int .i64 0,.int .i64 0,.int .i64 0,.int .i64 0,.int .i64 0,.int .i64 0,.int .i64 0,.int .i64 0,.int .i64 0,.int .i64 0,.int .i64 0,.int .i64 0,.int .i64 0,.int .i64 0,.int .i64 0,.int .i64 0,.int .i64 0,.int .i64 0,.int .i64 0,.int .i64 0,.int .i64 0,.int .i64 0,.int .i64 0,.int .i64 0,.int .i64 0,.int .i64 0,.int .i64 0,.int .i64 0,.int .i64 0,.int .i64 0,.int .i64 0,.int .i64 0,.int .i64 0,.int .i64 0,.int .i64 0,.int .i64 0,.int .i64 0,.int .i64 0,.int .i64 0,.int .i64 0,.int .i64 0,.int .i64 0,.int .i64 0,.int .i64 0,.int .i64 0,.int .i64 0,.int .i64 0] 151)).setRow w.heap.size (cN .i64 (tabN k 52)).toArray=Wn:=⟨_,rfl⟩;rw[hWn] at hown1 hg1;have hx1:Ext Wn w1:=(Below.refl _ _).grown hg1 (Nat.le_refl _) (fun q hq=>by cases hq)
 have hb0:Blk Wn w.heap.size 151 (tabN k 52):=by rw[<-hWn];exact HB0.out
 have hx0:Ext w Wn:=by rw[<-hWn];exact Below.setRow_ (Ext.alloc w _) (Nat.le_refl _) _
 have hz0:Wn.heap.size=w.heap.size+1:=by rw[<-hWn];exact(setRow_size _ _ _).trans (zhp w _)
 clear hWn;have HK8:=hid (hb0.later hx1);have HX0:=hid (hx0.trans hx1);have HR:=hid (HR0.out.later HX0.out);rw[hz0] at hown1;have HO0:=hid (show Own w1 w.heap.size (.slice (some ⟨w.heap.size+1,0,none⟩) 0 8) [] from hown1);have HB0:=hid (Below.size HX0.out);have HG8:=hid HK8.out.lt;obtain⟨kk,hkk⟩:∃kk,k=kk:=⟨_,rfl⟩;rw[hkk] at HK8 HL ⊢;obtain⟨g8,hg8⟩:∃g,w.heap.size=g:=⟨_,rfl⟩;have HG:=hid hg8;have HKK:=hid hkk;rw[hg8] at HK8 HO0 HB0 HG8 ⊢;clear hz0 hx1 hb0 hx0 hown1 hg1 HRG HS HR0 hkk hg8;refine zdj (zpG A c g8 b kk) (zab ⟨fun _ _ h=>h.mv,?_,?_,?_,?_,?_,?_,trivial⟩) ?_
 ·intro a w hk;exact hk.call cf19 (zeg A 4 c b w (HR.out.later hk.ext) (by omega)) (fun e w1 h=>⟨_,h.1,h.2.2,_,rfl,by have:=HG8.out;have:=Below.size hk.ext;omega,zdY h.2.1⟩)
 ·intro a w hk;obtain⟨b26,s26,h26,g26⟩:=hk.val 1 26;have e:=run_arrayAt (P:=Tryz.prog) w 199 3 4 (some ⟨b26,0,none⟩) 4 4 Tryz.underlying199 (Nat.le_refl _);refine zaW (.pointer (some ⟨b26,0,none⟩)) ?_ ⟨b26,rfl,Nat.zero_le _,g26⟩;simp only[execOp,Act.eval,s26,Sem.run_bind,e,Sem.run_pure,Result.andThen]
 ·intro a w hk;obtain⟨b27,s27,h27,g27⟩:=hk.val 2 27;refine za ?_;exact zfo rfl s27 g27
 ·intro a w hk;have s8:a.tmps.getD 8 undef=.pointer (some ⟨g8,0,none⟩):=hk.was 8;refine za ?_;have e:=zie g8 w;simp only[execOp,Act.eval,Option.map_none,s8,Sem.run_bind,e,Sem.run_pure,Result.andThen]
 ·intro a w hk;exact hk.call cf26 (zeH (inF b) g8 0 52 kk w (zks b) ((Blk.kat HK8.out).later hk.ext) HL.out (by omega) (by omega)) (fun e w1 h=>retX e w1 h)
 ·intro a w hk;exact zau rfl rfl rfl rfl
 ·intro a w2 hf;obtain⟨b26,s26,h26,g26⟩:=hf.val 1 26;obtain⟨b27,s27,h27,g27⟩:=hf.val 2 27;have hx:=hf.ext;have e:=hf.fr;clear hf;simp only[zpG,frV,kPut,Act.put,List.setIfInBounds_toArray,List.set_cons_zero,List.set_cons_succ,s26,s27] at e;clear s26 s27;subst e;have HO:=hid (HO0.out.kept hx);have HX:=hid (HX0.out.trans hx);have hB:=Nat.le_trans HB0.out (Below.size hx);have HL4:=hid (zfu kk (inF b));have HFIN:=hid (show outK (zcn kk (inF b)) 4=outL (zcn kk (inF b)) from rfl);obtain⟨y,hy⟩:∃y,zcn kk (inF b)=y:=⟨_,rfl⟩;have HY:=hid hy;rw[hy] at HFIN HL4;rw[hy];clear hx hy g27 h27 g26 h26;go_wp2_with fail
  go_loopw [9,31] (fun v i wr=>∃j:Nat,j<=4/\i=.int .i64 j/\Own wr g8 v (outK y j)/\Below g8 w2 wr) (fun _ i _=>4-(intOf i).toNat)
  case atStart=>exact⟨0,by omega,rfl,HO.out,Below.mono (Ext.refl _) hB⟩
  case round =>
   obtain⟨j,hj,rfl,hown,hb⟩:=hrel;by_cases hlt:j<4
   ·have hn:=zqw HL4.out j;have HS:=hid (show outK y (j+1)=outK y j++two (y.nth j) from rfl);have hix:=fun w=>zfE y j w hlt
    obtain⟨n,hne⟩:∃n,y.nth j=n:=⟨_,rfl⟩;rw[hne] at hn HS hix;have HI:=hid hix;have hw1:=zl8 hn;have hw2:=zj6 n;obtain⟨p1,hp1⟩:∃p:Nat,(UInt8.ofNat (n/256)).toNat=p:=⟨_,rfl⟩;obtain⟨p2,hp2⟩:∃p:Nat,(UInt8.ofNat n).toNat=p:=⟨_,rfl⟩;have hcs:(#[.int .u8 (p1:Int),.int .u8 (p2:Int)]:Array Value).toList=cellsOf (two n):=by rw[<-hp1,<-hp2];rfl
    rw[hp1] at hw1;rw[hp2] at hw2;have hlit:=Own.lit wr (two n) #[.int .u8 (p1:Int),.int .u8 (p2:Int)] 2 wr.heap.size hcs rfl (by unfold maxLen;omega) (Nat.le_refl _);obtain⟨A9,c9,e9,hr9,_⟩:=hlit.rdn (n:=2) rfl;cases e9
    have hown2:=hown.kept (Ext.alloc wr (.cells #[.int .u8 (p1:Int),.int .u8 (p2:Int)] 5));have hz:=Below.size hb;have hl:=zee y j;have HB2:=hid (hb.trans (Below.mono (Ext.alloc wr (.cells #[.int .u8 (p1:Int),.int .u8 (p2:Int)] 5)) (Nat.le_trans hB hz)));clear hix hne hp1 hp2 hcs hlit hown hb;go_wp2_with (first
     | (rw[HI.out];simp only[Result.andThen];rw[Oper.upon_value])
     | (at_builtin;refine za9 _ rfl (.tmp 34) (.tmp 40) 22 rfl Tryz.underlying22 Tryz.info5 g8 _ (outK y j) rfl hown2 _ _ 2 2 (two n) rfl hr9 (by omega) (by simp;omega) ?_;intro v3 w3 hown3 hb3))
    rw[<-HS.out] at hown3;have HB3:=hid (HB2.out.trans hb3);have HO3:=hid hown3;clear hown3 hb3 hown2;go_roundw
    case rel=>exact⟨j+1,by omega,by go_num,HO3.out,HB3.out⟩
    case measure=>simp[intOf];omega
   ·obtain rfl:j=4:=by omega
    rw[HFIN.out] at hown;obtain⟨A9,c9,e9,hc9,hr9,hf9⟩:=hown.rdf (n:=8) (zfS _);cases e9
    have HH:=hid (And.intro hr9 (And.intro (Below.trans HX.out (by rw[HG.out];exact hb)) (show Fr w.heap.size A9 by rw[HG.out];exact hf9)));clear hr9 hown hb hf9;go_wp2_with fail
    go_ret2;exact⟨_,_,rfl,hc9,by rw[HKK.out,HY.out];exact HH.out.1,HH.out.2⟩
theorem zbU(A:Option Addr)(p c:Nat)(b:List UInt8)(k:Nat->Nat)(w:World)(hd:IsIdea w p k)(hl:∀i,k i<65536)(h:Rd w w.heap.size A 8 b):
  Calls Tryz.prog 223 #[.pointer (some ⟨p,0,none⟩),.slice A 8 c,.bool true] w (zc1 w (outL (zcn (undF k) (inF b)))):=by
 have HR0:=hid h;have HRG:=hid (hd.there);have HS:=hid (s53 k);have HRU:=hid (show((w.alloc (.cells #[.int .i64 0,.int .i64 0,.int .i64 0,.int .i64 0,.int .i64 0,.int .i64 0,.int .i64 0,.int .i64 0,.int .i64 0,.int .i64 0,.int .i64 0,.int .i64 0,.int .i64 0,.int .i64 0,.int .i64 0,.int .i64 0,.int .i64 0,.int .i64 0,.int .i64 0,.int .i64 0,.int .i64 0,.int .i64 0,.int .i64 0,.int .i64 0,.int .i64 0,.int .i64 0,.int .i64 0,.int .i64 0,.int .i64 0,.int .i64 0,.int .i64 0,.int .i64 0,.int .i64 0,.int .i64 0,.int .i64 0,.int .i64 0,.int .i64 0,.int .i64 0,.int .i64 0,.int .i64 0,.int .i64 0,.int .i64 0,.int .i64 0,.int .i64 0,.int .i64 0,.int .i64 0,.int .i64 0,.int .i64 0,.int .i64 0,.int .i64 0,.int .i64 0,.int .i64 0] 151)).setRow w.heap.size (cN .i64 (tabN k 52)).toArray).rangeAt p 52 (cN .i64 (tabN (undF k) 52)) from
  fun j v hv=>by rw[zd3 (by show p≠w.heap.size;have:=hd.lt;omega)];exact cell_later (Ext.alloc w _) (hd.back j v hv))
 have HSU:=hid (s53 (undF k))
 have HB0:=hid (show Blk ((w.alloc (.cells #[.int .i64 0,.int .i64 0,.int .i64 0,.int .i64 0,.int .i64 0,.int .i64 0,.int .i64 0,.int .i64 0,.int .i64 0,.int .i64 0,.int .i64 0,.int .i64 0,.int .i64 0,.int .i64 0,.int .i64 0,.int .i64 0,.int .i64 0,.int .i64 0,.int .i64 0,.int .i64 0,.int .i64 0,.int .i64 0,.int .i64 0,.int .i64 0,.int .i64 0,.int .i64 0,.int .i64 0,.int .i64 0,.int .i64 0,.int .i64 0,.int .i64 0,.int .i64 0,.int .i64 0,.int .i64 0,.int .i64 0,.int .i64 0,.int .i64 0,.int .i64 0,.int .i64 0,.int .i64 0,.int .i64 0,.int .i64 0,.int .i64 0,.int .i64 0,.int .i64 0,.int .i64 0,.int .i64 0,.int .i64 0,.int .i64 0,.int .i64 0,.int .i64 0,.int .i64 0] 151)).setRow w.heap.size (cN .i64 (tabN k 52)).toArray) w.heap.size 151 (tabN k 52) from setRow_heap _ _ _ _ _ _ (heap_alloc_new w (.cells #[.int .i64 0,.int .i64 0,.int .i64 0,.int .i64 0,.int .i64 0,.int .i64 0,.int .i64 0,.int .i64 0,.int .i64 0,.int .i64 0,.int .i64 0,.int .i64 0,.int .i64 0,.int .i64 0,.int .i64 0,.int .i64 0,.int .i64 0,.int .i64 0,.int .i64 0,.int .i64 0,.int .i64 0,.int .i64 0,.int .i64 0,.int .i64 0,.int .i64 0,.int .i64 0,.int .i64 0,.int .i64 0,.int .i64 0,.int .i64 0,.int .i64 0,.int .i64 0,.int .i64 0,.int .i64 0,.int .i64 0,.int .i64 0,.int .i64 0,.int .i64 0,.int .i64 0,.int .i64 0,.int .i64 0,.int .i64 0,.int .i64 0,.int .i64 0,.int .i64 0,.int .i64 0,.int .i64 0,.int .i64 0,.int .i64 0,.int .i64 0,.int .i64 0,.int .i64 0] 151)))
 have HL:=hid (zoh hl);clear hd h hl;go_enter Tryz.func223,Tryz.ntmps223;go_wp2_with (first
  | (refine wpList_load_mid rfl 151 (.tmp 17) rfl p 0 rfl (cN .i64 (tabN k 52)) _ HRG.out Tryz.underlying151 rfl (by rw[HS.out];simp) ?_)
  | (refine wpList_store_row rfl 151 (.tmp 8) (.tmp 18) rfl w.heap.size (cN .i64 (tabN k 52)).toArray rfl rfl 151 _ (heap_alloc_new _ _) HS.out (by rw[zd5,zav];rfl) (zgY _) ?_)
  | (refine wpList_load_mid rfl 151 (.tmp 22) rfl p 52 rfl (cN .i64 (tabN (undF k) 52)) _ HRU.out Tryz.underlying151 rfl (by rw[HSU.out];simp) ?_)
  | (refine wpList_store_row rfl 151 (.tmp 8) (.tmp 23) rfl w.heap.size (cN .i64 (tabN (undF k) 52)).toArray rfl rfl 151 _ HB0.out HSU.out (sizes _ _ (by rw[zav,zav])) (zgY _) ?_)
  | (at_make;refine wpList_make_own _ rfl (.const (.int .i64 0)) (.const (.int .i64 8)) 22 rfl w.heap.size 5 _ _ 1 Tryz.underlying22 rfl rfl rfl .i64 .i64 _ 8 rfl rfl rfl (by decide) (by unfold maxLen;omega) (by simp) ?_;intro w1 hown1 hg1))
 obtain⟨Wn,hWn⟩:∃Wn,((w.alloc (.cells #[.int .i64 0,.int .i64 0,.int .i64 0,.int .i64 0,.int .i64 0,.int .i64 0,.int .i64 0,.int .i64 0,.int .i64 0,.int .i64 0,.int .i64 0,.int .i64 0,.int .i64 0,.int .i64 0,.int .i64 0,.int .i64 0,.int .i64 0,.int .i64 0,.int .i64 0,.int .i64 0,.int .i64 0,.int .i64 0,.int .i64 0,.int .i64 0,.int .i64 0,.int .i64 0,.int .i64 0,.int .i64 0,.int .i64 0,.int .i64 0,.int .i64 0,.int .i64 0,.int .i64 0,.int .i64 0,.int .i64 0,.int .i64 0,.int .i64 0,.int .i64 0,.int .i64 0,.int .i64 0,.int .i64 0,.int .i64 0,.int .i64 0,.int .i64 0,.int .i64 0,.int .i64 0,.int .i64 0,.int .i64 0,.int .i64 0,.int .i64 0,.int .i64 0,.int .i64 0] 151)).setRow w.heap.size (cN .i64 (tabN k 52)).toArray).setRow w.heap.size (cN .i64 (tabN (undF k) 52)).toArray=Wn:=⟨_,rfl⟩;rw[hWn] at hown1 hg1;have hx1:Ext Wn w1:=(Below.refl _ _).grown hg1 (Nat.le_refl _) (fun q hq=>by cases hq)
 have hb0:Blk Wn w.heap.size 151 (tabN (undF k) 52):=by rw[<-hWn];exact Blk.put HB0.out _
 have hx0:Ext w Wn:=by rw[<-hWn];exact Below.setRow_ (Below.setRow_ (Ext.alloc w _) (Nat.le_refl _) _) (Nat.le_refl _) _
 have hz0:Wn.heap.size=w.heap.size+1:=by rw[<-hWn];exact(setRow_size _ _ _).trans ((setRow_size _ _ _).trans (zhp w _))
 clear hWn;have HK8:=hid (hb0.later hx1);have HX0:=hid (hx0.trans hx1);have HR:=hid (HR0.out.later HX0.out);rw[hz0] at hown1;have HO0:=hid (show Own w1 w.heap.size (.slice (some ⟨w.heap.size+1,0,none⟩) 0 8) [] from hown1);have HB0:=hid (Below.size HX0.out);have HG8:=hid HK8.out.lt;obtain⟨kk,hkk⟩:∃kk,(undF k)=kk:=⟨_,rfl⟩;rw[hkk] at HK8 HL ⊢;obtain⟨g8,hg8⟩:∃g,w.heap.size=g:=⟨_,rfl⟩;have HG:=hid hg8;have HKK:=hid hkk;rw[hg8] at HK8 HO0 HB0 HG8 ⊢;clear hz0 hx1 hb0 hx0 hown1 hg1 HRG HS HR0 hkk hg8;refine zdj (zpG A c g8 b kk) (zab ⟨fun _ _ h=>h.mv,?_,?_,?_,?_,?_,?_,trivial⟩) ?_
 ·intro a w hk;exact hk.call cf19 (zeg A 4 c b w (HR.out.later hk.ext) (by omega)) (fun e w1 h=>⟨_,h.1,h.2.2,_,rfl,by have:=HG8.out;have:=Below.size hk.ext;omega,zdY h.2.1⟩)
 ·intro a w hk;obtain⟨b26,s26,h26,g26⟩:=hk.val 1 26;have e:=run_arrayAt (P:=Tryz.prog) w 199 3 4 (some ⟨b26,0,none⟩) 4 4 Tryz.underlying199 (Nat.le_refl _);refine zaW (.pointer (some ⟨b26,0,none⟩)) ?_ ⟨b26,rfl,Nat.zero_le _,g26⟩;simp only[execOp,Act.eval,s26,Sem.run_bind,e,Sem.run_pure,Result.andThen]
 ·intro a w hk;obtain⟨b27,s27,h27,g27⟩:=hk.val 2 27;refine za ?_;exact zfo rfl s27 g27
 ·intro a w hk;have s8:a.tmps.getD 8 undef=.pointer (some ⟨g8,0,none⟩):=hk.was 8;refine za ?_;have e:=zie g8 w;simp only[execOp,Act.eval,Option.map_none,s8,Sem.run_bind,e,Sem.run_pure,Result.andThen]
 ·intro a w hk;exact hk.call cf26 (zeH (inF b) g8 0 52 kk w (zks b) ((Blk.kat HK8.out).later hk.ext) HL.out (by omega) (by omega)) (fun e w1 h=>retX e w1 h)
 ·intro a w hk;exact zau rfl rfl rfl rfl
 ·intro a w2 hf;obtain⟨b26,s26,h26,g26⟩:=hf.val 1 26;obtain⟨b27,s27,h27,g27⟩:=hf.val 2 27;have hx:=hf.ext;have e:=hf.fr;clear hf;simp only[zpG,frV,kPut,Act.put,List.setIfInBounds_toArray,List.set_cons_zero,List.set_cons_succ,s26,s27] at e;clear s26 s27;subst e;have HO:=hid (HO0.out.kept hx);have HX:=hid (HX0.out.trans hx);have hB:=Nat.le_trans HB0.out (Below.size hx);have HL4:=hid (zfu kk (inF b));have HFIN:=hid (show outK (zcn kk (inF b)) 4=outL (zcn kk (inF b)) from rfl);obtain⟨y,hy⟩:∃y,zcn kk (inF b)=y:=⟨_,rfl⟩;have HY:=hid hy;rw[hy] at HFIN HL4;rw[hy];clear hx hy g27 h27 g26 h26;go_wp2_with fail
  go_loopw [9,31] (fun v i wr=>∃j:Nat,j<=4/\i=.int .i64 j/\Own wr g8 v (outK y j)/\Below g8 w2 wr) (fun _ i _=>4-(intOf i).toNat)
  case atStart=>exact⟨0,by omega,rfl,HO.out,Below.mono (Ext.refl _) hB⟩
  case round =>
   obtain⟨j,hj,rfl,hown,hb⟩:=hrel;by_cases hlt:j<4
   ·have hn:=zqw HL4.out j;have HS:=hid (show outK y (j+1)=outK y j++two (y.nth j) from rfl);have hix:=fun w=>zfE y j w hlt
    obtain⟨n,hne⟩:∃n,y.nth j=n:=⟨_,rfl⟩;rw[hne] at hn HS hix;have HI:=hid hix;have hw1:=zl8 hn;have hw2:=zj6 n;obtain⟨p1,hp1⟩:∃p:Nat,(UInt8.ofNat (n/256)).toNat=p:=⟨_,rfl⟩;obtain⟨p2,hp2⟩:∃p:Nat,(UInt8.ofNat n).toNat=p:=⟨_,rfl⟩;have hcs:(#[.int .u8 (p1:Int),.int .u8 (p2:Int)]:Array Value).toList=cellsOf (two n):=by rw[<-hp1,<-hp2];rfl
    rw[hp1] at hw1;rw[hp2] at hw2;have hlit:=Own.lit wr (two n) #[.int .u8 (p1:Int),.int .u8 (p2:Int)] 2 wr.heap.size hcs rfl (by unfold maxLen;omega) (Nat.le_refl _);obtain⟨A9,c9,e9,hr9,_⟩:=hlit.rdn (n:=2) rfl;cases e9
    have hown2:=hown.kept (Ext.alloc wr (.cells #[.int .u8 (p1:Int),.int .u8 (p2:Int)] 5));have hz:=Below.size hb;have hl:=zee y j;have HB2:=hid (hb.trans (Below.mono (Ext.alloc wr (.cells #[.int .u8 (p1:Int),.int .u8 (p2:Int)] 5)) (Nat.le_trans hB hz)));clear hix hne hp1 hp2 hcs hlit hown hb;go_wp2_with (first
     | (rw[HI.out];simp only[Result.andThen];rw[Oper.upon_value])
     | (at_builtin;refine za9 _ rfl (.tmp 34) (.tmp 40) 22 rfl Tryz.underlying22 Tryz.info5 g8 _ (outK y j) rfl hown2 _ _ 2 2 (two n) rfl hr9 (by omega) (by simp;omega) ?_;intro v3 w3 hown3 hb3))
    rw[<-HS.out] at hown3;have HB3:=hid (HB2.out.trans hb3);have HO3:=hid hown3;clear hown3 hb3 hown2;go_roundw
    case rel=>exact⟨j+1,by omega,by go_num,HO3.out,HB3.out⟩
    case measure=>simp[intOf];omega
   ·obtain rfl:j=4:=by omega
    rw[HFIN.out] at hown;obtain⟨A9,c9,e9,hc9,hr9,hf9⟩:=hown.rdf (n:=8) (zfS _);cases e9
    have HH:=hid (And.intro hr9 (And.intro (Below.trans HX.out (by rw[HG.out];exact hb)) (show Fr w.heap.size A9 by rw[HG.out];exact hf9)));clear hr9 hown hb hf9;go_wp2_with fail
    go_ret2;exact⟨_,_,rfl,hc9,by rw[HKK.out,HY.out];exact HH.out.1,HH.out.2⟩
theorem zcK(A:Option Addr)(p c:Nat)(b:List UInt8)(k:Nat->Nat)(back:Bool)(w:World)(hd:IsIdea w p k)(hl:∀i,k i<65536)(h:Rd w w.heap.size A 8 b):
  Calls Tryz.prog 223 #[.pointer (some ⟨p,0,none⟩),.slice A 8 c,.bool back] w (zc1 w (zaF k back b)):=by
 cases back
 ·exact zjg A p c b k w hd hl h
 ·exact zbU A p c b k w hd hl h
theorem zb6(p:Nat)(A:Option Addr)(n cc:Nat)(back:Bool)(w:World)(h:n≠8):
  Calls Tryz.prog 223 #[.pointer (some ⟨p,0,none⟩),.slice A n cc,.bool back] w fun e w'=>e=.returned (.tuple #[.slice none 0 0,.int .i64 1])/\Ext w w':=by
 have g:((n:Int) != 8)=true:=by simp;omega
 go_enter Tryz.func223,Tryz.ntmps223;go_wp2;go_ret2;exact⟨rfl,Ext.refl _⟩
def IsRI(w:World)(p:Nat)(k:Nat->Nat):Prop:=∃A c,w.cell? ⟨p,0,none⟩=some (.slice A 52 c)/\52<=c/\RdN .i64 w w.heap.size A 52 (tabN k 52)
theorem zbt(A:Option Addr)(c:Nat)(key:List UInt8)(w:World)(h:Rd w w.heap.size A 16 key):
  Calls Tryz.prog 39 #[.slice A 16 c] w fun e w'=>∃p,e=.returned (.tuple #[.pointer (some ⟨p,0,none⟩),.int .i64 0])/\IsRI w' p (keyF key)/\Ext w w':=by
 have HC:=hid (zbZ A c key w h);clear h;go_enter Tryz.func39,Tryz.ntmps39;go_wp2_with fail
 refine HC.out.mono ?_;rintro e w1 ⟨A1,c1,rfl,hc1,hr1,hx1⟩;have h3:=heap_alloc_new w1 (.cells #[.slice A1 52 c1] 115);have x3:=Ext.alloc w1 (.cells #[.slice A1 52 c1] 115);have HH:=hid (show IsRI _ w1.heap.size (keyF key)/\Ext w _ from⟨⟨A1,c1,by rw[cell_of_row _ _ _ _ _ _ h3];rfl,hc1,hr1.later x3⟩,hx1.trans x3⟩);clear hr1 h3 x3 hx1 HC;go_wp2_with fail
 go_ret2;exact⟨_,rfl,HH.out⟩
end Go.Proofs.YtokbbmngfogbbaaGreatDoor.I
