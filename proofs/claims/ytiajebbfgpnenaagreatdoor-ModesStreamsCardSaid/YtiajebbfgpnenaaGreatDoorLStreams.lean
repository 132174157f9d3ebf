/- The law on modes that lay bytes of a row on what comes in, walked; own lemmas of the verifier, no statement is proved here. -/
import Derived.Test.YtiajebbfgpnenaaGreatDoorQC
namespace Go.Proofs.YtiajebbfgpnenaaGreatDoor.C
open Go.RowKit
set_option maxRecDepth 100000
set_option maxHeartbeats 8000000
def W3(w:World)(B K:Nat)(r:Nat->List UInt8)(j:Nat):Prop :=
 ∃xs:List Value,xs.length=3/\w.heap[B]? = some (.cells xs.toArray 49 (0,0))/\(∀k,k<3->∃A n c,xs[k]? = some (.slice A n c)) /\
  ∀k,k<j->∃A c,xs[k]? = some (.slice A K c)/\Rd w w.heap.size A K (r k)
theorem W3.lt{w:World}{B K:Nat}{r:Nat->List UInt8}{j:Nat}(h:W3 w B K r j):B<w.heap.size:=by
 obtain⟨xs,_,h2,_⟩:=h;exact(Array.getElem?_eq_some_iff.1 h2).1
theorem W3.later{w w':World}{B K:Nat}{r:Nat->List UInt8}{j:Nat}(h:W3 w B K r j)(hx:Ext w w'):W3 w' B K r j:=by
 have hl:=h.lt;obtain⟨xs,h1,h2,h3,h4⟩:=h;exact⟨xs,h1,(hx.block B hl).trans h2,h3,fun k hk=>by obtain⟨A,c,e,hr⟩:=h4 k hk;exact⟨A,c,e,hr.later hx⟩⟩
theorem W3.gb{w w':World}{B K p:Nat}{r:Nat->List UInt8}{j:Nat}(h:W3 w B K r j)(hp:zex w p)(hne:B≠p)(hg:GB p w w'):W3 w' B K r j:=by
 have hl:=h.lt;obtain⟨xs,h1,h2,h3,h4⟩:=h;exact⟨xs,h1,(hg.block B hl (by simp[hne])).trans h2,h3,fun k hk=>by obtain⟨A,c,e,hr⟩:=h4 k hk;exact⟨A,c,e,hr.gb hp hg⟩⟩
theorem W3.at_{w:World}{B K:Nat}{r:Nat->List UInt8}{j:Nat}(h:W3 w B K r j)(k:Nat)(hk:k<j):∃A c,w.cell? ⟨B,k,none⟩=some (.slice A K c)/\Rd w w.heap.size A K (r k):=by
 obtain⟨xs,h1,h2,h3,h4⟩:=h;obtain⟨A,c,e,hr⟩:=h4 k hk;exact⟨A,c,by rw[cell_of_row _ _ _ _ _ _ h2];simpa using e,hr⟩
theorem W3.was{w:World}{B K:Nat}{r:Nat->List UInt8}{j:Nat}(h:W3 w B K r j)(k:Nat)(hk:k<3):∃A n c,w.cell? ⟨B,k,none⟩=some (.slice A n c):=by
 obtain⟨xs,h1,h2,h3,h4⟩:=h;obtain⟨A,n,c,e⟩:=h3 k hk;exact⟨A,n,c,by rw[cell_of_row _ _ _ _ _ _ h2];simpa using e⟩
theorem W3.free{w:World}{B K:Nat}{r:Nat->List UInt8}{j:Nat}(h:W3 w B K r j)(k:Nat):w.frozen? ⟨B,k,none⟩=false:=by
 obtain⟨xs,h1,h2,h3,h4⟩:=h;exact frozen_of_row w B k _ _ h2
theorem W3.rd{w:World}{B K:Nat}{r:Nat->List UInt8}{j:Nat}(h:W3 w B K r j){A:Option Addr}{n:Nat}{bs:List UInt8}(hr:Rd w w.heap.size A n bs)(k:Nat)(v:Value):
  Rd (w.setCell ⟨B,k,none⟩ v) (w.setCell ⟨B,k,none⟩ v).heap.size A n bs:=by
 obtain⟨xs,h1,h2,h3,_⟩:=h;refine⟨hr.len,fun hn=>?_⟩;obtain⟨b,o,rfl,hb,hc⟩:=hr.at_ hn;have hne:b≠B:=by
  rintro rfl;have h0:=hc 0 hn;rw[Nat.add_zero,cell_of_row _ _ _ _ _ _ h2] at h0;by_cases ho:o<3
  ·obtain⟨A,n,c,e⟩:=h3 o ho;have e2:xs.toArray[o]? = some (.slice A n c):=by simpa using e
   rw[e2] at h0;cases h0
  ·have e2:xs.toArray[o]? = none:=by simp;omega
   rw[e2] at h0;cases h0
 refine⟨b,o,rfl,by simpa using hb,fun i hi=>?_⟩;rw[<-hc i hi];exact World.cell?_of_block (heap_setCell_other w ⟨B,k,none⟩ b v hne)
theorem W3.put{w:World}{B K:Nat}{r:Nat->List UInt8}{j:Nat}(h:W3 w B K r j)(hj:j<3){A:Option Addr}{c:Nat}(hr:Rd w w.heap.size A K (r j)):
  W3 (w.setCell ⟨B,j,none⟩ (.slice A K c)) B K r (j+1):=by
 have hrd:=fun {A2:Option Addr} {n:Nat} {bs:List UInt8} (hr:Rd w w.heap.size A2 n bs)=>h.rd hr j (.slice A K c)
 obtain⟨xs,h1,h2,h3,h4⟩:=h;refine⟨xs.set j (.slice A K c),by simpa using h1,?_,fun k hk=>?_,fun k hk=>?_⟩
 ·rw[heap_setCell_same w B j _ 49 _ h2];simp
 ·by_cases e:k=j
  ·subst e;exact⟨A,K,c,by simp[h1,hk]⟩
  ·obtain⟨A',n',c',e'⟩:=h3 k hk;exact⟨A',n',c',by rw[List.getElem?_set_ne (by omega)];exact e'⟩
 ·by_cases e:k=j
  ·subst e;exact⟨A,c,by simp[h1,hj],hrd hr⟩
  ·obtain⟨A',c',e',hr'⟩:=h4 k (by omega);exact⟨A',c',by rw[List.getElem?_set_ne (by omega)];exact e',hrd hr'⟩
theorem mstr_walk[Inhabited D.BT][Inhabited S.RT](a0:Int)(a1:Int)(a2:Option Addr)(len2 cap2:Nat)(z2:List Int)(a3:Bool)(a4:Option Addr)(len4 cap4:Nat)(z4:List Int)(a5:Option Addr)(len5 cap5:Nat)(z5:List Int)(a6:Option Addr)(len6 cap6:Nat)(z6:List Int)(w:World)(_w0:(Lit.int .i64 a0).wf=true)(_w1:(Lit.int .i64 a1).wf=true)(w2:IsRow .u8 w a2 len2 cap2 z2)(w4:IsRow .u8 w a4 len4 cap4 z4)(w5:IsRow .u8 w a5 len5 cap5 z5)(w6:IsRow .u8 w a6 len6 cap6 z6)(hG:GC w):
  Calls Tryz.prog 7 #[.int .i64 a0,.int .i64 a1,.slice a2 len2 cap2,.bool a3,.slice a4 len4 cap4,.slice a5 len5 cap5,.slice a6 len6 cap6] w fun e w'=>e=.returned (.bool true)/\Below w.heap.size w w':=by
 obtain⟨ks,hrk,hlk,_⟩:=w2.rdb;obtain⟨vs,hrv,hlv,_⟩:=w4.rdb;obtain⟨xs,hra,hla,hca⟩:=w5.rdb;obtain⟨bs,hrb,hlb,hcb⟩:=w6.rdb;obtain⟨f,n,hF,hn,hB⟩:=zn6 a0 a1 ks;obtain⟨m,hm,hme⟩:∃m:Nat,(m=5\/m=6)/\(if a3=true then 6 else 5)=m:=⟨_,by cases a3<;>simp,rfl⟩;have HG:=hid hG;have HF:=hid hF;have HN:=hid hn;have HB:=hid hB;have HRK:=hid hrk;have HLK:=hid hlk;have HRV:=hid hrv;have HLV:=hid hlv;have HRA:=hid hra;have HCA:=hid hca;have HRB:=hid hrb;have HCB:=hid hcb;have HM:=hid hm;have HME:=hid hme;clear hG hF hn hB hrk hlk hrv hlv hrb hra w2 w4 w5 w6 hme hcb hca hm;go_enter Tryz.func7,Tryz.ntmps7;go_wp2_with fail
 refine(zol w HG.out).mono ?_;rintro e w1 ⟨rfl,hx1⟩;have HX1:=hid hx1;clear hx1;go_wp2_with fail
 refine(HB.out a2 len2 cap2 w1 (HG.out.later HX1.out) (HRK.out.later HX1.out) HLK.out).mono ?_;rintro e w2 ⟨pc,pd,rfl,_,hI,hx2⟩;have HX2:=hid (Ext.trans HX1.out hx2);have HI:=hid hI;clear hx2 hI HX1;go_upto_if 36 with fail
 go_cut [17] (fun v wx=>wx=w2/\v=.int .i64 m)
 case first =>
  have hme:=HME.out;cases a3
  all_goals
   simp at hme;subst hme;go_wp2_with fail
   go_meet
   exact⟨rfl,rfl⟩
 case rest =>
  rename_i hQ;obtain⟨hw,rfl⟩:=hcut;apply hQ;clear hQ;subst hw;obtain⟨K,hK⟩:∃K,min (min len5 len6) 100=K:=⟨_,rfl⟩;have HK:=hid hK;clear hK;go_upto_region 10 with fail
  have hKe:(if(100:Int)<(if len6<len5 then(len6:Int) else(len5:Int)) then(100:Int) else if len6<len5 then(len6:Int) else(len5:Int))=(K:Int):=by
   have:=HK.out;by_cases h1:len6<len5
   ·simp only[h1,if_true];split<;>omega
   ·simp only[h1,if_false];split<;>omega
  rw[hKe];have hKa:K<=len5:=by have:=HK.out;omega
  have hKb:K<=len6:=by have:=HK.out;omega
  have hK1:K<=100:=by have:=HK.out;omega
  clear hKe;go_wp2_with fail
  obtain⟨s0,hs0⟩:∃s0,(⟨ch0 n (ivL n m vs),[]⟩:St)=s0:=⟨_,rfl⟩;have HS0:=hid hs0;have HG0:=hid (show Good n m s0 by rw[<-hs0];exact⟨zkm _ _ (by rw[zfk];unfold ivN;split<;>omega),Nat.zero_le _⟩);obtain⟨r,hr⟩:∃r:Nat->List UInt8,r=fun(k:Nat)=>(stp f n m ((k:Int)==1) s0 (if k=2 then bs.take K else xs.take K)).1:=⟨_,rfl⟩
  have HRE:=hid hr;obtain⟨B,hB⟩:∃B,wc.heap.size=B:=⟨_,rfl⟩;have HW0:=hid (show W3 (wc.alloc (.cells #[.slice none 0 0,.slice none 0 0,.slice none 0 0] 49)) B K r 0 from
   ⟨[.slice none 0 0,.slice none 0 0,.slice none 0 0],rfl,by rw[<-hB];exact heap_alloc_new wc _,fun k hk=>match k,hk with|0,_=>⟨none,0,0,rfl⟩|1,_=>⟨none,0,0,rfl⟩|2,_=>⟨none,0,0,rfl⟩,fun k hk=>by omega⟩)
  have HX0:=hid (Ext.alloc wc (.cells #[.slice none 0 0,.slice none 0 0,.slice none 0 0] 49));have HBW:=hid hB;rw[hB];clear hs0 hr hB;have HM6:=hid (show 1<=m/\m<=6 by have:=HM.out;omega);go_loopw [20] (fun i wr=>∃k:Nat,k<=3/\i=.int .i64 k/\W3 wr B K r k/\Ext wc wr) (fun i _=>3-(intOf i).toNat)
  case atStart=>exact⟨0,by omega,rfl,HW0.out,HX0.out⟩
  case round =>
   obtain⟨k,hk,rfl,hw3,hx⟩:=hrel;clear HW0 HX0;have HW3:=hid hw3;have HX:=hid hx;clear hw3 hx;by_cases hlt:k<3
   ·have HB0:=hid HW3.out.lt;go_wp2_with fail
    refine(zcO pc n f wr (HI.out.later HX.out)).mono ?_;rintro e w3 ⟨rfl,rfl⟩;go_wp2_with fail
    refine(zlb m n a4 len4 cap4 vs wr (HRV.out.later (Ext.trans HX2.out HX.out)) (by have:=HN.out;omega) HLV.out).mono ?_;rintro e w3 ⟨v3,rfl,ho3,hx3⟩;obtain⟨A3,c3,rfl,_,hr3,_⟩:=ho3.rdf (zfk n m vs);have HX3:=hid hx3;have HIR:=hid (HI.out.later HX.out);have HR3:=hid hr3;clear ho3 hx3 hr3;go_wp2_with fail
    refine(zeG pc n m ((k:Int)==1) f A3 (ivN n m) c3 (ivL n m vs) w3 HM6.out ⟨HF.out.pos,by have:=HN.out;omega⟩ rfl (HIR.out.later HX3.out) HR3.out).mono ?_;rintro e w4 ⟨p1,rfl,hp1,hM1,hx4⟩;rw[HS0.out] at hM1;have HM1:=hid hM1;have HX4:=hid (Ext.trans HX3.out hx4);have HP1:=hid (Nat.le_trans (Below.size HX3.out) hp1);clear hM1 hp1 hx4 HR3;have hKa':K<=cap5:=Nat.le_trans hKa HCA.out.1;have hKb':K<=cap6:=Nat.le_trans hKb HCB.out.1;obtain⟨inp,Ai,ci,hinp⟩:∃inp Ai ci,(k=2/\inp=bs.take K/\Ai=a6/\ci=cap6)\/(k≠2/\inp=xs.take K/\Ai=a5/\ci=cap5):=by
     by_cases hk2:k=2
     ·exact⟨_,_,_,.inl ⟨hk2,rfl,rfl,rfl⟩⟩
     ·exact⟨_,_,_,.inr ⟨hk2,rfl,rfl,rfl⟩⟩
    have HRK:=hid (show r k=(stp f n m ((k:Int)==1) s0 inp).1 by
     rw[HRE.out];rcases hinp with⟨h1,h2,_,_⟩|⟨h1,h2,_,_⟩
     ·simp only[h1,h2,if_true]
     ·simp only[h1,h2,if_false])
    have hri:Rd w4 w4.heap.size Ai K inp:=by
     have hx:=Ext.trans HX2.out (Ext.trans HX.out HX4.out);rcases hinp with⟨h1,rfl,rfl,rfl⟩|⟨h1,rfl,rfl,rfl⟩
     ·exact(HRB.out.later hx).cuthi K hKb
     ·exact(HRA.out.later hx).cuthi K hKa
    have hci:K<=ci/\ci<=9223372036854775807:=by
     rcases hinp with⟨_,_,_,rfl⟩|⟨_,_,_,rfl⟩
     ·exact⟨hKb',HCB.out.2⟩
     ·exact⟨hKa',HCA.out.2⟩
    have hgr:gr n m=1:=zho (by have:=HM.out;omega);have hln:=(zbJ (back:=((k:Int)==1)) HF.out HG0.out inp (by rw[hgr,Nat.mod_one])).1.trans hri.len;have HST:=hid (zbP p1 pc n m ((k:Int)==1) s0 f Ai K ci inp w4 wr HM6.out HF.out (by have:=HN.out;omega) HG0.out HM1.out HIR.out HX4.out HP1.out hri hci (by omega) (by rw[hgr,Nat.mod_one]));have HLN:=hid hln;clear hri hci hgr hln;rcases hinp with⟨h1,_,rfl,rfl⟩|⟨h1,_,rfl,rfl⟩
    all_goals
     first|have hb2:((k:Int)==2)=true:=by simp;omega|have hb2:((k:Int)==2)=false:=by simp;omega
     clear h1;go_wp2_with fail
     refine HST.out.mono ?_;rintro e w5 ⟨v5,rfl,ho5,_,hG5⟩;obtain⟨A5,c5,rfl,_,hr5,_⟩:=ho5.rdf (n:=K) HLN.out;rw[<-HRK.out] at hr5;have hne:B≠p1:=by have:=HB0.out;have:=HP1.out;omega
     have hw5:=(HW3.out.later HX4.out).gb HM1.out.is hne hG5;have hx5:=zgh (Ext.trans HX.out HX4.out) hG5 (by have:=HP1.out;have:=Below.size HX.out;omega);obtain⟨Aw,nw,cw,hcw⟩:=hw5.was k hlt;have hfw:=hw5.free k;have HW6:=hid (hw5.put hlt (c:=c5) hr5);have HX6:=hid (hx5.setCell (p:=⟨B,k,none⟩) (Nat.le_of_eq HBW.out) (.slice A5 K c5));clear ho5 hG5 hr5 hne hw5 hx5;go_wp2_with fail
     go_roundw
     case rel=>exact⟨k+1,by omega,by go_num,HW6.out,HX6.out⟩
     case measure=>simp[intOf];omega
   ·obtain rfl:k=3:=by omega
    clear hlt hk;have HW3:=hid HW3.out;have HX:=hid HX.out;go_upto_region 23 with fail
    have HRA9:=hid ((HRA.out.later (Ext.trans HX2.out HX.out)).cuthi K hKa);have HRB9:=hid ((HRB.out.later (Ext.trans HX2.out HX.out)).cuthi K hKb);have HRA0:=hid (HRA.out.later (Ext.trans HX2.out HX.out));have HRB0:=hid (HRB.out.later (Ext.trans HX2.out HX.out));have HEQ:=hid (show ∀j,j<K->(r 0).getD j 0=(r 1).getD j 0/\(r 0).getD j 0^^^xs.getD j 0=(r 2).getD j 0^^^bs.getD j 0 by
     intro j hj;have h1:=streams (s:=s0) (f:=f) (n:=n) HM.out (xs.take K) (bs.take K) j (by rw[HRA9.out.len];exact hj) (by rw[HRB9.out.len];exact hj);rw[HRE.out];dsimp only;have e1:(xs.take K).getD j 0=xs.getD j 0:=by simp[List.getD,hj]
     have e2:(bs.take K).getD j 0=bs.getD j 0:=by simp[List.getD,hj]
     rw[e1,e2] at h1;exact h1)
    clear HRA9 HRB9 HRE;obtain⟨w9,rfl⟩:∃w9,w9=wr:=⟨_,rfl⟩;go_wp2_with fail
    go_loopw [24] (fun i wx=>∃j:Nat,j<=K/\i=.int .i64 j/\Ext w9 wx) (fun i _=>K-(intOf i).toNat)
    case atStart=>exact⟨0,Nat.zero_le _,rfl,Ext.refl _⟩
    case round =>
     obtain⟨j,hj,rfl,hx⟩:=hrel;have HXX:=hid hx;clear hx;by_cases hlt:j<K
     ·obtain⟨A0,c0,g0,h0⟩:=(HW3.out.later HXX.out).at_ 0 (by omega);obtain⟨A1,c1,g1,h1⟩:=(HW3.out.later HXX.out).at_ 1 (by omega);obtain⟨A2,c2,g2,h2⟩:=(HW3.out.later HXX.out).at_ 2 (by omega);obtain⟨b0,o0,rfl,_,k0⟩:=h0.at_ (by omega);obtain⟨b1,o1,rfl,_,k1⟩:=h1.at_ (by omega);obtain⟨b2,o2,rfl,_,k2⟩:=h2.at_ (by omega);obtain⟨b5,o5,rfl,_,k5⟩:=(HRA0.out.later HXX.out).at_ (by omega);obtain⟨b6,o6,rfl,_,k6⟩:=(HRB0.out.later HXX.out).at_ (by omega);have q0:=k0 j hlt;have q1:=k1 j hlt;have q2:=k2 j hlt;have q5:=k5 j (by omega);have q6:=k6 j (by omega);have e1:zac (r 1) j=zac (r 0) j:=by unfold zac;rw[(HEQ.out j hlt).1]
      have e2:bits .xor .u8 (zac (r 0) j) (zac xs j)=bits .xor .u8 (zac (r 2) j) (zac bs j):=by unfold zac;rw[u8_xor,u8_xor,(HEQ.out j hlt).2]
      rw[e1] at q1;obtain⟨X0,hX0⟩:∃X0,zac (r 0) j=X0:=⟨_,rfl⟩;obtain⟨X2,hX2⟩:∃X2,zac (r 2) j=X2:=⟨_,rfl⟩;obtain⟨XA,hXA⟩:∃XA,zac xs j=XA:=⟨_,rfl⟩;obtain⟨XB,hXB⟩:∃XB,zac bs j=XB:=⟨_,rfl⟩;rw[hX0] at q0 q1 e2;rw[hX2] at q2 e2;rw[hXA] at q5 e2;rw[hXB] at q6 e2;obtain⟨Z,hZ⟩:∃Z,bits .xor .u8 X0 XA=Z:=⟨_,rfl⟩;rw[hZ] at e2;have hz2:=e2.symm;clear h0 h1 h2 k0 k1 k2 k5 k6 e1 e2 hX0 hX2 hXA hXB;go_wp2_with fail
      go_quiet (fail)
      go_wp2;go_roundw
      case rel=>exact⟨j+1,by omega,by go_num,Ext.drewN HXX.out _⟩
      case measure=>simp[intOf];omega
     ·obtain rfl:j=K:=by omega
      go_wp2;go_ret;exact⟨rfl,Ext.trans HX2.out (Ext.trans HX.out HXX.out)⟩
end Go.Proofs.YtiajebbfgpnenaaGreatDoor.C
