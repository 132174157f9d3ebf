/- The law on bytes taken in other steps by a mode, walked; own lemmas of the verifier, no statement is proved here. -/
import Derived.Test.YtiajebbfgpnenaaGreatDoorCM9
namespace Go.Proofs.YtiajebbfgpnenaaGreatDoor.C
open Go.RowKit
set_option maxRecDepth 100000
set_option maxHeartbeats 8000000
theorem zt6[Inhabited D.BT][Inhabited S.RT](a0:Int)(a1:Int)(a2:Option Addr)(len2 cap2:Nat)(z2:List Int)(a3:Int)(a4:Bool)(a5:Option Addr)(len5 cap5:Nat)(z5:List Int)(a6:Option Addr)(len6 cap6:Nat)(z6:List Int)(a7:Option Addr)(len7 cap7:Nat)(z7:List Int)(w:World)(_w0:(Lit.int .i64 a0).wf=true)(_w1:(Lit.int .i64 a1).wf=true)(w2:IsRow .u8 w a2 len2 cap2 z2)(_w3:(Lit.int .i64 a3).wf=true)(w5:IsRow .u8 w a5 len5 cap5 z5)(w6:IsRow .u8 w a6 len6 cap6 z6)(w7:IsRow .i64 w a7 len7 cap7 z7)(hG:GC w):
  Calls Tryz.prog 4 #[.int .i64 a0,.int .i64 a1,.slice a2 len2 cap2,.int .i64 a3,.bool a4,.slice a5 len5 cap5,.slice a6 len6 cap6,.slice a7 len7 cap7] w fun e w'=>e=.returned (.bool true)/\Below w.heap.size w w':=by
 obtain⟨ks,hrk,hlk,_⟩:=w2.rdb;obtain⟨vs,hrv,hlv,_⟩:=w5.rdb;obtain⟨bs,hrb,hlb,hcb⟩:=w6.rdb;obtain⟨f,n,hF,hn,hB⟩:=zn6 a0 a1 ks;obtain⟨m,hm,hme⟩:∃m:Nat,(1<=m/\m<=6)/\1+a3%6=(m:Int):=⟨(1+a3%6).toNat,by omega,by omega⟩;have hm0:0<=a3%6:=by omega
 have hm1:a3%6<6:=by omega
 have HG:=hid hG;have HF:=hid hF;have HN:=hid hn;have HB:=hid hB;have HRK:=hid hrk;have HLK:=hid hlk;have HRV:=hid hrv;have HLV:=hid hlv;have HRB:=hid hrb;have HCB:=hid hcb;have HM:=hid hm;have HME:=hid hme;clear hG hF hn hB hrk hlk hrv hlv hrb w2 w5 w6 hme hlb hcb;go_enter Tryz.func4,Tryz.ntmps4;go_wp2_with fail
 refine(zol w HG.out).mono ?_;rintro e w1 ⟨rfl,hx1⟩;have HX1:=hid hx1;clear hx1;by_cases hbig:200<len6
 ·have hb1:decide ((200:Int)<len6)=true:=by simp;omega
  clear hbig;go_wp2_with fail
  go_ret;exact⟨rfl,HX1.out⟩
 have hb1:decide ((200:Int)<len6)=false:=by simp;omega
 have HLB:=hid (show len6<=200 by omega);clear hbig;go_wp2_with fail
 refine(HB.out a2 len2 cap2 w1 (HG.out.later HX1.out) (HRK.out.later HX1.out) HLK.out).mono ?_;rintro e w2 ⟨pc,pd,rfl,_,hI,hx2⟩;have HX2:=hid (Ext.trans HX1.out hx2);have HI:=hid hI;clear hx2 hI HX1;go_wp2_with fail
 refine(zfL a3 6 w2 (by omega) (by omega)).mono ?_;rintro e w3 ⟨rfl,rfl⟩;go_wp2_with fail
 rw[HME.out];refine(zcO pc n f w2 HI.out).mono ?_;rintro e w3 ⟨rfl,rfl⟩;go_wp2_with fail
 refine(zlb m n a5 len5 cap5 vs w2 (HRV.out.later HX2.out) (by have:=HN.out;omega) HLV.out).mono ?_;rintro e w3 ⟨v3,rfl,ho3,hx3⟩;obtain⟨A3,c3,rfl,_,hr3,_⟩:=ho3.rdf (zfk n m vs);have HX3:=hid (Ext.trans HX2.out hx3);have HI3:=hid (HI.out.later hx3);have HR3:=hid hr3;clear ho3 hx3 hr3 HX2 HI;go_wp2_with fail
 refine(zeG pc n m a4 f A3 (ivN n m) c3 (ivL n m vs) w3 HM.out ⟨HF.out.pos,by have:=HN.out;omega⟩ rfl HI3.out HR3.out).mono ?_;rintro e w4 ⟨p1,rfl,hp1,hM1,hx4⟩;have HG0:=hid (show Good n m ⟨ch0 n (ivL n m vs),[]⟩ from⟨zkm _ _ (by rw[zfk];unfold ivN;split<;>omega),Nat.zero_le _⟩);obtain⟨s0,hs0⟩:∃s0,(⟨ch0 n (ivL n m vs),[]⟩:St)=s0:=⟨_,rfl⟩;rw[hs0] at hM1 HG0;have HS0:=hid hs0;have HX34:=hid hx4;have HP1:=hid hp1;have HM1:=hid hM1;have HX4:=hid (Ext.trans HX3.out hx4);have HI4:=hid (HI3.out.later hx4);clear hs0 hM1 hx4 hp1 HR3;go_wp2_with fail
 refine(zcO pc n f w4 HI4.out).mono ?_;rintro e w5 ⟨rfl,rfl⟩;go_wp2_with fail
 refine(zlb m n a5 len5 cap5 vs w4 (HRV.out.later HX4.out) (by have:=HN.out;omega) HLV.out).mono ?_;rintro e w5 ⟨v5,rfl,ho5,hx5⟩;obtain⟨A5,c5,rfl,_,hr5,_⟩:=ho5.rdf (zfk n m vs);have HX5:=hid (Ext.trans HX4.out hx5);have HX35:=hid (Ext.trans HX34.out hx5);have HM1:=hid (HM1.out.later hx5);have HI5:=hid (HI4.out.later hx5);have HR5:=hid hr5;clear ho5 hx5 hr5 HX4 HI4 HX34;go_wp2_with fail
 refine(zeG pc n m a4 f A5 (ivN n m) c5 (ivL n m vs) w5 HM.out ⟨HF.out.pos,by have:=HN.out;omega⟩ rfl HI5.out HR5.out).mono ?_;rintro e w6 ⟨p2,rfl,hp2,hM2,hx6⟩;rw[HS0.out] at hM2;have HNE:=hid (show p1≠p2 by have:=HM1.out.lt;omega);have HP2:=hid (Nat.le_trans (Below.size HX35.out) hp2);have HM1:=hid (HM1.out.later hx6);have HM2:=hid hM2;have HX6:=hid (Ext.trans HX5.out hx6);have HX36:=hid (Ext.trans HX35.out hx6);clear hM2 hx6 hp2 HR5 HX35 HI5 HX5 HS0;go_wp2_with fail
 have hgp:=zkZ (m:=m) HF.out;have hgn:gr n m<=16:=by have:=HN.out;unfold gr;split<;>omega
 have HGR:=hid (zgd _ p1 pc n m a4 s0 w6 HM1.out);obtain⟨g,hg⟩:∃g,gr n m=g:=⟨_,rfl⟩;rw[hg] at hgp hgn HGR;have HGE:=hid hg;clear hg;refine HGR.out.mono ?_;rintro e w7 ⟨rfl,rfl⟩;have hg1:decide ((g:Int)<1)=false:=by simp;omega
 have hg16:decide ((16:Int)<g)=false:=by simp;omega
 obtain⟨q,B,hBq,hBL,hq2,hBm,hw3,hw1,hw2⟩:=whole len6 g HLB.out ⟨hgp,hgn⟩;have HBQ:=hid (And.intro hBq hBm);have HW3:=hid hw3;have hB0:B<=cap6:=Nat.le_trans hBL HCB.out.1;clear hBq hBm hw3;go_wp2_with fail
 have HRB6:=hid ((HRB.out.later HX6.out).cuthi B hBL);obtain⟨bb,hbb⟩:∃bb,bs.take B=bb:=⟨_,rfl⟩;rw[hbb] at HRB6;have hmod:bb.length%gr n m=0:=by rw[HRB6.out.len,HGE.out];exact HBQ.out.2
 have HZL:=hid ((zbJ (back:=a4) HF.out HG0.out bb hmod).1.trans HRB6.out.len);clear hw1 hw2 hg1 hg16 hb1 hbb hmod;have hB2:B<=200:=Nat.le_trans hBL HLB.out;refine(zbP p1 pc n m a4 s0 f a6 B cap6 bb w6 w3 HM.out HF.out (by have:=HN.out;omega) HG0.out HM1.out HI3.out HX36.out HP1.out HRB6.out ⟨hB0,HCB.out.2⟩ (by omega) (by rw[HGE.out];exact HBQ.out.2)).mono ?_;rintro e w8 ⟨v8,rfl,ho8,_,hG8⟩;obtain⟨A8,c8,rfl,hc8,hr8,_⟩:=ho8.rdf (n:=B) HZL.out;obtain⟨Z,hZ⟩:∃Z,(stp f n m a4 s0 bb).1=Z:=⟨_,rfl⟩;rw[hZ] at hr8;have HZZ:=hid hZ;have HM2:=hid (HM2.out.apart HM1.out.is (Ne.symm HNE.out) hG8);have HX38:=hid (zgh HX36.out hG8 HP1.out);have HB8:=hid (zco (B:=w.heap.size) HX6.out hG8 (Nat.le_trans (Below.size HX3.out) HP1.out) (Below.size HX6.out));have HRB8:=hid (HRB6.out.gb HM1.out.is hG8);have HZ8:=hid hr8;have HC8:=hid hc8;clear ho8 hG8 hZ hr8 hc8 HRB6 HX36 HX6 HM1 HZL hB0
 have H8P:=hid HM2.out.lt;have HM2:=hid (HM2.out.na (O':=At (.slice none 0 0)) (fun _ h=>by cases h));obtain⟨ns,hns,_,_,_⟩:=w7.rdN;have HNS:=hid hns;clear hns;obtain⟨E,hE⟩:∃E,w8.heap.size=E:=⟨_,rfl⟩;have HE:=hid hE;have HBB:=hid HRB8.out.len;clear hE;go_wp2_with fail
 go_loopw [27,28,29] (fun o r i wr=>∃(k K lk ck:Nat) (Ar:Option Addr),k<=len7+1/\i=.int .i64 k/\r=.slice Ar lk ck/\K+lk=B/\(lk<=ck/\ck<=9223372036854775807)/\K%g=0/\Rd wr E Ar lk (bb.drop K)/\Own wr E o (stp f n m a4 s0 (bb.take K)).1/\IsM (At o) wr p2 pc n m a4 (stp f n m a4 s0 (bb.take K)).2/\Ext w3 wr/\Below w.heap.size w wr/\Rd wr E A8 B Z/\E<=wr.heap.size) (fun _ _ i _=>len7+1-(intOf i).toNat)
 case atStart =>
  refine⟨0,0,B,cap6,a6,by omega,rfl,rfl,by omega,⟨by have:=HCB.out;omega,HCB.out.2⟩,Nat.zero_mod _,by rw[List.drop_zero,<-HE.out];exact HRB8.out,?_,?_,HX38.out,HB8.out,by rw[<-HE.out];exact HZ8.out,by rw[<-HE.out];exact Nat.le_refl _⟩
  ·rw[List.take_zero,znu];exact Own.nil _ _
  ·rw[List.take_zero,znu];exact HM2.out
 case round =>
  obtain⟨k,K,lk,ck,Ar,hk,rfl,rfl,hKl,hck,hKg,hr,ho,hM,hx,hb,hz,hE⟩:=hrel;have HR:=hid hr;have HO:=hid ho;have HMM:=hid hM;have HX:=hid hx;have HB9:=hid hb;have HZ:=hid hz;have HEE:=hid hE;have HKG:=hid hKg;have HCK:=hid hck;have HKL:=hid hKl;have hck0:=hck.1;clear hr ho hM hx hb hz hE hKg hck hKl;have hlk:lk<=200:=by have:=HKL.out;omega
  by_cases hgo:k<=len7/\k<40
  ·obtain⟨hg1,hg2⟩:=hgo;have HLM:=hid (show lk%g=0 by have:=zn0 HBQ.out.2 HKG.out;rwa[show B-K=lk by have:=HKL.out;omega] at this);go_upto_if 119 with fail
   go_cut [30] (fun p wx=>wx=wr/\∃L,p=.slice Ar L ck/\L<=lk/\L%g=0)
   case first =>
    by_cases hkl:k<len7
    ·obtain⟨nb,no,rfl,hnb,hnc⟩:=(HNS.out.below HB9.out (Nat.le_refl _)).at_ (by omega);have hcell:=hnc k hkl;obtain⟨d,D,hd,hD,hD2,hDM⟩:=zmm (ns.getD k 0) g ⟨hgp,hgn⟩;have HDM:=hid hDM;obtain⟨X,hX⟩:∃X,ns.getD k 0=X:=⟨_,rfl⟩;rw[hX] at hcell hd;have HD:=hid hd;clear hnc hX hd hDM;go_wp2_with fail
     refine(zfL X 9 wr (by omega) (by omega)).mono ?_;rintro e wr' ⟨rfl,rfl⟩;rw[HD.out];go_wp2_with fail
     all_goals
      go_meet
      exact⟨rfl,_,rfl,by omega,by first|exact HLM.out|exact HDM.out⟩
    ·go_wp2_with fail
     go_meet
     exact⟨rfl,lk,rfl,Nat.le_refl _,HLM.out⟩
   case rest =>
    rename_i hQ;obtain⟨hw,L,rfl,hL1,hL2⟩:=hcut;apply hQ;clear hQ;subst hw;obtain⟨S1,hS1⟩:∃S1,stp f n m a4 s0 (bb.take K)=S1:=⟨_,rfl⟩;have hbl:=HBB.out;have hkl:=HKL.out;have hgood:=zbJ (back:=a4) HF.out HG0.out (bb.take K) (by rw[List.length_take,hbl,Nat.min_eq_left (by omega),HGE.out];exact HKG.out);have happ:=zgw (back:=a4) (s:=s0) HF.out (bb.take K) ((bb.drop K).take L) (by rw[List.length_take,hbl,Nat.min_eq_left (by omega),HGE.out];exact HKG.out);rw[<-List.take_add,hS1] at happ;have ho:=HO.out;have hM:=HMM.out;rw[hS1] at hgood ho hM;have hr1:=HR.out.cuthi L hL1;have hr2:=HR.out.cutlo (c:=ck) hL1 hck0;rw[List.drop_drop] at hr2;simp only[Nat.mul_one] at hr2;obtain⟨P,hP⟩:∃P,(bb.drop K).take L=P:=⟨_,rfl⟩;rw[hP] at hr1 happ;have hgood2:=zbJ (back:=a4) HF.out hgood.2 P (by rw[hr1.len,HGE.out];exact hL2);obtain⟨S2,hS2⟩:∃S2,stp f n m a4 S1.2 P=S2:=⟨_,rfl⟩
    rw[hS2] at happ hgood2;have hlen2:S2.1.length=L:=hgood2.1.trans hr1.len;have hlen1:S1.1.length=K:=hgood.1.trans (by rw[List.length_take,hbl];omega);have HST:=hid (zbP p2 pc n m a4 S1.2 f Ar L ck P wc w3 HM.out HF.out (by have:=HN.out;omega) hgood.2 hM HI3.out HX.out HP2.out (hr1.more HEE.out) ⟨by omega,HCK.out.2⟩ (by omega) (by rw[HGE.out];exact hL2) (fun q hq=>(World.ownsRow.lt ho q hq).2));rw[hS2] at HST;have HROW:=hid hM.is;have HOW:=hid (And.intro ho (And.intro hlen1 hlen2));have HAPP:=hid happ;have HGD:=hid hgood2.2;have HR2:=hid hr2;have HL:=hid (And.intro hL1 hL2);have HKL2:=hid (show K+L+(lk-L)=B by omega);have HKM:=hid (ztk HKG.out hL2);have HPE:=hid (show p2<E by rw[<-HE.out];exact H8P.out);obtain⟨ck2,hck2⟩:∃ck2,ck-L=ck2:=⟨_,rfl⟩;have HCK2:=hid (show lk-L<=ck2/\ck2<=9223372036854775807 by have:=HCK.out;omega)
    clear hS1 hbl hkl hgood happ ho hM hr2 hr1 hgood2 hP hS2 hlen1 hlen2 hL2;have hlc:L<=ck:=by omega
    by_cases hcl:ck=L
    ·obtain rfl:ck2=0:=by omega
     have h0:lk-L=0:=by omega
     have hr2:=HR2.out;rw[if_pos hcl,h0] at hr2;have hk2:=HKL2.out;rw[h0] at hk2;clear HR2 HKL2 HCK2;have HR2:=hid hr2;have HKL2:=hid hk2;have HCK2:=hid (show 0<=0/\(0:Nat)<=9223372036854775807 by omega);clear hr2 h0 hk2;subst hcl;go_wp2_with fail
     refine HST.out.mono ?_;rintro e w10 ⟨v10,rfl,ho10,hM10,hG10⟩;obtain⟨A10,c10,rfl,hc10,hr10,_⟩:=ho10.rdf HOW.out.2.2;have HG10:=hid hG10;have HM10:=hid hM10;have how:=HOW.out.1.gb hG10 HPE.out;have HHOW:=hid how;have HE10:=hid (Nat.le_trans HEE.out hG10.size);clear ho10 hM10 hG10 hc10;go_wp2_with (at_builtin;refine zi (v:=u27) rfl (.tmp 144) (.tmp 145) rfl rfl how rfl hr10 (by have:=HOW.out.2.1;have:=HKL.out;omega) HE10.out ?_;intro v11 w11 hown11 hg11 hl11;have HW11:=hid (And.intro hown11 (And.intro hg11 hl11));clear hown11 hg11 hl11)
     obtain⟨hown11,hg11,hl11⟩:=HW11.out;have hlt:=World.ownsRow.lt HHOW.out;have hbl:=(Below.refl E w10).grown hg11 HE10.out (fun q hq=>(hlt q hq).1);have h3:=Below.size HX.out;have hx10:=zgh HX.out HG10.out HP2.out;have hb10:=zco (B:=w.heap.size) HB9.out HG10.out (Nat.le_trans (Below.size HX3.out) HP2.out) (Below.size HB9.out);have hp3:=HP2.out;have hpe:=HPE.out;refine⟨⟨k+1,_,_,_,_,by omega,by go_num,rfl,HKL2.out,HCK2.out,HKM.out,(zjy HR2.out HEE.out HROW.out HG10.out).below hbl (Nat.le_refl _),?_,?_,hx10.grown hg11 (Below.size hx10) (fun q hq=>by have:=(hlt q hq).1;omega),hb10.grown hg11 (Below.size hb10) (fun q hq=>by have:=(hlt q hq).1;have:=Below.size HX3.out;omega),(zjy HZ.out HEE.out HROW.out HG10.out).below hbl (Nat.le_refl _),Nat.le_trans HE10.out hg11.size⟩,?_⟩
     ·rw[HAPP.out];exact hown11
     ·rw[HAPP.out];exact HM10.out.app hpe (fun q hq=>(hlt q hq).1) hg11 hl11
     ·simp[intOf];omega
    ·have hr2:=HR2.out;rw[if_neg hcl] at hr2;have HR2:=hid hr2;clear hr2;go_wp2_with fail
     refine HST.out.mono ?_;rintro e w10 ⟨v10,rfl,ho10,hM10,hG10⟩;obtain⟨A10,c10,rfl,hc10,hr10,_⟩:=ho10.rdf HOW.out.2.2;have HG10:=hid hG10;have HM10:=hid hM10;have how:=HOW.out.1.gb hG10 HPE.out;have HHOW:=hid how;have HE10:=hid (Nat.le_trans HEE.out hG10.size);clear ho10 hM10 hG10 hc10;go_wp2_with (at_builtin;refine zi (v:=u27) rfl (.tmp 144) (.tmp 145) rfl rfl how rfl hr10 (by have:=HOW.out.2.1;have:=HKL.out;omega) HE10.out ?_;intro v11 w11 hown11 hg11 hl11;have HW11:=hid (And.intro hown11 (And.intro hg11 hl11));clear hown11 hg11 hl11)
     obtain⟨hown11,hg11,hl11⟩:=HW11.out;have hlt:=World.ownsRow.lt HHOW.out;have hbl:=(Below.refl E w10).grown hg11 HE10.out (fun q hq=>(hlt q hq).1);have h3:=Below.size HX.out;have hx10:=zgh HX.out HG10.out HP2.out;have hb10:=zco (B:=w.heap.size) HB9.out HG10.out (Nat.le_trans (Below.size HX3.out) HP2.out) (Below.size HB9.out);have hp3:=HP2.out;have hpe:=HPE.out;refine⟨⟨k+1,_,_,_,_,by omega,by go_num,rfl,HKL2.out,HCK2.out,HKM.out,(zjy HR2.out HEE.out HROW.out HG10.out).below hbl (Nat.le_refl _),?_,?_,hx10.grown hg11 (Below.size hx10) (fun q hq=>by have:=(hlt q hq).1;omega),hb10.grown hg11 (Below.size hb10) (fun q hq=>by have:=(hlt q hq).1;have:=Below.size HX3.out;omega),(zjy HZ.out HEE.out HROW.out HG10.out).below hbl (Nat.le_refl _),Nat.le_trans HE10.out hg11.size⟩,?_⟩
     ·rw[HAPP.out];exact hown11
     ·rw[HAPP.out];exact HM10.out.app hpe (fun q hq=>(hlt q hq).1) hg11 hl11
     ·simp[intOf];omega
  ·obtain⟨S1,hS1⟩:∃S1,stp f n m a4 s0 (bb.take K)=S1:=⟨_,rfl⟩;have hbl:=HBB.out;have hkl:=HKL.out;have hgood:=zbJ (back:=a4) HF.out HG0.out (bb.take K) (by rw[List.length_take,hbl,Nat.min_eq_left (by omega),HGE.out];exact HKG.out);have happ:=zgw (back:=a4) (s:=s0) HF.out (bb.take K) (bb.drop K) (by rw[List.length_take,hbl,Nat.min_eq_left (by omega),HGE.out];exact HKG.out);rw[List.take_append_drop,hS1] at happ;have ho:=HO.out;have hM:=HMM.out;rw[hS1] at hgood ho hM;have hr1:=HR.out;obtain⟨P,hP⟩:∃P,bb.drop K=P:=⟨_,rfl⟩;rw[hP] at hr1 happ;have hlm:lk%g=0:=by have:=zn0 HBQ.out.2 HKG.out;rwa[show B-K=lk by omega] at this
   have hgood2:=zbJ (back:=a4) HF.out hgood.2 P (by rw[hr1.len,HGE.out];exact hlm);obtain⟨S2,hS2⟩:∃S2,stp f n m a4 S1.2 P=S2:=⟨_,rfl⟩;rw[hS2] at happ hgood2;have hlen2:S2.1.length=lk:=hgood2.1.trans hr1.len;have hlen1:S1.1.length=K:=hgood.1.trans (by rw[List.length_take,hbl];omega);have HST:=hid (zbP p2 pc n m a4 S1.2 f Ar lk ck P wr w3 HM.out HF.out (by have:=HN.out;omega) hgood.2 hM HI3.out HX.out HP2.out (hr1.more HEE.out) HCK.out (by omega) (by rw[HGE.out];exact hlm) (fun q hq=>(World.ownsRow.lt ho q hq).2));rw[hS2] at HST;have HROW:=hid hM.is;have HOW:=hid (And.intro ho (And.intro hlen1 hlen2));have HAPP:=hid (show S1.1++S2.1=Z by rw[<-HZZ.out,happ]);have HPE:=hid (show p2<E by rw[<-HE.out];exact H8P.out);clear hS1 hbl hkl hgood happ ho hM hr1 hgood2 hP hS2 hlen1 hlen2 hlm;have hkk:k<=len7->¬k<40:=fun h1 h2=>hgo ⟨h1,h2⟩
   clear hgo;by_cases hkn:k<=len7;all_goals
    first|have hk4:=hkk hkn|skip
    clear hkk;go_wp2_with fail
    refine HST.out.mono ?_;rintro e w10 ⟨v10,rfl,ho10,hM10,hG10⟩;obtain⟨A10,c10,rfl,hc10,hr10,_⟩:=ho10.rdf HOW.out.2.2;have HG10:=hid hG10;have how:=HOW.out.1.gb hG10 HPE.out;have HHOW:=hid how;have HE10:=hid (Nat.le_trans HEE.out hG10.size);clear ho10 hM10 hG10 hc10;go_upto_region 33 with(at_builtin;refine zi (v:=u27) rfl (.tmp 153) (.tmp 154) rfl rfl how rfl hr10 (by have:=HOW.out.2.1;have:=HKL.out;omega) HE10.out ?_;intro v11 w11 hown11 hg11 hl11;have HW11:=hid (And.intro hown11 hg11);clear hown11 hg11 hl11)
    obtain⟨hown11,hg11⟩:=HW11.out;rw[HAPP.out] at hown11;obtain⟨A11,c11,rfl,_,hr11,_⟩:=hown11.rdf (n:=B) HZ.out.len;have hlt:=World.ownsRow.lt HHOW.out;have hbl:=(Below.refl E w10).grown hg11 HE10.out (fun q hq=>(hlt q hq).1);have hb10:=zco (B:=w.heap.size) HB9.out HG10.out (Nat.le_trans (Below.size HX3.out) HP2.out) (Below.size HB9.out);have hp3:=HP2.out;have hpe:=HPE.out;have HBF:=hid (hb10.grown hg11 (Below.size hb10) (fun q hq=>by have:=(hlt q hq).1;have:=Below.size HX3.out;omega));have hs1:=strq (c:=c11) hr11;have hs2:=strq (c:=c8) ((zjy HZ.out HEE.out HROW.out HG10.out).below hbl (Nat.le_refl _));clear hown11 hg11 hr11 hbl how hr10 hlt hb10 hp3 hpe;go_wp2_with fail
    go_ret;exact⟨rfl,HBF.out⟩
end Go.Proofs.YtiajebbfgpnenaaGreatDoor.C
