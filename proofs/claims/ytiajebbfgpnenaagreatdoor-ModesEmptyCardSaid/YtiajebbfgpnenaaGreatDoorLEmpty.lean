/- The law on steps of no bytes, walked; own lemmas of the verifier, no statement is proved here. -/
import Derived.Test.YtiajebbfgpnenaaGreatDoorQC
namespace Go.Proofs.YtiajebbfgpnenaaGreatDoor.C
open Go.RowKit
set_option maxRecDepth 100000
set_option maxHeartbeats 8000000
theorem gr_mul{n m:Nat}(q:Nat):(q*n)%gr n m=0:=by
 unfold gr;split
 ·exact Nat.mul_mod_left _ _
 ·exact Nat.mod_one _
theorem empty_nums(I k n q B:Nat)(hI:I=k*n)(hB:B=q*n)(hB1:B<=100)(hn:1<=n)(hlt:I<B):(I+n<=B)/\(wrap64 ((I:Int)+(n:Int))=((I+n:Nat):Int)/\k+1<=q)/\wrap64 ((I:Int)/(n:Int))=(k:Int):=by
 have h1:k<q:=by
  rcases Nat.lt_or_ge k q with h|h
  ·exact h
  ·have:=Nat.mul_le_mul_right n h;omega
 have h2:(k+1)*n<=q*n:=Nat.mul_le_mul_right n h1;rw[Nat.succ_mul] at h2;have h3:k<=k*n:=Nat.le_mul_of_pos_right k hn;refine⟨by omega,⟨?_,h1⟩,?_⟩
 ·rw[IntWalk.wrap64_in _ (by omega)];omega
 ·rw[<-Int.natCast_ediv,hI,Nat.mul_div_cancel _ hn];generalize k*n=z at hI h3;exact IntWalk.wrap64_in _ (by omega)
theorem mempty_walk[Inhabited D.BT][Inhabited S.RT](a0:Int)(a1:Int)(a2:Option Addr)(len2 cap2:Nat)(z2:List Int)(a3:Int)(a4:Bool)(a5:Option Addr)(len5 cap5:Nat)(z5:List Int)(a6:Option Addr)(len6 cap6:Nat)(z6:List Int)(a7:Option Addr)(len7 cap7:Nat)(z7:List Int)(w:World)(_w0:(Lit.int .i64 a0).wf=true)(_w1:(Lit.int .i64 a1).wf=true)(w2:IsRow .u8 w a2 len2 cap2 z2)(_w3:(Lit.int .i64 a3).wf=true)(w5:IsRow .u8 w a5 len5 cap5 z5)(w6:IsRow .u8 w a6 len6 cap6 z6)(w7:IsRow .i64 w a7 len7 cap7 z7)(hG:GC w):
  Calls Tryz.prog 10 #[.int .i64 a0,.int .i64 a1,.slice a2 len2 cap2,.int .i64 a3,.bool a4,.slice a5 len5 cap5,.slice a6 len6 cap6,.slice a7 len7 cap7] w fun e w'=>e=.returned (.bool true)/\Below w.heap.size w w':=by
 obtain⟨ks,hrk,hlk,_⟩:=w2.rdb;obtain⟨vs,hrv,hlv,_⟩:=w5.rdb;obtain⟨bs,hrb,hlb,hcb⟩:=w6.rdb;obtain⟨f,n,hF,hn,hB⟩:=zn6 a0 a1 ks;obtain⟨m,hm,hme⟩:∃m:Nat,(1<=m/\m<=6)/\1+a3%6=(m:Int):=⟨(1+a3%6).toNat,by omega,by omega⟩;have hm0:0<=a3%6:=by omega
 have hm1:a3%6<6:=by omega
 have HG:=hid hG;have HF:=hid hF;have HN:=hid hn;have HB:=hid hB;have HRK:=hid hrk;have HLK:=hid hlk;have HRV:=hid hrv;have HLV:=hid hlv;have HRB:=hid hrb;have HCB:=hid hcb;have HM:=hid hm;have HME:=hid hme;clear hG hF hn hB hrk hlk hrv hlv hrb w2 w5 w6 hme hlb hcb;go_enter Tryz.func10,Tryz.ntmps10;go_wp2_with fail
 refine(zol w HG.out).mono ?_;rintro e w1 ⟨rfl,hx1⟩;have HX1:=hid hx1;clear hx1;by_cases hbig:100<len6
 ·have hb1:decide ((100:Int)<len6)=true:=by simp;omega
  clear hbig;go_wp2_with fail
  go_ret;exact⟨rfl,HX1.out⟩
 have hb1:decide ((100:Int)<len6)=false:=by simp;omega
 have HLB:=hid (show len6<=100 by omega);clear hbig;go_wp2_with fail
 refine(HB.out a2 len2 cap2 w1 (HG.out.later HX1.out) (HRK.out.later HX1.out) HLK.out).mono ?_;rintro e w2 ⟨pc,pd,rfl,_,hI,hx2⟩;have HX2:=hid (Ext.trans HX1.out hx2);have HI:=hid hI;clear hx2 hI HX1;go_wp2_with fail
 refine(zfL a3 6 w2 (by omega) (by omega)).mono ?_;rintro e w3 ⟨rfl,rfl⟩;go_wp2_with fail
 rw[HME.out];refine(zcO pc n f w2 HI.out).mono ?_;rintro e w3 ⟨rfl,rfl⟩;go_wp2_with fail
 refine(zlb m n a5 len5 cap5 vs w2 (HRV.out.later HX2.out) (by have:=HN.out;omega) HLV.out).mono ?_;rintro e w3 ⟨v3,rfl,ho3,hx3⟩;obtain⟨A3,c3,rfl,_,hr3,_⟩:=ho3.rdf (zfk n m vs);have HX3:=hid (Ext.trans HX2.out hx3);have HI3:=hid (HI.out.later hx3);have HR3:=hid hr3;clear ho3 hx3 hr3 HX2 HI;go_wp2_with fail
 refine(zeG pc n m a4 f A3 (ivN n m) c3 (ivL n m vs) w3 HM.out ⟨HF.out.pos,by have:=HN.out;omega⟩ rfl HI3.out HR3.out).mono ?_;rintro e w4 ⟨p1,rfl,hp1,hM1,hx4⟩;have HG0:=hid (show Good n m ⟨ch0 n (ivL n m vs),[]⟩ from⟨zkm _ _ (by rw[zfk];unfold ivN;split<;>omega),Nat.zero_le _⟩);obtain⟨s0,hs0⟩:∃s0,(⟨ch0 n (ivL n m vs),[]⟩:St)=s0:=⟨_,rfl⟩;rw[hs0] at hM1 HG0;have HS0:=hid hs0;have HX34:=hid hx4;have HP1:=hid hp1;have HM1:=hid hM1;have HX4:=hid (Ext.trans HX3.out hx4);have HI4:=hid (HI3.out.later hx4);clear hs0 hM1 hx4 hp1 HR3;go_wp2_with fail
 refine(zcO pc n f w4 HI4.out).mono ?_;rintro e w5 ⟨rfl,rfl⟩;go_wp2_with fail
 refine(zlb m n a5 len5 cap5 vs w4 (HRV.out.later HX4.out) (by have:=HN.out;omega) HLV.out).mono ?_;rintro e w5 ⟨v5,rfl,ho5,hx5⟩;obtain⟨A5,c5,rfl,_,hr5,_⟩:=ho5.rdf (zfk n m vs);have HX5:=hid (Ext.trans HX4.out hx5);have HX35:=hid (Ext.trans HX34.out hx5);have HM1:=hid (HM1.out.later hx5);have HI5:=hid (HI4.out.later hx5);have HR5:=hid hr5;clear ho5 hx5 hr5 HX4 HI4 HX34;go_wp2_with fail
 refine(zeG pc n m a4 f A5 (ivN n m) c5 (ivL n m vs) w5 HM.out ⟨HF.out.pos,by have:=HN.out;omega⟩ rfl HI5.out HR5.out).mono ?_;rintro e w6 ⟨p2,rfl,hp2,hM2,hx6⟩;rw[HS0.out] at hM2;have HNE:=hid (show p1≠p2 by have:=HM1.out.lt;omega);have HP2:=hid (Nat.le_trans (Below.size HX35.out) hp2);have HM1:=hid (HM1.out.later hx6);have HM2:=hid hM2;have HX6:=hid (Ext.trans HX5.out hx6);have HX36:=hid (Ext.trans HX35.out hx6);clear hM2 hx6 hp2 HR5 HX35 HI5 HX5 HS0;go_wp2_with fail
 have HI6:=hid (HI3.out.later HX36.out);refine(zcO pc n f w6 HI6.out).mono ?_;rintro e w7 ⟨rfl,rfl⟩;have hgp:=HF.out.pos;have hgn:=HN.out;obtain⟨q,B,hBq,hBL,hq2,hBm,hw3,hw1,hw2⟩:=whole len6 n (by have:=HLB.out;omega) ⟨hgp,hgn⟩;have HBQ:=hid (And.intro hBq hBm);have hB0:B<=cap6:=Nat.le_trans hBL HCB.out.1;have hB100:B<=100:=Nat.le_trans hBL HLB.out;clear hBq hBm hw3;go_upto_region 15 with fail
 clear hw1 hw2;go_wp2_with fail
 have HRB6:=hid ((HRB.out.later HX6.out).cuthi B hBL);obtain⟨bb,hbb⟩:∃bb,bs.take B=bb:=⟨_,rfl⟩;rw[hbb] at HRB6;have HBL:=hid HRB6.out.len;have HMD:=hid (show ∀k:Nat,(k*n)%gr n m=0 from fun k=>gr_mul k);have hBM:B%gr n m=0:=by rw[HBQ.out.1];exact HMD.out q
 have HBM:=hid hBM;have HZL:=hid ((zbJ (back:=a4) HF.out HG0.out bb (by rw[HBL.out];exact hBM)).1.trans HRB6.out.len);clear hbb hBM;refine(zbP p1 pc n m a4 s0 f a6 B cap6 bb w6 w3 HM.out HF.out (by have:=HN.out;omega) HG0.out HM1.out HI3.out HX36.out HP1.out HRB6.out ⟨hB0,HCB.out.2⟩ (by omega) HBM.out).mono ?_;rintro e w8 ⟨v8,rfl,ho8,_,hG8⟩;obtain⟨A8,c8,rfl,hc8,hr8,_⟩:=ho8.rdf (n:=B) HZL.out;obtain⟨Z,hZ⟩:∃Z,(stp f n m a4 s0 bb).1=Z:=⟨_,rfl⟩;rw[hZ] at hr8;have HZZ:=hid hZ;have HM2:=hid (HM2.out.apart HM1.out.is (Ne.symm HNE.out) hG8);have HX38:=hid (zgh HX36.out hG8 HP1.out);have HB8:=hid (zco (B:=w.heap.size) HX6.out hG8 (Nat.le_trans (Below.size HX3.out) HP1.out) (Below.size HX6.out));have HRB8:=hid (HRB6.out.gb HM1.out.is hG8);have HZ8:=hid hr8;clear ho8 hG8 hZ hr8 hc8 HRB6 HX36 HX6 HM1 HZL HI6;obtain⟨ns,hns,_,_,_⟩:=w7.rdN;have HNS:=hid hns;clear hns;go_wp2_with fail
 go_loopw [27,28] (fun o i wr=>∃(k I:Nat),I=k*n/\k<=q/\i=.int .i64 I/\o=.string (str (stp f n m a4 s0 (bb.take I)).1)/\IsM NoO wr p2 pc n m a4 (stp f n m a4 s0 (bb.take I)).2/\Ext w3 wr/\Below w.heap.size w wr/\Rd wr wr.heap.size A8 B Z/\Rd wr wr.heap.size a6 B bb) (fun _ i _=>B-(intOf i).toNat)
 case atStart=>exact⟨0,0,by rw[Nat.zero_mul],Nat.zero_le _,rfl,by rw[List.take_zero,znu];rfl,by rw[List.take_zero,znu];exact HM2.out,HX38.out,HB8.out,HZ8.out,HRB8.out⟩
 case round =>
  clear HM2 HX38 HB8 HZ8 HRB8;obtain⟨k,I,hI,hk,rfl,rfl,hM,hx,hb,hz,hr⟩:=hrel;have HM9:=hid hM;have HX9:=hid hx;have HB9:=hid hb;have HZ9:=hid hz;have HR9:=hid hr;have HIE:=hid hI;have HKQ:=hid hk;clear hM hx hb hz hr hI hk;obtain⟨w9,rfl⟩:∃w9,w9=wr:=⟨_,rfl⟩;by_cases hlt:I<B
  ·obtain⟨hIn,hIB,hkI⟩:=empty_nums I k n q B HIE.out HBQ.out.1 hB100 hgp hlt;have HIB:=hid hIB;have HKI:=hid hkI;clear hIB hkI;obtain⟨S1,hS1⟩:∃S1,stp f n m a4 s0 (bb.take I)=S1:=⟨_,rfl⟩;have HS1:=hid hS1;have hM:=HM9.out;rw[hS1] at hM ⊢;have HM1:=hid hM;have HGD:=hid (show Good n m S1.2 by rw[<-hS1];exact(zbJ (back:=a4) HF.out HG0.out (bb.take I) (by rw[List.length_take,HBL.out,Nat.min_eq_left (by omega),HIE.out];exact HMD.out k)).2);clear hM hS1;go_wp2_with fail
   go_loopw [29] (fun j wx=>∃d:Nat,d<=3/\j=.int .i64 d/\IsM NoO wx p2 pc n m a4 S1.2/\Ext w3 wx/\Below w.heap.size w wx/\Rd wx wx.heap.size A8 B Z/\Rd wx wx.heap.size a6 B bb) (fun j _=>3-(intOf j).toNat)
   case atStart=>exact⟨0,by omega,rfl,HM1.out,HX9.out,HB9.out,HZ9.out,HR9.out⟩
   case round =>
    clear HM1 HX9 HB9 HZ9 HR9 HM9;obtain⟨d,hd,rfl,hM,hx,hb,hz,hr⟩:=hrel;have HMM:=hid hM;have HX:=hid hx;have HB10:=hid hb;have HZ:=hid hz;have HR:=hid hr;clear hM hx hb hz hr;have hdv:=HKI.out;obtain⟨D,hD,hD3⟩:∃D:Nat,ns.getD k 0%3=D/\D<3:=⟨(ns.getD k 0%3).toNat,by omega,by omega⟩;by_cases hgo:k<len7/\d<D
    ·obtain⟨hk7,hdD⟩:=hgo;obtain⟨nb,no,rfl,hnb,hnc⟩:=(HNS.out.below HB10.out (Nat.le_refl _)).at_ (by omega);have hcell:=hnc k hk7;obtain⟨X,hX⟩:∃X,ns.getD k 0=X:=⟨_,rfl⟩;rw[hX] at hcell hD;have HD:=hid hD;clear hnc hX hD;go_wp2_with fail
     refine(zfL X 3 wr (by omega) (by omega)).mono ?_;rintro e wr' ⟨rfl,rfl⟩;rw[HD.out];go_wp2_with fail
     refine(zbP p2 pc n m a4 S1.2 f none 0 0 [] wr w3 HM.out HF.out (by have:=HN.out;omega) HGD.out HMM.out HI3.out HX.out HP2.out (Rd.nil _ _ _) (by omega) (by omega) (Nat.zero_mod _)).mono ?_;rintro e w10 ⟨v10,rfl,ho10,hM10,hG10⟩;rw[znu] at ho10 hM10;obtain⟨A10,c10,rfl,_,_,_⟩:=ho10.rdf (n:=0) rfl;have HM10:=hid hM10;have HX10:=hid (zgh HX.out hG10 HP2.out);have HB11:=hid (zco (B:=w.heap.size) HB10.out hG10 (Nat.le_trans (Below.size HX3.out) HP2.out) (Below.size HB10.out));have HZ10:=hid (HZ.out.gb HMM.out.is hG10);have HR10:=hid (HR.out.gb HMM.out.is hG10);clear ho10 hM10 hG10 HX HB10 HZ HR HMM;go_wp2_with fail
     go_roundw
     case rel=>exact⟨d+1,by omega,by go_num,HM10.out,HX10.out,HB11.out,HZ10.out,HR10.out⟩
     case measure=>simp[intOf];omega
    ·have hk0:k<len7->¬d<D:=fun h1 h2=>hgo ⟨h1,h2⟩
     clear hgo;have hIc:I+n<=cap6:=by omega
     have hIl:I<=B:=by omega
     have hnI:¬cap6=I:=by omega
     have hnB:n<=B-I:=by omega
     have hr1:=HR.out.cutlo (c:=cap6) hIl hB0;rw[if_neg hnI] at hr1;have hIlt:I<cap6:=by omega
     clear hnI;have hr2:=hr1.cuthi n hnB;simp only[Nat.mul_one] at hr2;obtain⟨P,hP⟩:∃P,(bb.drop I).take n=P:=⟨_,rfl⟩;rw[hP] at hr2;have HR2:=hid hr2;have HPE:=hid hP;clear hr1 hr2 hP;by_cases hk7:k<len7;all_goals
      first
      | (have hdD:=hk0 hk7
         obtain⟨nb,no,rfl,hnb,hnc⟩:=(HNS.out.below HB10.out (Nat.le_refl _)).at_ (by omega);have hcell:=hnc k hk7;obtain⟨X,hX⟩:∃X,ns.getD k 0=X:=⟨_,rfl⟩;rw[hX] at hcell hD;have HD:=hid hD;clear hnc hX hD hk0;go_wp2_with fail
         refine(zfL X 3 wr (by omega) (by omega)).mono ?_;rintro e wr' ⟨rfl,rfl⟩;rw[HD.out];go_wp2_with fail)
      | (clear hk0
         go_wp2_with fail)
      clear hdv;have hgood:=(zbJ (back:=a4) HF.out HGD.out P (by rw[HR2.out.len];have:=HMD.out 1;rwa[Nat.one_mul] at this)).1.trans HR2.out.len;obtain⟨S2,hS2⟩:∃S2,stp f n m a4 S1.2 P=S2:=⟨_,rfl⟩;have happ:stp f n m a4 s0 (bb.take (I+n))=(S1.1++S2.1,S2.2):=by have h1:=zgw (back:=a4) (s:=s0) HF.out (bb.take I) P (by rw[List.length_take,HBL.out,Nat.min_eq_left hIl,HIE.out];exact HMD.out k);rw[HS1.out,hS2] at h1;rw[List.take_add,HPE.out];exact h1
      have hl1:S1.1.length=I:=by rw[<-HS1.out];exact(zbJ (back:=a4) HF.out HG0.out (bb.take I) (by rw[List.length_take,HBL.out,Nat.min_eq_left hIl,HIE.out];exact HMD.out k)).1.trans (by rw[List.length_take,HBL.out,Nat.min_eq_left hIl])
      rw[hS2] at hgood;have HST:=hid (zbP p2 pc n m a4 S1.2 f _ n (cap6-I) P wr w3 HM.out HF.out (by have:=HN.out;omega) HGD.out HMM.out HI3.out HX.out HP2.out HR2.out (by have:=HCB.out;omega) (by have:=HN.out;omega) (by have:=HMD.out 1;rwa[Nat.one_mul] at this));rw[hS2] at HST;have HAPP:=hid happ;have HL1:=hid hl1;have HL2:=hid hgood;clear hS2 happ hl1 hgood;refine HST.out.mono ?_;rintro e w10 ⟨v10,rfl,ho10,hM10,hG10⟩;obtain⟨A10,c10,rfl,hc10,hr10,_⟩:=ho10.rdf (n:=n) HL2.out;have hs10:=strq (c:=c10) hr10;have hsz:(str S1.1).size+(str S2.1).size<=9223372036854775807:=by rw[zfR,zfR,HL1.out,HL2.out];omega
      have HM10:=hid hM10;have HX10:=hid (zgh HX.out hG10 HP2.out);have HB11:=hid (zco (B:=w.heap.size) HB10.out hG10 (Nat.le_trans (Below.size HX3.out) HP2.out) (Below.size HB10.out));have HZ10:=hid (HZ.out.gb HMM.out.is hG10);have HR10:=hid (HR.out.gb HMM.out.is hG10);clear ho10 hM10 hG10 hr10 hc10 HX HB10 HZ HR HMM HST;go_wp2_with fail
      go_roundw
      case rel=>exact⟨k+1,I+n,by rw[Nat.succ_mul,HIE.out],HIB.out.2,by go_num,by rw[HAPP.out,<-zmt],by rw[HAPP.out];exact HM10.out,HX10.out,HB11.out,HZ10.out,HR10.out⟩
      case measure=>simp[intOf];omega
  ·have e:bb.take I=bb:=List.take_of_length_le (by rw[HBL.out];omega);have hIB:¬(I:Int)<(B:Int):=by omega
   have hs:=strq (c:=c8) HZ9.out;rw[e,HZZ.out];clear e;go_wp2_with fail
   go_ret;exact⟨rfl,HB9.out⟩
end Go.Proofs.YtiajebbfgpnenaaGreatDoor.C
