/- The law on how the three are ordered, walked; own lemmas of the verifier, no statement is proved here. -/
import Derived.Test.YtokbbmngfogbbaaGreatDoorCS5
namespace Go.Proofs.YtokbbmngfogbbaaGreatDoor.C
open Go.RowKit
open A (byL zjv)
set_option maxRecDepth 100000
set_option maxHeartbeats 8000000
def soK(W N:Nat)(X:List UInt8):List K:=[.byc N (X),.eq (.int .i64 W),.byt (N-W) (X.drop W),.eq (.string (str (X.drop W))),.byc N (X),.eq (.int .i64 W),.byt W (X.take W),.eq (.string (str (X.take W))),.eq (.string (str (X.drop W)++str (X.take W))),.eq (.string (str (X.drop W)++str (X.take W)))]
theorem sord_walk[Inhabited D.BT][Inhabited S.RT](a0:Int)(a1:Int)(a2:Option Addr)(len2 cap2:Nat)(z2:List Int)(a3:Option Addr)(len3 cap3:Nat)(z3:List Int)(a4:Option Addr)(len4 cap4:Nat)(z4:List Int)(a5:Int)(w:World)(_w0:(Lit.int .i64 a0).wf=true)(_w1:(Lit.int .i64 a1).wf=true)(w2:IsRow .u8 w a2 len2 cap2 z2)(w3:IsRow .u8 w a3 len3 cap3 z3)(w4:IsRow .u8 w a4 len4 cap4 z4)(_w5:(Lit.int .i64 a5).wf=true)(hG:GC w):
  Calls Tryz.prog 6 #[.int .i64 a0,.int .i64 a1,.slice a2 len2 cap2,.slice a3 len3 cap3,.slice a4 len4 cap4,.int .i64 a5] w fun e w'=>e=.returned (.bool true)/\Below w.heap.size w w':=by
 obtain⟨ks,hrk,hlk,_⟩:=w2.rdb;obtain⟨vs,hrv,hlv,_⟩:=w3.rdb;obtain⟨bs,hrb,hlb,_⟩:=w4.rdb;obtain⟨f,n,hF,hn,hB⟩:=zuy a0 a1 ks;have HG:=hid hG;have HF:=hid hF;have HN:=hid hn;have HB:=hid hB;have HRK:=hid hrk;have HLK:=hid hlk;have HRV:=hid hrv;have HLV:=hid hlv;have HRB:=hid hrb;have HLB:=hid hlb;have h0:=hF.pos;clear hG hF hB hrk hlk hrv hlv hrb hlb w2 w3 w4;go_enter Tryz.func6,Tryz.ntmps6;go_wp2_with fail
 refine(known13 w HG.out).mono ?_;rintro e w1 ⟨rfl,hx1⟩;have HX1:=hid hx1;clear hx1;go_wp2_with fail
 refine(HB.out a2 len2 cap2 w1 (HG.out.later HX1.out) (HRK.out.later HX1.out) HLK.out).mono ?_;rintro e w2 ⟨pc,pd,rfl,_,hI,hx2⟩;have HX2:=hid (Ext.trans HX1.out hx2);have HI:=hid hI;clear hx2 hI HX1 HB HRK HLK HG;go_wp2_with fail
 refine(ztH pc n f w2 HI.out).mono ?_;rintro e w3 ⟨rfl,rfl⟩;obtain⟨k,hk,hkn⟩:∃k:Nat,a5%(n:Int)=(k:Int)/\k<n:=⟨(a5%(n:Int)).toNat,by have:=Int.emod_nonneg a5 (show(n:Int)≠0 by omega);omega,by have:=Int.emod_nonneg a5 (show(n:Int)≠0 by omega);have:=Int.emod_lt_of_pos a5 (show(0:Int)<(n:Int) by omega);omega⟩;obtain⟨W,hW⟩:∃W:Nat,W=1+k:=⟨_,rfl⟩;obtain⟨N,hN⟩:∃N:Nat,N=n+W:=⟨_,rfl⟩;have hWI:(1:Int)+(k:Int)=(W:Int):=by omega
 have hNI:(n:Int)+(W:Int)=(N:Int):=by omega
 have hW1:W<=16:=by omega
 have hN1:N<=32:=by omega
 have HLE:=hid (show n<=N/\N<=2*n by omega);have HNN:=hid (show N<=1000 by omega);have HWN:=hid (show 1<=W/\W<=n/\N=n+W by omega);have HK:=hid hk;clear hk hN hW hkn;go_wp2_with fail
 refine(within13 a5 (n:Int) w2 (by omega) (by omega)).mono ?_;rintro e w3 ⟨rfl,rfl⟩;rw[HK.out];go_wp2_with fail
 clear hWI;refine(ztV a4 N len4 cap4 bs w2 (HRB.out.later HX2.out) HNN.out HLB.out).mono ?_;rintro e w3 ⟨v3,rfl,ho3,hx3⟩;obtain⟨Ap,cp,rfl,hcp,hrp,_⟩:=ho3.rdf (zjv N bs);have HX3:=hid (Ext.trans HX2.out hx3);have HI:=hid (HI.out.later hx3);have HRp:=hid hrp;have HCp:=hid hcp;clear ho3 hx3 hrp hcp HX2;obtain⟨P,hP⟩:∃P,byL N bs=P:=⟨_,rfl⟩;rw[hP] at HRp;clear hP;go_wp2_with fail
 refine(ztV a3 n len3 cap3 vs w3 (HRV.out.later HX3.out) (by omega) HLV.out).mono ?_;rintro e w4 ⟨v4,rfl,ho4,hx4⟩;obtain⟨Al,cl,rfl,hcl,hrl,_⟩:=ho4.rdf (zjv n vs);have HX4:=hid (Ext.trans HX3.out hx4);have HI:=hid (HI.out.later hx4);have HRl:=hid hrl;have HCl:=hid hcl;have HRp:=hid (HRp.out.later hx4);clear ho4 hx4 hrl hcl HX3;obtain⟨LV,hLV⟩:∃LV,byL n vs=LV:=⟨_,rfl⟩;rw[hLV] at HRl;clear hLV;have hpl:=HRp.out.len;have hpn:P.length≠n:=by have:=HWN.out;omega
 have hw:P.length-n=W:=by have:=HWN.out;omega
 have hx:=zj4 HF.out.toFOk LV P (by have:=HLE.out;omega);rw[hw] at hx;obtain⟨X,hX⟩:∃X,zcB f n 7 false LV P=X:=⟨_,rfl⟩;have hX1:X=thX f n LV P++thY f n LV P:=hX.symm.trans (zuw LV P hpn);have hxt:X.take W=thX f n LV P:=by rw[hX1,List.take_left' hx]
 have hxd:X.drop W=thY f n LV P:=by rw[hX1,List.drop_left' hx]
 have HXE:=hid hX;have HZE:=hid (show zcB f n 9 false LV P=X.drop W++X.take W by rw[zsB LV P hpn,hxt,hxd]);have HYE:=hid (show zcB f n 8 false LV P=if W=n then X else X.drop W++X.take W by rw[zuv LV P hpn,hw,hxt,hxd,<-hX1]);have HXL:=hid (show X.length=N by rw[<-hX];exact(zix HF.out.toFOk 7 false LV P (by have:=HLE.out;omega) (by have:=HLE.out;omega)).trans hpl);clear hpl hpn hw hx hX hX1 hxt hxd;go_wp2_with fail
 refine(tailS_any pc n 7 false f Al cl LV Ap N cp P w4 (by omega) HF.out.toFOk HN.out HI.out HRl.out HCl.out HRp.out HCp.out HLE.out.1 HLE.out.2).mono ?_;rw[HXE.out];rintro e w5 ⟨Ax,cx,rfl,hcx,hrx,hx5,_⟩;have HX5:=hid (Ext.trans HX4.out hx5);have HI:=hid (HI.out.later hx5);have HRl:=hid (HRl.out.later hx5);have HRx:=hid hrx;have HCx:=hid hcx;have HRp:=hid (HRp.out.later hx5);clear hx5 hrx hcx HX4;go_wp2_with fail
 refine(tailS_any pc n 8 false f Al cl LV Ap N cp P w5 (by omega) HF.out.toFOk HN.out HI.out HRl.out HCl.out HRp.out HCp.out HLE.out.1 HLE.out.2).mono ?_;rw[HYE.out];rintro e w6 ⟨Ay,cy,rfl,hcy,hry,hx6,_⟩;have HX6:=hid (Ext.trans HX5.out hx6);have HI:=hid (HI.out.later hx6);have HRl:=hid (HRl.out.later hx6);have HRy:=hid hry;have HCy:=hid hcy;have HRp:=hid (HRp.out.later hx6);have HRx:=hid (HRx.out.later hx6);clear hx6 hry hcy HX5;go_wp2_with fail
 refine(tailS_any pc n 9 false f Al cl LV Ap N cp P w6 (by omega) HF.out.toFOk HN.out HI.out HRl.out HCl.out HRp.out HCp.out HLE.out.1 HLE.out.2).mono ?_;rw[HZE.out];rintro e w7 ⟨Az,cz,rfl,hcz,hrz,hx7,_⟩;have HX7:=hid (Ext.trans HX6.out hx7);have HI:=hid (HI.out.later hx7);have HRl:=hid (HRl.out.later hx7);have HRz:=hid hrz;have HCz:=hid hcz;have HRx:=hid (HRx.out.later hx7);have HRy:=hid (HRy.out.later hx7);clear hx7 hrz hcz HX6;go_upto_region 15 with fail
 have HLW:=hid (show W<=N by have:=HWN.out;omega);have HSZ:=hid (show(str (X.drop W)).size+(str (X.take W)).size<=9223372036854775807 by rw[zux,zux,List.length_drop,List.length_take,HXL.out];omega);refine zlC mixed rfl (by kernel_rfl) (kV (soK W N X)) (zdA _) (zab ⟨?_,?_,?_,?_,?_,?_,?_,?_,?_,?_,trivial⟩) ?_
 ·intro a w hk;have s19:a.tmps.getD 19 undef=.slice Ax N cx:=hk.was 19 (by kernel_rfl) rfl;have k19:=HCx.out.1;have r19:=(HRx.out).later hk.ext;exact zau rfl rfl s19 ⟨_,_,rfl,k19,r19⟩
 ·intro a w hk;have s16:a.tmps.getD 16 undef=.int .i64 W:=hk.was 16 (by kernel_rfl) rfl;exact zau rfl rfl s16 rfl
 ·intro a w hk;obtain⟨A94,c94,s94,k94,r94⟩:=hk.val 0 94 (by kernel_rfl) rfl;have s95:=hk.eq_ 1 95 (by kernel_rfl) rfl;exact zhK (l:=W) rfl rfl s94 s95 A.ziy A.zmz HLW.out k94 r94 (fun _ h=>h)
 ·intro a w hk;obtain⟨A96,c96,s96,r96⟩:=hk.byt_ 2 96 (by kernel_rfl) rfl;exact ztl rfl rfl s96 (strq r96) rfl
 ·intro a w hk;have s19:a.tmps.getD 19 undef=.slice Ax N cx:=hk.was 19 (by kernel_rfl) rfl;have k19:=HCx.out.1;have r19:=(HRx.out).later hk.ext;exact zau rfl rfl s19 ⟨_,_,rfl,k19,r19⟩
 ·intro a w hk;have s16:a.tmps.getD 16 undef=.int .i64 W:=hk.was 16 (by kernel_rfl) rfl;exact zau rfl rfl s16 rfl
 ·intro a w hk;obtain⟨A98,c98,s98,k98,r98⟩:=hk.val 4 98 (by kernel_rfl) rfl;have s99:=hk.eq_ 5 99 (by kernel_rfl) rfl;exact zph (l:=W) rfl rfl s98 s99 A.ziy A.zmz HLW.out k98 r98 (fun _ h=>h)
 ·intro a w hk;obtain⟨A100,c100,s100,r100⟩:=hk.byt_ 6 100 (by kernel_rfl) rfl;exact ztl rfl rfl s100 (strq r100) rfl
 ·intro a w hk;have s97:=hk.eq_ 3 97 (by kernel_rfl) rfl;have s101:=hk.eq_ 7 101 (by kernel_rfl) rfl;refine zai (v:=.string (str (X.drop W)++str (X.take W))) (w':=w) rfl ?_ (Ext.refl w) rfl;have hsz:=HSZ.out;go_simp
 ·intro a w hk;have s102:=hk.eq_ 8 102 (by kernel_rfl) rfl;exact zaM rfl rfl s102 rfl
 ·intro a w8 hf;obtain⟨A94,c94,s94,k94,r94⟩:=hf.val 0 94 (by kernel_rfl) rfl;have s95:=hf.eq_ 1 95 (by kernel_rfl) rfl;obtain⟨A96,c96,s96,r96⟩:=hf.val 2 96 (by kernel_rfl) rfl;have s97:=hf.eq_ 3 97 (by kernel_rfl) rfl;obtain⟨A98,c98,s98,k98,r98⟩:=hf.val 4 98 (by kernel_rfl) rfl;have s99:=hf.eq_ 5 99 (by kernel_rfl) rfl;obtain⟨A100,c100,s100,r100⟩:=hf.val 6 100 (by kernel_rfl) rfl;have s101:=hf.eq_ 7 101 (by kernel_rfl) rfl;have s102:=hf.eq_ 8 102 (by kernel_rfl) rfl;have s25:=hf.eq_ 9 25 (by kernel_rfl) rfl;have hx:=hf.ext;have e:=hf.frame;clear hf;simp only[zaT,Act.put,List.setIfInBounds_toArray,List.set_cons_zero,List.set_cons_succ,s94,s95,s96,s97,s98,s99,s100,s101,s102,s25] at e;clear s94 s95 s96 s97 s98 s99 s100 s101 s102 s25;subst e;have HXF:=hid (Ext.trans HX7.out hx);have hrx:=HRx.out.later hx;have hry:=HRy.out.later hx;have hrz:=HRz.out.later hx;have hsX:=strq (c:=cx) hrx
  have hsZ:=strq (c:=cz) hrz;rw[<-zuJ] at hsZ;clear hx r94 k94 r96 r98 k98 r100 HSZ;by_cases hWn:W=n
  ·have hb:((W:Int)==(n:Int))=true:=by simp;omega
   rw[if_pos hWn] at hry;have hsY:=strq (c:=cy) hry;clear hrx hry hrz hWn hNI;go_wp2_with fail
   go_ret;exact⟨rfl,HXF.out⟩
  ·have hb:((W:Int)==(n:Int))=false:=by simp;omega
   rw[if_neg hWn] at hry;have hsY:=strq (c:=cy) hry;rw[<-zuJ] at hsY;clear hrx hry hrz hWn hNI;go_wp2_with fail
   go_ret;exact⟨rfl,HXF.out⟩
end Go.Proofs.YtokbbmngfogbbaaGreatDoor.C
