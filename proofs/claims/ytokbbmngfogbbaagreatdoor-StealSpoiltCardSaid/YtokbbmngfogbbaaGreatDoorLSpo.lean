/- The law on a byte of the cut block that comes in spoilt, walked; own lemmas of the verifier, no statement is proved here. -/
import Derived.Test.YtokbbmngfogbbaaGreatDoorCS5
namespace Go.Proofs.YtokbbmngfogbbaaGreatDoor.C
open Go.RowKit
open A (byL zjv)
set_option maxRecDepth 100000
set_option maxHeartbeats 8000000
theorem xor_u8(x y:UInt8):bits .xor .u8 (x.toNat:Int) (y.toNat:Int)=((x^^^y).toNat:Int):=by
 have:=zhv [x] [y] 0;simpa [xorF,zah] using this.symm
theorem own_hd{w:World}{base n:Nat}{v:Value}{xs:List UInt8}(h:Own w base v xs)(hn:xs.length=n)(hp:0<n):∃g c,v=.slice (some ⟨g,0,none⟩) n c/\(n<=c/\c<=9223372036854775807)/\base<=g/\g<w.heap.size:=by
 obtain⟨A,c,rfl,h1,h2,_⟩:=h.rdm hn;have hl:=World.ownsRow.lt h;rcases h.2 with⟨_,h3⟩|⟨g,cap,cur,e,hb,_⟩
 ·omega
 ·cases e;exact⟨g,c,rfl,⟨h1,h2⟩,hb,(hl g rfl).2⟩
def ssT(n N:Nat)(X Z:List UInt8)(Y:UInt8):List K:=[.byc N (X),.eq (.int .i64 n),.byt n (X.take n),.eq (.string (str (X.take n))),.byc N (Z),.eq (.int .i64 n),.byt n (X.take n),.eq (.string (str (X.take n))),.eq (.bool true),.eq (.int .u8 (Y.toNat:Nat)),.eq (.bool true),.eq (.bool true),.eq (.bool true)]
def ssF(n N:Nat)(X Z:List UInt8)(Y:UInt8):List K:=[.byc N (X),.eq (.int .i64 n),.byt n (X.take n),.eq (.string (str (X.take n))),.byc N (Z),.eq (.int .i64 n),.byt n (Z.take n),.eq (.string (str (Z.take n))),.eq (.bool false),.eq (.int .u8 (Y.toNat:Nat)),.eq (.bool false),.eq (.bool true),.eq (.bool true)]
theorem sspo_walk[Inhabited D.BT][Inhabited S.RT](a0:Int)(a1:Int)(a2:Option Addr)(len2 cap2:Nat)(z2:List Int)(a3:Option Addr)(len3 cap3:Nat)(z3:List Int)(a4:Option Addr)(len4 cap4:Nat)(z4:List Int)(a5:Int)(a6:Int)(a7:Int)(w:World)(_w0:(Lit.int .i64 a0).wf=true)(_w1:(Lit.int .i64 a1).wf=true)(w2:IsRow .u8 w a2 len2 cap2 z2)(w3:IsRow .u8 w a3 len3 cap3 z3)(w4:IsRow .u8 w a4 len4 cap4 z4)(_w5:(Lit.int .i64 a5).wf=true)(_w6:(Lit.int .i64 a6).wf=true)(w7:(Lit.int .u8 a7).wf=true)(hG:GC w):
  Calls Tryz.prog 9 #[.int .i64 a0,.int .i64 a1,.slice a2 len2 cap2,.slice a3 len3 cap3,.slice a4 len4 cap4,.int .i64 a5,.int .i64 a6,.int .u8 a7] w fun e w'=>e=.returned (.bool true)/\Below w.heap.size w w':=by
 obtain⟨Y,rfl⟩:∃Y:UInt8,a7=(Y.toNat:Int):=⟨u8 a7,by have:=ztF w7;rw[zbB];omega⟩;have HY:=hid Y.toNat_lt;obtain⟨ks,hrk,hlk,_⟩:=w2.rdb;obtain⟨vs,hrv,hlv,_⟩:=w3.rdb;obtain⟨bs,hrb,hlb,_⟩:=w4.rdb;obtain⟨f,n,hF,hn,hB⟩:=zuy a0 a1 ks;have HG:=hid hG;have HF:=hid hF;have HN:=hid hn;have HB:=hid hB;have HRK:=hid hrk;have HLK:=hid hlk;have HRV:=hid hrv;have HLV:=hid hlv;have HRB:=hid hrb;have HLB:=hid hlb;have h0:=hF.pos;clear hG hF hB hrk hlk hrv hlv hrb hlb w2 w3 w4;go_enter Tryz.func9,Tryz.ntmps9;go_wp2_with fail
 refine(known13 w HG.out).mono ?_;rintro e w1 ⟨rfl,hx1⟩;have HX1:=hid hx1;clear hx1;go_wp2_with fail
 refine(HB.out a2 len2 cap2 w1 (HG.out.later HX1.out) (HRK.out.later HX1.out) HLK.out).mono ?_;rintro e w2 ⟨pc,pd,rfl,_,hI,hx2⟩;have HX2:=hid (Ext.trans HX1.out hx2);have HI:=hid hI;clear hx2 hI HX1 HB HRK HLK HG;go_wp2_with fail
 refine(ztH pc n f w2 HI.out).mono ?_;rintro e w3 ⟨rfl,rfl⟩;obtain⟨k,hk,hkn⟩:∃k:Nat,a5%(n:Int)=(k:Int)/\k<n:=⟨(a5%(n:Int)).toNat,by have:=Int.emod_nonneg a5 (show(n:Int)≠0 by omega);omega,by have:=Int.emod_nonneg a5 (show(n:Int)≠0 by omega);have:=Int.emod_lt_of_pos a5 (show(0:Int)<(n:Int) by omega);omega⟩;obtain⟨W,hW⟩:∃W:Nat,W=1+k:=⟨_,rfl⟩;obtain⟨N,hN⟩:∃N:Nat,N=n+W:=⟨_,rfl⟩;have hWI:(1:Int)+(k:Int)=(W:Int):=by omega
 have hNI:(n:Int)+(W:Int)=(N:Int):=by omega
 have hW1:W<=16:=by omega
 have hW0:1<=W:=by omega
 have hN1:N<=32:=by omega
 have HLE:=hid (show n<=N/\N<=2*n by omega);have HNN:=hid (show N<=1000 by omega);have HWN:=hid (show 1<=W/\W<=n/\N=n+W by omega);have HK:=hid hk;clear hk hN hW hkn;go_wp2_with fail
 refine(within13 a5 (n:Int) w2 (by omega) (by omega)).mono ?_;rintro e w3 ⟨rfl,rfl⟩;rw[HK.out];go_wp2_with fail
 clear hWI;refine(ztV a4 N len4 cap4 bs w2 (HRB.out.later HX2.out) HNN.out HLB.out).mono ?_;rintro e w3 ⟨v3,rfl,ho3,hx3⟩;obtain⟨Ap,cp,rfl,hcp,hrp,_⟩:=ho3.rdf (zjv N bs);have HX3:=hid (Ext.trans HX2.out hx3);have HI:=hid (HI.out.later hx3);have HRp:=hid hrp;have HCp:=hid hcp;clear ho3 hx3 hrp hcp HX2;obtain⟨P,hP⟩:∃P,byL N bs=P:=⟨_,rfl⟩;rw[hP] at HRp;clear hP;go_wp2_with fail
 refine(ztV a3 n len3 cap3 vs w3 (HRV.out.later HX3.out) (by omega) HLV.out).mono ?_;rintro e w4 ⟨v4,rfl,ho4,hx4⟩;obtain⟨Al,cl,rfl,hcl,hrl,_⟩:=ho4.rdf (zjv n vs);have HX4:=hid (Ext.trans HX3.out hx4);have HI:=hid (HI.out.later hx4);have HRl:=hid hrl;have HCl:=hid hcl;have HRp:=hid (HRp.out.later hx4);clear ho4 hx4 hrl hcl HX3;obtain⟨LV,hLV⟩:∃LV,byL n vs=LV:=⟨_,rfl⟩;rw[hLV] at HRl;clear hLV;have HPL:=hid HRp.out.len;go_upto_region 10 with(at_builtin;refine za9 _ rfl (.tmp 56) (.tmp 57) 22 rfl Tryz.underlying22 Tryz.info5 w4.heap.size _ [] rfl (Own.lit w4 [] #[] 0 w4.heap.size rfl rfl (by decide) (Nat.le_refl _)) _ Ap N cp P rfl (HRp.out.later (Ext.alloc _ _)) (by simp;omega) (by simp) ?_;intro v7 w7 hown7 hb7)
 rw[List.nil_append] at hown7;obtain⟨g7,c7,rfl,hc7,hg7,hgl7⟩:=own_hd hown7 HPL.out (by omega);have HOWN7:=hid hown7;have HX47:=hid (show Ext w4 w7 from Below.trans (Ext.alloc w4 (.cells #[] 5)) hb7);have HC7:=hid hc7;clear hown7 hb7 hc7;go_wp2_with fail
 refine(within13 a6 (W:Int) w7 (by omega) (by omega)).mono ?_;rintro e w8 ⟨rfl,rfl⟩;obtain⟨i,hi,hiw⟩:∃i:Nat,a6%(W:Int)=i/\i<W:=⟨(a6%(W:Int)).toNat,by have:=Int.emod_nonneg a6 (show(W:Int)≠0 by omega);omega,by have:=Int.emod_nonneg a6 (show(W:Int)≠0 by omega);have:=Int.emod_lt_of_pos a6 (show(0:Int)<W by omega);omega⟩;rw[hi];have hiN:i<N:=by have:=HWN.out;omega
 have hcell7:=HOWN7.out.celln HPL.out i hiN;have hfz7:=HOWN7.out.freen i;obtain⟨x0,hx0⟩:∃x0,P.getD i 0=x0:=⟨_,rfl⟩;rw[show nb P i=x0.toNat by unfold nb;rw[hx0]] at hcell7;have HXO:=hid hx0;have hxr:=x0.toNat_lt;have hyr:=HY.out;clear hi hx0;go_upto_region 12 with fail
 rw[xor_u8];have hown8:=HOWN7.out.setn i (x0^^^Y);obtain⟨w8,hW8⟩:∃w8,w7.setCell ⟨g7,i,none⟩ (.int .u8 ((x0^^^Y).toNat:Int))=w8:=⟨_,rfl⟩;have hx8:Ext w4 w8:=by rw[<-hW8];exact HX47.out.setCell hg7 _
 rw[hW8] at hown8 ⊢;have hql:(P.set i (x0^^^Y)).length=N:=by rw[List.length_set,HPL.out]
 obtain⟨_,_,e8,_,hr8,_⟩:=hown8.rdf hql;cases e8
 have HSP:=hid (zrU HF.out LV P (by rw[HPL.out];have:=HWN.out;omega) (by rw[HPL.out];exact HLE.out.2) i (by rw[HPL.out];have:=HWN.out;omega) Y);rw[HXO.out] at HSP;obtain⟨Q,hQ⟩:∃Q,P.set i (x0^^^Y)=Q:=⟨_,rfl⟩;rw[hQ] at hr8 HSP hql;have HRq:=hid hr8;have HCq:=hid HC7.out;have HXL1:=hid ((zix HF.out.toFOk 7 true LV P (by rw[HPL.out];exact HLE.out.1) (by rw[HPL.out];exact HLE.out.2)).trans HPL.out);have HXL2:=hid ((zix HF.out.toFOk 7 true LV Q (by rw[hql];exact HLE.out.1) (by rw[hql];exact HLE.out.2)).trans hql);obtain⟨X,hX⟩:∃X,zcB f n 7 true LV P=X:=⟨_,rfl⟩;obtain⟨Z,hZ⟩:∃Z,zcB f n 7 true LV Q=Z:=⟨_,rfl⟩;rw[hX] at HSP HXL1;rw[hZ] at HSP HXL2;rw[HPL.out,show N-n=W by have:=HWN.out;omega] at HSP;have HXE:=hid hX;have HZE:=hid hZ;have HX8:=hid (Ext.trans HX4.out hx8);have HI:=hid (HI.out.later hx8);have HRl:=hid (HRl.out.later hx8);have HRp:=hid (HRp.out.later hx8)
 obtain⟨Aq,hAq⟩:∃Aq,(some ⟨g7,0,none⟩:Option Addr)=Aq:=⟨_,rfl⟩;rw[hAq] at HRq ⊢;obtain⟨cq,hcq⟩:∃cq,c7=cq:=⟨_,rfl⟩;rw[hcq] at HCq ⊢;clear hW8 hown8 hx8 hr8 hQ hX hZ hql hAq hcq HX47 HOWN7 HC7 hcell7 hfz7 hxr hyr HXO hg7 hgl7 HX4;go_wp2_with fail
 refine(tailS_any pc n 7 true f Al cl LV Ap N cp P w8 (by omega) HF.out.toFOk HN.out HI.out HRl.out HCl.out HRp.out HCp.out HLE.out.1 HLE.out.2).mono ?_;rw[HXE.out];rintro e w9 ⟨Ax,cx,rfl,hcx,hrx,hx9,_⟩;have HX9:=hid (Ext.trans HX8.out hx9);have HI:=hid (HI.out.later hx9);have HRl:=hid (HRl.out.later hx9);have HRx:=hid hrx;have HCx:=hid hcx;have HRq:=hid (HRq.out.later hx9);clear hx9 hrx hcx HX8;go_wp2_with fail
 refine(tailS_any pc n 7 true f Al cl LV Aq N cq Q w9 (by omega) HF.out.toFOk HN.out HI.out HRl.out HCl.out HRq.out HCq.out HLE.out.1 HLE.out.2).mono ?_;rw[HZE.out];rintro e w10 ⟨Az,cz,rfl,hcz,hrz,hx10,_⟩;have HX10:=hid (Ext.trans HX9.out hx10);have HI:=hid (HI.out.later hx10);have HRl:=hid (HRl.out.later hx10);have HRz:=hid hrz;have HCz:=hid hcz;have HRx:=hid (HRx.out.later hx10);clear hx10 hrz hcz HX9;go_upto_region 16 with fail
 clear hNI;obtain⟨w9,hw9⟩:∃w9,w9=w10:=⟨_,rfl⟩;go_wp2_with fail
 go_loopw [29] (fun v wx=>∃j:Nat,j<=W/\v=.int .i64 j/\Ext w10 wx) (fun v _=>W-(intOf v).toNat)
 case atStart=>exact⟨0,Nat.zero_le _,rfl,Ext.refl _⟩
 case round =>
  obtain⟨j,hj,rfl,hx⟩:=hrel;have HXX:=hid hx;clear hx;by_cases hlt:j<W
  ·obtain⟨b0,o0,rfl,_,k0⟩:=(HRx.out.later HXX.out).at_ (by omega);obtain⟨b1,o1,rfl,_,k1⟩:=(HRz.out.later HXX.out).at_ (by omega);obtain⟨J,hJ⟩:∃J:Nat,n+j=J:=⟨_,rfl⟩;have hJN:J<N:=by have:=HWN.out;omega
   have hJI:(n:Int)+(j:Int)=(J:Int):=by omega
   have q0:=k0 J hJN;have q1:=k1 J hJN;have hs:=HSP.out.1 j hlt;rw[hJ] at hs;have e2:bits .xor .u8 (zah X J) (zah Z J)=(((if j=i then Y else 0:UInt8)).toNat:Int):=by unfold zah;rw[xor_u8,hs]
   obtain⟨X0,hX0⟩:∃X0,zah X J=X0:=⟨_,rfl⟩;obtain⟨X1,hX1⟩:∃X1,zah Z J=X1:=⟨_,rfl⟩;rw[hX0] at q0 e2;rw[hX1] at q1 e2;clear k0 k1 hs hX0 hX1 hJ;by_cases hji:j=i
   ·have hb:((j:Int)==(i:Int))=true:=by simp;omega
    rw[if_pos hji] at e2;clear hji;go_wp2_with fail
    go_quiet (fail)
    go_wp2;go_roundw
    case rel=>exact⟨j+1,by omega,by go_num,Ext.drewN HXX.out _⟩
    case measure=>simp[intOf];omega
   ·have hb:((j:Int)==(i:Int))=false:=by simp;omega
    rw[if_neg hji] at e2;have e3:bits .xor .u8 X0 X1=0:=e2;clear hji e2;go_wp2_with fail
    go_quiet (fail)
    go_wp2;go_roundw
    case rel=>exact⟨j+1,by omega,by go_num,Ext.drewN HXX.out _⟩
    case measure=>simp[intOf];omega
  ·obtain rfl:j=W:=by omega
   clear hlt hj;go_upto_region 24 with fail
   have hrx:=hid (HRx.out.later HXX.out);have hrz:=hid (HRz.out.later HXX.out);have HXF:=hid (Ext.trans HX10.out HXX.out);by_cases hy:Y=0
   ·have HEQ:=hid (HSP.out.2.2 hy);have hb:((Y.toNat:Int)==0)=true:=by rw[hy];rfl
    have HBY:=hid hb;clear hb;refine zlC mixed rfl (by kernel_rfl) (kV (ssT n N X Z Y)) (zdA _) (zab ⟨?_,?_,?_,?_,?_,?_,?_,?_,?_,?_,?_,?_,?_,trivial⟩) ?_
    ·intro a w hk;have s25:a.tmps.getD 25 undef=.slice Ax N cx:=hk.was 25 (by kernel_rfl) rfl;have k25:=HCx.out.1;have r25:=(hrx.out).later hk.ext;exact zau rfl rfl s25 ⟨_,_,rfl,k25,r25⟩
    ·intro a w hk;have s19:a.tmps.getD 19 undef=.int .i64 n:=hk.was 19 (by kernel_rfl) rfl;exact zau rfl rfl s19 rfl
    ·intro a w hk;obtain⟨A121,c121,s121,k121,r121⟩:=hk.val 0 121 (by kernel_rfl) rfl;have s122:=hk.eq_ 1 122 (by kernel_rfl) rfl;exact zph (l:=n) rfl rfl s121 s122 A.ziy A.zmz HLE.out.1 k121 r121 (fun _ h=>h)
    ·intro a w hk;obtain⟨A123,c123,s123,r123⟩:=hk.byt_ 2 123 (by kernel_rfl) rfl;exact ztl rfl rfl s123 (strq r123) rfl
    ·intro a w hk;have s27:a.tmps.getD 27 undef=.slice Az N cz:=hk.was 27 (by kernel_rfl) rfl;have k27:=HCz.out.1;have r27:=(hrz.out).later hk.ext;exact zau rfl rfl s27 ⟨_,_,rfl,k27,r27⟩
    ·intro a w hk;have s19:a.tmps.getD 19 undef=.int .i64 n:=hk.was 19 (by kernel_rfl) rfl;exact zau rfl rfl s19 rfl
    ·intro a w hk;obtain⟨A125,c125,s125,k125,r125⟩:=hk.val 4 125 (by kernel_rfl) rfl;have s126:=hk.eq_ 5 126 (by kernel_rfl) rfl;exact zph (l:=n) rfl rfl s125 s126 A.ziy A.zmz HLE.out.1 k125 r125 (fun _ h=>by rw[<-HEQ.out] at h;exact h)
    ·intro a w hk;obtain⟨A127,c127,s127,r127⟩:=hk.byt_ 6 127 (by kernel_rfl) rfl;exact ztl rfl rfl s127 (strq r127) rfl
    ·intro a w hk;have s124:=hk.eq_ 3 124 (by kernel_rfl) rfl;have s128:=hk.eq_ 7 128 (by kernel_rfl) rfl;refine zai (v:=.bool true) (w':=w) rfl ?_ (Ext.refl w) rfl;go_simp
    ·intro a w hk;have s7:a.tmps.getD 7 undef=.int .u8 (Y.toNat:Nat):=hk.was 7 (by kernel_rfl) rfl;exact zau rfl rfl s7 rfl
    ·intro a w hk;have s130:=hk.eq_ 9 130 (by kernel_rfl) rfl;refine zai (v:=.bool true) (w':=w) rfl ?_ (Ext.refl w) rfl;have hb:=HBY.out;go_simp
    ·intro a w hk;have s129:=hk.eq_ 8 129 (by kernel_rfl) rfl;have s131:=hk.eq_ 10 131 (by kernel_rfl) rfl;refine zai (v:=.bool true) (w':=w) rfl ?_ (Ext.refl w) rfl;go_simp
    ·intro a w hk;have s132:=hk.eq_ 11 132 (by kernel_rfl) rfl;exact zaM rfl rfl s132 rfl
    ·intro a w11 hf;obtain⟨A121,c121,s121,k121,r121⟩:=hf.val 0 121 (by kernel_rfl) rfl;have s122:=hf.eq_ 1 122 (by kernel_rfl) rfl;obtain⟨A123,c123,s123,r123⟩:=hf.val 2 123 (by kernel_rfl) rfl;have s124:=hf.eq_ 3 124 (by kernel_rfl) rfl;obtain⟨A125,c125,s125,k125,r125⟩:=hf.val 4 125 (by kernel_rfl) rfl;have s126:=hf.eq_ 5 126 (by kernel_rfl) rfl;obtain⟨A127,c127,s127,r127⟩:=hf.val 6 127 (by kernel_rfl) rfl;have s128:=hf.eq_ 7 128 (by kernel_rfl) rfl;have s129:=hf.eq_ 8 129 (by kernel_rfl) rfl;have s130:=hf.eq_ 9 130 (by kernel_rfl) rfl;have s131:=hf.eq_ 10 131 (by kernel_rfl) rfl;have s132:=hf.eq_ 11 132 (by kernel_rfl) rfl;have s16:=hf.eq_ 12 16 (by kernel_rfl) rfl;have hx:=hf.ext;have e:=hf.frame;clear hf;simp only[zaT,Act.put,List.setIfInBounds_toArray,List.set_cons_zero,List.set_cons_succ,s121,s122,s123,s124,s125,s126,s127,s128,s129,s130,s131,s132,s16] at e
     clear s121 s122 s123 s124 s125 s126 s127 s128 s129 s130 s131 s132 s16;subst e;have HXG:=hid (Ext.trans HXF.out hx);clear hx r121 k121 r123 r125 k125 r127;go_wp2_with fail
     go_ret;exact⟨rfl,HXG.out⟩
   ·have HNE:=hid (A.zvD (fun e=>hy (HSP.out.2.1 e)));have hb:((Y.toNat:Int)==0)=false:=by rw[beq_eq_false_iff_ne];intro e;exact hy (UInt8.toNat_inj.1 (by rw[UInt8.toNat_zero];omega))
    have HBY:=hid hb;clear hb;refine zlC mixed rfl (by kernel_rfl) (kV (ssF n N X Z Y)) (zdA _) (zab ⟨?_,?_,?_,?_,?_,?_,?_,?_,?_,?_,?_,?_,?_,trivial⟩) ?_
    ·intro a w hk;have s25:a.tmps.getD 25 undef=.slice Ax N cx:=hk.was 25 (by kernel_rfl) rfl;have k25:=HCx.out.1;have r25:=(hrx.out).later hk.ext;exact zau rfl rfl s25 ⟨_,_,rfl,k25,r25⟩
    ·intro a w hk;have s19:a.tmps.getD 19 undef=.int .i64 n:=hk.was 19 (by kernel_rfl) rfl;exact zau rfl rfl s19 rfl
    ·intro a w hk;obtain⟨A121,c121,s121,k121,r121⟩:=hk.val 0 121 (by kernel_rfl) rfl;have s122:=hk.eq_ 1 122 (by kernel_rfl) rfl;exact zph (l:=n) rfl rfl s121 s122 A.ziy A.zmz HLE.out.1 k121 r121 (fun _ h=>h)
    ·intro a w hk;obtain⟨A123,c123,s123,r123⟩:=hk.byt_ 2 123 (by kernel_rfl) rfl;exact ztl rfl rfl s123 (strq r123) rfl
    ·intro a w hk;have s27:a.tmps.getD 27 undef=.slice Az N cz:=hk.was 27 (by kernel_rfl) rfl;have k27:=HCz.out.1;have r27:=(hrz.out).later hk.ext;exact zau rfl rfl s27 ⟨_,_,rfl,k27,r27⟩
    ·intro a w hk;have s19:a.tmps.getD 19 undef=.int .i64 n:=hk.was 19 (by kernel_rfl) rfl;exact zau rfl rfl s19 rfl
    ·intro a w hk;obtain⟨A125,c125,s125,k125,r125⟩:=hk.val 4 125 (by kernel_rfl) rfl;have s126:=hk.eq_ 5 126 (by kernel_rfl) rfl;exact zph (l:=n) rfl rfl s125 s126 A.ziy A.zmz HLE.out.1 k125 r125 (fun _ h=>h)
    ·intro a w hk;obtain⟨A127,c127,s127,r127⟩:=hk.byt_ 6 127 (by kernel_rfl) rfl;exact ztl rfl rfl s127 (strq r127) rfl
    ·intro a w hk;have s124:=hk.eq_ 3 124 (by kernel_rfl) rfl;have s128:=hk.eq_ 7 128 (by kernel_rfl) rfl;refine zai (v:=.bool false) (w':=w) rfl ?_ (Ext.refl w) rfl;have hne:=HNE.out;go_simp
    ·intro a w hk;have s7:a.tmps.getD 7 undef=.int .u8 (Y.toNat:Nat):=hk.was 7 (by kernel_rfl) rfl;exact zau rfl rfl s7 rfl
    ·intro a w hk;have s130:=hk.eq_ 9 130 (by kernel_rfl) rfl;refine zai (v:=.bool false) (w':=w) rfl ?_ (Ext.refl w) rfl;have hb:=HBY.out;go_simp
    ·intro a w hk;have s129:=hk.eq_ 8 129 (by kernel_rfl) rfl;have s131:=hk.eq_ 10 131 (by kernel_rfl) rfl;refine zai (v:=.bool true) (w':=w) rfl ?_ (Ext.refl w) rfl;go_simp
    ·intro a w hk;have s132:=hk.eq_ 11 132 (by kernel_rfl) rfl;exact zaM rfl rfl s132 rfl
    ·intro a w11 hf;obtain⟨A121,c121,s121,k121,r121⟩:=hf.val 0 121 (by kernel_rfl) rfl;have s122:=hf.eq_ 1 122 (by kernel_rfl) rfl;obtain⟨A123,c123,s123,r123⟩:=hf.val 2 123 (by kernel_rfl) rfl;have s124:=hf.eq_ 3 124 (by kernel_rfl) rfl;obtain⟨A125,c125,s125,k125,r125⟩:=hf.val 4 125 (by kernel_rfl) rfl;have s126:=hf.eq_ 5 126 (by kernel_rfl) rfl;obtain⟨A127,c127,s127,r127⟩:=hf.val 6 127 (by kernel_rfl) rfl;have s128:=hf.eq_ 7 128 (by kernel_rfl) rfl;have s129:=hf.eq_ 8 129 (by kernel_rfl) rfl;have s130:=hf.eq_ 9 130 (by kernel_rfl) rfl;have s131:=hf.eq_ 10 131 (by kernel_rfl) rfl;have s132:=hf.eq_ 11 132 (by kernel_rfl) rfl;have s16:=hf.eq_ 12 16 (by kernel_rfl) rfl;have hx:=hf.ext;have e:=hf.frame;clear hf;simp only[zaT,Act.put,List.setIfInBounds_toArray,List.set_cons_zero,List.set_cons_succ,s121,s122,s123,s124,s125,s126,s127,s128,s129,s130,s131,s132,s16] at e
     clear s121 s122 s123 s124 s125 s126 s127 s128 s129 s130 s131 s132 s16;subst e;have HXG:=hid (Ext.trans HXF.out hx);clear hx r121 k121 r123 r125 k125 r127;go_wp2_with fail
     go_ret;exact⟨rfl,HXG.out⟩
end Go.Proofs.YtokbbmngfogbbaaGreatDoor.C
