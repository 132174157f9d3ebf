/- Walks over unchained, Tail of package steal; own lemmas of the verifier, no statement is proved here. -/
import Derived.Test.YtokbbmngfogbbaaGreatDoorCS3
namespace Go.Proofs.YtokbbmngfogbbaaGreatDoor.C
open Go.RowKit
set_option maxRecDepth 100000
set_option maxHeartbeats 8000000
theorem cfXor(vs:Array Value)(w:World):(callFunc 44 vs).run Tryz.prog w=.ok (.enter 44 vs) w:=by go_simp
theorem cfCat(vs:Array Value)(w:World):(callFunc 45 vs).run Tryz.prog w=.ok (.enter 45 vs) w:=by go_simp
def SlP(n:Nat)(bs:List UInt8)(w:World)(v:Value):Prop:=∃A c,v=.slice A n c/\(n<=c/\c<=9223372036854775807)/\Rd w w.heap.size A n bs
theorem SlP.keep(n:Nat)(bs:List UInt8):∀w w' v,Ext w w'->SlP n bs w v->SlP n bs w' v:=fun _ _ _ hx ⟨A,c,e,hc,hr⟩=>⟨A,c,e,hc,hr.later hx⟩
theorem xor_k(n:Nat)(xs ys:List UInt8){w:World}(e:Ending)(w':World)(h:∃v,e=.returned (.tuple #[v,.bool true])/\Own w' w.heap.size v (xorL xs ys n)/\Below w.heap.size w w'):
  ∃u,e=.returned u/\Ext w w'/\K.holds (.bytb n (xorL xs ys n) true) w' u:=by
 obtain⟨v,rfl,ho,hb⟩:=h;obtain⟨A,c,rfl,_,hr,_⟩:=ho.rdf (zbK xs ys n);exact⟨_,rfl,hb,A,c,rfl,hr⟩
theorem cat_k{w:World}{b N:Nat}{xs ys:List UInt8}(h:A.RowsB w b 0 [xs,ys])(hl:xs.length+ys.length=N)(h0:0<N)(hN:N<=1000):
  Calls Tryz.prog 45 #[.slice (some ⟨b,0,none⟩) 2 2] w fun e w'=>∃v,e=.returned v/\Ext w w'/\SlP N (xs++ys) w' v:=by
 have hfl:[xs,ys].flatten=xs++ys:=by simp
 refine(A.zcc b 0 2 2 [xs,ys] w rfl h (by rw[hfl,List.length_append];omega) (by rw[hfl,List.length_append];omega) (by omega)).mono ?_;rintro e w' ⟨v,rfl,ho,hx⟩;rw[hfl] at ho;obtain⟨A,c,rfl,hc,hr,_⟩:=ho.rdf (n:=N) (by rw[List.length_append];omega);exact⟨_,rfl,hx,A,c,rfl,hc,hr⟩
def unK5(d n L:Nat)(z b:List UInt8):List K:=[.byc n (z),.eq (.int .i64 d),.byt d (z.take d),.byc L (b),.eq (.int .i64 d),.byt d (b.take d),.bytb d (xorL (z.take d) (b.take d) d) true,.bytb d (xorL (z.take d) (b.take d) d) true,.byt d (xorL (z.take d) (b.take d) d),.eq (.bool true),.byt d (xorL (z.take d) (b.take d) d)]
def unK6(d n L:Nat)(z b:List UInt8):List K:=[.byc L (b),.eq (.int .i64 d),.byt d (b.take d),.byc n (z),.eq (.int .i64 d),.byt (n-d) (z.drop d),.gen (A.RowP (b.take d) (z.drop d)) (A.RowP.keep _ _),.gen (SlP n (b.take d++z.drop d)) (SlP.keep _ _),.gen (SlP n (b.take d++z.drop d)) (SlP.keep _ _)]
theorem unchained_any(p n:Nat)(f:Bool->List UInt8->List UInt8)(Al:Option Addr)(cl:Nat)(l:List UInt8)(Ab:Option Addr)(L cb:Nat)(b:List UInt8)(w:World)(hF:FOk f n)(hn:n<=16)(hI:IsC w p n f)
  (hl:Rd w w.heap.size Al n l) (hb:Rd w w.heap.size Ab L b) (hcb:L<=cb/\cb<=9223372036854775807) (h1:n<=L) (h2:L<=2*n):
  Calls Tryz.prog 23 #[.pointer (some ⟨p,0,none⟩),.slice Al n cl,.slice Ab L cb] w (SlRet w L (unF f n l b)):=by
 obtain⟨d,hLd⟩:∃d:Nat,L=n+d:=⟨L-n,by omega⟩;have hd:(L:Int)-(n:Int)=(d:Int):=by omega
 have hdn:d<=n:=by omega
 have h0:=hF.pos;obtain⟨bb,oo,rfl,_,_⟩:=hb.at_ (by omega);have HF:=hid hF;have HI:=hid hI;have HL:=hid hl;have HB:=hid hb;have HLD:=hid hLd;have HU:=hid (show unF f n l b=if d=0 then xorL (f true b) l n else bk f n l (b.take d) (b.drop d) by
  unfold unF;rw[hb.len];by_cases hz:d=0
  ·rw[if_pos (by omega),if_pos hz]
  ·rw[if_neg (by omega),if_neg hz,show L-n=d by omega])
 clear hF hI hl hb hLd;go_enter Tryz.func23,Tryz.ntmps23;go_wp2_with fail
 refine(ztH p n f w HI.out).mono ?_;rintro e w1 ⟨rfl,rfl⟩;go_upto_region 2 with fail
 clear hd;have hx2:=Ext.alloc w (.cells #[] 5);by_cases hz:d=0
 ·subst hz;obtain rfl:n=L:=by have:=HLD.out;omega
  have HUZ:=hid (HU.out.trans (if_pos rfl));obtain⟨W2,hW2⟩:∃W2,w.alloc (.cells #[] 5)=W2:=⟨_,rfl⟩;have HSZ:=hid (show Ext w W2 by rw[<-hW2];exact hx2);have HW2:=hid hW2;obtain⟨G,hG⟩:∃G,w.heap.size=G:=⟨_,rfl⟩;have HG:=hid hG;clear hx2 HU HLD hW2 hG;go_upto_region 3 with fail
  rw[HW2.out,HG.out];go_wp2_with fail
  refine(zuS p _ n cb f b W2 (HI.out.later HSZ.out) (HB.out.later HSZ.out) hcb).mono ?_;rintro e w3 ⟨A3,c3,rfl,hc3,hr3,hx3,_⟩;have HX3:=hid (Ext.trans HSZ.out hx3);have HR3:=hid hr3;clear hr3 hx3;go_wp2_with fail
  refine(A.zoi A3 Al n c3 cl (f true b) l w3 HR3.out (HL.out.later HX3.out) (by omega)).mono ?_;rintro e w4 ⟨v4,rfl,ho4,hx4⟩;obtain⟨A4,c4,rfl,hc4,hr4,_⟩:=ho4.rdf (zbK (f true b) l n);have HX4:=hid (Ext.trans HX3.out hx4);have HR4:=hid hr4;clear ho4 hr4 hx4 hc4;go_wp2_with fail
  refine(cat_two A4 (some ⟨G,0,none⟩) n 0 c4 0 n (xorL (f true b) l n) [] w4 HR4.out (Rd.nil _ _ _) (by omega) (by omega) (by omega)).mono ?_;rintro e w5 ⟨A5,c5,rfl,hc5,hr5,hx5,hf5⟩;rw[List.append_nil] at hr5;have HR5:=hid (And.intro hr5 (Ext.trans HX4.out hx5));have HF5:=hid (hf5.mono (Below.size HX4.out));clear hr5 hx5 hf5;go_wp2_with fail
  go_ret;exact⟨A5,c5,rfl,hc5,by rw[HUZ.out];exact HR5.out.1,HR5.out.2,HF5.out⟩
 ·have HUZ:=hid (HU.out.trans (if_neg hz));have hcg:¬cb=d:=by have:=HLD.out;omega
  have hLd:L-d=n:=by have:=HLD.out;omega
  have hdL:d<=L:=by have:=HLD.out;omega
  have hd0:0<d:=by omega
  obtain⟨W2,hW2⟩:∃W2,w.alloc (.cells #[] 5)=W2:=⟨_,rfl⟩;have HX2:=hid (show Ext w W2 by rw[<-hW2];exact hx2);have HW2:=hid hW2;clear hx2 HU hW2 hz;go_upto_region 3 with fail
  rw[HW2.out];go_wp2_with fail
  have hrd:=(HB.out.later HX2.out).cutlo (l:=d) hdL hcb.1;rw[if_neg hcg,Option.map_some,za2,Nat.mul_one,hLd] at hrd;refine(zuS p _ n (cb-d) f (b.drop d) W2 (HI.out.later HX2.out) hrd (by omega)).mono ?_;obtain⟨z,hz⟩:∃z,f true (b.drop d)=z:=⟨_,rfl⟩;rw[hz];rintro e w3 ⟨A3,c3,rfl,hc3,hr3,hx3,_⟩;have HZE:=hid hz;have HX3:=hid (Ext.trans HX2.out hx3);have HZ:=hid hr3;have HCZ:=hid hc3;have HB3:=hid (HB.out.later HX3.out);have HCB:=hid hcb;have HDL:=hid hdL;have HDN:=hid hdn;have HN:=hid (And.intro hd0 (And.intro hn h0));clear hrd hz hx3 hr3 hc3 hcg hLd hdL hcb h1 h2 hdn HX2 HW2 h0 hn hd0;go_upto_region 5 with fail
  refine zlC mixed rfl (by kernel_rfl) (kV (unK5 d n L z b)) (zdA _) (zab ⟨?_,?_,?_,?_,?_,?_,?_,?_,?_,?_,?_,trivial⟩) ?_
  ·intro a w hk;have s10:a.tmps.getD 10 undef=.slice A3 n c3:=hk.was 10 (by kernel_rfl) rfl;have k10:=HCZ.out.1;have r10:=(HZ.out).later hk.ext;exact zau rfl rfl s10 ⟨_,_,rfl,k10,r10⟩
  ·intro a w hk;have s7:a.tmps.getD 7 undef=.int .i64 d:=hk.was 7 (by kernel_rfl) rfl;exact zau rfl rfl s7 rfl
  ·intro a w hk;obtain⟨A34,c34,s34,k34,r34⟩:=hk.val 0 34 (by kernel_rfl) rfl;have s35:=hk.eq_ 1 35 (by kernel_rfl) rfl;exact zph (l:=d) rfl rfl s34 s35 A.ziy A.zmz HDN.out k34 r34 (fun _ h=>h)
  ·intro a w hk;have s2:a.tmps.getD 2 undef=.slice (some ⟨bb,oo,none⟩) L cb:=hk.was 2 (by kernel_rfl) rfl;have k2:=HCB.out.1;have r2:=(HB3.out).later hk.ext;exact zau rfl rfl s2 ⟨_,_,rfl,k2,r2⟩
  ·intro a w hk;have s7:a.tmps.getD 7 undef=.int .i64 d:=hk.was 7 (by kernel_rfl) rfl;exact zau rfl rfl s7 rfl
  ·intro a w hk;obtain⟨A37,c37,s37,k37,r37⟩:=hk.val 3 37 (by kernel_rfl) rfl;have s38:=hk.eq_ 4 38 (by kernel_rfl) rfl;exact zph (l:=d) rfl rfl s37 s38 A.ziy A.zmz HDL.out k37 r37 (fun _ h=>h)
  ·intro a w hk;obtain⟨A36,c36,s36,r36⟩:=hk.byt_ 2 36 (by kernel_rfl) rfl;obtain⟨A39,c39,s39,r39⟩:=hk.byt_ 5 39 (by kernel_rfl) rfl;exact za0 rfl rfl (by simp only[List.map_toArray,List.map_cons,List.map_nil,Act.eval,s36,s39]<;>rfl) cfXor (A.zoi A36 A39 d c36 c39 (z.take d) (b.take d) w r36 r39 (by have:=HDN.out;have:=HN.out;omega)) (fun e w1 h=>xor_k d _ _ e w1 h)
  ·intro a w hk;obtain⟨A40,c40,s40,r40⟩:=hk.val 6 40 (by kernel_rfl) rfl;exact zau rfl rfl s40 ⟨_,_,rfl,r40⟩
  ·intro a w hk;obtain⟨A33,c33,s33,r33⟩:=hk.val 7 33 (by kernel_rfl) rfl;exact zfj rfl rfl s33 rfl ⟨_,_,rfl,r33⟩
  ·intro a w hk;obtain⟨A33,c33,s33,r33⟩:=hk.val 7 33 (by kernel_rfl) rfl;exact zfj rfl rfl s33 rfl rfl
  ·intro a w hk;obtain⟨A41,c41,s41,r41⟩:=hk.byt_ 8 41 (by kernel_rfl) rfl;exact zaM rfl rfl s41 ⟨_,_,rfl,r41⟩
  ·intro a w4 hf;obtain⟨A34,c34,s34,k34,r34⟩:=hf.val 0 34 (by kernel_rfl) rfl;have s35:=hf.eq_ 1 35 (by kernel_rfl) rfl;obtain⟨A36,c36,s36,r36⟩:=hf.val 2 36 (by kernel_rfl) rfl;obtain⟨A37,c37,s37,k37,r37⟩:=hf.val 3 37 (by kernel_rfl) rfl;have s38:=hf.eq_ 4 38 (by kernel_rfl) rfl;obtain⟨A39,c39,s39,r39⟩:=hf.val 5 39 (by kernel_rfl) rfl;obtain⟨A40,c40,s40,r40⟩:=hf.val 6 40 (by kernel_rfl) rfl;obtain⟨A33,c33,s33,r33⟩:=hf.val 7 33 (by kernel_rfl) rfl;obtain⟨A41,c41,s41,r41⟩:=hf.val 8 41 (by kernel_rfl) rfl;have s42:=hf.eq_ 9 42 (by kernel_rfl) rfl;obtain⟨A9,c9,s9,r9⟩:=hf.val 10 9 (by kernel_rfl) rfl;have hx:=hf.ext;have e:=hf.frame;clear hf;simp only[zaT,Act.put,List.setIfInBounds_toArray,List.set_cons_zero,List.set_cons_succ,s34,s35,s36,s37,s38,s39,s40,s33,s41,s42,s9] at e;clear s34 s35 s36 s37 s38 s39 s40 s33 s41 s42 s9;subst e;have HXA:=hid (Ext.trans HX3.out hx);have HQ:=hid r9
   have HXA5:=hid hx;have HLN:=hid (show(b.take d).length+(z.drop d).length=n by rw[List.length_take,List.length_drop,HB3.out.len,HZ.out.len];have:=HDL.out;have:=HDN.out;omega);clear r34 r36 r37 r39 r40 r33 r41 k34 k37 hx;go_upto_region 6 with fail
   refine zlC mixed rfl (by kernel_rfl) (kV (unK6 d n L z b)) (zdA _) (zab ⟨?_,?_,?_,?_,?_,?_,?_,?_,?_,trivial⟩) ?_
   ·intro a w hk;have s2:a.tmps.getD 2 undef=.slice (some ⟨bb,oo,none⟩) L cb:=hk.was 2 (by kernel_rfl) rfl;have k2:=HCB.out.1;have r2:=(HB3.out.later HXA5.out).later hk.ext;exact zau rfl rfl s2 ⟨_,_,rfl,k2,r2⟩
   ·intro a w hk;have s7:a.tmps.getD 7 undef=.int .i64 d:=hk.was 7 (by kernel_rfl) rfl;exact zau rfl rfl s7 rfl
   ·intro a w hk;obtain⟨A43,c43,s43,k43,r43⟩:=hk.val 0 43 (by kernel_rfl) rfl;have s44:=hk.eq_ 1 44 (by kernel_rfl) rfl;exact zph (l:=d) rfl rfl s43 s44 A.ziy A.zmz HDL.out k43 r43 (fun _ h=>h)
   ·intro a w hk;have s10:a.tmps.getD 10 undef=.slice A3 n c3:=hk.was 10 (by kernel_rfl) rfl;have k10:=HCZ.out.1;have r10:=(HZ.out.later HXA5.out).later hk.ext;exact zau rfl rfl s10 ⟨_,_,rfl,k10,r10⟩
   ·intro a w hk;have s7:a.tmps.getD 7 undef=.int .i64 d:=hk.was 7 (by kernel_rfl) rfl;exact zau rfl rfl s7 rfl
   ·intro a w hk;obtain⟨A46,c46,s46,k46,r46⟩:=hk.val 3 46 (by kernel_rfl) rfl;have s47:=hk.eq_ 4 47 (by kernel_rfl) rfl;exact zhK (l:=d) rfl rfl s46 s47 A.ziy A.zmz HDN.out k46 r46 (fun _ h=>h)
   ·intro a w hk;obtain⟨A45,c45,s45,r45⟩:=hk.byt_ 2 45 (by kernel_rfl) rfl;obtain⟨A48,c48,s48,r48⟩:=hk.byt_ 5 48 (by kernel_rfl) rfl;refine zai (v:=.slice (some ⟨w.heap.size,0,none⟩) 2 2) (w':=w.alloc (.cells #[.slice A45 d c45,.slice A48 (n-d:Nat) c48] 22)) rfl ?_ (Ext.alloc _ _) ⟨_,rfl,A.RowsB.two w A45 A48 d (n-d) c45 c48 22 _ _ r45 r48⟩;have e:=A.zgf A45 A48 d (n-d) c45 c48 w;simp only[execOp,Act.eval,List.map_toArray,List.map_cons,List.map_nil,s45,s48,Sem.run_bind,e,Sem.run_pure,Result.andThen]
   ·intro a w hk;obtain⟨b49,s49,g49⟩:=hk.val 6 49 (by kernel_rfl) rfl;exact za0 rfl rfl (by simp only[List.map_toArray,List.map_cons,List.map_nil,Act.eval,s49]<;>rfl) cfCat (cat_k g49 HLN.out HN.out.2.2 (by have:=HN.out;omega)) (fun e w1 h=>h)
   ·intro a w hk;obtain⟨A50,c50,s50,k50,r50⟩:=hk.val 7 50 (by kernel_rfl) rfl;exact zaM rfl rfl s50 ⟨_,c50,rfl,k50,r50⟩
   ·intro a w5 hf;obtain⟨A43,c43,s43,k43,r43⟩:=hf.val 0 43 (by kernel_rfl) rfl;have s44:=hf.eq_ 1 44 (by kernel_rfl) rfl;obtain⟨A45,c45,s45,r45⟩:=hf.val 2 45 (by kernel_rfl) rfl;obtain⟨A46,c46,s46,k46,r46⟩:=hf.val 3 46 (by kernel_rfl) rfl;have s47:=hf.eq_ 4 47 (by kernel_rfl) rfl;obtain⟨A48,c48,s48,r48⟩:=hf.val 5 48 (by kernel_rfl) rfl;obtain⟨b49,s49,g49⟩:=hf.val 6 49 (by kernel_rfl) rfl;obtain⟨A50,c50,s50,k50,r50⟩:=hf.val 7 50 (by kernel_rfl) rfl;obtain⟨A8,c8,s8,k8,r8⟩:=hf.val 8 8 (by kernel_rfl) rfl;have hx:=hf.ext;have e:=hf.frame;clear hf;simp only[zaT,Act.put,List.setIfInBounds_toArray,List.set_cons_zero,List.set_cons_succ,s43,s44,s45,s46,s47,s48,s49,s50,s8] at e;clear s43 s44 s45 s46 s47 s48 s49 s50 s8;subst e;have HXB:=hid (Ext.trans HXA.out hx);have HXX:=hid (And.intro k8 r8);have HQ:=hid (HQ.out.later hx);clear r43 r45 r46 r48 r8 k43 k46 k8 hx;go_wp2_with fail
    refine(zuS p A8 n c8 f (b.take d++z.drop d) w5 (HI.out.later HXB.out) HXX.out.2 HXX.out.1).mono ?_;rintro e w6 ⟨A6,c6,rfl,_,hr6,hx6,_⟩;have HX6:=hid (Ext.trans HXB.out hx6);have HR6:=hid hr6;have HQ:=hid (HQ.out.later hx6);clear hr6 hx6;go_wp2_with fail
    refine(A.zoi A6 Al n c6 cl (f true (b.take d++z.drop d)) l w6 HR6.out (HL.out.later HX6.out) (by have:=HN.out;omega)).mono ?_;rintro e w7 ⟨v7,rfl,ho7,hx7⟩;obtain⟨A7,c7,rfl,_,hr7,_⟩:=ho7.rdf (zbK (f true (b.take d++z.drop d)) l n);have HX7:=hid (Ext.trans HX6.out hx7);have HR7:=hid hr7;have HQ:=hid (HQ.out.later hx7);clear ho7 hr7 hx7;go_wp2_with fail
    refine(cat_two A7 A9 n d c7 c9 L _ _ w7 HR7.out HQ.out HLD.out.symm (by have:=HN.out;have:=HLD.out;omega) (by have:=HN.out;have:=HLD.out;have:=HDN.out;omega)).mono ?_;rintro e w9 ⟨B9,d9,rfl,hc9,hr9,hx9,hf9⟩;have HR9:=hid (And.intro hr9 (Ext.trans HX7.out hx9));have HF9:=hid (hf9.mono (Below.size HX7.out));have HC9:=hid hc9;clear hr9 hx9 hf9 hc9;go_wp2_with fail
    go_ret;refine⟨B9,d9,rfl,HC9.out,?_,HR9.out.2,HF9.out⟩;have hl:(b.take d).length=d:=by rw[List.length_take,HB3.out.len];have:=HDL.out;omega
    have hb:bk f n l (b.take d) (b.drop d)=xorL (f true (b.take d++z.drop d)) l n++xorL (z.take d) (b.take d) d:=by unfold bk bkX;rw[HZE.out,hl]
    rw[HUZ.out,hb];exact HR9.out.1
theorem tailS_any(p n m:Nat)(back:Bool)(f:Bool->List UInt8->List UInt8)(Al:Option Addr)(cl:Nat)(l:List UInt8)(Ab:Option Addr)(L cb:Nat)(b:List UInt8)(w:World)(hm:7<=m/\m<=9)(hF:FOk f n)(hn:n<=16)(hI:IsC w p n f)
  (hl:Rd w w.heap.size Al n l) (hcl:n<=cl/\cl<=9223372036854775807) (hb:Rd w w.heap.size Ab L b) (hcb:L<=cb/\cb<=9223372036854775807) (h1:n<=L) (h2:L<=2*n):
  Calls Tryz.prog 15 #[.pointer (some ⟨p,0,none⟩),.int .i64 m,.bool back,.slice Al n cl,.slice Ab L cb] w (OkRet w L (zcB f n m back l b)):=by
 obtain⟨d,hLd⟩:∃d:Nat,L=n+d:=⟨L-n,by omega⟩;have hd:(L:Int)-(n:Int)=(d:Int):=by omega
 have hdn:d<=n:=by omega
 have h0:=hF.pos;have hn0:((n:Int)==0)=false:=by simp;omega
 have hbl:=hb.len;have HBH:=hid (behind_any m d n w hm hdn);have hD:=stN_le (n:=n) m d;have HT:=hid (tail_there hF m l b (by omega) (by omega));have HU:=hid (tail_undo (f:=f) m l b (n:=n) (by omega));have HE:=hid (show unr n m b=if stN m d n=0 then b else rotL (L-stN m d n) b by unfold unr;rw[hbl,show L-n=d by omega]);have HE2:=hid (show b.length-n=d by omega);obtain⟨D,hDe⟩:∃D,stN m d n=D:=⟨_,rfl⟩;rw[hDe] at HBH hD HE;have HDE:=hid hDe;have HF:=hid hF;have HI:=hid hI;have HL:=hid hl;have HB:=hid hb;have HCL:=hid hcl;have HLD:=hid hLd;have HBL:=hid hbl;clear hF hI hl hb hLd hcl hbl hDe;go_enter Tryz.func15,Tryz.ntmps15;go_wp2_with fail
 refine(ztH p n f w HI.out).mono ?_;rintro e w1 ⟨rfl,rfl⟩;go_wp2_with fail
 refine HBH.out.mono ?_;rintro e w1 ⟨rfl,rfl⟩;go_upto_region 11 with fail
 clear hd hn0;cases back
 ·go_wp2_with fail
  refine(chained_any p n f Al cl l Ab L cb b w HF.out hn HI.out HL.out HCL.out HB.out hcb h1 h2).mono ?_;rintro e w2 ⟨A2,c2,rfl,hc2,hr2,hx2,hf2⟩;have hlc:=hr2.len;have HTT:=hid ((turn_t (chF f n l b) L D (hlc.trans rfl) (by have:=HLD.out;omega) (8*(D:Int)) rfl).trans (show rotL D (chF f n l b)=zcB f n m false l b by rw[HT.out,HE2.out,HDE.out]));have HX2:=hid hx2;have HR2:=hid hr2;have HDL:=hid (show(zcB f n m false l b).length=L from(zix HF.out m false l b (by rw[HBL.out];exact h1) (by rw[HBL.out];exact h2)).trans HBL.out);clear hr2 hx2 hf2 hlc HT HU;go_wp2_with fail
  refine(A.zpJ A2 L c2 (8*(D:Int)) (chF f n l b) w2 HR2.out (by omega)).mono ?_;rw[HTT.out];rintro e w3 ⟨v3,rfl,ho3,hx3⟩;obtain⟨A3,c3,rfl,hc3,hr3,hf3⟩:=ho3.rdf HDL.out;have HR3:=hid (And.intro hr3 (Ext.trans HX2.out hx3));have HF3:=hid (hf3.mono (Below.size HX2.out));have HC3:=hid hc3;clear ho3 hr3 hx3 hf3 hc3;go_wp2_with fail
  go_ret2;exact⟨A3,c3,rfl,HC3.out,HR3.out.1,HR3.out.2,HF3.out⟩
 ·have HTT:=hid ((turn_u b L D HBL.out (by have:=HLD.out;omega) (-(8*(D:Int))) rfl).trans (show(if D=0 then b else rotL (L-D) b)=unr n m b by rw[HE.out]));have HDL:=hid ((unr_len m b (n:=n)).trans HBL.out);clear HT;go_wp2_with fail
  refine(A.zpJ Ab L cb (-(8*(D:Int))) b w HB.out (by omega)).mono ?_;rw[HTT.out];rintro e w3 ⟨v3,rfl,ho3,hx3⟩;obtain⟨A3,c3,rfl,hc3,hr3,hf3⟩:=ho3.rdf HDL.out;have HX3:=hid (show Ext w w3 from hx3);have HR3:=hid hr3;have HC3:=hid hc3;clear ho3 hr3 hx3 hf3 hc3;go_wp2_with fail
  refine(unchained_any p n f Al cl l A3 L c3 (unr n m b) w3 HF.out hn (HI.out.later HX3.out) (HL.out.later HX3.out) HR3.out HC3.out h1 h2).mono ?_;rw[<-HU.out];rintro e w4 ⟨A4,c4,rfl,hc4,hr4,hx4,hf4⟩;have HR4:=hid (And.intro hr4 (Ext.trans HX3.out hx4));have HF4:=hid (hf4.mono (Below.size HX3.out));have HC4:=hid hc4;clear hr4 hx4 hf4 hc4;go_wp2_with fail
  go_ret2;exact⟨A4,c4,rfl,HC4.out,HR4.out.1,HR4.out.2,HF4.out⟩
theorem tailS_short(p n m:Nat)(back:Bool)(f:Bool->List UInt8->List UInt8)(Al:Option Addr)(cl:Nat)(Ab:Option Addr)(L cb:Nat)(w:World)(hm:7<=m/\m<=9)(hI:IsC w p n f)(hL:L<n):
  Calls Tryz.prog 15 #[.pointer (some ⟨p,0,none⟩),.int .i64 m,.bool back,.slice Al n cl,.slice Ab L cb] w fun e w'=>e=.returned (.tuple #[.slice none 0 0,.int .i64 7])/\w=w':=by
 have HI:=hid hI;clear hI;go_enter Tryz.func15,Tryz.ntmps15;go_wp2_with fail
 refine(ztH p n f w HI.out).mono ?_;rintro e w1 ⟨rfl,rfl⟩;go_wp2_with fail
 go_ret2;exact⟨rfl,rfl⟩
end Go.Proofs.YtokbbmngfogbbaaGreatDoor.C
