/- Own lemmas of the verifier on memory, numbers and the functions that the laws call; no statement is proved here. -/
import Derived.Test.YtokbbmngfogbbaaGreatDoorQT1
import Derived.Deep.MidRow
import Derived.Laws.Tables
namespace Go.Proofs.YtokbbmngfogbbaaGreatDoor.T
open Go.RowKit
set_option maxRecDepth 100000
set_option maxHeartbeats 8000000
structure TwoAt (w:World) (p:Nat) (ks ss:List UInt32) (A:Option Addr) (n c:Nat):Prop where
 key:∀j,j<40->w.cell? ⟨p,j,none⟩=some (.int .u32 ((ks.getD j 0).toNat:Nat))
 row:w.cell? ⟨p,40,none⟩=some (.slice A n c)
 rd:RdN .u32 w w.heap.size A n (nW ss)
 two:2<=n
 four:n<=4
theorem TwoAt.later{w w':World}{p n c:Nat}{ks ss:List UInt32}{A:Option Addr}(h:TwoAt w p ks ss A n c)(hx:Ext w w'):TwoAt w' p ks ss A n c :=
 ⟨fun j hj=>zan hx (h.key j hj),zan hx h.row,h.rd.later hx,h.two,h.four⟩
def IsTwo(w:World)(p:Nat)(ks ss:List UInt32):Prop:=∃A n c,TwoAt w p ks ss A n c
theorem IsTwo.later{w w':World}{p:Nat}{ks ss:List UInt32}(h:IsTwo w p ks ss)(hx:Ext w w'):IsTwo w' p ks ss:=by
 obtain⟨A,n,c,h⟩:=h;exact⟨A,n,c,h.later hx⟩
theorem retE{w:World}{v:Value}(e:Ending)(w':World)(h:e=.returned v/\w=w'):∃u,e=.returned u/\Ext w w'/\K.holds (.eq v) w' u:=by
 obtain⟨rfl,rfl⟩:=h;exact⟨_,rfl,Ext.refl _,rfl⟩
theorem zsh(g l:Nat)(w:World)(hl:l<40):
  (Instr.sliceAt 157 (.pointer (some ⟨g,0,none⟩)) (some (.int .i64 (l:Int))) none none).run Tryz.prog w=.ok (.slice (some ⟨g,l,none⟩) (40-l) (40-l)) w:=by
 have hN:Tryz.prog.arrayLen 157=40:=by kernel_rfl
 have hs:(sizeOf (Tryz.prog.elem 157)).run Tryz.prog w=.ok 1 w:=by kernel_rfl
 rw[run_sliceAt_array_l w 157 ⟨g,0,none⟩ (by kernel_rfl) .i64 l (by omega) (by rw[hN];omega),hs,hN];simp only[Result.andThen,slicedAt,Int.toNat_natCast];rw[if_neg (by omega)];simp[za2]
theorem zoE(g l h:Nat)(w:World)(hl:l<40)(hh:h<=40)(hlh:l<=h):
  (Instr.sliceAt 157 (.pointer (some ⟨g,0,none⟩)) (some (.int .i64 (l:Int))) (some (.int .i64 (h:Int))) none).run Tryz.prog w=.ok (.slice (some ⟨g,l,none⟩) (h-l) (40-l)) w:=by
 have hN:Tryz.prog.arrayLen 157=40:=by kernel_rfl
 have hs:(sizeOf (Tryz.prog.elem 157)).run Tryz.prog w=.ok 1 w:=by kernel_rfl
 rw[run_sliceAt_array_lh w 157 ⟨g,0,none⟩ (by kernel_rfl) .i64 .i64 l h (by omega) (by omega) (by rw[hN];omega),hs,hN];simp only[Result.andThen,slicedAt,Int.toNat_natCast];rw[if_neg (by omega)];simp[za2]
theorem cf16(vs:Array Value)(w:World):(callFunc 167 vs).run Tryz.prog w=.ok (.enter 167 vs) w:=by go_simp
theorem cf45(vs:Array Value)(w:World):(callFunc 141 vs).run Tryz.prog w=.ok (.enter 141 vs) w:=by go_simp
def mxK(p n c:Nat)(A:Option Addr)(x y yr h1 h2:UInt32):List K:=[.eq (.int .u32 (x.toNat:Nat)),.eq (.pointer (some ⟨p,0,none⟩)),.eq (.pointer (some ⟨p,0,none⟩)),.eq (.pointer (some ⟨p,40,none⟩)),.eq (.slice A n c),.eq (.int .u32 (h1.toNat:Nat)),.eq (.int .u32 (y.toNat:Nat)),.eq (.int .u32 (yr.toNat:Nat)),.eq (.pointer (some ⟨p,0,none⟩)),.eq (.pointer (some ⟨p,0,none⟩)),.eq (.pointer (some ⟨p,40,none⟩)),.eq (.slice A n c),.eq (.int .u32 (h2.toNat:Nat)),.eq (.int .u32 (h1.toNat:Nat)),.eq (.int .u32 (h2.toNat:Nat))]
theorem zc5(p n c i:Nat)(x y:UInt32)(ks ss:List UInt32)(A:Option Addr)(w:World)(hG:GT w)(hT:TwoAt w p ks ss A n c)(hi:i<16):
  Calls Tryz.prog 229 #[.pointer (some ⟨p,0,none⟩),.int .u32 (x.toNat:Nat),.int .u32 (y.toNat:Nat),.int .i64 i] w fun e w'=>e=.returned (.tuple #[.int .u32 ((mF ks ss x y i).toNat:Nat),.int .u32 ((mG ks ss x y i).toNat:Nat)])/\Ext w w':=by
 have hF:mF ks ss x y i=HW x ss+HW (rolI y 8) ss+ks.getD (8+2*i) 0:=rfl;have hGG:mG ks ss x y i=HW x ss+2*HW (rolI y 8) ss+ks.getD (9+2*i) 0:=rfl;have ck0:=fun w (h:TwoAt w p ks ss A n c)=>h.key (8+2*i) (by omega)
 have ck1:=fun w (h:TwoAt w p ks ss A n c)=>h.key (9+2*i) (by omega)
 obtain⟨k0,hk0⟩:∃k0,ks.getD (8+2*i) 0=k0:=⟨_,rfl⟩;obtain⟨k1,hk1⟩:∃k1,ks.getD (9+2*i) 0=k1:=⟨_,rfl⟩;rw[hk0] at ck0 hF;rw[hk1] at ck1 hGG;obtain⟨yr,hyr⟩:∃yr,rolI y 8=yr:=⟨_,rfl⟩;rw[hyr] at hF hGG;have ha:=fun w hG (h:TwoAt w p ks ss A n c)=>zo1 x ss A n c w hG h.rd h.two h.four
 have hb:=fun w hG (h:TwoAt w p ks ss A n c)=>zo1 yr ss A n c w hG h.rd h.two h.four
 have hro:=fun w=>zeP y 8 w
 rw[hyr] at hro;obtain⟨h1,hh1⟩:∃h1,HW x ss=h1:=⟨_,rfl⟩;obtain⟨h2,hh2⟩:∃h2,HW yr ss=h2:=⟨_,rfl⟩;rw[hh1] at ha hF hGG;rw[hh2] at hb hF hGG;have e1:=zcd h1 h2;have e2:=zcd (h1+h2) k0;have e3:=zqJ h2;have e4:=zcd h1 (2*h2);have e5:=zcd (h1+2*h2) k1;rw[<-hF] at e2;rw[<-hGG] at e5;obtain⟨r1,hr1⟩:∃r,mF ks ss x y i=r:=⟨_,rfl⟩;obtain⟨r2,hr2⟩:∃r,mG ks ss x y i=r:=⟨_,rfl⟩;rw[hr1] at e2 ⊢;rw[hr2] at e5 ⊢;obtain⟨s1,hs1⟩:∃s,h1+h2=s:=⟨_,rfl⟩;obtain⟨d2,hd2⟩:∃s,2*h2=s:=⟨_,rfl⟩;rw[hs1] at e1 e2;rw[hd2] at e3 e4 e5;obtain⟨s2,hs2⟩:∃s,h1+d2=s:=⟨_,rfl⟩;rw[hs2] at e4 e5;have HE:=hid (And.intro e1 (And.intro e2 (And.intro e3 (And.intro e4 e5))));have HC:=hid (And.intro ck0 ck1);have HA:=hid ha;have HBB:=hid hb;have HRO:=hid hro;have HT:=hid hT;have HG:=hid hG;have HI:=hid hi;clear e1 e2 e3 e4 e5 ck0 ck1 ha hb hro hT hG hF hGG hk0 hk1 hyr hh1 hh2 hr1 hr2 hs1 hs2 hd2 hi
 go_enter Tryz.func229,Tryz.ntmps229;go_wp2_with fail
 refine zaD 13 (mxK p n c A x y yr h1 h2) (zab ⟨fun _ _ h=>h.mv,fun _ _ h=>h.mv,?_,?_,?_,?_,fun _ _ h=>h.mv,?_,fun _ _ h=>h.mv,?_,?_,?_,?_,trivial⟩) ?_
 ·intro a w hk;have s14:=hk.eq_ 1 14;refine za ?_;go_simp
 ·intro a w hk;have s15:=hk.eq_ 2 15;refine za ?_;go_simp
 ·intro a w hk;have s16:=hk.eq_ 3 16;refine za ?_;have hc:=(HT.out.later hk.ext).row;go_simp
 ·intro a w hk;exact hk.call cf16 (HA.out w (HG.out.later hk.ext) (HT.out.later hk.ext)) (fun e w1 h=>retX e w1 h)
 ·exact fun _ w h=>h.call cf45 (HRO.out w) (fun e w1 h=>retE e w1 h)
 ·intro a w hk;have s21:=hk.eq_ 8 21;refine za ?_;go_simp
 ·intro a w hk;have s22:=hk.eq_ 9 22;refine za ?_;go_simp
 ·intro a w hk;have s23:=hk.eq_ 10 23;refine za ?_;have hc:=(HT.out.later hk.ext).row;go_simp
 ·intro a w hk;exact hk.call cf16 (HBB.out w (HG.out.later hk.ext) (HT.out.later hk.ext)) (fun e w1 h=>retX e w1 h)
 ·intro a w1 hf;have hx:=hf.ext;have e:=hf.fr;clear hf;simp only[List.take_succ_cons,List.take_zero,mxK,frV,kPut,Act.put,List.setIfInBounds_toArray,List.set_cons_zero,List.set_cons_succ] at e;subst e;simp only[List.drop_succ_cons,List.drop_zero];have HT2:=hid (HT.out.later hx);have HX:=hid hx;have hi:=HI.out;obtain⟨q,hq⟩:∃q,8+2*i=q:=⟨_,rfl⟩;have hc0:=HC.out.1 _ HT2.out;have hc1:=HC.out.2 _ HT2.out;rw[hq] at hc0;rw[show 9+2*i=q+1 by omega] at hc1;have hsl:∀w,(Instr.sliceAt 157 (.pointer (some ⟨p,0,none⟩)) (some (.int .i64 (8+(i:Int)*2))) none none).run Tryz.prog w=.ok (.slice (some ⟨p,q,none⟩) (40-q) (40-q)) w:=fun w=>by have:=zsh p q w (by omega);rw[show((q:Nat):Int)=8+(i:Int)*2 by omega] at this;exact this
  obtain⟨m,hm⟩:∃m,40-q=m:=⟨_,rfl⟩;rw[hm] at hsl;have h0m:(0:Int)<(m:Int):=by omega
  have h1m:(1:Int)<(m:Int):=by omega
  have HSL:=hid hsl;have hi16:(i:Int)<16:=by omega
  have l1:=wlt h1;have l2:=wlt h2;obtain⟨e1,e2,e3,e4,e5⟩:=HE.out;clear hx hq hm hsl;go_wp2_with (rw[HSL.out];simp only[Result.andThen];rw[Oper.upon_value])
  go_quiet (fail)
  rw[e2,e5];have HQX:=hid (HX.out.drewN nq);clear e1 e2 e3 e4 e5;go_wp2_with fail
  go_ret2;exact⟨rfl,HQX.out⟩
theorem zde{o:Oper}{a:Act}{w:World}{t:Tmp}{B:Nat}{x:W4}(ho:o.op=.load 283 (.tmp t))(ht:a.tmps.getD t undef=.pointer (some ⟨B,0,none⟩))(hA:V4 w B x):
  (execOp a.eval o).run Tryz.prog w=.ok (.value (.agg x.cells)) w:=by
 have h:=run_loadVar_row (P:=Tryz.prog) w B 283 283 x.cells (0,0) _ hA Tryz.underlying283 rfl (W4.size x);unfold execOp;simp only[ho,Act.eval,ht,Instr.loadAt,Instr.sureAddr,Sem.run_bind,Sem.run_pure,Result.andThen_ok,h]
theorem zmf(g:Nat)(w:World):
  (Instr.sliceAt 157 (.pointer (some ⟨g,0,none⟩)) none (some (.int .i64 4)) none).run Tryz.prog w=.ok (.slice (some ⟨g,0,none⟩) 4 40) w:=by
 have hN:Tryz.prog.arrayLen 157=40:=by kernel_rfl
 have hs:(sizeOf (Tryz.prog.elem 157)).run Tryz.prog w=.ok 1 w:=by kernel_rfl
 have e:=run_sliceAt_array_h (P:=Tryz.prog) w 157 ⟨g,0,none⟩ (by kernel_rfl) .i64 4 (by omega) (by rw[hN];omega);rw[hs,hN] at e;refine e.trans ?_;simp[Result.andThen,slicedAt,za2]
theorem zkH(g:Nat)(w:World):
  (Instr.sliceAt 157 (.pointer (some ⟨g,0,none⟩)) (some (.int .i64 4)) (some (.int .i64 8)) none).run Tryz.prog w=.ok (.slice (some ⟨g,4,none⟩) 4 36) w :=
 zoE g 4 8 w (by omega) (by omega) (by omega)
theorem cf47(vs:Array Value)(w:World):(callFunc 232 vs).run Tryz.prog w=.ok (.enter 232 vs) w:=by go_simp
theorem cf48(vs:Array Value)(w:World):(callFunc 233 vs).run Tryz.prog w=.ok (.enter 233 vs) w:=by go_simp
structure zoU (p n c:Nat) (A:Option Addr) (ks ss:List UInt32) (G:Nat) (y:W4) (w w1:World):Prop where
 ext:Ext w w1
 two:TwoAt w1 p ks ss A n c
 at_:V4 w1 G y
 res:V4 w1 (G+1) ⟨0,0,0,0⟩
 tab:GT w1
def zmV(p n c:Nat)(A:Option Addr)(ks ss:List UInt32)(x:W4)(G:Nat)(w:World)(a:Act)(w1:World):Prop :=
 ∃(i:Nat) (y:W4) (u6 u7 u8 u9 u10 u11 u12 u13 u14 u15 u16 u17 u18 u19 u20 u21 u22 u23 u24 u25 u26 u27 u28 u29 u30 u31 u32 u33 u34 u35 u36 u37 u38 u39 u40 u41 u42 u43 u44 u45 u46 u47 u48 u49:Value),
  a = { tmps:=#[.pointer (some ⟨p,0,none⟩),.agg x.cells,undef,.pointer (some ⟨G,0,none⟩),.pointer (some ⟨G+1,0,none⟩),.int .i64 i,u6,u7,u8,u9,u10,u11,u12,u13,u14,u15,u16,u17,u18,u19,u20,u21,u22,u23,u24,u25,u26,u27,u28,u29,u30,u31,u32,u33,u34,u35,u36,u37,u38,u39,u40,u41,u42,u43,u44,u45,u46,u47,u48,u49],defers:=[] }/\i<=16 /\
  y=fwd ks ss (x.xor ks 0) i/\zoU p n c A ks ss G y w w1
def ta1(p:Nat)(x:W4)(ks:List UInt32):List K:=[.eq (.agg x.cells),.eq (.pointer (some ⟨p,0,none⟩)),.eq (.pointer (some ⟨p,0,none⟩)),.eq (.pointer (some ⟨p,0,none⟩)),.eq (.slice (some ⟨p,0,none⟩) 4 40),.eq (.agg ((x).xor ks 0).cells),.any]
def ta5(G:Nat)(y:W4)(f g n1 n2 n3 n4:UInt32):List K:=[.eq (.pointer (some ⟨G,2,none⟩)),.eq (.int .u32 ((y.c).toNat:Nat)),.eq (.int .u32 (f.toNat:Nat)),.eq (.int .u32 ((n1).toNat:Nat)),.eq (.int .u32 ((n2).toNat:Nat)),.eq (.pointer (some ⟨G,3,none⟩)),.eq (.int .u32 ((y.d).toNat:Nat)),.eq (.int .u32 ((n3).toNat:Nat)),.eq (.int .u32 (g.toNat:Nat)),.eq (.int .u32 ((n4).toNat:Nat)),.eq (.pointer (some ⟨G,0,none⟩)),.eq (.int .u32 ((y.a).toNat:Nat)),.eq (.pointer (some ⟨G,1,none⟩)),.eq (.int .u32 ((y.b).toNat:Nat)),.eq (.agg (W4.mk n2 n4 y.a y.b).cells),.any]
def ta7(p:Nat)(y:W4)(ks:List UInt32):List K:=[.eq (.agg y.cells),.eq (.agg y.cross.cells),.eq (.pointer (some ⟨p,0,none⟩)),.eq (.pointer (some ⟨p,0,none⟩)),.eq (.pointer (some ⟨p,0,none⟩)),.eq (.slice (some ⟨p,4,none⟩) 4 36),.eq (.agg ((y.cross).xor ks 4).cells),.any]
theorem zcw(p n c:Nat)(A:Option Addr)(ks ss:List UInt32)(x:W4)(w:World)(hG:GT w)(hT:TwoAt w p ks ss A n c):
  Calls Tryz.prog 231 #[.pointer (some ⟨p,0,none⟩),.agg x.cells] w (RetV w (zbG ks ss x)):=by
 have h1:=heap_alloc2_old w (.cells x.cells 283) (.cells #[.int .u32 0,.int .u32 0,.int .u32 0,.int .u32 0] 283);have h2:=heap_alloc2_new w (.cells x.cells 283) (.cells #[.int .u32 0,.int .u32 0,.int .u32 0,.int .u32 0] 283);have h3:=(Ext.alloc w (.cells x.cells 283)).trans (Ext.alloc _ (.cells #[.int .u32 0,.int .u32 0,.int .u32 0,.int .u32 0] 283));have HT0:=hid hT;have HG0:=hid hG;clear hT hG;go_enter Tryz.func231,Tryz.ntmps231;go_wp2_with fail
 refine zat 0 (zmV p n c A ks ss x w.heap.size w) (fun a _=>16-iAt 5 a) rfl ?_ ?_
 ·clear h1 h2 h3;obtain⟨G,hGe⟩:∃G,w.heap.size=G:=⟨_,rfl⟩;rw[hGe];have HGE:=hid hGe;clear hGe;rintro a w1 ⟨i,y,u6,u7,u8,u9,u10,u11,u12,u13,u14,u15,u16,u17,u18,u19,u20,u21,u22,u23,u24,u25,u26,u27,u28,u29,u30,u31,u32,u33,u34,u35,u36,u37,u38,u39,u40,u41,u42,u43,u44,u45,u46,u47,u48,u49,rfl,hi,hy,hS⟩;have HX:=hid hS.ext;have HT:=hid hS.two;have HB:=hid hS.at_;have HRS:=hid hS.res;have HGT:=hid hS.tab;clear hS;by_cases hlt:i<16
  ·have HST:=hid (show fwd ks ss (x.xor ks 0) (i+1)=⟨rolI (y.c^^^mF ks ss y.a y.b i) (-1),rolI y.d 1^^^mG ks ss y.a y.b i,y.a,y.b⟩ by rw[zhu,<-hy];rfl);have HM:=hid (zc5 p n c i y.a y.b ks ss A w1 HGT.out HT.out hlt);obtain⟨f,hf⟩:∃f,mF ks ss y.a y.b i=f:=⟨_,rfl⟩;obtain⟨g,hg⟩:∃g,mG ks ss y.a y.b i=g:=⟨_,rfl⟩;rw[hf] at HM HST;rw[hg] at HM HST;obtain⟨n1,hn1⟩:∃z,y.c^^^f=z:=⟨_,rfl⟩;have hx1:=zfb y.c f;have hr1:=fun w=>zeP n1 (-1) w
   have hr2:=fun w=>zeP y.d 1 w
   rw[hn1] at HST hx1;obtain⟨n2,hn2⟩:∃z,rolI n1 (-1)=z:=⟨_,rfl⟩;obtain⟨n3,hn3⟩:∃z,rolI y.d 1=z:=⟨_,rfl⟩;rw[hn2] at HST hr1;rw[hn3] at HST hr2;have hx2:=zfb n3 g;obtain⟨n4,hn4⟩:∃z,n3^^^g=z:=⟨_,rfl⟩;rw[hn4] at HST hx2;have HX1:=hid hx1;have HX2:=hid hx2;have HR1:=hid hr1;have HR2:=hid hr2;have HI:=hid hlt;have c0:=HB.out.c0;have c1:=HB.out.c1;clear hf hg hn1 hn2 hn3 hn4 hx1 hx2 hr1 hr2 hy hi;go_wp2_with fail
   refine HM.out.mono ?_;rintro e w2 ⟨rfl,hx2⟩;have HX:=hid (Ext.trans HX.out hx2);have HT:=hid (HT.out.later hx2);have HB:=hid (HB.out.later hx2);have HRS:=hid (HRS.out.later hx2);have HGT:=hid (HGT.out.later hx2);clear hx2 c0 c1 HM;go_wp2_with fail
   refine zaD 15 (ta5 G y f g n1 n2 n3 n4) (zab ⟨?_,?_,fun _ _ h=>h.mv,?_,?_,?_,?_,?_,fun _ _ h=>h.mv,?_,?_,?_,?_,?_,?_,trivial⟩) ?_
   ·intro a w hk;have s3:a.tmps.getD 3 undef=.pointer (some ⟨G,0,none⟩):=hk.was 3;refine za ?_;go_simp
   ·intro a w hk;have s26:=hk.eq_ 0 26;refine za ?_;have hc:=(HB.out.later hk.ext).c2;go_simp
   ·intro a w hk;have s27:=hk.eq_ 1 27;have s28:=hk.eq_ 2 28;refine za ?_;have hz:=HX1.out;go_simp
   ·exact fun _ w h=>h.call cf45 (HR1.out w) (fun e w3 h=>retE e w3 h)
   ·intro a w hk;have s3:a.tmps.getD 3 undef=.pointer (some ⟨G,0,none⟩):=hk.was 3;refine za ?_;go_simp
   ·intro a w hk;have s31:=hk.eq_ 5 31;refine za ?_;have hc:=(HB.out.later hk.ext).c3;go_simp
   ·exact fun _ w h=>h.call cf45 (HR2.out w) (fun e w3 h=>retE e w3 h)
   ·intro a w hk;have s33:=hk.eq_ 7 33;have s34:=hk.eq_ 8 34;refine za ?_;have hz:=HX2.out;go_simp
   ·intro a w hk;have s3:a.tmps.getD 3 undef=.pointer (some ⟨G,0,none⟩):=hk.was 3;refine za ?_;go_simp
   ·intro a w hk;have s36:=hk.eq_ 10 36;refine za ?_;have hc:=(HB.out.later hk.ext).c0;go_simp
   ·intro a w hk;have s3:a.tmps.getD 3 undef=.pointer (some ⟨G,0,none⟩):=hk.was 3;refine za ?_;go_simp
   ·intro a w hk;have s38:=hk.eq_ 12 38;refine za ?_;have hc:=(HB.out.later hk.ext).c1;go_simp
   ·intro a w hk;have s30:=hk.eq_ 4 30;have s35:=hk.eq_ 9 35;have s37:=hk.eq_ 11 37;have s39:=hk.eq_ 13 39;refine za ?_;have e:=zl2 n2 n4 y.a y.b w;simp only[execOp,Act.eval,List.map_toArray,List.map_cons,List.map_nil,s30,s35,s37,s39,Sem.run_bind,e,Sem.run_pure,Result.andThen]
   ·intro a w3 hf;have hx:=hf.ext;have e:=hf.fr;clear hf;simp only[List.take_succ_cons,List.take_zero,ta5,frV,kPut,Act.put,List.setIfInBounds_toArray,List.set_cons_zero,List.set_cons_succ] at e;subst e;simp only[List.drop_succ_cons,List.drop_zero];have HB3:=hid (HB.out.later hx);have HB4:=hid ((HB.out.later hx).put ⟨n2,n4,y.a,y.b⟩);have HRS3:=hid ((HRS.out.later hx).putne G (W4.mk n2 n4 y.a y.b).cells (by omega));have HX3:=hid (Below.setRow_ (Ext.trans HX.out hx) (show w.heap.size<=G by have:=HGE.out;omega) (W4.mk n2 n4 y.a y.b).cells);have HT3:=hid (HT0.out.later (show Ext w _ from HX3.out));have HG3:=hid (HG0.out.later (show Ext w _ from HX3.out));clear hx;go_wp2_with (refine wpList_store_row rfl 283 (.tmp 3) (.tmp 40) rfl G (W4.mk n2 n4 y.a y.b).cells rfl rfl 283 _ HB3.out (W4.size _) rfl (W4.all _) ?_)
    (try go_step3)
    (try simp only[Exit.jump])
    refine⟨rfl,⟨i+1,W4.mk n2 n4 y.a y.b,ex8 (ex8 (ex8 (ex8 (ex8 ⟨_,_,_,_,rfl,by omega,HST.out.symm,⟨HX3.out,HT3.out,HB4.out,HRS3.out,HG3.out⟩⟩))))⟩,?_⟩;have:=HI.out;simp[iAt];omega
  ·obtain rfl:i=16:=by omega
   have HY:=hid (show(y.cross.xor ks 4)=zbG ks ss x by rw[hy];rfl);have HGE2:=hid (show w.heap.size<=G+1 by have:=HGE.out;omega);clear hy hlt hi;go_wp2_with fail
   refine zaD 7 (ta7 p y ks) (zab ⟨?_,?_,fun _ _ h=>h.mv,?_,?_,?_,?_,trivial⟩) ?_
   ·intro a w hk;have s3:a.tmps.getD 3 undef=.pointer (some ⟨G,0,none⟩):=hk.was 3;refine za ?_;exact zde rfl s3 (HB.out.later hk.ext)
   ·exact fun _ w h=>h.call cf47 (zcM y w) (fun e w3 h=>retX e w3 h)
   ·intro a w hk;have s45:=hk.eq_ 2 45;refine za ?_;go_simp
   ·intro a w hk;have s46:=hk.eq_ 3 46;refine za ?_;go_simp
   ·intro a w hk;have s47:=hk.eq_ 4 47;refine za ?_;have e:=zkH p w;simp only[execOp,Act.eval,Option.map_some,Option.map_none,s47,Sem.run_bind,e,Sem.run_pure,Result.andThen]
   ·intro a w hk;exact hk.call cf48 (zb9 (y.cross) p 4 4 36 4 ks w (by omega) (fun i hi=>(HT.out.later hk.ext).key _ (by omega))) (fun e w3 h=>retX e w3 h)
   ·intro a w3 hf;have hx:=hf.ext;have e:=hf.fr;clear hf;simp only[List.take_succ_cons,List.take_zero,ta7,frV,kPut,Act.put,List.setIfInBounds_toArray,List.set_cons_zero,List.set_cons_succ] at e;subst e;simp only[List.drop_succ_cons,List.drop_zero];have HR2:=hid (HRS.out.later hx);have HR3:=hid ((HRS.out.later hx).put (y.cross.xor ks 4));have HX2:=hid (Below.setRow_ (Ext.trans HX.out hx) HGE2.out (y.cross.xor ks 4).cells);clear hx;rw[HY.out] at HR3 HX2;go_wp2_with (refine wpList_store_row rfl 283 (.tmp 4) (.tmp 49) rfl (G+1) (y.cross.xor ks 4).cells rfl rfl 283 _ HR2.out (W4.size _) rfl (W4.all _) ?_)
    rw[HY.out]
    (try simp only[Exit.jump])
    exact zaU rfl rfl (G+1) 283 _ (0,0) rfl HR3.out Tryz.underlying283 (W4.size _) ⟨rfl,HX2.out⟩
 ·intro hfirst;obtain⟨W1,hW1⟩:∃W1,(w.alloc (.cells x.cells 283)).alloc (.cells #[.int .u32 0,.int .u32 0,.int .u32 0,.int .u32 0] 283)=W1:=⟨_,rfl⟩;rw[hW1] at h1 h2 h3;obtain⟨G,hGe⟩:∃G,w.heap.size=G:=⟨_,rfl⟩;have HB:=hid (show V4 W1 G x by rw[<-hGe];exact h1);have HRes:=hid (show V4 W1 (G+1) ⟨0,0,0,0⟩ by rw[<-hGe];exact h2);have HX:=hid h3;have HW:=hid hW1;have HGE:=hid hGe;clear h1 h2 h3 hW1;go_wp2_with fail
  rw[HW.out];rw[hGe] at hfirst ⊢;clear hGe HW;have HT:=hid (HT0.out.later HX.out);refine zaD 6 (ta1 p x ks) (zab ⟨?_,fun _ _ h=>h.mv,?_,?_,?_,?_,trivial⟩) ?_
  ·intro a w hk;have s3:a.tmps.getD 3 undef=.pointer (some ⟨G,0,none⟩):=hk.was 3;refine za ?_;exact zde rfl s3 (HB.out.later hk.ext)
  ·intro a w hk;have s9:=hk.eq_ 1 9;refine za ?_;go_simp
  ·intro a w hk;have s10:=hk.eq_ 2 10;refine za ?_;go_simp
  ·intro a w hk;have s11:=hk.eq_ 3 11;refine za ?_;have e:=zmf p w;simp only[execOp,Act.eval,Option.map_some,Option.map_none,s11,Sem.run_bind,e,Sem.run_pure,Result.andThen]
  ·intro a w hk;exact hk.call cf48 (zb9 (x) p 0 4 40 0 ks w (by omega) (fun i hi=>(HT.out.later hk.ext).key _ (by omega))) (fun e w1 h=>retX e w1 h)
  ·intro a w1 hf;have hx:=hf.ext;have e:=hf.fr;clear hf;simp only[List.take_succ_cons,List.take_zero,ta1,frV,kPut,Act.put,List.setIfInBounds_toArray,List.set_cons_zero,List.set_cons_succ] at e;subst e;simp only[List.drop_succ_cons,List.drop_zero];have HB1:=hid (HB.out.later hx);have HB2:=hid ((HB.out.later hx).put (x.xor ks 0));have HRes2:=hid (((HRes.out.later hx)).putne G (x.xor ks 0).cells (by omega));have hg:=HGE.out;have HX2:=hid (Below.setRow_ (Ext.trans HX.out hx) (by omega) (x.xor ks 0).cells:Below w.heap.size w (w1.setRow G (x.xor ks 0).cells));have HT2:=hid (HT0.out.later (show Ext w _ from HX2.out));have HG2:=hid (HG0.out.later (show Ext w _ from HX2.out));clear hg hx HX HB HRes HT;go_wp2_with (refine wpList_store_row rfl 283 (.tmp 3) (.tmp 13) rfl G (x.xor ks 0).cells rfl rfl 283 _ HB1.out (W4.size _) rfl (W4.all _) ?_)
   go_step3;simp only[Exit.then];rename_i hK;refine hK _ _ ?_;have HGE2:=HGE.out;subst HGE2;exact hfirst.out _ _ ⟨0,x.xor ks 0,ex8 (ex8 (ex8 (ex8 (ex8 ⟨_,_,_,_,rfl,by omega,rfl,⟨HX2.out,HT2.out,HB2.out,HRes2.out,HG2.out⟩⟩))))⟩
def zrv(p n c:Nat)(A:Option Addr)(ks ss:List UInt32)(x:W4)(G:Nat)(w:World)(a:Act)(w1:World):Prop :=
 ∃(i:Nat) (y:W4) (u6 u7 u8 u9 u10 u11 u12 u13 u14 u15 u16 u17 u18 u19 u20 u21 u22 u23 u24 u25 u26 u27 u28 u29 u30 u31 u32 u33 u34 u35 u36 u37 u38 u39 u40 u41 u42 u43 u44 u45 u46 u47 u48 u49:Value),
  a = { tmps:=#[.pointer (some ⟨p,0,none⟩),.agg x.cells,undef,.pointer (some ⟨G,0,none⟩),.pointer (some ⟨G+1,0,none⟩),.int .i64 ((16-i:Nat):Int),u6,u7,u8,u9,u10,u11,u12,u13,u14,u15,u16,u17,u18,u19,u20,u21,u22,u23,u24,u25,u26,u27,u28,u29,u30,u31,u32,u33,u34,u35,u36,u37,u38,u39,u40,u41,u42,u43,u44,u45,u46,u47,u48,u49],defers:=[] }/\i<=16 /\
  y=bwd ks ss (x.xor ks 4).cross i/\zoU p n c A ks ss G y w w1
def tz1(p:Nat)(x:W4)(ks:List UInt32):List K:=[.eq (.agg x.cells),.eq (.pointer (some ⟨p,0,none⟩)),.eq (.pointer (some ⟨p,0,none⟩)),.eq (.pointer (some ⟨p,0,none⟩)),.eq (.slice (some ⟨p,4,none⟩) 4 36),.eq (.agg ((x).xor ks 4).cells),.eq (.agg (x.xor ks 4).cross.cells),.any]
def tz6(G:Nat)(y:W4)(f g n1 n2 n3 n4:UInt32):List K:=[.eq (.pointer (some ⟨G,2,none⟩)),.eq (.int .u32 ((y.c).toNat:Nat)),.eq (.pointer (some ⟨G,3,none⟩)),.eq (.int .u32 ((y.d).toNat:Nat)),.eq (.pointer (some ⟨G,0,none⟩)),.eq (.int .u32 ((y.a).toNat:Nat)),.eq (.int .u32 ((n1).toNat:Nat)),.eq (.int .u32 (f.toNat:Nat)),.eq (.int .u32 ((n2).toNat:Nat)),.eq (.pointer (some ⟨G,1,none⟩)),.eq (.int .u32 ((y.b).toNat:Nat)),.eq (.int .u32 (g.toNat:Nat)),.eq (.int .u32 ((n3).toNat:Nat)),.eq (.int .u32 ((n4).toNat:Nat)),.eq (.agg (W4.mk y.c y.d n2 n4).cells),.any]
def tz7(p:Nat)(y:W4)(ks:List UInt32):List K:=[.eq (.agg y.cells),.eq (.pointer (some ⟨p,0,none⟩)),.eq (.pointer (some ⟨p,0,none⟩)),.eq (.pointer (some ⟨p,0,none⟩)),.eq (.slice (some ⟨p,0,none⟩) 4 40),.eq (.agg ((y).xor ks 0).cells),.any]
theorem zdP(p n c:Nat)(A:Option Addr)(ks ss:List UInt32)(x:W4)(w:World)(hG:GT w)(hT:TwoAt w p ks ss A n c):
  Calls Tryz.prog 230 #[.pointer (some ⟨p,0,none⟩),.agg x.cells] w (RetV w (zcZ ks ss x)):=by
 have h1:=heap_alloc2_old w (.cells x.cells 283) (.cells #[.int .u32 0,.int .u32 0,.int .u32 0,.int .u32 0] 283);have h2:=heap_alloc2_new w (.cells x.cells 283) (.cells #[.int .u32 0,.int .u32 0,.int .u32 0,.int .u32 0] 283);have h3:=(Ext.alloc w (.cells x.cells 283)).trans (Ext.alloc _ (.cells #[.int .u32 0,.int .u32 0,.int .u32 0,.int .u32 0] 283));have HT0:=hid hT;have HG0:=hid hG;clear hT hG;go_enter Tryz.func230,Tryz.ntmps230;go_wp2_with fail
 refine zat 0 (zrv p n c A ks ss x w.heap.size w) (fun a _=>iAt 5 a) rfl ?_ ?_
 ·clear h1 h2 h3;obtain⟨G,hGe⟩:∃G,w.heap.size=G:=⟨_,rfl⟩;rw[hGe];have HGE:=hid hGe;clear hGe;rintro a w1 ⟨i,y,u6,u7,u8,u9,u10,u11,u12,u13,u14,u15,u16,u17,u18,u19,u20,u21,u22,u23,u24,u25,u26,u27,u28,u29,u30,u31,u32,u33,u34,u35,u36,u37,u38,u39,u40,u41,u42,u43,u44,u45,u46,u47,u48,u49,rfl,hi,hy,hS⟩;have HX:=hid hS.ext;have HT:=hid hS.two;have HB:=hid hS.at_;have HRS:=hid hS.res;have HGT:=hid hS.tab;clear hS;by_cases hlt:i<16
  ·obtain⟨m,hme⟩:∃m,16-i=m+1:=⟨16-i-1,by omega⟩;have hmm:15-i=m:=by omega
   have HMM:=hid (show 16-(i+1)=m by omega);have HST:=hid (show bwd ks ss (x.xor ks 4).cross (i+1)=⟨y.c,y.d,rolI y.a 1^^^mF ks ss y.c y.d m,rolI (y.b^^^mG ks ss y.c y.d m) (-1)⟩ by rw[zhw,hmm,<-hy];rfl);have HM:=hid (zc5 p n c m y.c y.d ks ss A w1 HGT.out HT.out (by omega));obtain⟨f,hf⟩:∃f,mF ks ss y.c y.d m=f:=⟨_,rfl⟩;obtain⟨g,hg⟩:∃g,mG ks ss y.c y.d m=g:=⟨_,rfl⟩;rw[hf] at HM HST;rw[hg] at HM HST;have hr1:=fun w=>zeP y.a 1 w
   obtain⟨n1,hn1⟩:∃z,rolI y.a 1=z:=⟨_,rfl⟩;rw[hn1] at HST hr1;have hx1:=zfb n1 f;obtain⟨n2,hn2⟩:∃z,n1^^^f=z:=⟨_,rfl⟩;rw[hn2] at HST hx1;have hx2:=zfb y.b g;obtain⟨n3,hn3⟩:∃z,y.b^^^g=z:=⟨_,rfl⟩;rw[hn3] at HST hx2;have hr2:=fun w=>zeP n3 (-1) w
   obtain⟨n4,hn4⟩:∃z,rolI n3 (-1)=z:=⟨_,rfl⟩;rw[hn4] at HST hr2;have e1:(((m+1:Nat):Int))-1=(m:Int):=by omega
   have e2:(0:Int)<((m+1:Nat):Int):=by omega
   have hm16:(m:Int)<16:=by omega
   rw[hme];have HX1:=hid hx1;have HX2:=hid hx2;have HR1:=hid hr1;have HR2:=hid hr2;have HI:=hid hlt;have c0:=HB.out.c2;have c1:=HB.out.c3;clear hmm hme hf hg hn1 hn2 hn3 hn4 hx1 hx2 hr1 hr2 hy hi;go_wp2_with fail
   refine HM.out.mono ?_;rintro e w2 ⟨rfl,hx2⟩;have HX:=hid (Ext.trans HX.out hx2);have HT:=hid (HT.out.later hx2);have HB:=hid (HB.out.later hx2);have HRS:=hid (HRS.out.later hx2);have HGT:=hid (HGT.out.later hx2);clear hx2 c0 c1 HM;go_wp2_with fail
   refine zaD 15 (tz6 G y f g n1 n2 n3 n4) (zab ⟨?_,?_,?_,?_,?_,?_,?_,fun _ _ h=>h.mv,?_,?_,?_,fun _ _ h=>h.mv,?_,?_,?_,trivial⟩) ?_
   ·intro a w hk;have s3:a.tmps.getD 3 undef=.pointer (some ⟨G,0,none⟩):=hk.was 3;refine za ?_;go_simp
   ·intro a w hk;have s29:=hk.eq_ 0 29;refine za ?_;have hc:=(HB.out.later hk.ext).c2;go_simp
   ·intro a w hk;have s3:a.tmps.getD 3 undef=.pointer (some ⟨G,0,none⟩):=hk.was 3;refine za ?_;go_simp
   ·intro a w hk;have s31:=hk.eq_ 2 31;refine za ?_;have hc:=(HB.out.later hk.ext).c3;go_simp
   ·intro a w hk;have s3:a.tmps.getD 3 undef=.pointer (some ⟨G,0,none⟩):=hk.was 3;refine za ?_;go_simp
   ·intro a w hk;have s33:=hk.eq_ 4 33;refine za ?_;have hc:=(HB.out.later hk.ext).c0;go_simp
   ·exact fun _ w h=>h.call cf45 (HR1.out w) (fun e w3 h=>retE e w3 h)
   ·intro a w hk;have s35:=hk.eq_ 6 35;have s36:=hk.eq_ 7 36;refine za ?_;have hz:=HX1.out;go_simp
   ·intro a w hk;have s3:a.tmps.getD 3 undef=.pointer (some ⟨G,0,none⟩):=hk.was 3;refine za ?_;go_simp
   ·intro a w hk;have s38:=hk.eq_ 9 38;refine za ?_;have hc:=(HB.out.later hk.ext).c1;go_simp
   ·intro a w hk;have s39:=hk.eq_ 10 39;have s40:=hk.eq_ 11 40;refine za ?_;have hz:=HX2.out;go_simp
   ·exact fun _ w h=>h.call cf45 (HR2.out w) (fun e w3 h=>retE e w3 h)
   ·intro a w hk;have s30:=hk.eq_ 1 30;have s32:=hk.eq_ 3 32;have s37:=hk.eq_ 8 37;have s42:=hk.eq_ 13 42;refine za ?_;have e:=zl2 y.c y.d n2 n4 w;simp only[execOp,Act.eval,List.map_toArray,List.map_cons,List.map_nil,s30,s32,s37,s42,Sem.run_bind,e,Sem.run_pure,Result.andThen]
   ·intro a w3 hf;have hx:=hf.ext;have e:=hf.fr;clear hf;simp only[List.take_succ_cons,List.take_zero,tz6,frV,kPut,Act.put,List.setIfInBounds_toArray,List.set_cons_zero,List.set_cons_succ] at e;subst e;simp only[List.drop_succ_cons,List.drop_zero];have HB3:=hid (HB.out.later hx);have HB4:=hid ((HB.out.later hx).put ⟨y.c,y.d,n2,n4⟩);have HRS3:=hid ((HRS.out.later hx).putne G (W4.mk y.c y.d n2 n4).cells (by omega));have HX3:=hid (Below.setRow_ (Ext.trans HX.out hx) (show w.heap.size<=G by have:=HGE.out;omega) (W4.mk y.c y.d n2 n4).cells);have HT3:=hid (HT0.out.later (show Ext w _ from HX3.out));have HG3:=hid (HG0.out.later (show Ext w _ from HX3.out));clear hx;go_wp2_with (refine wpList_store_row rfl 283 (.tmp 3) (.tmp 43) rfl G (W4.mk y.c y.d n2 n4).cells rfl rfl 283 _ HB3.out (W4.size _) rfl (W4.all _) ?_)
    (try go_step3)
    (try simp only[Exit.jump])
    refine⟨rfl,⟨i+1,W4.mk y.c y.d n2 n4,ex8 (ex8 (ex8 (ex8 (ex8 ⟨_,_,_,_,by rw[HMM.out];rfl,by omega,HST.out.symm,⟨HX3.out,HT3.out,HB4.out,HRS3.out,HG3.out⟩⟩))))⟩,?_⟩;exact Nat.lt_succ_self m
  ·obtain rfl:i=16:=by omega
   rw[Nat.sub_self];have HY:=hid (show(y.xor ks 0)=zcZ ks ss x by rw[hy];rfl);have HGE2:=hid (show w.heap.size<=G+1 by have:=HGE.out;omega);clear hy hlt hi;go_wp2_with fail
   refine zaD 6 (tz7 p y ks) (zab ⟨?_,fun _ _ h=>h.mv,?_,?_,?_,?_,trivial⟩) ?_
   ·intro a w hk;have s3:a.tmps.getD 3 undef=.pointer (some ⟨G,0,none⟩):=hk.was 3;refine za ?_;exact zde rfl s3 (HB.out.later hk.ext)
   ·intro a w hk;have s45:=hk.eq_ 1 45;refine za ?_;go_simp
   ·intro a w hk;have s46:=hk.eq_ 2 46;refine za ?_;go_simp
   ·intro a w hk;have s47:=hk.eq_ 3 47;refine za ?_;have e:=zmf p w;simp only[execOp,Act.eval,Option.map_some,Option.map_none,s47,Sem.run_bind,e,Sem.run_pure,Result.andThen]
   ·intro a w hk;exact hk.call cf48 (zb9 (y) p 0 4 40 0 ks w (by omega) (fun i hi=>(HT.out.later hk.ext).key _ (by omega))) (fun e w3 h=>retX e w3 h)
   ·intro a w3 hf;have hx:=hf.ext;have e:=hf.fr;clear hf;simp only[List.take_succ_cons,List.take_zero,tz7,frV,kPut,Act.put,List.setIfInBounds_toArray,List.set_cons_zero,List.set_cons_succ] at e;subst e;simp only[List.drop_succ_cons,List.drop_zero];have HR2:=hid (HRS.out.later hx);have HR3:=hid ((HRS.out.later hx).put (y.xor ks 0));have HX2:=hid (Below.setRow_ (Ext.trans HX.out hx) HGE2.out (y.xor ks 0).cells);clear hx;rw[HY.out] at HR3 HX2;go_wp2_with (refine wpList_store_row rfl 283 (.tmp 4) (.tmp 49) rfl (G+1) (y.xor ks 0).cells rfl rfl 283 _ HR2.out (W4.size _) rfl (W4.all _) ?_)
    rw[HY.out]
    (try simp only[Exit.jump])
    exact zaU rfl rfl (G+1) 283 _ (0,0) rfl HR3.out Tryz.underlying283 (W4.size _) ⟨rfl,HX2.out⟩
 ·intro hfirst;obtain⟨W1,hW1⟩:∃W1,(w.alloc (.cells x.cells 283)).alloc (.cells #[.int .u32 0,.int .u32 0,.int .u32 0,.int .u32 0] 283)=W1:=⟨_,rfl⟩;rw[hW1] at h1 h2 h3;obtain⟨G,hGe⟩:∃G,w.heap.size=G:=⟨_,rfl⟩;have HB:=hid (show V4 W1 G x by rw[<-hGe];exact h1);have HRes:=hid (show V4 W1 (G+1) ⟨0,0,0,0⟩ by rw[<-hGe];exact h2);have HX:=hid h3;have HW:=hid hW1;have HGE:=hid hGe;clear h1 h2 h3 hW1;go_wp2_with fail
  rw[HW.out];rw[hGe] at hfirst ⊢;clear hGe HW;have HT:=hid (HT0.out.later HX.out);refine zaD 7 (tz1 p x ks) (zab ⟨?_,fun _ _ h=>h.mv,?_,?_,?_,?_,?_,trivial⟩) ?_
  ·intro a w hk;have s3:a.tmps.getD 3 undef=.pointer (some ⟨G,0,none⟩):=hk.was 3;refine za ?_;exact zde rfl s3 (HB.out.later hk.ext)
  ·intro a w hk;have s9:=hk.eq_ 1 9;refine za ?_;go_simp
  ·intro a w hk;have s10:=hk.eq_ 2 10;refine za ?_;go_simp
  ·intro a w hk;have s11:=hk.eq_ 3 11;refine za ?_;have e:=zkH p w;simp only[execOp,Act.eval,Option.map_some,Option.map_none,s11,Sem.run_bind,e,Sem.run_pure,Result.andThen]
  ·intro a w hk;exact hk.call cf48 (zb9 (x) p 4 4 36 4 ks w (by omega) (fun i hi=>(HT.out.later hk.ext).key _ (by omega))) (fun e w1 h=>retX e w1 h)
  ·exact fun _ w h=>h.call cf47 (zcM (x.xor ks 4) w) (fun e w1 h=>retX e w1 h)
  ·intro a w1 hf;have hx:=hf.ext;have e:=hf.fr;clear hf;simp only[List.take_succ_cons,List.take_zero,tz1,frV,kPut,Act.put,List.setIfInBounds_toArray,List.set_cons_zero,List.set_cons_succ] at e;subst e;simp only[List.drop_succ_cons,List.drop_zero];have HB1:=hid (HB.out.later hx);have HB2:=hid ((HB.out.later hx).put ((x.xor ks 4).cross));have HRes2:=hid (((HRes.out.later hx)).putne G ((x.xor ks 4).cross).cells (by omega));have hg:=HGE.out;have HX2:=hid (Below.setRow_ (Ext.trans HX.out hx) (by omega) ((x.xor ks 4).cross).cells:Below w.heap.size w (w1.setRow G ((x.xor ks 4).cross).cells));have HT2:=hid (HT0.out.later (show Ext w _ from HX2.out));have HG2:=hid (HG0.out.later (show Ext w _ from HX2.out));clear hg hx HX HB HRes HT;go_wp2_with (refine wpList_store_row rfl 283 (.tmp 3) (.tmp 14) rfl G ((x.xor ks 4).cross).cells rfl rfl 283 _ HB1.out (W4.size _) rfl (W4.all _) ?_)
   go_step3;simp only[Exit.then];rename_i hK;refine hK _ _ ?_;have HGE2:=HGE.out;subst HGE2;exact hfirst.out _ _ ⟨0,(x.xor ks 4).cross,ex8 (ex8 (ex8 (ex8 (ex8 ⟨_,_,_,_,rfl,by omega,rfl,⟨HX2.out,HT2.out,HB2.out,HRes2.out,HG2.out⟩⟩))))⟩
def rowF(f:Nat->UInt32):List Value:=(List.range 40).map fun j=>Value.int .u32 ((f j).toNat:Nat)
theorem zcx(f:Nat->UInt32):(rowF f).length=40:=by simp[rowF]
theorem zkS(f:Nat->UInt32){j:Nat}(hj:j<40):(rowF f)[j]? = some (.int .u32 ((f j).toNat:Nat)):=by simp[rowF,hj]
theorem zr4(f:Nat->UInt32)(A:Option Addr)(n c:Nat)(w:World):(Instr.build 159 #[(0,.agg (rowF f).toArray),(1,.slice A n c)]).run Tryz.prog w=.ok (.agg (rowF f++[Value.slice A n c]).toArray) w:=by kernel_rfl
theorem zgJ{ops:Array Oper}{rest:List Oper}{o:Oper}{a:Act}{w:World}{Q:Exit->Act->World->Prop}(hg:o.guard=none)(x y:Operand)(f:Nat->UInt32)(row:List Value)(hrow:rowF f=row)(A:Option Addr)(n c:Nat)
  (ho:o.op=.build 159 #[(0,x),(1,y)]) (hx:a.eval x=.agg row.toArray) (hy:a.eval y=.slice A n c)
  (h:wpList Tryz.prog ops Q rest (a.put o.dst (.agg (row++[Value.slice A n c]).toArray)) w):wpList Tryz.prog ops Q (o::rest) a w:=by
 refine wpList_plain hg fun K hK=>?_
 have e:=zr4 f A n c w;rw[hrow] at e;unfold Oper.wp execOp;simp only[ho,List.map_toArray,List.map_cons,List.map_nil,hx,hy,Sem.run_bind,e,Sem.run_pure,Result.andThen];exact hK _ _ h
theorem s74:(Tryz.prog.info? 157).map (·.size)=some 40:=by kernel_rfl
theorem zsF{w:World}{p n c:Nat}{ks ss:List UInt32}{A:Option Addr}(h:w.heap[p]? = some (.cells (rowF (fun j=>ks.getD j 0)++[Value.slice A n c]).toArray 159 (0,0)))(hr:RdN .u32 w w.heap.size A n (nW ss))(h2:2<=n)(h4:n<=4):TwoAt w p ks ss A n c where
 key:=fun j hj=>by rw[cell_of_row w p j _ _ _ h,List.getElem?_toArray,List.getElem?_append_left (by rw[zcx];exact hj),zkS _ hj]
 row:=by rw[cell_of_row w p 40 _ _ _ h,List.getElem?_toArray,List.getElem?_append_right (by rw[zcx];exact Nat.le_refl _),zcx];rfl
 rd:=hr
 two:=h2
 four:=h4
theorem ziJ(key:List UInt8):(zdo key).length=40:=by unfold zdo;rw[zdH]
theorem znP(key:List UInt8):(sL key).length=key.length/8:=by simp[sL,sU]
def zb0(w:World)(key:List UInt8)(e:Ending)(w':World):Prop :=
 ∃p,e=.returned (.tuple #[.pointer (some ⟨p,0,none⟩),.int .i64 0])/\IsTwo w' p (zdo key) (sL key)/\w.heap.size<=p/\Ext w w'
theorem zb8(A:Option Addr)(n c:Nat)(key:List UInt8)(w:World)(hG:GT w)(hr:Rd w w.heap.size A n key)(hn:n=16\/n=24\/n=32)(hc:n<=c):
  Calls Tryz.prog 58 #[.slice A n c] w (zb0 w key):=by
 have HK:=hid (zcv A n c key w hG hr hn hc);have hsl:=znP key;rw[hr.len] at hsl;have HSL:=hid (show 2<=(sL key).length/\(sL key).length<=4 by omega);have HKL:=hid (ziJ key);clear hG hr hn hc hsl;obtain⟨ks,hks⟩:∃ks,zdo key=ks:=⟨_,rfl⟩;obtain⟨ss,hss⟩:∃ss,sL key=ss:=⟨_,rfl⟩;have HEQ:=hid (And.intro hks hss);rw[hks] at HK HKL;rw[hss] at HK HSL;clear hks hss;go_enter Tryz.func58,Tryz.ntmps58;go_wp2_with fail
 refine HK.out.mono ?_;rintro e w1 ⟨v1,v2,rfl,o1,o2,hx1⟩;obtain⟨A2,c2,rfl,hr2,_⟩:=OwnN.rdn o2 (show(nW ss).length=ss.length by simp[nW]);obtain⟨g,c1,rfl,hc1,hg1,hg2⟩:=OwnN.head (n:=40) o1 (by simp[nW];exact HKL.out) (by omega);have hra:w1.rangeAt g 0 (rowF (fun j=>ks.getD j 0)):=fun j v hv=>by
  have hj:j<40:=by
   rcases Nat.lt_or_ge j 40 with h1|h1
   ·exact h1
   ·rw[List.getElem?_eq_none (by rw[zcx];exact h1)] at hv;cases hv
  rw[zkS _ hj] at hv;cases hv
  rw[Nat.zero_add,OwnN.celln o1 (by simp[nW];exact HKL.out) j hj,zfs _ _ (by rw[HKL.out];exact hj)]
 have HRA:=hid hra;have HR2:=hid hr2;have HX1:=hid hx1;have HAT:=hid (fun w=>run_arrayAt (P:=Tryz.prog) w 157 133 40 (some ⟨g,0,none⟩) 40 c1 Tryz.underlying157 (Nat.le_refl _));have HS74:=hid s74;obtain⟨row,hrow⟩:∃row,rowF (fun j=>ks.getD j 0)=row:=⟨_,rfl⟩;have hrl:row.length=40:=by rw[<-hrow];exact zcx _
 have HRW:=hid hrow;have HRL:=hid hrl;rw[hrow] at HRA;clear hra hr2 hx1 o1 o2 hg1 hg2 hc1 hrow hrl;go_wp2_with (first
  | (rw[HAT.out];simp only[Result.andThen];rw[Oper.upon_value])
  | (refine wpList_load_mid rfl 157 (.tmp 17) rfl g 0 rfl row _ HRA.out Tryz.underlying157 rfl (by rw[HS74.out,HRL.out]) ?_)
  | (refine zgJ rfl (.tmp 18) (.tmp 19) _ row HRW.out A2 ss.length c2 rfl rfl rfl ?_))
 have hh:=heap_alloc_new w1 (.cells (row++[Value.slice A2 ss.length c2]).toArray 159);have hx9:Ext w1 (w1.alloc (.cells (row++[Value.slice A2 ss.length c2]).toArray 159)):=Ext.alloc _ _;go_ret2;have hsz:=Below.size HX1.out;have hr9:=HRW.out;subst hr9;refine⟨w1.heap.size,rfl,?_,hsz,?_⟩
 ·rw[HEQ.out.1,HEQ.out.2];exact⟨A2,ss.length,c2,zsF hh (HR2.out.later hx9) HSL.out.1 HSL.out.2⟩
 ·exact Ext.trans HX1.out hx9
theorem ztx(x:W4)(j:Nat)(h:j<4)(w:World):(Instr.index 283 (.agg x.cells) (.int .i64 (j:Int))).run Tryz.prog w=.ok (.int .u32 ((x.at j).toNat:Nat)) w:=by
 match j,h with
 | 0,_=>exact(show(Instr.index 283 (.agg x.cells) (.int .i64 ((0:Nat):Int))).run Tryz.prog w=.ok (.int .u32 (x.a.toNat:Nat)) w by kernel_rfl)
 | 1,_=>exact(show(Instr.index 283 (.agg x.cells) (.int .i64 ((1:Nat):Int))).run Tryz.prog w=.ok (.int .u32 (x.b.toNat:Nat)) w by kernel_rfl)
 | 2,_=>exact(show(Instr.index 283 (.agg x.cells) (.int .i64 ((2:Nat):Int))).run Tryz.prog w=.ok (.int .u32 (x.c.toNat:Nat)) w by kernel_rfl)
 | 3,_=>exact(show(Instr.index 283 (.agg x.cells) (.int .i64 ((3:Nat):Int))).run Tryz.prog w=.ok (.int .u32 (x.d.toNat:Nat)) w by kernel_rfl)
def outP(y:W4)(j:Nat):List UInt8:=((List.range j).map fun i=>outB (y.at i)).flatten
theorem zgi(y:W4)(j:Nat):outP y (j+1)=outP y j++outB (y.at j):=by simp[outP,List.range_succ]
theorem zit(y:W4):outP y 4=outL y:=by
 unfold outP outL;simp[List.range_succ,W4.at]
theorem zd8(x:UInt32):(outB x).length=4:=by simp[outB,zco]
theorem zgn(y:W4)(j:Nat):(outP y j).length=4*j:=by
 induction j with
 | zero=>rfl
 | succ j ih=>rw[zgi,List.length_append,ih,zd8];omega
def zc1(w:World)(bs:List UInt8)(e:Ending)(w':World):Prop:=∃v,e=.returned (.tuple #[v,.int .i64 0])/\Own w' w.heap.size v bs/\Ext w w'
theorem zb6(p:Nat)(A:Option Addr)(n cc:Nat)(back:Bool)(w:World)(h:n≠16):
  Calls Tryz.prog 228 #[.pointer (some ⟨p,0,none⟩),.slice A n cc,.bool back] w fun e w'=>e=.returned (.tuple #[.slice none 0 0,.int .i64 1])/\Ext w w':=by
 have g:((n:Int) != 16)=true:=by simp;omega
 go_enter Tryz.func228,Tryz.ntmps228;go_wp2;go_ret2;exact⟨rfl,Ext.refl _⟩
theorem ziX(A:Option Addr)(c:Nat)(bs:List UInt8)(w:World)(h:Rd w w.heap.size A 16 bs)(hc:16<=c):
  Calls Tryz.prog 129 #[.slice A (16:Nat) c] w fun e w'=>∃g c',e=.returned (.slice (some ⟨g,0,none⟩) 4 c')/\4<=c'/\w'.rangeAt g 0 (inW bs).cells.toList/\Ext w w':=by
 obtain⟨b,o,rfl,_,_⟩:=h.at_ (by omega);refine(zfD b o 4 c bs w h (by omega) hc).mono ?_;rintro e w' ⟨v,rfl,ho,hx⟩;obtain⟨g,c',rfl,hc',_,_⟩:=OwnN.head (n:=4) ho rfl (by omega);refine⟨g,c',rfl,hc',fun j v hv=>?_,hx⟩;have hj:j<4:=by
  rcases Nat.lt_or_ge j 4 with h1|h1
  ·exact h1
  ·rw[List.getElem?_eq_none (by simp[W4.cells];exact h1)] at hv;cases hv
 have hcell:=OwnN.celln ho rfl j hj;rw[Nat.zero_add,hcell,<-hv];rcases (show j=0\/j=1\/j=2\/j=3 by omega) with rfl|rfl|rfl|rfl<;>rfl
theorem zeV(p n c cc:Nat)(A0 A:Option Addr)(ks ss:List UInt32)(bs:List UInt8)(w:World)(hG:GT w)(hT:TwoAt w p ks ss A0 n c)(h:Rd w w.heap.size A 16 bs)(hcc:16<=cc):
  Calls Tryz.prog 228 #[.pointer (some ⟨p,0,none⟩),.slice A 16 cc,.bool false] w (zc1 w (outL (zbG ks ss (inW bs)))):=by
 obtain⟨i0,hi5,hz0,hz1,hz2⟩:=info_parts Tryz.info5;have HIN:=hid (ziX A cc bs w h hcc);have HG:=hid hG;have HT:=hid hT;clear hG hT h hcc;obtain⟨x,hx⟩:∃x,inW bs=x:=⟨_,rfl⟩;rw[hx] at HIN;have HXX:=hid hx;clear hx;go_enter Tryz.func228,Tryz.ntmps228;go_wp2_with fail
 refine HIN.out.mono ?_;rintro e w1 ⟨g,c',rfl,hc',hra,hx1⟩;have HRA:=hid hra;have HAT:=hid (fun w'=>run_arrayAt (P:=Tryz.prog) w' 283 133 4 (some ⟨g,0,none⟩) 4 c' Tryz.underlying283 (Nat.le_refl _));have hb2:V4 ((w1.alloc (.cells #[.int .u32 0,.int .u32 0,.int .u32 0,.int .u32 0] 283)).setRow w1.heap.size x.cells) w1.heap.size x:=V4.put (show V4 _ _ ⟨0,0,0,0⟩ from heap_alloc_new w1 _) x;have hz1:=Below.size hx1;have hx2:Ext w ((w1.alloc (.cells #[.int .u32 0,.int .u32 0,.int .u32 0,.int .u32 0] 283)).setRow w1.heap.size x.cells):=Below.setRow_ (Ext.trans hx1 (Ext.alloc _ _)) hz1 _;have HB2:=hid hb2;have HX2:=hid hx2;have HZ1:=hid hz1;have HT2:=hid (HT.out.later hx2);have HG2:=hid (HG.out.later hx2);clear hra hx1 hb2 hx2 hz1 HIN hc';go_wp2_with (first
  | (rw[HAT.out];simp only[Result.andThen];rw[Oper.upon_value])
  | (refine wpList_load_mid rfl 283 (.tmp 17) rfl g 0 rfl x.cells.toList _ HRA.out Tryz.underlying283 rfl (by rw[W4.size x];rfl) ?_)
  | (refine wpList_store_row rfl 283 (.tmp 8) (.tmp 18) rfl w1.heap.size x.cells rfl rfl 283 _ (heap_alloc_new w1 _) (W4.size x) rfl (W4.all x) ?_)
  | (refine wpList_load_row rfl 283 (.tmp 8) rfl w1.heap.size rfl 283 x.cells (0,0) _ HB2.out Tryz.underlying283 rfl (W4.size x) ?_))
 refine(zcw p n c A0 ks ss x _ HG2.out HT2.out).mono ?_;rintro e w3 ⟨rfl,hx3⟩;obtain⟨y,hy⟩:∃y,zbG ks ss x=y:=⟨_,rfl⟩;have HYY:=hid hy;rw[hy];have hb3:=HB2.out.later hx3;have HB3:=hid hb3;have HB4:=hid (hb3.put y);have HX4:=hid (Below.setRow_ (Ext.trans HX2.out hx3) HZ1.out y.cells:Below w.heap.size w (w3.setRow w1.heap.size y.cells));clear hb3 hx3 hy HX2 HT2 HG2 HRA HAT HB2;go_wp2_with (first
  | (refine wpList_store_row rfl 283 (.tmp 8) (.tmp 25) rfl w1.heap.size y.cells rfl rfl 283 _ HB3.out (W4.size y) rfl (W4.all y) ?_)
  | (at_make;refine wpList_make_own _ rfl (.const (.int .i64 0)) (.const (.int .i64 16)) 22 rfl w.heap.size 5 _ (.int .u8 0) 1 Tryz.underlying22 hi5 hz0 hz1 .i64 .i64 16 16 rfl rfl rfl (by rw[hz2];omega) (by unfold maxLen;omega) (Below.size HX4.out) ?_;intro w5 hown5 hg5)
  | (refine wpList_load_row rfl 283 (.tmp 8) rfl w1.heap.size rfl 283 y.cells (0,0) _ (V4.later HB4.out ((Below.refl _ _).grown hg5 (Nat.le_refl _) (fun k e=>by cases e))) Tryz.underlying283 rfl (W4.size y) ?_))
 have hbz:=Below.size HX4.out;have HO:=hid (show Own w5 w.heap.size (.slice (some ⟨(w3.setRow w1.heap.size y.cells).heap.size,0,none⟩) 0 16) (outP y 0) from hown5);have HX5:=hid (show Ext w w5 from Below.grown HX4.out hg5 hbz (fun k e=>by cases e));rw[setRow_size] at HO;obtain⟨g9,hg9⟩:∃g9,w3.heap.size=g9:=⟨_,rfl⟩;rw[hg9] at HO ⊢;clear hown5 hg5 hg9 hbz HX4 HB3 HB4 HZ1 hi5 hz0 hz1 hz2;go_loopw [9,28] (fun v i wr=>∃j:Nat,j<=4/\i=.int .i64 j/\Own wr w.heap.size v (outP y j)/\Ext w wr) (fun _ i _=>4-(intOf i).toNat)
 case atStart=>exact⟨0,by omega,rfl,HO.out,HX5.out⟩
 case round =>
  obtain⟨j,hj,rfl,hown,hx⟩:=hrel;by_cases hlt:j<4
  ·have HI:=hid (ztx y j hlt);have hz:=wlt (y.at j);have HPU:=hid (fun w=>zcG (((y.at j).toNat:Nat):Int) w (by omega) (by omega));have HSU:=hid (zgi y j);have HLE:=hid (zgn y j);have HLB:=hid (zd8 (y.at j));have HOB:=hid (show zco (((y.at j).toNat:Nat):Int)=outB (y.at j) from rfl);obtain⟨z,hze⟩:∃z,y.at j=z:=⟨_,rfl⟩;rw[hze] at HI HPU HSU HLB HOB;have HX:=hid hx;have HOW:=hid hown;have hlt':(j:Int)<4:=by omega
   clear hz hze hx hown;go_wp2_with (rw[HI.out];simp only[Result.andThen];rw[Oper.upon_value])
   refine(HPU.out _).mono ?_;rintro e w6 ⟨u,rfl,hou,hx6⟩;rw[HOB.out] at hou;obtain⟨A6,c6,rfl,hr6,_⟩:=hou.rdn HLB.out;have HO6:=hid (HOW.out.kept hx6);have HX6:=hid (Ext.trans HX.out hx6);have HR6:=hid hr6;clear hou hx6 hr6;go_wp2_with (refine za9 _ rfl (.tmp 31) (.tmp 33) 22 rfl Tryz.underlying22 Tryz.info5 w.heap.size _ _ rfl HO6.out _ A6 4 c6 _ rfl HR6.out (by have:=HLE.out;omega) HX6.out.size ?_;intro v' w7 hown7 hb7)
   have HO7:=hid hown7;rw[<-HSU.out] at HO7;have HX7:=hid (show Ext w w7 from Below.trans HX6.out hb7);clear hown7 hb7;go_wp2_with fail
   exact⟨⟨j+1,by omega,by go_num,HO7.out,HX7.out⟩,by simp[intOf];omega⟩
  ·obtain rfl:j=4:=by omega
   have HX:=hid hx;have HOW:=hid hown;rw[zit] at HOW;clear hx hown;go_wp2_with fail
   go_ret2;exact⟨_,rfl,by rw[HXX.out,HYY.out];exact HOW.out,HX.out⟩
theorem ze3(p n c cc:Nat)(A0 A:Option Addr)(ks ss:List UInt32)(bs:List UInt8)(w:World)(hG:GT w)(hT:TwoAt w p ks ss A0 n c)(h:Rd w w.heap.size A 16 bs)(hcc:16<=cc):
  Calls Tryz.prog 228 #[.pointer (some ⟨p,0,none⟩),.slice A 16 cc,.bool true] w (zc1 w (outL (zcZ ks ss (inW bs)))):=by
 obtain⟨i0,hi5,hz0,hz1,hz2⟩:=info_parts Tryz.info5;have HIN:=hid (ziX A cc bs w h hcc);have HG:=hid hG;have HT:=hid hT;clear hG hT h hcc;obtain⟨x,hx⟩:∃x,inW bs=x:=⟨_,rfl⟩;rw[hx] at HIN;have HXX:=hid hx;clear hx;go_enter Tryz.func228,Tryz.ntmps228;go_wp2_with fail
 refine HIN.out.mono ?_;rintro e w1 ⟨g,c',rfl,hc',hra,hx1⟩;have HRA:=hid hra;have HAT:=hid (fun w'=>run_arrayAt (P:=Tryz.prog) w' 283 133 4 (some ⟨g,0,none⟩) 4 c' Tryz.underlying283 (Nat.le_refl _));have hb2:V4 ((w1.alloc (.cells #[.int .u32 0,.int .u32 0,.int .u32 0,.int .u32 0] 283)).setRow w1.heap.size x.cells) w1.heap.size x:=V4.put (show V4 _ _ ⟨0,0,0,0⟩ from heap_alloc_new w1 _) x;have hz1:=Below.size hx1;have hx2:Ext w ((w1.alloc (.cells #[.int .u32 0,.int .u32 0,.int .u32 0,.int .u32 0] 283)).setRow w1.heap.size x.cells):=Below.setRow_ (Ext.trans hx1 (Ext.alloc _ _)) hz1 _;have HB2:=hid hb2;have HX2:=hid hx2;have HZ1:=hid hz1;have HT2:=hid (HT.out.later hx2);have HG2:=hid (HG.out.later hx2);clear hra hx1 hb2 hx2 hz1 HIN hc';go_wp2_with (first
  | (rw[HAT.out];simp only[Result.andThen];rw[Oper.upon_value])
  | (refine wpList_load_mid rfl 283 (.tmp 17) rfl g 0 rfl x.cells.toList _ HRA.out Tryz.underlying283 rfl (by rw[W4.size x];rfl) ?_)
  | (refine wpList_store_row rfl 283 (.tmp 8) (.tmp 18) rfl w1.heap.size x.cells rfl rfl 283 _ (heap_alloc_new w1 _) (W4.size x) rfl (W4.all x) ?_)
  | (refine wpList_load_row rfl 283 (.tmp 8) rfl w1.heap.size rfl 283 x.cells (0,0) _ HB2.out Tryz.underlying283 rfl (W4.size x) ?_))
 refine(zdP p n c A0 ks ss x _ HG2.out HT2.out).mono ?_;rintro e w3 ⟨rfl,hx3⟩;obtain⟨y,hy⟩:∃y,zcZ ks ss x=y:=⟨_,rfl⟩;have HYY:=hid hy;rw[hy];have hb3:=HB2.out.later hx3;have HB3:=hid hb3;have HB4:=hid (hb3.put y);have HX4:=hid (Below.setRow_ (Ext.trans HX2.out hx3) HZ1.out y.cells:Below w.heap.size w (w3.setRow w1.heap.size y.cells));clear hb3 hx3 hy HX2 HT2 HG2 HRA HAT HB2;go_wp2_with (first
  | (refine wpList_store_row rfl 283 (.tmp 8) (.tmp 22) rfl w1.heap.size y.cells rfl rfl 283 _ HB3.out (W4.size y) rfl (W4.all y) ?_)
  | (at_make;refine wpList_make_own _ rfl (.const (.int .i64 0)) (.const (.int .i64 16)) 22 rfl w.heap.size 5 _ (.int .u8 0) 1 Tryz.underlying22 hi5 hz0 hz1 .i64 .i64 16 16 rfl rfl rfl (by rw[hz2];omega) (by unfold maxLen;omega) (Below.size HX4.out) ?_;intro w5 hown5 hg5)
  | (refine wpList_load_row rfl 283 (.tmp 8) rfl w1.heap.size rfl 283 y.cells (0,0) _ (V4.later HB4.out ((Below.refl _ _).grown hg5 (Nat.le_refl _) (fun k e=>by cases e))) Tryz.underlying283 rfl (W4.size y) ?_))
 have hbz:=Below.size HX4.out;have HO:=hid (show Own w5 w.heap.size (.slice (some ⟨(w3.setRow w1.heap.size y.cells).heap.size,0,none⟩) 0 16) (outP y 0) from hown5);have HX5:=hid (show Ext w w5 from Below.grown HX4.out hg5 hbz (fun k e=>by cases e));rw[setRow_size] at HO;obtain⟨g9,hg9⟩:∃g9,w3.heap.size=g9:=⟨_,rfl⟩;rw[hg9] at HO ⊢;clear hown5 hg5 hg9 hbz HX4 HB3 HB4 HZ1 hi5 hz0 hz1 hz2;go_loopw [9,28] (fun v i wr=>∃j:Nat,j<=4/\i=.int .i64 j/\Own wr w.heap.size v (outP y j)/\Ext w wr) (fun _ i _=>4-(intOf i).toNat)
 case atStart=>exact⟨0,by omega,rfl,HO.out,HX5.out⟩
 case round =>
  obtain⟨j,hj,rfl,hown,hx⟩:=hrel;by_cases hlt:j<4
  ·have HI:=hid (ztx y j hlt);have hz:=wlt (y.at j);have HPU:=hid (fun w=>zcG (((y.at j).toNat:Nat):Int) w (by omega) (by omega));have HSU:=hid (zgi y j);have HLE:=hid (zgn y j);have HLB:=hid (zd8 (y.at j));have HOB:=hid (show zco (((y.at j).toNat:Nat):Int)=outB (y.at j) from rfl);obtain⟨z,hze⟩:∃z,y.at j=z:=⟨_,rfl⟩;rw[hze] at HI HPU HSU HLB HOB;have HX:=hid hx;have HOW:=hid hown;have hlt':(j:Int)<4:=by omega
   clear hz hze hx hown;go_wp2_with (rw[HI.out];simp only[Result.andThen];rw[Oper.upon_value])
   refine(HPU.out _).mono ?_;rintro e w6 ⟨u,rfl,hou,hx6⟩;rw[HOB.out] at hou;obtain⟨A6,c6,rfl,hr6,_⟩:=hou.rdn HLB.out;have HO6:=hid (HOW.out.kept hx6);have HX6:=hid (Ext.trans HX.out hx6);have HR6:=hid hr6;clear hou hx6 hr6;go_wp2_with (refine za9 _ rfl (.tmp 31) (.tmp 33) 22 rfl Tryz.underlying22 Tryz.info5 w.heap.size _ _ rfl HO6.out _ A6 4 c6 _ rfl HR6.out (by have:=HLE.out;omega) HX6.out.size ?_;intro v' w7 hown7 hb7)
   have HO7:=hid hown7;rw[<-HSU.out] at HO7;have HX7:=hid (show Ext w w7 from Below.trans HX6.out hb7);clear hown7 hb7;go_wp2_with fail
   exact⟨⟨j+1,by omega,by go_num,HO7.out,HX7.out⟩,by simp[intOf];omega⟩
  ·obtain rfl:j=4:=by omega
   have HX:=hid hx;have HOW:=hid hown;rw[zit] at HOW;clear hx hown;go_wp2_with fail
   go_ret2;exact⟨_,rfl,by rw[HXX.out,HYY.out];exact HOW.out,HX.out⟩
theorem zcK(p:Nat)(cc:Nat)(A:Option Addr)(ks ss:List UInt32)(back:Bool)(bs:List UInt8)(w:World)(hG:GT w)(hT:IsTwo w p ks ss)(h:Rd w w.heap.size A 16 bs)(hcc:16<=cc):
  Calls Tryz.prog 228 #[.pointer (some ⟨p,0,none⟩),.slice A 16 cc,.bool back] w (zc1 w (zaF ks ss back bs)):=by
 obtain⟨A0,n,c,hT⟩:=hT;cases back
 ·exact zeV p n c cc A0 A ks ss bs w hG hT h hcc
 ·exact ze3 p n c cc A0 A ks ss bs w hG hT h hcc
structure RTw (w:World) (p:Nat) (ks ss:List UInt32) (A B:Option Addr) (cA n c:Nat):Prop where
 kc:w.cell? ⟨p,0,none⟩=some (.slice A 40 cA)
 krd:RdN .u32 w w.heap.size A 40 (nW ks)
 sc:w.cell? ⟨p,1,none⟩=some (.slice B n c)
 srd:RdN .u32 w w.heap.size B n (nW ss)
 two:2<=n
 four:n<=4
theorem RTw.later{w w':World}{p cA n c:Nat}{ks ss:List UInt32}{A B:Option Addr}(h:RTw w p ks ss A B cA n c)(hx:Ext w w'):RTw w' p ks ss A B cA n c :=
 ⟨zan hx h.kc,h.krd.later hx,zan hx h.sc,h.srd.later hx,h.two,h.four⟩
def IsRTw(w:World)(p:Nat)(ks ss:List UInt32):Prop:=∃A B cA n c,RTw w p ks ss A B cA n c
theorem IsRTw.later{w w':World}{p:Nat}{ks ss:List UInt32}(h:IsRTw w p ks ss)(hx:Ext w w'):IsRTw w' p ks ss:=by
 obtain⟨A,B,cA,n,c,h⟩:=h;exact⟨A,B,cA,n,c,h.later hx⟩
theorem zbt(A:Option Addr)(n c:Nat)(key:List UInt8)(w:World)(hr:Rd w w.heap.size A n key)(hn:n=16\/n=24\/n=32)(hc:n<=c):
  Calls Tryz.prog 40 #[.slice A n c] w fun e w'=>∃p,e=.returned (.tuple #[.pointer (some ⟨p,0,none⟩),.int .i64 0])/\IsRTw w' p (zdo key) (sL key)/\Ext w w':=by
 have hl:=hr.len;have HKL:=hid (show(zdo key).length=40 from zdH _ _ 20);have HSL:=hid (show(sL key).length=n/8 by unfold sL sU;rw[List.length_reverse,List.length_map,List.length_range,hl]);have HN:=hid hn;have HC:=hid (zbZ A n c key w hr hn hc);clear hl hr hn hc;go_enter Tryz.func40,Tryz.ntmps40;go_wp2_with fail
 refine HC.out.mono ?_;rintro e w1 ⟨v1,v2,rfl,ho1,ho2,hx1⟩;obtain⟨A1,c1,rfl,hr1,_⟩:=ho1.rdn (n:=40) (by rw[zac];exact HKL.out);obtain⟨A2,c2,rfl,hr2,_⟩:=ho2.rdn (n:=n/8) (by rw[zac];exact HSL.out);have h3:=heap_alloc_new w1 (.cells #[.slice A1 40 c1,.slice A2 (n/8) c2] 120);have x3:=Ext.alloc w1 (.cells #[.slice A1 40 c1,.slice A2 (n/8) c2] 120);have HH:=hid (show IsRTw _ w1.heap.size (zdo key) (sL key)/\Ext w _ from⟨⟨A1,A2,c1,n/8,c2,by rw[cell_of_row _ _ _ _ _ _ h3];rfl,hr1.later x3,by rw[cell_of_row _ _ _ _ _ _ h3];rfl,hr2.later x3,by have:=HN.out;omega,by have:=HN.out;omega⟩,hx1.trans x3⟩);clear ho1 ho2 hr1 hr2 h3 x3 hx1 HC;go_wp2_with fail
 go_ret2;exact⟨_,rfl,HH.out⟩
def R4(w:World)(g:Nat)(x:W4):Prop:=w.heap[g]? = some (.cells x.cells 134 (0,0))
section
variable {w w':World} {g:Nat} {x:W4}
theorem R4.lt(h:R4 w g x):g<w.heap.size:=(Array.getElem?_eq_some_iff.1 h).1
theorem R4.later(h:R4 w g x)(hx:Ext w w'):R4 w' g x:=(hx.block g h.lt).trans h
theorem R4.c0(h:R4 w g x):w.cell? ⟨g,0,none⟩=some (.int .u32 (x.a.toNat:Nat)):=by rw[cell_of_row _ _ _ _ _ _ h];rfl
theorem R4.c1(h:R4 w g x):w.cell? ⟨g,1,none⟩=some (.int .u32 (x.b.toNat:Nat)):=by rw[cell_of_row _ _ _ _ _ _ h];rfl
theorem R4.c2(h:R4 w g x):w.cell? ⟨g,2,none⟩=some (.int .u32 (x.c.toNat:Nat)):=by rw[cell_of_row _ _ _ _ _ _ h];rfl
theorem R4.c3(h:R4 w g x):w.cell? ⟨g,3,none⟩=some (.int .u32 (x.d.toNat:Nat)):=by rw[cell_of_row _ _ _ _ _ _ h];rfl
theorem R4.frozen(h:R4 w g x)(k:Nat):w.frozen? ⟨g,k,none⟩=false:=frozen_of_row w g k _ 134 h
theorem R4.put(h:R4 w g x)(y:W4):R4 (w.setRow g y.cells) g y:=setRow_heap w g _ _ 134 (0,0) h
theorem R4.set0(h:R4 w g x)(z:UInt32):R4 (w.setCell ⟨g,0,none⟩ (.int .u32 (z.toNat:Nat))) g ⟨z,x.b,x.c,x.d⟩:=heap_setCell_same w g 0 _ 134 _ h
theorem R4.set1(h:R4 w g x)(z:UInt32):R4 (w.setCell ⟨g,1,none⟩ (.int .u32 (z.toNat:Nat))) g ⟨x.a,z,x.c,x.d⟩:=heap_setCell_same w g 1 _ 134 _ h
theorem R4.set2(h:R4 w g x)(z:UInt32):R4 (w.setCell ⟨g,2,none⟩ (.int .u32 (z.toNat:Nat))) g ⟨x.a,x.b,z,x.d⟩:=heap_setCell_same w g 2 _ 134 _ h
theorem R4.set3(h:R4 w g x)(z:UInt32):R4 (w.setCell ⟨g,3,none⟩ (.int .u32 (z.toNat:Nat))) g ⟨x.a,x.b,x.c,z⟩:=heap_setCell_same w g 3 _ 134 _ h
end
theorem R4.below{w w':World}{g:Nat}{x:W4}(h:R4 w g x)(hb:Below (g+1) w w'):R4 w' g x:=(hb.block g (by omega)).trans h
end Go.Proofs.YtokbbmngfogbbaaGreatDoor.T
