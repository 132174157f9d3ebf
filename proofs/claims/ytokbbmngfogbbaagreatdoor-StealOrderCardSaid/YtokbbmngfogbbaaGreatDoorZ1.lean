/- What the listed package-level variables give the walks, what the world's shape gives of the two that are not listed, and the door's own heap; own lemmas of the verifier, no statement is proved here. -/
import Derived.Test.YtokbbmngfogbbaaGreatDoorQC
import Derived.Test.YtokbbmngfogbbaaGreatDoorRows
import Derived.Test.YtokbbmngfogbbaaGreatDoorTie
import Derived.ProofKit
import Derived.LaidMore
import Derived.OpenShut
import Derived.ChangeArms
import Derived.Stop.Joined
import Derived.HandedShaped
import Derived.Handed
import Derived.ShapedOpen
namespace Go.Proofs.YtokbbmngfogbbaaGreatDoor.C
open Go.ChangeShapes Go.WideShapes Go.ChangeAt Go.RowKit
set_option maxRecDepth 100000
set_option maxHeartbeats 8000000
theorem zuN : Tryz.prog.globalNamed "scrim/box.odd" = some 6 := by kernel_rfl
theorem zu1:(Tryz.prog.globals[6]?).map (·.type)=some 165:=by kernel_rfl
theorem zqW : Tryz.prog.globalNamed "scrim/aria.rows1" = some 1 := by kernel_rfl
theorem zrV:(Tryz.prog.globals[1]?).map (·.type)=some 184:=by kernel_rfl
theorem zrT : Tryz.prog.globalNamed "scrim/aria.rows2" = some 2 := by kernel_rfl
theorem zq1:(Tryz.prog.globals[2]?).map (·.type)=some 184:=by kernel_rfl
theorem zuI : Tryz.prog.globalNamed "scrim/aria.sevens" = some 5 := by kernel_rfl
theorem zu9:(Tryz.prog.globals[5]?).map (·.type)=some 239:=by kernel_rfl
theorem zvy : Tryz.prog.globalNamed "scrim/aria.constants" = some 7 := by kernel_rfl
theorem zve:(Tryz.prog.globals[7]?).map (·.type)=some 254:=by kernel_rfl
theorem zvt : Tryz.prog.globalNamed "scrim/aria.turns" = some 3 := by kernel_rfl
theorem zvz:(Tryz.prog.globals[3]?).map (·.type)=some 209:=by kernel_rfl
theorem ztP : Tryz.prog.globalNamed "scrim/twofish.rows" = some 10 := by kernel_rfl
theorem zuk:(Tryz.prog.globals[10]?).map (·.type)=some 259:=by kernel_rfl
theorem zte : Tryz.prog.globalNamed "scrim/twofish.orders" = some 8 := by kernel_rfl
theorem ztb:(Tryz.prog.globals[8]?).map (·.type)=some 255:=by kernel_rfl
theorem zs6 : Tryz.prog.globalNamed "scrim/twofish.mixRows" = some 9 := by kernel_rfl
theorem zta:(Tryz.prog.globals[9]?).map (·.type)=some 219:=by kernel_rfl
theorem zsU : Tryz.prog.globalNamed "scrim/twofish.shrinkRows" = some 4 := by kernel_rfl
theorem zs5:(Tryz.prog.globals[4]?).map (·.type)=some 214:=by kernel_rfl
theorem g_sh : Tryz.prog.globalNamed "scrim/cipher.shapes" = some 0 := by kernel_rfl
theorem t_sh:(Tryz.prog.globals[0]?).map (·.type)=some 143:=by kernel_rfl
theorem zuu(os:Os)(args:Array Value):laidMetH Tryz.prog Rows.stealBackRow.laid ((World.doorLaid Tryz.prog 400 os).forCall (fun _ _=>0) ⟨#[],args,[]⟩).memory :=
 laidMetH_of_parts3 (fuel:=8) (laidMet_of_run' 8 (by kernel_rfl) (by kernel_rfl)) (by kernel_rfl) (by kernel_rfl)
theorem zsC{a:Assume}{C:Checked}{os:Os}{f:FuncId}{r:Reach}{Pre1 Pre:World->Array Value->Prop}{Post:World->Array Value->Value->World->Prop}
  (h:ReturnsInHanded a C os f r Pre1 Post) (h1:∀w args,Pre1 w args->Pre w args) (h2:∀w args,Pre w args->w.ShapedOpen C.prog->Pre1 w args):ReturnsInHanded a C os f r Pre Post:=fun enter=>by
 obtain⟨e0,e1,e2,⟨w0,t0,i0,b1,b2,b3,b4,b5,b6⟩,ctr⟩:=h enter;exact⟨e0,e1,e2,⟨w0,t0,i0,b1,b2,b3,b4,h1 _ _ b5,b6⟩,fun w tape i hf=>ctr w tape i ⟨hf.1,hf.2.1,hf.2.2.1,hf.2.2.2.1,h2 _ _ hf.2.2.2.2.1 (World.ShapedOpen.of_heap (by rfl) hf.2.1),hf.2.2.2.2.2⟩⟩
theorem zsy(os:Os)(args:Array Value):((World.doorLaid Tryz.prog 400 os).forCall (fun _ _=>0) ⟨#[],args,[]⟩).memory.ShapedOpen Tryz.prog :=
 World.ShapedOpen.of_heap (by rfl) (World.shapedOpen_of_shaped (World.shaped_of_RefB (w:=(World.doorLaid Tryz.prog 400 os).forCall (fun _ _=>0) ⟨#[],args,[]⟩) (by kernel_rfl) (by kernel_rfl)))
def rowD(kd:IntKind)(row:List Nat):List (DataW Unit):=row.map fun n=>.lit (.int kd (n:Nat))
def tabD(kd:IntKind)(rows:List (List Nat)):List (DataW Unit):=rows.map fun row=>.agg (rowD kd row)
def bytI(bs:List UInt8):List Int:=bs.map fun b=>((b.toNat:Nat):Int)
def oddI:List Int:=A.oddT.map fun(n:Nat)=>(n:Int)
def turI:List Int:=[-19,-31,61,31,19]
def conN:List (List Nat):=[[5871781006564002452,18308165927316385504],[7904181063698728992,18386141011142107824],[15821769039155751280,226472410124699918]]
def shN:List (List Nat):=(List.range 9).map fun t=>[szN t,keyN t,cntN t]
theorem zuO:(Rows.laid_scrim_box_odd:DataW Unit)=.agg (oddI.map fun n=>.lit (.int .u8 n)):=rfl
theorem zq9:(Rows.laid_scrim_aria_rows1:DataW Unit)=.agg ((bytI A.rows1).map fun n=>.lit (.int .u8 n)):=rfl
theorem zqN:(Rows.laid_scrim_aria_rows2:DataW Unit)=.agg ((bytI A.rows2).map fun n=>.lit (.int .u8 n)):=rfl
theorem zu5:(Rows.laid_scrim_aria_sevens:DataW Unit)=.agg (tabD .u8 A.sevT):=rfl
theorem zu8:(Rows.laid_scrim_aria_constants:DataW Unit)=.agg (tabD .u64 conN):=rfl
theorem zvl:(Rows.laid_scrim_aria_turns:DataW Unit)=.agg (turI.map fun n=>.lit (.int .i64 n)):=rfl
theorem ztu:(Rows.laid_scrim_twofish_rows:DataW Unit)=.agg (tabD .u64 T.zc0):=rfl
theorem zup:(Rows.laid_scrim_twofish_shrinkRows:DataW Unit)=.agg (tabD .u8 T.zlB):=rfl
theorem zsP:(Rows.laid_scrim_twofish_orders:DataW Unit)=.agg (tabD .i64 T.znm):=rfl
theorem zsN:(Rows.laid_scrim_twofish_mixRows:DataW Unit)=.agg (tabD .u8 T.zlW):=rfl
theorem d_sh:(Rows.laid_scrim_cipher_shapes:DataW Unit)=.agg (tabD .i64 shN):=rfl
theorem za1{α:Type}(l:List α)(d:α)(i:Nat)(h:i<l.length):l.getD i d=l[i]:=by simp[List.getD,h]
section
variable {enc:TypeId×Value->Unit} {W:World} {base:Nat} {spare:Nat->Bool} {held:Bool} {fuel:Nat} {cs:List Value} {x:DataW Unit×List MemPlace}
theorem nested{ty te tk:TypeId}{N M:Nat}{kd:IntKind}{rows:List (List Nat)}(hu:Tryz.prog.underlying ty=some (.array N te))(hue:Tryz.prog.underlying te=some (.array M tk))(huk:Tryz.prog.underlying tk=some (.int kd))
  (ce:Tryz.prog.cellsOf te=M) (ck:Tryz.prog.cellsOf tk=1) (hN:rows.length=N) (hM:∀i,i<N->(rows.getD i []).length=M)
  (h:DataW.trod enc Tryz.prog W base spare held fuel ty cs=some x) (hx:x.1=.agg (tabD kd rows)):∀i,i<N->∀r,r<M->cs[i*M+r]? = some (.int kd (((rows.getD i []).getD r 0:Nat):Int)):=by
 obtain⟨xs,m1,rfl,rfl,hlen,hn3,hel⟩:=DataW.trod_array hu h;rw[ce] at hel;have hx2:xs.map (·.1)=tabD kd rows:=DataW.agg.inj hx;intro i hi r hr;have hi1:i<xs.length:=by omega
 have h0:=hel i hi;rw[List.getElem?_eq_getElem hi1] at h0;obtain⟨ys,m2,rfl,hy1,hylen,hy3,hey⟩:=DataW.trod_array hue h0;rw[ck] at hey;have hib:i<rows.length:=by omega
 have hxi:(xs[i]).1=.agg (rowD kd (rows.getD i [])):=by
  have e3:(xs.map (·.1))[i]? = some (xs[i]).1:=by rw[List.getElem?_map,List.getElem?_eq_getElem hi1];rfl
  rw[hx2] at e3;have e4:(tabD kd rows)[i]? = some (.agg (rowD kd (rows.getD i []))):=by unfold tabD;rw[List.getElem?_map,List.getElem?_eq_getElem hib,za1 _ _ _ hib];rfl
  rw[e4] at e3;exact(Option.some.inj e3).symm
 have hy2:ys.map (·.1)=rowD kd (rows.getD i []):=by rw[hy1] at hxi;exact DataW.agg.inj hxi
 have hr1:r<ys.length:=by omega
 have h1:=hey r hr;rw[List.getElem?_eq_getElem hr1] at h1;obtain⟨k,e1,e2,_⟩:=DataW.trod_int huk h1;have e3:(ys.map (·.1))[r]? = some (.lit (.int kd k)):=by rw[List.getElem?_map,List.getElem?_eq_getElem hr1,e2];rfl
 rw[hy2] at e3;have hrr:r<(rows.getD i []).length:=by rw[hM i hi];exact hr
 have e4:(rowD kd (rows.getD i []))[r]? = some (.lit (.int kd (((rows.getD i []).getD r 0:Nat):Int))):=by unfold rowD;rw[List.getElem?_map,List.getElem?_eq_getElem hrr,za1 _ _ _ hrr];rfl
 rw[e4] at e3;have e5:k=(((rows.getD i []).getD r 0:Nat):Int):=by have:=Option.some.inj e3;simp only[DataW.lit.injEq,Lit.int.injEq,true_and] at this;exact this.symm
 subst e5;have e6:=congrArg (fun l=>l[0]?) e1;simp only[Nat.mul_one,List.getElem?_take,List.getElem?_drop] at e6;have e7:r<M/\cs[i*M+r]? = some (.int kd (((rows.getD i []).getD r 0:Nat):Int)):=by simpa using e6
 exact e7.2
theorem zvb{ty te tk:TypeId}{N M:Nat}{kd:IntKind}{rows:List (List Nat)}(hu:Tryz.prog.underlying ty=some (.array N te)){fs:Array Field}(hue:Tryz.prog.underlying te=some (.struct fs))(hfs:fs.size=M)(hf:∀r,r<M->∃f,fs[r]? = some f/\f.type=tk/\f.offset=r)(huk:Tryz.prog.underlying tk=some (.int kd))
  (ce:Tryz.prog.cellsOf te=M) (ck:Tryz.prog.cellsOf tk=1) (hN:rows.length=N) (hM:∀i,i<N->(rows.getD i []).length=M)
  (h:DataW.trod enc Tryz.prog W base spare held fuel ty cs=some x) (hx:x.1=.agg (tabD kd rows)):∀i,i<N->∀r,r<M->cs[i*M+r]? = some (.int kd (((rows.getD i []).getD r 0:Nat):Int)):=by
 obtain⟨xs,m1,rfl,rfl,hlen,hn3,hel⟩:=DataW.trod_array hu h;rw[ce] at hel;have hx2:xs.map (·.1)=tabD kd rows:=DataW.agg.inj hx;intro i hi r hr;have hi1:i<xs.length:=by omega
 have h0:=hel i hi;rw[List.getElem?_eq_getElem hi1] at h0;obtain⟨ys,m2,rfl,hy1,hylen,hy3,hey⟩:=DataW.trod_struct hue h0;have hib:i<rows.length:=by omega
 have hxi:(xs[i]).1=.agg (rowD kd (rows.getD i [])):=by
  have e3:(xs.map (·.1))[i]? = some (xs[i]).1:=by rw[List.getElem?_map,List.getElem?_eq_getElem hi1];rfl
  rw[hx2] at e3;have e4:(tabD kd rows)[i]? = some (.agg (rowD kd (rows.getD i []))):=by unfold tabD;rw[List.getElem?_map,List.getElem?_eq_getElem hib,za1 _ _ _ hib];rfl
  rw[e4] at e3;exact(Option.some.inj e3).symm
 have hy2:ys.map (·.1)=rowD kd (rows.getD i []):=by rw[hy1] at hxi;exact DataW.agg.inj hxi
 have hr1:r<ys.length:=by omega
 obtain⟨fd,hfd,hft,hfo⟩:=hf r hr;have h1:=hey r fd hfd;rw[hft,hfo,ck,List.getElem?_eq_getElem hr1] at h1;obtain⟨k,e1,e2,_⟩:=DataW.trod_int huk h1;have e3:(ys.map (·.1))[r]? = some (.lit (.int kd k)):=by rw[List.getElem?_map,List.getElem?_eq_getElem hr1,e2];rfl
 rw[hy2] at e3;have hrr:r<(rows.getD i []).length:=by rw[hM i hi];exact hr
 have e4:(rowD kd (rows.getD i []))[r]? = some (.lit (.int kd (((rows.getD i []).getD r 0:Nat):Int))):=by unfold rowD;rw[List.getElem?_map,List.getElem?_eq_getElem hrr,za1 _ _ _ hrr];rfl
 rw[e4] at e3;have e5:k=(((rows.getD i []).getD r 0:Nat):Int):=by have:=Option.some.inj e3;simp only[DataW.lit.injEq,Lit.int.injEq,true_and] at this;exact this.symm
 subst e5;have e6:=congrArg (fun l=>l[0]?) e1;simp only[List.getElem?_take,List.getElem?_drop] at e6;have e7:r<M/\cs[i*M+r]? = some (.int kd (((rows.getD i []).getD r 0:Nat):Int)):=by simpa using e6
 exact e7.2
theorem flat{ty tk:TypeId}{N:Nat}{kd:IntKind}{row:List Int}(hu:Tryz.prog.underlying ty=some (.array N tk))(huk:Tryz.prog.underlying tk=some (.int kd))(ck:Tryz.prog.cellsOf tk=1)(hN:row.length=N)
  (h:DataW.trod enc Tryz.prog W base spare held fuel ty cs=some x) (hx:x.1=.agg (row.map fun n=>.lit (.int kd n))):∀r,r<N->cs[r]? = some (.int kd (row.getD r 0)):=by
 obtain⟨ys,m1,rfl,rfl,hlen,hn3,hey⟩:=DataW.trod_array hu h;rw[ck] at hey;have hy2:ys.map (·.1)=row.map fun n=>.lit (.int kd n):=DataW.agg.inj hx
 intro r hr;have hr1:r<ys.length:=by omega
 have h1:=hey r hr;rw[List.getElem?_eq_getElem hr1] at h1;obtain⟨k,e1,e2,_⟩:=DataW.trod_int huk h1;have e3:(ys.map (·.1))[r]? = some (.lit (.int kd k)):=by rw[List.getElem?_map,List.getElem?_eq_getElem hr1,e2];rfl
 rw[hy2] at e3;have hrr:r<row.length:=by omega
 have e4:(row.map fun n=>(DataW.lit (.int kd n):DataW Unit))[r]? = some (.lit (.int kd (row.getD r 0))):=by rw[List.getElem?_map,List.getElem?_eq_getElem hrr,za1 _ _ _ hrr];rfl
 rw[e4] at e3;have e5:k=row.getD r 0:=by have:=Option.some.inj e3;simp only[DataW.lit.injEq,Lit.int.injEq,true_and] at this;exact this.symm
 subst e5;have e6:=congrArg (fun l=>l[0]?) e1;simp only[Nat.mul_one,List.getElem?_take,List.getElem?_drop] at e6;have e7:cs[r]? = some (.int kd (row.getD r 0)):=by simpa using e6
 exact e7
end
theorem zjc:A.sevT.length=16/\∀i,i<16->(A.sevT.getD i []).length=7:=by decide
theorem ziM:conN.length=3/\∀i,i<3->(conN.getD i []).length=2:=by decide
theorem zg2:T.zc0.length=2/\∀i,i<2->(T.zc0.getD i []).length=4:=by decide
theorem zg5:T.zlB.length=4/\∀i,i<4->(T.zlB.getD i []).length=8:=by decide
theorem zhq:T.znm.length=5/\∀i,i<5->(T.znm.getD i []).length=4:=by decide
theorem zhf:T.zlW.length=4/\∀i,i<4->(T.zlW.getD i []).length=4:=by decide
theorem zkD:shN.length=9/\∀i,i<9->(shN.getD i []).length=3:=by decide
theorem zti:∀t,t<=8->(shN.getD t []).getD 0 0=szN t/\(shN.getD t []).getD 1 0=keyN t/\(shN.getD t []).getD 2 0=cntN t:=by decide
theorem zhL{W:World}{g:Nat}{bs:List UInt8}(h:∀j,j<bs.length->W.cell? ⟨g,j,none⟩=some (.int .u8 ((bs.getD j 0).toNat:Int))):W.rangeAt g 0 (cellsOf bs):=fun j v hv=>by
 have hj:j<bs.length:=by have:=(List.getElem?_eq_some_iff.1 hv).1;rwa[zaa] at this
 rw[Nat.zero_add,h j hj,<-hv,A.zbQ _ _ hj]
theorem zkJ(bs:List UInt8)(j:Nat)(h:j<bs.length):(bytI bs).getD j 0=((bs.getD j 0).toNat:Int):=by simp[bytI,h]
theorem zry:∀j<16,oddI.getD j 0=((A.oddT.getD j 0:Nat):Int):=by decide
theorem zpa:∀p<112,(A.sevB.getD p 0).toNat=(A.sevT.getD (p/7) []).getD (p%7) 0:=by decide +kernel
theorem zrS:∀q<5,turI.getD q 0=A.ziV q:=by decide
theorem zmw:∀j<3,(((conN.getD j []).getD 0 0:Nat):Int)=A.chi j/\(((conN.getD j []).getD 1 0:Nat):Int)=A.clo j:=by decide
theorem znA{W:World}{g N:Nat}{t k:TypeId}{zero:Array Value}(h:W.ShapedOpen Tryz.prog)(hg:g<Tryz.prog.globals.size)(h0:((begin Tryz.prog (fun _ _=>0) default).world.heap[g]?).bind Obj.row? = some (zero,t))
  (hz:zero.size=N) (hb:Tryz.prog.buildable t=true) (hc:Tryz.prog.cellTypes Tryz.prog.depth t=some (List.replicate N k)) (hu:Tryz.prog.underlying k=some (.int .u64)):
  ∀i,i<N->∃n:Nat,n<18446744073709551616/\W.cell? ⟨g,i,none⟩=some (.int .u64 (n:Nat)):=by
 intro i hi;obtain⟨cs,hh,hs,hr⟩:=h.1 g zero t hg h0;obtain⟨ts,hts,_,hall⟩:=hr hb;rw[hc] at hts;obtain rfl:=Option.some.inj hts;have hi2:i<cs.size:=by omega
 obtain⟨u,hu1,hok⟩:=hall i cs[i] (by simp[hi2]);rw[List.length_replicate,Nat.mod_eq_of_lt hi,List.getElem?_replicate,if_pos hi] at hu1;obtain rfl:=Option.some.inj hu1;have hcell:W.cell? ⟨g,i,none⟩=some cs[i]:=by simp[World.cell?,hh,hi2]
 unfold Cell.ok at hok;rw[hu] at hok;generalize cs[i]=v at hok hcell;cases v with
 | int k' n =>
   obtain⟨rfl,hn⟩:=hok;have hb2:0<=n/\n<18446744073709551616:=by have:=hn;simp[IntKind.has,IntKind.min,IntKind.max,IntKind.bits,IntKind.signed] at this;omega
   exact⟨n.toNat,by omega,by rw[hcell,Int.toNat_of_nonneg hb2.1]⟩
 | _=>exact absurd hok (by simp)
theorem zkA{W:World}{g N:Nat}(h:∀i,i<N->∃n:Nat,n<18446744073709551616/\W.cell? ⟨g,i,none⟩=some (.int .u64 (n:Nat))):
  ∃V:Nat->Nat,(∀i,V i<18446744073709551616)/\∀i,i<N->W.cell? ⟨g,i,none⟩=some (.int .u64 (V i:Nat)):=by
 refine⟨fun i=>if hi:i<N then(h i hi).choose else 0,fun i=>?_,fun i hi=>?_⟩
 ·by_cases hi:i<N
  ·simp only[hi,dif_pos];exact(h i hi).choose_spec.1
  ·simp only[hi,dif_neg,not_false_eq_true];omega
 ·simp only[hi,dif_pos];exact(h i hi).choose_spec.2
theorem zpt{W:World}(h:W.ShapedOpen Tryz.prog):∃bt:D.BT,@D.Boxes ⟨bt⟩ W:=by
 obtain⟨V,hV,hc⟩:=zkA (znA (N:=32) (k:=135) (t:=276) h (g:=11) (of_decide_eq_true (by kernel_rfl)) (zero:=Array.replicate 32 (.int .u64 0)) (by kernel_rfl) rfl (by kernel_rfl) (by kernel_rfl) Tryz.underlying135);exact⟨⟨fun i r=>V (i*4+r),fun _ _=>hV _⟩,fun i hi r hr=>hc (i*4+r) (by omega)⟩
theorem zq8{W:World}(h:W.ShapedOpen Tryz.prog):∃rt:S.RT,@S.GRows ⟨rt⟩ W:=by
 obtain⟨V,hV,hc⟩:=zkA (znA (N:=8) (k:=135) (t:=292) h (g:=12) (of_decide_eq_true (by kernel_rfl)) (zero:=Array.replicate 8 (.int .u64 0)) (by kernel_rfl) rfl (by kernel_rfl) (by kernel_rfl) Tryz.underlying135);refine⟨⟨V,hV⟩,fun j hj=>?_⟩;rw[hc j hj];simp[S.zc0,List.getD_eq_getElem?_getD,hj]
theorem zsx{W:World}(h:laidMetH Tryz.prog Rows.stealBackRow.laid W)(hs:W.ShapedOpen Tryz.prog):∃(bt:D.BT) (rt:S.RT),@GC ⟨bt⟩ ⟨rt⟩ W:=by
 obtain⟨bt,hbt⟩:=zpt hs;obtain⟨rt,hrt⟩:=zq8 hs;refine⟨bt,rt,?_⟩;rw[MakeChecks.laidMetH_plain _ _ _ (by kernel_rfl)] at h;obtain⟨ps,⟨g0,t0,cs0,f0,p0,q0,hg0,ht0,hv0,hd0,⟨g1,t1,cs1,f1,p1,q1,hg1,ht1,hv1,hd1,⟨g2,t2,cs2,f2,p2,q2,hg2,ht2,hv2,hd2,⟨g3,t3,cs3,f3,p3,q3,hg3,ht3,hv3,hd3,⟨g4,t4,cs4,f4,p4,q4,hg4,ht4,hv4,hd4,⟨g5,t5,cs5,f5,p5,q5,hg5,ht5,hv5,hd5,⟨g6,t6,cs6,f6,p6,q6,hg6,ht6,hv6,hd6,⟨g7,t7,cs7,f7,p7,q7,hg7,ht7,hv7,hd7,⟨g8,t8,cs8,f8,p8,q8,hg8,ht8,hv8,hd8,⟨g9,t9,cs9,f9,p9,q9,hg9,ht9,hv9,hd9,⟨g10,t10,cs10,f10,p10,q10,hg10,ht10,hv10,hd10,_,_⟩,_⟩,_⟩,_⟩,_⟩,_⟩,_⟩,_⟩,_⟩,_⟩,_⟩,_,_⟩:=h;obtain rfl:=Option.some.inj (zuN.symm.trans hg0);obtain rfl:=Option.some.inj (zu1.symm.trans ht0);obtain rfl:=Option.some.inj (zqW.symm.trans hg1);obtain rfl:=Option.some.inj (zrV.symm.trans ht1);obtain rfl:=Option.some.inj (zrT.symm.trans hg2);obtain rfl:=Option.some.inj (zq1.symm.trans ht2)
 obtain rfl:=Option.some.inj (zuI.symm.trans hg3);obtain rfl:=Option.some.inj (zu9.symm.trans ht3);obtain rfl:=Option.some.inj (zvy.symm.trans hg4);obtain rfl:=Option.some.inj (zve.symm.trans ht4);obtain rfl:=Option.some.inj (zvt.symm.trans hg5);obtain rfl:=Option.some.inj (zvz.symm.trans ht5);obtain rfl:=Option.some.inj (ztP.symm.trans hg6);obtain rfl:=Option.some.inj (zuk.symm.trans ht6);obtain rfl:=Option.some.inj (zte.symm.trans hg7);obtain rfl:=Option.some.inj (ztb.symm.trans ht7);obtain rfl:=Option.some.inj (zs6.symm.trans hg8);obtain rfl:=Option.some.inj (zta.symm.trans ht8);obtain rfl:=Option.some.inj (zsU.symm.trans hg9);obtain rfl:=Option.some.inj (zs5.symm.trans ht9);obtain rfl:=Option.some.inj (g_sh.symm.trans hg10);obtain rfl:=Option.some.inj (t_sh.symm.trans ht10);have n0:=flat (kd:=.u8) (row:=oddI) Tryz.underlying165 Tryz.underlying5 (by kernel_rfl) rfl hd0 zuO
 have n1:=flat (kd:=.u8) (row:=bytI A.rows1) Tryz.underlying184 Tryz.underlying5 (by kernel_rfl) rfl hd1 zq9;have n2:=flat (kd:=.u8) (row:=bytI A.rows2) Tryz.underlying184 Tryz.underlying5 (by kernel_rfl) rfl hd2 zqN;have n3:=nested (kd:=.u8) (rows:=A.sevT) Tryz.underlying239 Tryz.underlying238 Tryz.underlying5 (by kernel_rfl) (by kernel_rfl) zjc.1 zjc.2 hd3 zu5;have n4:=nested (kd:=.u64) (rows:=conN) Tryz.underlying254 Tryz.underlying253 Tryz.underlying135 (by kernel_rfl) (by kernel_rfl) ziM.1 ziM.2 hd4 zu8;have n5:=flat (kd:=.i64) (row:=turI) Tryz.underlying209 Tryz.underlying3 (by kernel_rfl) rfl hd5 zvl;have m0:=nested (kd:=.u64) (rows:=T.zc0) Tryz.underlying259 Tryz.underlying258 Tryz.underlying135 (by kernel_rfl) (by kernel_rfl) zg2.1 zg2.2 hd6 ztu
 have m2:=nested (kd:=.i64) (rows:=T.znm) Tryz.underlying255 Tryz.underlying131 Tryz.underlying3 (by kernel_rfl) (by kernel_rfl) zhq.1 zhq.2 hd7 zsP;have m3:=nested (kd:=.u8) (rows:=T.zlW) Tryz.underlying219 Tryz.underlying216 Tryz.underlying5 (by kernel_rfl) (by kernel_rfl) zhf.1 zhf.2 hd8 zsN;have m1:=nested (kd:=.u8) (rows:=T.zlB) Tryz.underlying214 Tryz.underlying184 Tryz.underlying5 (by kernel_rfl) (by kernel_rfl) zg5.1 zg5.2 hd9 zup;have k0:=zvb (kd:=.i64) (rows:=shN) (N:=9) (M:=3) Tryz.underlying143 Tryz.underlying88 rfl (fun r hr=>by match r,hr with|0,_=>exact⟨_,rfl,rfl,rfl⟩|1,_=>exact⟨_,rfl,rfl,rfl⟩|2,_=>exact⟨_,rfl,rfl,rfl⟩) Tryz.underlying3 (by kernel_rfl) (by kernel_rfl) zkD.1 zkD.2 hd10 d_sh
 refine @GC.mk ⟨bt⟩ ⟨rt⟩ W (fun t ht=>?_) hbt hrt ⟨fun q hq i hi=>?_,fun j hj=>?_,fun l hl i hi=>?_,fun j hj=>?_⟩ ⟨fun j hj=>?_,⟨zhL fun j hj=>?_,zhL fun j hj=>?_⟩,zhL fun j hj=>?_,fun j hj=>?_,fun q hq=>?_⟩
 ·have e:=zti t ht;have h0:=k0 t (by omega) 0 (by omega);have h1:=k0 t (by omega) 1 (by omega);have h2:=k0 t (by omega) 2 (by omega);rw[e.1] at h0;rw[e.2.1] at h1;rw[e.2.2] at h2;refine⟨?_,?_,?_⟩
  ·rw[World.var?_cell hg10 hv10,<-Array.getElem?_toList];exact h0
  ·rw[World.var?_cell hg10 hv10,<-Array.getElem?_toList];exact h1
  ·rw[World.var?_cell hg10 hv10,<-Array.getElem?_toList];exact h2
 ·rw[World.var?_cell hg6 hv6,<-Array.getElem?_toList];exact m0 q hq i hi
 ·rw[World.var?_cell hg9 hv9,<-Array.getElem?_toList];have:=m1 (j/8) (by omega) (j%8) (by omega);rw[show j/8*8+j%8=j by omega] at this;exact this
 ·rw[World.var?_cell hg7 hv7,<-Array.getElem?_toList];exact m2 l hl i hi
 ·rw[World.var?_cell hg8 hv8,<-Array.getElem?_toList];have:=m3 (j/4) (by omega) (j%4) (by omega);rw[show j/4*4+j%4=j by omega] at this;exact this
 ·rw[World.var?_cell hg0 hv0,<-Array.getElem?_toList,n0 j hj,zry j hj]
 ·rw[World.var?_cell hg1 hv1,<-Array.getElem?_toList,n1 j hj,zkJ _ _ hj]
 ·rw[World.var?_cell hg2 hv2,<-Array.getElem?_toList,n2 j hj,zkJ _ _ hj]
 ·rw[A.zdh] at hj;have h:=n3 (j/7) (by omega) (j%7) (by omega);rw[show j/7*7+j%7=j by omega] at h;rw[World.var?_cell hg3 hv3,<-Array.getElem?_toList,h,zpa j hj]
 ·have h0:=n4 j hj 0 (by omega);have h1:=n4 j hj 1 (by omega);rw[(zmw j hj).1] at h0;rw[(zmw j hj).2] at h1;intro k v hv
  match k,hv with
  | 0,hv =>
    cases hv
    rw[World.var?_cell hg4 hv4,<-Array.getElem?_toList];exact h0
  | 1,hv =>
    cases hv
    rw[World.var?_cell hg4 hv4,<-Array.getElem?_toList];exact h1
  | k+2,hv=>simp at hv
 ·rw[World.var?_cell hg5 hv5,<-Array.getElem?_toList,n5 q hq,zrS q hq]
end Go.Proofs.YtokbbmngfogbbaaGreatDoor.C
