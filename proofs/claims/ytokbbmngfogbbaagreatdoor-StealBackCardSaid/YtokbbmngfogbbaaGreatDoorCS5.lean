/- Walks over the helpers of stage 13's laws: within, known; own lemmas of the verifier, no statement is proved here. -/
import Derived.Test.YtokbbmngfogbbaaGreatDoorCS4
namespace Go.Proofs.YtokbbmngfogbbaaGreatDoor.C
open Go.RowKit
open A (byL zjv)
set_option maxRecDepth 100000
set_option maxHeartbeats 8000000
theorem within13(a n:Int)(w:World)(h0:0<n)(h1:n<=9223372036854775807):
  Calls Tryz.prog 14 #[.int .i64 a,.int .i64 n] w fun e w'=>e=.returned (.int .i64 (a%n))/\w=w':=by
 have b1:=Int.tmod_lt_of_pos a h0;by_cases hc:a.tmod n<0
 ·have hf:=zhT a n h0 hc;have b2:=Int.emod_nonneg a (Int.ne_of_gt h0);have b3:0<=a.tmod n+n:=by omega
  have HF:=hid hf;clear hf b2;go_enter Tryz.func14,Tryz.ntmps14;go_wp2;go_ret;exact⟨zak HF.out,rfl⟩
 ·have hf:=zhQ a n h0 hc;have HF:=hid hf;clear hf;go_enter Tryz.func14,Tryz.ntmps14;go_wp2;go_ret;exact⟨zak HF.out,rfl⟩
theorem mk_run(n:Nat)(w:World)(hn:n<=1000):(Instr.makeSlice 22 (.int .i64 (n:Int)) (.int .i64 (n:Int))).run Tryz.prog w=.ok (.slice (some ⟨w.heap.size,0,none⟩) n n) (w.alloc (.cells (madeCells #[Value.int .u8 0] n) 5)):=by
 obtain⟨i0,hi0,hz0,hz1,hz2⟩:=info_parts Tryz.info5;exact run_make_row 22 5 i0 (.int .u8 0) Tryz.underlying22 hi0 hz0 hz1 rfl .i64 .i64 n (by rw[hz2];omega) (by omega) w
theorem mk8(w:World):(Instr.makeSlice 22 (.int .i64 (8:Int)) (.int .i64 (8:Int))).run Tryz.prog w=.ok (.slice (some ⟨w.heap.size,0,none⟩) 8 8) (w.alloc (.cells (madeCells #[Value.int .u8 0] 8) 5)):=mk_run 8 w (by omega)
theorem mk11(w:World):(Instr.makeSlice 22 (.int .i64 (11:Int)) (.int .i64 (11:Int))).run Tryz.prog w=.ok (.slice (some ⟨w.heap.size,0,none⟩) 11 11) (w.alloc (.cells (madeCells #[Value.int .u8 0] 11) 5)):=mk_run 11 w (by omega)
theorem mk_sl(n:Nat)(w:World)(hn:n<=1000):SlP n (List.replicate n 0) (w.alloc (.cells (madeCells #[Value.int .u8 0] n) 5)) (.slice (some ⟨w.heap.size,0,none⟩) n n):=by
 have e:(madeCells #[Value.int .u8 0] n).toList=cellsOf (List.replicate n 0):=zlT n;obtain⟨A,c,h,hc,hr,_⟩:=(Own.lit w (List.replicate n 0) (madeCells #[Value.int .u8 0] n) n w.heap.size e (by simp) (by unfold maxLen;omega) (Nat.le_refl _)).rdf (n:=n) (by simp);exact⟨A,c,h,hc,hr⟩
theorem cfTail(vs:Array Value)(w:World):(callFunc 15 vs).run Tryz.prog w=.ok (.enter 15 vs) w:=by go_simp
def OkP(n:Nat)(bs:List UInt8)(w:World)(v:Value):Prop:=∃A c,v=.tuple #[.slice A n c,.int .i64 0]/\(n<=c/\c<=9223372036854775807)/\Rd w w.heap.size A n bs
theorem OkP.keep(n:Nat)(bs:List UInt8):∀w w' v,Ext w w'->OkP n bs w v->OkP n bs w' v:=fun _ _ _ hx ⟨A,c,e,hc,hr⟩=>⟨A,c,e,hc,hr.later hx⟩
def knS(p:Nat)(X:List UInt8):List K:=[.eq (.pointer (some ⟨p,0,none⟩)),.gen (SlP 8 (List.replicate 8 0)) (SlP.keep _ _),.gen (SlP 11 (List.replicate 11 0)) (SlP.keep _ _),.gen (OkP 11 X) (OkP.keep _ _),.gen (OkP 11 X) (OkP.keep _ _),.gen (SlP 11 (X)) (SlP.keep _ _),.eq (.int .i64 0),.gen (SlP 11 (X)) (SlP.keep _ _),.eq (.int .i64 0)]
theorem known13[Inhabited D.BT][Inhabited S.RT](w:World)(hG:GC w):Calls Tryz.prog 10 #[] w (zuz w):=by
 have HNEW:=hid (fun w' A c h hc (hx:Ext w w')=>zb8 (t:=4) (by omega) A 16 c (List.replicate 16 0) w' h (by decide) hc (hG.later hx));have hF:=fok (t:=4) (by omega) (List.replicate 16 0) (by decide);rw[show szN 4=8 from rfl] at HNEW hF;obtain⟨f,hf⟩:∃f,cf 4 (List.replicate 16 0)=f:=⟨_,rfl⟩;rw[hf] at HNEW hF;have HF:=hid hF;clear hG hf hF;go_enter Tryz.func10,Tryz.ntmps10;go_wp2_with (at_make;refine zaP rfl (.const (.int .i64 16)) (.const (.int .i64 16)) 22 rfl Tryz.underlying22 Tryz.info5 .i64 _ 16 rfl rfl rfl (by omega) w.heap.size (Nat.le_refl _) ?_;intro w2 hown2 hb2 _)
 obtain⟨A2,c2,e2,hc2,hr2,_⟩:=hown2.rdcb (n:=16) rfl;have HX2:=hid (show Ext w w2 from hb2);have HR2:=hid hr2;have HC2:=hid hc2;rw[e2];clear hown2 hb2 hr2 e2 hc2;refine(HNEW.out w2 A2 c2 HR2.out HC2.out HX2.out).mono ?_;rintro e w3 ⟨p,rfl,_,hI,hx3⟩;have HX3:=hid (Ext.trans HX2.out hx3);have HI:=hid hI;clear hI hx3 HX2 HR2;go_wp2_with (at_make;refine zaP rfl (.const (.int .i64 8)) (.const (.int .i64 8)) 22 rfl Tryz.underlying22 Tryz.info5 .i64 _ 8 rfl rfl rfl (by omega) w3.heap.size (Nat.le_refl _) ?_;intro w4 hown4 hb4 _)
 obtain⟨A4,c4,e4,hc4,hr4,_⟩:=hown4.rdcb (n:=8) rfl;have HX4:=hid (Ext.trans HX3.out (show Ext w3 w4 from hb4));have HI4:=hid (HI.out.later (show Ext w3 w4 from hb4));rw[e4];clear hown4 hb4 hr4 e4 hc4 HI HX3;refine(tailS_short p 8 7 false f A4 c4 none 0 0 w4 (by omega) HI4.out (by omega)).mono ?_;rintro e w5 ⟨rfl,rfl⟩;obtain⟨X,hX⟩:∃X,zcB f 8 9 false (List.replicate 8 0) (List.replicate 11 0)=X:=⟨_,rfl⟩;have HXE:=hid hX;clear hX;go_upto_region 5 with fail
 refine zlC mixed rfl (by kernel_rfl) (kV (knS p X)) (zdA _) (zab ⟨?_,?_,?_,?_,?_,?_,?_,?_,?_,trivial⟩) ?_
 ·intro a w hk;have s1:a.tmps.getD 1 undef=.pointer (some ⟨p,0,none⟩):=hk.was 1 (by kernel_rfl) rfl;exact zau rfl rfl s1 rfl
 ·intro a w hk;refine zai (v:=.slice (some ⟨w.heap.size,0,none⟩) 8 8) (w':=w.alloc (.cells (madeCells #[Value.int .u8 0] 8) 5)) rfl ?_ (Ext.alloc _ _) (mk_sl 8 w (by omega));simp only[execOp,Act.eval];rw[Sem.run_bind,mk8 w];rfl
 ·intro a w hk;refine zai (v:=.slice (some ⟨w.heap.size,0,none⟩) 11 11) (w':=w.alloc (.cells (madeCells #[Value.int .u8 0] 11) 5)) rfl ?_ (Ext.alloc _ _) (mk_sl 11 w (by omega));simp only[execOp,Act.eval];rw[Sem.run_bind,mk11 w];rfl
 ·intro a w hk;have s21:=hk.eq_ 0 21 (by kernel_rfl) rfl;obtain⟨A22,c22,s22,k22,r22⟩:=hk.val 1 22 (by kernel_rfl) rfl;obtain⟨A23,c23,s23,k23,r23⟩:=hk.val 2 23 (by kernel_rfl) rfl;exact za0 rfl rfl (by simp only[List.map_toArray,List.map_cons,List.map_nil,Act.eval,s21,s22,s23]<;>rfl) cfTail (tailS_any p 8 9 false f A22 c22 (List.replicate 8 0) A23 11 c23 (List.replicate 11 0) w (by omega) HF.out (by omega) (HI4.out.later hk.ext) r22 k22 r23 k23 (by omega) (by omega)) (fun e w1 hh=>by rw[HXE.out] at hh;obtain⟨A,c,rfl,hc,hr,hx,_⟩:=hh;exact⟨_,rfl,hx,A,c,rfl,hc,hr⟩)
 ·intro a w hk;obtain⟨A24,c24,s24,k24,r24⟩:=hk.val 3 24 (by kernel_rfl) rfl;exact zau rfl rfl s24 ⟨_,c24,rfl,k24,r24⟩
 ·intro a w hk;obtain⟨A20,c20,s20,k20,r20⟩:=hk.val 4 20 (by kernel_rfl) rfl;exact zfj rfl rfl s20 rfl ⟨_,_,rfl,k20,r20⟩
 ·intro a w hk;obtain⟨A20,c20,s20,k20,r20⟩:=hk.val 4 20 (by kernel_rfl) rfl;exact zfj rfl rfl s20 rfl rfl
 ·intro a w hk;obtain⟨A25,c25,s25,k25,r25⟩:=hk.val 5 25 (by kernel_rfl) rfl;exact zaM rfl rfl s25 ⟨_,c25,rfl,k25,r25⟩
 ·intro a w hk;have s26:=hk.eq_ 6 26 (by kernel_rfl) rfl;exact zaM rfl rfl s26 rfl
 ·intro a w6 hf;have s21:=hf.eq_ 0 21 (by kernel_rfl) rfl;obtain⟨A22,c22,s22,k22,r22⟩:=hf.val 1 22 (by kernel_rfl) rfl;obtain⟨A23,c23,s23,k23,r23⟩:=hf.val 2 23 (by kernel_rfl) rfl;obtain⟨A24,c24,s24,k24,r24⟩:=hf.val 3 24 (by kernel_rfl) rfl;obtain⟨A20,c20,s20,k20,r20⟩:=hf.val 4 20 (by kernel_rfl) rfl;obtain⟨A25,c25,s25,k25,r25⟩:=hf.val 5 25 (by kernel_rfl) rfl;have s26:=hf.eq_ 6 26 (by kernel_rfl) rfl;obtain⟨A5,c5,s5,k5,r5⟩:=hf.val 7 5 (by kernel_rfl) rfl;have s6:=hf.eq_ 8 6 (by kernel_rfl) rfl;have hx:=hf.ext;have e:=hf.frame;clear hf;simp only[zaT,Act.put,List.setIfInBounds_toArray,List.set_cons_zero,List.set_cons_succ,s21,s22,s23,s24,s20,s25,s26,s5,s6] at e;clear s21 s22 s23 s24 s20 s25 s26 s5 s6;subst e;have HXF:=hid (Ext.trans HX4.out hx);clear hx r22 k22 r23 k23 r24 k24 r20 k20 r25 k25 r5 k5;go_wp2_with fail
  go_ret;exact⟨rfl,HXF.out⟩
end Go.Proofs.YtokbbmngfogbbaaGreatDoor.C
