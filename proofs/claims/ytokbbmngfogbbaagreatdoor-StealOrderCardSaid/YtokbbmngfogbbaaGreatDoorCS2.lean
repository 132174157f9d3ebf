/- Ends that are stolen, as the program makes them: the cut block and the last one in one order, then turned as one row; own lemmas of the verifier, no statement is proved here. -/
import Derived.Test.YtokbbmngfogbbaaGreatDoorQC
namespace Go.Proofs.YtokbbmngfogbbaaGreatDoor.C
open Go.RowKit
set_option maxRecDepth 100000
set_option maxHeartbeats 8000000
def rotL(d:Nat)(b:List UInt8):List UInt8:=b.drop d++b.take d
theorem rot_zero(b:List UInt8):rotL 0 b=b:=by simp[rotL]
theorem rot_app(x y:List UInt8){d:Nat}(h:x.length=d):rotL d (x++y)=y++x:=by
 unfold rotL;rw[List.drop_left' h,List.take_left' h]
theorem zki(d:Nat)(b:List UInt8)(h:d<=b.length):(rotL d b).length=b.length:=by
 unfold rotL;rw[List.length_append,List.length_drop,List.length_take];omega
theorem turn_whole(b:List UInt8)(n f:Nat)(hb:b.length=n)(hf:f<n):zbe b n f 0=rotL f b:=by
 refine zpX (n:=n) (by simp[zbe]) (by rw[zki _ _ (by omega),hb]) fun k hk=>?_
 have e1:(zbe b n f 0).getD k 0=zd0 b n f 0 k:=by simp[zbe,List.getD,hk]
 have e2:zd0 b n f 0 k=b.getD ((f+k)%n) 0:=by apply UInt8.toNat_inj.1;rw[A.zs8 b n f 0 k (by omega)];have h1:=(b.getD ((f+k)%n) 0).toNat_lt;have h2:=(b.getD ((f+k+1)%n) 0).toNat_lt;rw[Nat.pow_zero,Nat.mul_one,Nat.mod_eq_of_lt (by omega),Nat.div_eq_of_lt (by simpa using h2),Nat.or_zero]
 rw[e1,e2];unfold rotL;by_cases h:f+k<n
 ·rw[zdO _ _ _ (by rw[List.length_drop];omega),getD_drop,Nat.mod_eq_of_lt h]
 ·have e3:(f+k)%n=f+k-n:=by rw[Nat.mod_eq_sub_mod (by omega),Nat.mod_eq_of_lt (by omega)]
  rw[zej _ _ _ (by rw[List.length_drop];omega),List.length_drop,getD_take _ _ _ (by omega),e3,hb];congr 1;omega
theorem turn_t(b:List UInt8)(N D:Nat)(hb:b.length=N)(hD:D<N)(t:Int)(ht:t=8*(D:Int)):zbe b N (tf t N) (ts t)=rotL D b:=by
 have e1:tf t N=D:=by unfold tf;rw[ht,Int.mul_ediv_cancel_left _ (by omega),Int.emod_eq_of_lt (by omega) (by omega)];rfl
 have e2:ts t=0:=by unfold ts;omega
 rw[e1,e2,turn_whole b N D hb hD]
theorem turn_u(b:List UInt8)(N D:Nat)(hb:b.length=N)(hD:D<N)(t:Int)(ht:t = -(8*(D:Int))):zbe b N (tf t N) (ts t)=if D=0 then b else rotL (N-D) b:=by
 have e2:ts t=0:=by unfold ts;omega
 split
 ·next h=>rw[show t=8*((0:Nat):Int) by omega,turn_t b N 0 hb (by omega) _ rfl,rot_zero]
 ·have e1:tf t N=N-D:=by
   unfold tf;have e3:t/8 = -(D:Int):=by omega
   have e4:(-(D:Int))%(N:Int)=(N:Int)-D:=by rw[<-Int.add_emod_right,Int.emod_eq_of_lt (by omega) (by omega)];omega
   rw[e3,e4];omega
  rw[e1,e2,turn_whole b N _ hb (by omega)]
def stN(m d n:Nat):Nat:=if swp m d n then d else 0
section
variable (f:Bool->List UInt8->List UInt8) (n:Nat)
def chF(l b:List UInt8):List UInt8:=if b.length=n then stX f n l b else thX f n l b++thY f n l b
def unF(l b:List UInt8):List UInt8:=if b.length=n then xorL (f true b) l n else bk f n l (b.take (b.length-n)) (b.drop (b.length-n))
def unr(m:Nat)(b:List UInt8):List UInt8:=if stN m (b.length-n) n=0 then b else rotL (b.length-stN m (b.length-n) n) b
end
section
variable {f:Bool->List UInt8->List UInt8} {n:Nat}
theorem stN_le(m d:Nat):stN m d n<=d:=by unfold stN;split<;>omega
theorem tail_there(h:FOk f n)(m:Nat)(l b:List UInt8)(_h1:n<=b.length)(h2:b.length<=2*n):zcB f n m false l b=rotL (stN m (b.length-n) n) (chF f n l b):=by
 unfold chF;by_cases hn:b.length=n
 ·have e:stN m (b.length-n) n=0:=by have:=stN_le (n:=n) m (b.length-n);omega
  rw[zm8 m l hn,if_pos hn,e,rot_zero]
 ·have hx:=zj4 h l b h2;rw[zfU m l hn,if_neg hn];unfold stN;split
  ·rw[rot_app _ _ hx]
  ·rw[rot_zero]
theorem tail_undo(m:Nat)(l b:List UInt8)(h1:n<=b.length):zcB f n m true l b=unF f n l (unr n m b):=by
 unfold unr;by_cases hn:b.length=n
 ·have e:stN m (b.length-n) n=0:=by have:=stN_le (n:=n) m (b.length-n);omega
  rw[if_pos e,zm m l hn];unfold unF;rw[if_pos hn]
 ·rw[zhY m l hn];unfold stN;by_cases hs:swp m (b.length-n) n=true
  ·have hd:(b.drop n).length=b.length-n:=List.length_drop;rw[if_pos hs,if_pos hs,if_neg (by omega),Nat.sub_sub_self h1];unfold unF;have e:(rotL n b).length=b.length:=zki _ _ h1;rw[e,if_neg hn];unfold rotL;rw[List.take_left' hd,List.drop_left' hd]
  ·rw[if_neg hs,if_neg hs,if_pos rfl];unfold unF;rw[if_neg hn]
theorem unr_len(m:Nat)(b:List UInt8):(unr n m b).length=b.length:=by
 unfold unr;split
 ·rfl
 ·exact zki _ _ (by omega)
theorem chF_len(h:FOk f n)(l b:List UInt8)(h1:n<=b.length)(h2:b.length<=2*n):(chF f n l b).length=b.length:=by
 have hx:=zj4 h l b h2;have hy:=zn6 h l b;unfold chF;split
 ·rw[zj9 h];omega
 ·rw[List.length_append];omega
end
end Go.Proofs.YtokbbmngfogbbaaGreatDoor.C
