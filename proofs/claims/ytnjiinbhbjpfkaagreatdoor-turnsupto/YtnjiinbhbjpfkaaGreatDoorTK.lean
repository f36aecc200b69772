import Derived.Test.YtnjiinbhbjpfkaaGreatDoorTB
import Derived.Test.YtnjiinbhbjpfkaaGreatDoorTC
import Derived.Shelf.Spec.SlicesInsertGrow
import Derived.Test.YtnjiinbhbjpfkaaGreatDoorCards
import Derived.Test.YtnjiinbhbjpfkaaGreatDoorTie
import Derived.LaidMore
import Derived.OpenShut
import Derived.Stop.Joined
import Derived.Lib.SmallJoins
import Derived.Carry
import Derived.ChangeSlices
set_option maxRecDepth 100000
set_option maxHeartbeats 0
set_option linter.all false
namespace Go.Proofs.YtnjiinbhbjpfkaaGreatDoor
open Go.RowKit Go.Proofs.Tryz
section
variable {g m:Nat}{i u:Value}{o:Oper}{s:ByteArray}{w w' w1:aa}{xs:List B.V}
theorem ofInt64(a:Nat)(e:a<65536):(BitVec.ofInt 64 (a:Int)).toNat=a:=by
 grind
theorem A5(a b:Nat)(y:a<256)(u:b<256):bits .or .i64 ((a:Int)*256) (b:Int)=256*(a:Int)+(b:Int):=by
 have o:a*256 ||| b=256*a+b:=by
  have:=Nat.shiftLeft_add_eq_or_of_lt (i:=8) (b:=b) ag a;rw[Nat.shiftLeft_eq,show(2:Nat) ^ 8=256 from rfl]at this;omega
 have e:((a:Int)*256)=((a*256:Nat):Int):=ag;rw[e];show IntKind.i64.wrap ((BitVec.ofInt 64 ((a*256:Nat):Int) ||| BitVec.ofInt 64 (b:Int)).toNat:Int)=_;grind[BitVec.toNat_or,ofInt64,IntWalk.i64_left,IntWalk.wrap64_in]
theorem wJ(b:Nat)(s:ByteArray)(p:Nat)(f r l:Int)(w:aa)(h:w.heap[b]? = some (iK s p f r l))(i:s.size<=9223372036854775807)(y:p<=s.size)(o:s.size<p+2): dD 216 #[.pointer (some (ay b 0))] w (.bool false) λw'=>∃n,w'=(w.drewN n).setCell (ay b 1) (aj s.size):=by
 obtain⟨c0,c1,_,_,_⟩:=fA h;obtain⟨u,_⟩:=iZ h;delta dD;go_in;go_wp2
 go_quiet (fail)
 go_wp2
 go_ret;exact⟨rfl,_,rfl⟩
theorem zM(b:Nat)(s:ByteArray)(p:Nat)(f r l:Int)(w:aa)(h:w.heap[b]? = some (iK s p f r l))(hs:s.size<=9223372036854775807)(h1:p+2<=s.size)(h2:256*(s[p].toNat:Int)+(s[p+1].toNat:Int)<=l): dD 216 #[.pointer (some (ay b 0))] w (.bool true) λw'=>∃n,w'=(w.drewN n).setCell (ay b 1) (aj (p+2)):=by
 obtain⟨c0,c1,_,_,c4⟩:=fA h;obtain⟨f1,_⟩:=iZ h;have i:s[p].toNat<256:=fg _;have o:s[p+1].toNat<256:=fg _;have hp:p<s.size:=ag
 have H:p+1<s.size:=ag
 have a0:IntKind.i64.wrap ((p:Int)+1)=(p:Int)+1:=iU
 have G:IntKind.i64.wrap (s[p].toNat:Int)=(s[p].toNat:Int):=iU
 have Z:IntKind.i64.wrap ((s[p].toNat:Int)*256)=(s[p].toNat:Int)*256:=iU
 have u:IntKind.i64.wrap (s[p+1].toNat:Int)=(s[p+1].toNat:Int):=iU
 have Y:=A5 s[p].toNat s[p+1].toNat i o;have W:((p:Int)+1).toNat=p+1:=ag
 have J:(p:Int)+1<(s.size:Int):=ag
 have y:(0:Int)<=p+1:=ag
 delta dD;go_in;go_wp2
 go_quiet (fail)
 go_wp2
 go_quiet (fail)
 go_wp2
 go_ret;exact⟨rfl,_,rfl⟩
theorem BV(b:Nat)(s:ByteArray)(p:Nat)(f r l:Int)(w:aa)(h:w.heap[b]? = some (iK s p f r l))(hs:s.size<=9223372036854775807)(h1:p+2<=s.size)(h2:l<256*(s[p].toNat:Int)+(s[p+1].toNat:Int)): dD 216 #[.pointer (some (ay b 0))] w (.bool false) λw'=>∃n,w'=w.drewN n:=by
 obtain⟨c0,c1,_,_,c4⟩:=fA h;have i:s[p].toNat<256:=fg _;have o:s[p+1].toNat<256:=fg _;have hp:p<s.size:=ag
 have H:p+1<s.size:=ag
 have a0:IntKind.i64.wrap ((p:Int)+1)=(p:Int)+1:=iU
 have G:IntKind.i64.wrap (s[p].toNat:Int)=(s[p].toNat:Int):=iU
 have Z:IntKind.i64.wrap ((s[p].toNat:Int)*256)=(s[p].toNat:Int)*256:=iU
 have u:IntKind.i64.wrap (s[p+1].toNat:Int)=(s[p+1].toNat:Int):=iU
 have Y:=A5 s[p].toNat s[p+1].toNat i o;have W:((p:Int)+1).toNat=p+1:=ag
 have J:(p:Int)+1<(s.size:Int):=ag
 have y:(0:Int)<=p+1:=ag
 delta dD;go_in;go_wp2
 go_quiet (fail)
 go_wp2
 go_quiet (fail)
 go_wp2
 go_ret;exact⟨rfl,_,World.drewN_drewN _ _ _⟩
theorem yp(b:Nat)(s:ByteArray)(p L:Nat)(f r l:Int)(w:aa)(h:w.heap[b]? = some (iK s p f r l))(H:s.size<=maxLen)(J:p<=s.size)(W:l=L): dD 216 #[.pointer (some (ay b 0))] w (.bool (M.wI s p L).2) λw'=>w'.heap[b]? = some (iK s ((M.wI s p L).1:Nat) f r l)/\w.grownBy w' (some b):=by
 have i:s.size<=9223372036854775807:=by unfold maxLen at H;omega
 by_cases o:s.size<p+2
 .have e:M.wI s p L=(s.size,false):=by unfold M.wI;rw[bf o]
  rw[e];refine du (wJ b s p f r l w h i J o) ?_;rintro w' ⟨n,rfl⟩;exact⟨rfl,um (w:=w.drewN n) h _,bu (df (aw _ _) _) (af rfl) _⟩
 have G:=M.nu s p ag;have u:=M.nu s (p+1) ag;by_cases y:L<256*M.bt s p+M.bt s (p+1)
 .have e:M.wI s p L=(p,false):=by unfold M.wI;rw[au o,bf y]
  rw[e];refine du (BV b s p f r l w h i ag ag) ?_;simp_all[df,aw]
 have e:M.wI s p L=(p+2,true):=by unfold M.wI;rw[au o,au y]
 rw[e];refine du (zM b s p f r l w h i ag ag) ?_;rintro w' ⟨n,rfl⟩;exact⟨rfl,um (w:=w.drewN n) h _,bu (df (aw _ _) _) (af rfl) _⟩
theorem yT(b:Nat)(s:ByteArray)(k R F:Nat)(p f r l i:Int)(w:aa)(h:w.heap[b]? = some (iK s p f r l))(hr:r=R)(W:f=F)(J:1<=R)(h2:1<=F)(Y:R<=8)(h4:F<=8)(Z:i=k): Calls prog 217 #[.pointer (some ⟨b,0,none⟩),.int .u8 i] w λe w'=>e=.returned (.int .i64 (M.ko R F k))/\w'=w:=by
 obtain⟨_,_,c2,c3,_⟩:=fA h;have H:(M.ko R F k:Int)=if i=114 then r-1 else if i=102 then f-1 else if i=115 then 8 else if i=107 then 255 else 0:=by
  unfold M.ko;repeat' split
  all_goals omega
 rw[H]
 by_cases y:i=114
 .subst y;go_in;go_wp2
  go_ret;simp_all
 have q1:(i == 114)=false:=gG y
 rw[au y]
 by_cases G:i=102
 .subst G;go_in;go_wp2
  go_ret;simp_all
 have q2:(i == 102)=false:=gG G
 rw[au G]
 by_cases u:i=115
 .subst u;go_in;go_wp2
  go_ret;simp_all
 have q3:(i == 115)=false:=gG u
 rw[au u]
 by_cases o:i=107
 .subst o;go_in;go_wp2
  go_ret;simp_all
 have q4:(i == 107)=false:=gG o
 rw[au o]
 go_in;go_wp2
 go_ret;simp_all
theorem qX(b:Nat)(s S:ByteArray)(p R F L:Nat)(f r l:Int)(w:aa)(h:w.heap[b]? = some (iK s p f r l))(hs:s.size<=maxLen)(hS:S.size<=3)(hp:p<=s.size)(hr:Hid (r=R))(hf:Hid (f=F))(hl:Hid (l=L))(h1:1<=R)(h2:1<=F)(h3:R<=8)(h4:F<=8): dD 197 #[.pointer (some (ay b 0)),.string S] w (.bool (M.ops s R F L (M.fR S) p).2) λw'=>w'.heap[b]? = some (iK s ((M.ops s R F L (M.fR S) p).1:Nat) f r l)/\w.grownBy w' (some b):=by
 have HS:Hid (s.size<=maxLen):=hs;delta dD;go_in;go_wp2
 go_loopw [10] (λi wr=>∃k q:Nat,k<=S.size/\q<=s.size/\i=aj k/\Hid (wr.heap[b]? = some (iK s q f r l))/\w.grownBy wr (some b)/\Hid (M.ops s R F L ((M.fR S).drop k) q=M.ops s R F L (M.fR S) p)) (λi _=>S.size-(intOf i).toNat)
 case atStart=>exact⟨0,p,ag,hp,rfl,h,aw _ _,rfl⟩
 case round=>
  obtain⟨k,q,hk,hq,rfl,G,Y,Z⟩:=hrel;by_cases a2:k<S.size
  .have y:Hid (M.ops s R F L (M.fR S) p=if S[k].toNat=116 then M.wI s q L else if M.tk s q 0 (M.ko R F S[k].toNat)=true then M.ops s R F L ((M.fR S).drop (k+1)) (q+1) else(q,false)):=by
    show _=_;rw[<-Z.out,M.mj S k a2];rfl
   by_cases ht:S[k].toNat=116
   .have o:Hid (M.ops s R F L (M.fR S) p=M.wI s q L):=by show _=_;rw[y.out,bf ht]
    go_wp2_with fail
    refine du (yp b s q L f r l _ G HS hq hl) ?_;rintro w1 ⟨J,a0⟩;go_wp2
    go_ret;refine⟨?_,?_,ar Y a0⟩
    .rw[o.out];rfl
    rw[o.out];exact J
   have a1:((S[k].toNat:Int) == 116)=false:=fH;rw[au ht]at y;go_wp2_with fail
   refine du (yT b s S[k].toNat R F q f r l _ _ G hr hf h1 h2 h3 h4 rfl) ?_;rintro w1 rfl;go_wp2_with fail
   by_cases u:M.tk s q 0 (M.ko R F S[k].toNat)=true
   .have o:Hid (M.ops s R F L (M.fR S) p=M.ops s R F L ((M.fR S).drop (k+1)) (q+1)):=by show _=_;rw[y.out,bf u]
    have a3:=(M.gU u).1;refine du (kZ b s q 0 _ f r l _ _ _ G HS rfl rfl u) ?_;rintro w2 ⟨J,H⟩;have HH:Hid (w2.heap[b]? = some (iK s ((q+1:Nat):Int) f r l)):=J;go_wp2
    go_roundw
    case rel=>exact⟨k+1,q+1,ag,ag,iA,HH,ar Y H,o.symm⟩
    case measure=>simp[intOf];omega
   have o:Hid (M.ops s R F L (M.fR S) p=(q,false)):=by show _=_;rw[y.out,au u]
   refine du (pa b s q 0 _ f r l _ _ _ G hq rfl rfl (gG u)) ?_;rintro w2 ⟨J,H⟩;have HH:Hid (w2.heap[b]? = some (iK s q f r l)):=J;go_wp2
   go_ret;refine⟨?_,?_,ar Y H⟩
   .rw[o.out];rfl
   rw[o.out];exact HH
  obtain rfl:k=S.size:=by omega
  have o:Hid (M.ops s R F L (M.fR S) p=(q,true)):=by
   show _=_;rw[<-Z.out,M.sM];rfl
  go_wp2
  go_ret;refine⟨?_,?_,Y⟩
  .rw[o.out];rfl
  rw[o.out];exact G
def og(w:aa):Prop:=0<w.heap.size/\∀op,op<23->w.cell? ⟨0,op,none⟩=some (.string (M.KS op))
theorem og.kept{b:Nat}(h:og w)(o:w.grownBy w' (some b))(y:b≠0):og w':=
 ⟨dm h.1 o.size,λi u=>(az (a:=ay 0 i) (o.block 0 h.1 eR)).trans (h.2 i u)⟩
def og.alloc(h:og w)(o:Obj):og (w.alloc o):=h.kept (b:=1) (ak _ _ _) ag
def xH(s:ByteArray)(p:Nat)(e:Ending)(ok:Bool):Prop:=∃a0 a1 a2 a3:Int,e=.returned (.tuple #[.agg #[.int .u8 a0,.int .u8 a1,.int .u8 a2,.int .u8 a3],.bool ok])/\(ok=true->a0=(M.bt s p:Int)/\a1=(M.bt s (p+1):Int)/\a2=(M.bt s (p+2):Int)/\a3=(M.bt s (p+3):Int))
def mn{b:Nat}{p f r l:Int}(h:w.heap[b]? = some (iK s p f r l))(o:Obj):(w.alloc o).heap[b]? = some (iK s p f r l):=(av _ _ _ (ch h)).trans h
theorem qx{b k:Nat}{G o:Value}{T:TypeId}(h:w.heap[k]? = some (.cells #[G,u,i,o] T (0,0)))(H:w.grownBy w1 (some b))(J:k≠b): k<w1.heap.size/\w1.cell? (ay k 0)=some G/\w1.cell? (ay k 1)=some u/\w1.cell? (ay k 2)=some i/\w1.cell? (ay k 3)=some o /\ w1.frozen? (ay k 0)=false/\w1.frozen? (ay k 1)=false/\w1.frozen? (ay k 2)=false/\w1.frozen? (ay k 3)=false:=by
 have y:=da H h eR;grind[ch,World.cell?,World.frozen?]
theorem ts(b:Nat)(s:ByteArray)(p:Nat)(f r l:Int)(w:aa)(h:w.heap[b]? = some (iK s p f r l))(y:p<=s.size)(ht:M.tk s p 0 22=false): Calls prog 147 #[.pointer (some (ay b 0))] w λe w'=>xH s p e false/\w'.heap[b]? = some (iK s p f r l)/\w.grownBy w' (some b):=by
 have hb:=ch h;obtain⟨c0,c1,_,_,_⟩:=fA h;have H:Hid (w.heap[b]? = some (iK s p f r l)):=h;go_in;go_wp2_with fail
 refine du (pa b s p 0 22 f r l _ _ _ (mn H _) y rfl rfl ht) ?_;rintro w1 ⟨i,o⟩;obtain⟨hz,d0,Y,d2,J,Z,e1,W,G⟩:=qx (k:=w.heap.size) (bl w _) o ag;have u:Hid (w1.heap[b]? = some (iK s p f r l)):=i;go_wp2
 refine dg (v:=.tuple #[.agg #[dy 0,dy 0,dy 0,dy 0],.bool false]) (by simp[results,results147,go_sem, *]) rfl ⟨⟨0,0,0,0,rfl,λh=>by cases h⟩,?_,?_⟩
 .grind[Below.heap_setCell]
 repeat (refine bu ?_ (ah eB) _)
 exact ar (ak _ _ _) o
theorem tn(b:Nat)(s:ByteArray)(p R F L:Nat)(f r l:Int)(w:aa)(h:w.heap[b]? = some (iK s p f r l))(hs:s.size<=maxLen)(W:b≠0)(Z:og w)(hr:Hid (r=R))(hf:Hid (f=F))(hl:Hid (l=L))(h1:1<=R)(h2:1<=F)(h3:R<=8)(h4:F<=8)(ht:M.tk s p 0 22=true)(ho:Hid ((M.tJ s (p+1) (M.bt s p) R F L).2=false)): Calls prog 147 #[.pointer (some (ay b 0))] w λe w'=>xH s p e false/\w'.heap[b]? = some (iK s ((M.tJ s (p+1) (M.bt s p) R F L).1:Nat) f r l)/\w.grownBy w' (some b):=by
 have hb:=ch h;obtain⟨c0,c1,_,_,_⟩:=fA h;have H:Hid (w.heap[b]? = some (iK s p f r l)):=h;have HS:Hid (s.size<=maxLen):=hs;obtain⟨hp,_,a1⟩:=M.gU ht;have HO:Hid (M.ops s R F L (M.fR (M.KS (M.bt s p))) (p+1)=M.tJ s (p+1) (M.bt s p) R F L):=by
  show _=_;rw[(M.oh _ ag).1,M.A6 _ _ _ _ _ _ ag]
 have HK:Hid ((M.KS (M.bt s p)).size<=3):=by show _<=_;rw[(M.oh _ ag).2];exact bq _
 have HT:Hid (M.tk s p 0 22=true):=ht;have y:Hid (og w):=Z;go_in;go_wp2_with fail
 refine du (kZ b s p 0 22 f r l _ _ _ (mn H _) HS rfl rfl HT) ?_;rintro w1 ⟨o,J⟩;have i:=(y.alloc _).kept J W;have hc:=i.2 (M.bt s p) ag;have HH:Hid (w1.heap[b]? = some (iK s ((p+1:Nat):Int) f r l)):=o;generalize Y:M.bt s p=q at *;have HQ:Hid (M.bt s p=q):=Y;go_wp2_with fail
 refine du (qX b s (M.KS q) (p+1) R F L f r l _ HH HS HK ag hr hf hl h1 h2 h3 h4) ?_;rintro w2 ⟨o,u⟩;rw[HO.out]at o ⊢;rw[ho.out];obtain⟨hz,d0,d1,d2,d3,e0,e1,e2,e3⟩:=qx (k:=w.heap.size) (bl w _) (ar J u) ag;have G:Hid (w2.heap[b]? = some (iK s ((M.tJ s (p+1) q R F L).1:Nat) f r l)):=o;go_wp2
 refine dg (v:=.tuple #[.agg #[dy 0,dy 0,dy 0,dy 0],.bool false]) (by simp[results,results147,go_sem, *]) rfl ⟨⟨0,0,0,0,rfl,λh=>by cases h⟩,?_,?_⟩
 .grind[Below.heap_setCell]
 repeat (refine bu ?_ (ah eB) _)
 exact ar (ar (ak _ _ _) J) u
theorem tm(b:Nat)(s:ByteArray)(p R F L:Nat)(f r l:Int)(w:aa)(h:w.heap[b]? = some (iK s p f r l))(hs:s.size<=maxLen)(Y:b≠0)(hT:og w)(hr:Hid (r=R))(hf:Hid (f=F))(hl:Hid (l=L))(h1:1<=R)(h2:1<=F)(h3:R<=8)(h4:F<=8)(ht:M.tk s p 0 22=true)(Z:Hid ((M.tJ s (p+1) (M.bt s p) R F L).2=true)): Calls prog 147 #[.pointer (some (ay b 0))] w λe w'=>xH s p e true/\w'.heap[b]? = some (iK s ((p+4:Nat):Int) f r l)/\w.grownBy w' (some b):=by
 have hb:=ch h;obtain⟨c0,c1,_,_,_⟩:=fA h;have H:Hid (w.heap[b]? = some (iK s p f r l)):=h;have HS:Hid (s.size<=maxLen):=hs;obtain⟨hp,_,a1⟩:=M.gU ht;have HO:Hid (M.ops s R F L (M.fR (M.KS (M.bt s p))) (p+1)=M.tJ s (p+1) (M.bt s p) R F L):=by
  show _=_;rw[(M.oh _ ag).1,M.A6 _ _ _ _ _ _ ag]
 have HK:Hid ((M.KS (M.bt s p)).size<=3):=by show _<=_;rw[(M.oh _ ag).2];exact bq _
 have HT:Hid (M.tk s p 0 22=true):=ht;have y:Hid (og w):=hT;clear h hs ht hT;go_in;go_wp2_with fail
 refine du (kZ b s p 0 22 f r l _ _ _ (mn H _) HS rfl rfl HT) ?_;rintro w1 ⟨i,G⟩;have o:=(y.alloc _).kept G Y;have hc:=o.2 (M.bt s p) ag;have HH:Hid (w1.heap[b]? = some (iK s ((p+1:Nat):Int) f r l)):=i;clear i;generalize hq:M.bt s p=q at *;clear hq o;go_wp2_with fail
 refine du (qX b s (M.KS q) (p+1) R F L f r l _ HH HS HK ag hr hf hl h1 h2 h3 h4) ?_;rintro w2 ⟨i,u⟩;rw[HO.out]at i ⊢;rw[Z.out];rw[M.tI Z]at i;have J:=(M.Ek (s:=s) (p:=p+1) (op:=q) (r:=R) (f:=F) (l:=L) ag).2;rw[M.tI Z]at J;obtain⟨hz,d0,d1,d2,d3,e0,e1,e2,e3⟩:=qx (k:=w.heap.size) (bl w _) (ar G u) ag;have W:Hid (w2.heap[b]? = some (iK s ((p+4:Nat):Int) f r l)):=i;obtain⟨x0,x1,_,_,_⟩:=fA i;clear i;go_wp2
 go_quiet (fail)
 go_wp2_with fail
 have h4:(s.extract p (p+1+3)).size=4:=fH
 have HX:Hid (M.bt (s.extract p (p+1+3)) 0=M.bt s p/\M.bt (s.extract p (p+1+3)) 1=M.bt s (p+1)/\M.bt (s.extract p (p+1+3)) 2=M.bt s (p+2)/\M.bt (s.extract p (p+1+3)) 3=M.bt s (p+3)):=
  ⟨M.oG s p _ 0 ag ag,M.oG s p _ 1 ag ag,M.oG s p _ 2 ag ag,M.oG s p _ 3 ag ag⟩
 generalize s.extract p (p+1+3)=x at *;go_region
 go_wp2
 refine dg (v:=.tuple #[.agg #[dy (x[0].toNat:Int),dy (x[1].toNat:Int),dy (x[2].toNat:Int),dy (x[3].toNat:Int)],.bool true]) (by simp[results,results147,go_sem, *]) rfl ⟨⟨_,_,_,_,rfl,λ_=>?_⟩,?_,?_⟩
 .obtain⟨k0,k1,k2,k3⟩:=HX;rw[M.nu x 0 ag]at k0;rw[M.nu x 1 ag]at k1;rw[M.nu x 2 ag]at k2;rw[M.nu x 3 ag]at k3;rw[k0,k1,k2,k3];exact⟨rfl,rfl,rfl,rfl⟩
 .repeat (rw[ab _ _ _ _ fH])
  exact W
 repeat (refine bu ?_ (ah eB) _)
 exact df (ar (ar (ak _ _ _) G) u) _
theorem tu(b:Nat)(s:ByteArray)(p R F L:Nat)(f r l:Int)(w:aa)(h:w.heap[b]? = some (iK s p f r l))(J:s.size<=maxLen)(hp:p<=s.size)(o:b≠0)(H:og w)(y:Hid (r=R))(W:Hid (f=F))(hl:Hid (l=L))(G:1<=R)(Z:1<=F)(Y:R<=8)(h4:F<=8): Calls prog 147 #[.pointer (some (ay b 0))] w λe w'=>xH s p e (M.ins s p R F L).2/\w'.heap[b]? = some (iK s ((M.ins s p R F L).1:Nat) f r l)/\w.grownBy w' (some b):=by
 by_cases ht:M.tk s p 0 22=true
 .have e:M.ins s p R F L=M.tJ s (p+1) (M.bt s p) R F L:=by unfold M.ins;rw[bf ht]
  rw[e];by_cases u:(M.tJ s (p+1) (M.bt s p) R F L).2=true
  .rw[u,M.tI u];exact tm b s p R F L f r l w h J o H y W hl G Z Y h4 ht u
  have i:(M.tJ s (p+1) (M.bt s p) R F L).2=false:=gG u;rw[i];exact tn b s p R F L f r l w h J o H y W hl G Z Y h4 ht i
 have e:M.ins s p R F L=(p,false):=by unfold M.ins;rw[au ht]
 grind[ts]
def qh(s:ByteArray)(p:Nat):Nat->Value:=λj=>.int .u8 (M.bt s (p+j):Int)
def BH(s:ByteArray)(p:Nat)(w w':aa)(e:Ending)(ok:Bool):Prop:=∃(x:Int) (ad:Option Addr) (n c:Nat),e=.returned (.tuple #[.agg #[.int .i64 x,.slice ad n c],.bool ok]) /\
 (ok=true->x=(M.bt s p:Int)/\n=M.bt s (p+1)/\c=n/\∃g,w.heap.size<=g/\ad=some ⟨g,0,none⟩/\Full w' g 183 (n*4) (n*4) (qh s (p+2)))
def Tryz.Hb:(prog.info? 183).map (λi=>(i.zero,i.size,i.bytes))=some (some (.agg #[dy 0,dy 0,dy 0,dy 0]),4,4):=by kernel_rfl
theorem kX{b k:Nat}{T:TypeId}(h:w.heap[k]? = some (.cells #[u,i] T (0,0)))(y:w.grownBy w1 (some b))(G:k≠b): k<w1.heap.size/\w1.cell? (ay k 0)=some u/\w1.cell? (ay k 1)=some i/\w1.frozen? (ay k 0)=false/\w1.frozen? (ay k 1)=false:=by
 have o:=da y h eR;grind[ch,World.cell?,World.frozen?]
theorem xp(b:Nat)(s:ByteArray)(p F:Nat)(f r l:Int)(w:aa)(h:w.heap[b]? = some (iK s p f r l))(hs:s.size<=maxLen)(Y:b≠0)(hT:og w)(hf:Hid (f=F))(h2:1<=F)(h4:F<=8)(aH:M.tk s p 2 8=true)(aB:M.tk s (p+1) 1 200=true): Calls prog 82 #[.pointer (some (ay b 0))] w λe w'=>BH s p w w' e (M.fn s p F).2/\∃r' l',w'.heap[b]? = some (iK s ((M.fn s p F).1:Nat) f r' l')/\w.grownBy w' (some b):=by
 have hb:=ch h;have H:Hid (w.heap[b]? = some (iK s p f r l)):=h;have HS:Hid (s.size<=maxLen):=hs;have aJ:Hid (M.tk s p 2 8=true):=aH;have aG:Hid (M.tk s (p+1) 1 200=true):=aB;obtain⟨_,q1,q2⟩:=M.gU aH;obtain⟨_,q3,q4⟩:=M.gU aB;have Z:Hid (og w):=hT;clear h hs aH aB hT;go_in;go_wp2_with fail
 refine du (kZ b s p 2 8 f r l _ _ _ (mn H _) HS rfl rfl aJ) ?_;rintro w1 ⟨G,hg⟩;have HH:Hid (w1.heap[b]? = some (iK s ((p+1:Nat):Int) f r l)):=G;obtain⟨_,_,_,x3,_⟩:=fA G;obtain⟨_,_,y3,y4⟩:=iZ G;clear G;generalize hR:M.bt s p=R at *;have HR:Hid (M.bt s p=R):=hR;clear hR;go_wp2_with fail
 refine du (kZ b s (p+1) 1 200 f R l _ _ _ (uk HH _) HS rfl rfl aG) ?_;rintro w2 ⟨G,a8⟩;have aD:Hid (w2.heap[b]? = some (iK s ((p+1+1:Nat):Int) f R l)):=G;obtain⟨_,_,_,z3,z4⟩:=fA G;obtain⟨_,_,_,u4⟩:=iZ G;clear G;generalize hL:M.bt s (p+1)=L at *;have HL:Hid (M.bt s (p+1)=L):=hL;clear hL x3 y3 y4;obtain⟨i0,hi,aS,aO,aN⟩:=info_parts Tryz.Hb;go_wp2_with (at_make;go_loud (refine wpList_make_full _ rfl _ _ 176 rfl 0 183 i0 _ 4 underlying176 hi aS aO _ _ _ _ L rfl rfl rfl rfl eR pY (dk _) ?_))
 intro w3 a9 aA;have u:(w2.setCell (ay b 4) (aj L)).grownBy w3 (some b):=eT aA;have gA:w.grownBy (w2.setCell (ay b 4) (aj L)) (some b):=bu (ar (bu (ar (ak _ _ _) hg) (af rfl) _) a8) (af rfl) _;have gB:(w.alloc (.cells #[aj 0,.slice none 0 0] 178)).grownBy w3 (some b):=ar (bu (ar (bu hg (af rfl) _) a8) (af rfl) _) u;have KB:Hid (w3.heap[b]? = some (iK s ((p+2:Nat):Int) f R L)):=by
  show _=_;rw[aA.block b (by have:=ch aD;simpa[World.setCell] using this) im];exact yv aD _
 have KG:Hid (w.grownBy w3 (some b)):=ar gA u;have KR:Hid (w3.heap[w.heap.size]? = some (.cells #[aj 0,.slice none 0 0] 178 (0,0))):=da gB (bl w _) F1;have KT:Hid (og w3):=Z.kept KG Y;have KW:Hid (Full w3 w2.heap.size 183 (L*4) (0*4) (qh s (p+2))):=(jF.owned a9).full _;have aY:w.heap.size<w2.heap.size:=by have:=hg.size;have:=a8.size;simp[World.setCell]at *;omega
 have aL:Hid (og w):=Z.out;clear a9 aA u gA gB HH aD z3 z4 u4 hg a8 Z;generalize w2.heap.size=g at *;have a6:Hid (M.fn s p F=M.code s R F L (p+2) L):=by
  show _=_;unfold M.fn;rw[bf aJ.out,bf aG.out,HR.out,HL.out]
 go_wp2
 go_loopw [36] (λi wr=>∃k q:Nat,k<=L/\q<=s.size/\i=aj k/\Hid (wr.heap[b]? = some (iK s q f R L))/\Hid (w.grownBy wr (some b))/\Hid (wr.heap[w.heap.size]? = some (.cells #[aj 0,.slice none 0 0] 178 (0,0)))/\Hid (og wr)/\Hid (Full wr g 183 (L*4) (k*4) (qh s (p+2)))/\Hid (q=p+2+4*k)/\Hid (M.code s R F L q (L-k)=M.code s R F L (p+2) L)) (λi _=>L-(intOf i).toNat)
 case atStart=>exact⟨0,p+2,ag,ag,rfl,KB,KG,KR,KT,KW,rfl,rfl⟩
 case round=>
  obtain⟨k,q,hk,hq,rfl,rB,rG,rR,rT,rW,rQ,rC⟩:=hrel;clear KB KG KR KT KW;by_cases aW:k<L
  .go_wp2_with fail
   refine(tu b s q R F L f R L _ rB.out HS.out hq Y rT.out rfl hf rfl ag h2 q2 h4).mono ?_;rintro e w4 ⟨⟨a0,a1,a2,a3,rfl,hA⟩,G,u⟩;have HA:Hid ((M.ins s q R F L).2=true->a0=(M.bt s q:Int)/\a1=(M.bt s (q+1):Int)/\a2=(M.bt s (q+2):Int)/\a3=(M.bt s (q+3):Int)):=hA;clear hA;have aQ:g≠b:=ag
   have aR:w.heap.size≠b:=ag
   have W:Hid (Full w4 g 183 (L*4) (k*4) (qh s (p+2))):=rW.out.kept u aQ;have a5:Hid (w4.heap[b]? = some (iK s ((M.ins s q R F L).1:Nat) f R L)):=G;have a4:Hid (w.grownBy w4 (some b)):=ar rG.out u;have a7:Hid (w4.heap[w.heap.size]? = some (.cells #[aj 0,.slice none 0 0] 178 (0,0))):=da u rR.out F1;clear G u rB rG rR rT rW
   cases hok:(M.ins s q R F L).2
   .have HC:Hid (M.code s R F L (p+2) L=((M.ins s q R F L).1,false)):=by
     show _=_;rw[<-rC.out,show L-k=(L-(k+1))+1 by omega];unfold M.code;rw[au (by rw[hok];simp)]
    clear rC hok;simp only[];iterate 13 (first|go_values|go_skip|go_guarded|go_step|go_upon|go_back)
    refine wpList_store_mid rfl 183 (.tmp 46) (.tmp 44) rfl g (k*4) #[dy a0,dy a1,dy a2,dy a3] rfl rfl (W.out.zq.there _ _ fH) eX xI ?_;have aC:∃y,y=w4.setCells g (k*4) #[Value.int .u8 a0,dy a1,dy a2,dy a3].toList:=⟨_,rfl⟩;obtain⟨y,o⟩:=aC;have aE:Hid (y.heap[b]? = some (iK s ((M.ins s q R F L).1:Nat) f R L)):=by show _=_;rw[o,fJ g b ag];exact a5
    have J:Hid (w.grownBy y (some b)):=by show World.grownBy _ _ _;rw[o];exact iR g _ _ _ _ a4 ag
    have aF:Hid (y.heap[w.heap.size]? = some (.cells #[aj 0,.slice none 0 0] 178 (0,0))):=by show _=_;rw[o,fJ g _ ag];exact a7
    rw[<-o];clear o a5 a4 a7 W;obtain⟨aP,d0,d1,e0,e1⟩:=kX aF (aw y (some b)) aR;go_wp2
    refine dg (v:=.tuple #[.agg #[aj 0,.slice none 0 0],.bool false]) (by simp[results,results82,go_sem, *]) rfl ⟨?_,R,L,?_,?_⟩
    .rw[a6.out,HC.out];exact⟨_,_,_,_,rfl,λh=>by cases h⟩
    .rw[a6.out,HC.out];repeat (rw[ab _ _ _ _ fH])
     exact aE
    repeat (refine bu ?_ (ah eB) _)
    exact J
   have HC:Hid (M.code s R F L (M.ins s q R F L).1 (L-(k+1))=M.code s R F L (p+2) L):=by
    show _=_;rw[<-rC.out,show L-k=(L-(k+1))+1 by omega];conv=>rhs;unfold M.code
    rw[bf hok]
   have aT:=(M.An (s:=s) (p:=q) (r:=R) (f:=F) (l:=L) hq).2;have aM:Hid ((M.ins s q R F L).2=true):=hok;have KQ:Hid ((M.ins s q R F L).1=p+2+4*(k+1)):=by
    show _=_;have:=M.xi hok;have:=rQ.out;omega
   clear rC hok;simp only[];iterate 13 (first|go_values|go_skip|go_guarded|go_step|go_upon|go_back)
   refine wpList_store_mid rfl 183 (.tmp 46) (.tmp 44) rfl g (k*4) #[dy a0,dy a1,dy a2,dy a3] rfl rfl (W.zq.there _ _ fH) eX xI ?_;have aC:∃y,y=w4.setCells g (k*4) #[Value.int .u8 a0,dy a1,dy a2,dy a3].toList:=⟨_,rfl⟩;obtain⟨y,o⟩:=aC;have aE:Hid (y.heap[b]? = some (iK s ((M.ins s q R F L).1:Nat) f R L)):=by show _=_;rw[o,fJ g b ag];exact a5
   have J:Hid (w.grownBy y (some b)):=by show World.grownBy _ _ _;rw[o];exact iR g _ _ _ _ a4 ag
   have aF:Hid (y.heap[w.heap.size]? = some (.cells #[aj 0,.slice none 0 0] 178 (0,0))):=by show _=_;rw[o,fJ g _ ag];exact a7
   have aK:Hid (og y):=aL.kept J Y;have aV:Hid (Full y g 183 (L*4) ((k+1)*4) (qh s (p+2))):=by
    show Full _ _ _ _ _ _;rw[o,show(k+1)*4=k*4+4 by omega];obtain⟨rfl,rfl,rfl,rfl⟩:=HA aM;have aU:=rQ.out;refine W.Lt ag _ _ _ _ ?_ ?_ ?_ ?_<;>(unfold qh;rw[aU];congr 3;omega)
   rw[<-o];clear o a5 a4 a7 W HA aM rQ;generalize (M.ins s q R F L).1=q' at *;go_wp2
   go_roundw
   case rel=>exact⟨k+1,q',ag,aT,iA,aE,J,aF,aK,aV,KQ,HC⟩
   case measure=>simp[intOf];omega
  obtain rfl:k=L:=by omega
  have HC:Hid (M.code s R F k (p+2) k=(q,true)):=by
   show _=_;rw[<-rC.out,Nat.sub_self];rfl
  clear rC;obtain⟨aP,d0,d1,e0,e1⟩:=kX rR (aw wr (some b)) ag;obtain⟨_,_,_,x3,_⟩:=fA rB;go_wp2
  refine dg (v:=.tuple #[.agg #[aj R,dA g k k],.bool true]) (by simp[results,results82,go_sem, *]) rfl ⟨?_,R,k,?_,?_⟩
  .rw[a6.out,HC.out];refine⟨_,_,_,_,rfl,λ_=>⟨by rw[HR.out],by rw[HL.out],rfl,g,ag,rfl,rW.block ?_⟩⟩;repeat (rw[ab _ _ _ _ fH])
  .rw[a6.out,HC.out];repeat (rw[ab _ _ _ _ fH])
   exact rB
  repeat (refine bu ?_ (ah eB) _)
  exact rG
theorem xu(b:Nat)(s:ByteArray)(p:Nat)(f r l:Int)(w:aa)(h:w.heap[b]? = some (iK s p f r l))(Y:p<=s.size)(o:M.tk s p 2 8=false): Calls prog 82 #[.pointer (some (ay b 0))] w λe w'=>BH s p w w' e false/\∃J G,w'.heap[b]? = some (iK s p f J G)/\w.grownBy w' (some b):=by
 have hb:=ch h;have H:Hid (w.heap[b]? = some (iK s p f r l)):=h;go_in;go_wp2_with fail
 refine du (pa b s p 2 8 f r l _ _ _ (mn H _) Y rfl rfl o) ?_;rintro w1 ⟨i,u⟩;have W:Hid (w1.heap[b]? = some (iK s p f r l)):=i;obtain⟨_,_,_,Z,_⟩:=fA i;obtain⟨_,_,y3,y4⟩:=iZ i;obtain⟨y,d0,d1,e0,e1⟩:=kX (bl w (.cells #[aj 0,.slice none 0 0] 178)) u ag;go_wp2
 refine dg (v:=.tuple #[.agg #[aj 0,.slice none 0 0],.bool false]) (by simp[results,results82,go_sem, *]) rfl ⟨⟨_,_,_,_,rfl,λh=>by cases h⟩,0,l,?_,?_⟩
 .grind[Below.heap_setCell,uk]
 repeat (refine bu ?_ (by first|exact af rfl|grind) _)
 exact ar (ak _ _ _) u
theorem xr(b:Nat)(s:ByteArray)(p:Nat)(f r l:Int)(w:aa)(h:w.heap[b]? = some (iK s p f r l))(Y:s.size<=maxLen)(o:M.tk s p 2 8=true)(u:M.tk s (p+1) 1 200=false): Calls prog 82 #[.pointer (some (ay b 0))] w λe w'=>BH s p w w' e false/\∃r' l',w'.heap[b]? = some (iK s ((p+1:Nat):Int) f r' l')/\w.grownBy w' (some b):=by
 have hb:=ch h;have H:Hid (w.heap[b]? = some (iK s p f r l)):=h;have HS:Hid (s.size<=maxLen):=Y;have W:Hid (M.tk s p 2 8=true):=o;have J:Hid (M.tk s (p+1) 1 200=false):=u;obtain⟨hp,q1,q2⟩:=M.gU o;go_in;go_wp2_with fail
 refine du (kZ b s p 2 8 f r l _ _ _ (mn H _) HS rfl rfl W) ?_;rintro w1 ⟨i,hg⟩;have HH:Hid (w1.heap[b]? = some (iK s ((p+1:Nat):Int) f r l)):=i;obtain⟨_,_,_,x3,_⟩:=fA i;obtain⟨_,_,y3,y4⟩:=iZ i;generalize hR:M.bt s p=R at *;go_wp2_with fail
 refine du (pa b s (p+1) 1 200 f R l _ _ _ (uk HH _) ag rfl rfl J) ?_;rintro w2 ⟨i,G⟩;have y:Hid (w2.heap[b]? = some (iK s ((p+1:Nat):Int) f R l)):=i;obtain⟨_,_,_,_,z4⟩:=fA i;obtain⟨_,_,_,u4⟩:=iZ i;have Z:(w.alloc (.cells #[aj 0,.slice none 0 0] 178)).grownBy w2 (some b):=ar (bu hg (af rfl) _) G;obtain⟨a0,d0,d1,e0,e1⟩:=kX (bl w (.cells #[aj 0,.slice none 0 0] 178)) Z ag;go_wp2
 refine dg (v:=.tuple #[.agg #[aj 0,.slice none 0 0],.bool false]) (by simp[results,results82,go_sem, *]) rfl ⟨⟨_,_,_,_,rfl,λh=>by cases h⟩,R,0,?_,?_⟩
 .grind[Below.heap_setCell,yv]
 repeat (refine bu ?_ (by first|exact af rfl|grind) _)
 exact ar (ak _ _ _) Z
theorem vt(b:Nat)(s:ByteArray)(p F:Nat)(f r l:Int)(w:aa)(h:w.heap[b]? = some (iK s p f r l))(y:s.size<=maxLen)(hp:p<=s.size)(u:b≠0)(G:og w)(J:Hid (f=F))(Z:1<=F)(Y:F<=8): Calls prog 82 #[.pointer (some (ay b 0))] w λe w'=>BH s p w w' e (M.fn s p F).2/\∃W H,w'.heap[b]? = some (iK s ((M.fn s p F).1:Nat) f W H)/\w.grownBy w' (some b):=by
 by_cases i:M.tk s p 2 8=true
 .by_cases o:M.tk s (p+1) 1 200=true
  .grind[xp]
  have e:M.fn s p F=(p+1,false):=by unfold M.fn;rw[bf i,au o]
  rw[e];grind[xr]
 have e:M.fn s p F=(p,false):=by unfold M.fn;rw[au i]
 grind[xu]
def zh(s:ByteArray)(gs:Nat->Nat):Nat->Value:=λj=>
 if j % 2=0 then .int .i64 (M.bt s (M.pos s (j / 2)):Int) else .slice (some ⟨gs (j / 2),0,none⟩) (M.bt s (M.pos s (j / 2)+1)) (M.bt s (M.pos s (j / 2)+1))
def tT(w:aa)(s:ByteArray)(z g n m:Nat):Prop:=z<=g/\∃gs:Nat->Nat,Full w g 178 (n*2) (m*2) (zh s gs) /\
 ∀k,k<m->g<gs k/\2<=M.bt s (M.pos s k)/\M.bt s (M.pos s k)<=8/\1<=M.bt s (M.pos s k+1)/\M.bt s (M.pos s k+1)<=200/\Full w (gs k) 183 (M.bt s (M.pos s k+1)*4) (M.bt s (M.pos s k+1)*4) (qh s (M.pos s k+2))
theorem tT.below{z n:Nat}(h:tT w s z g n m)(o:∀k,z<=k->k<w.heap.size->w'.heap[k]? = w.heap[k]?):tT w' s z g n m:=by
 obtain⟨i,gs,u,G⟩:=h;refine⟨i,gs,u.block (o g i u.lt),λk y=>?_⟩;grind[Full.block,Full.lt]
theorem tT.kept{z n b:Nat}(h:tT w s z g n m)(o:w.grownBy w' (some b))(y:b<z):tT w' s z g n m:=
 h.below (λk u i=>o.block k i eR)
def tT.start{z n:Nat}(hz:z<=g)(h:jF w g 178 (n*2)):tT w s z g n 0:=
 ⟨hz,λ_=>0,h.full _,λk e=>dp e (Nat.not_lt_zero k)⟩
theorem tT.zq{w:aa}{s:ByteArray}{z g n m:Nat}(h:tT w s z g n m):jF w g 178 (n*2):=by obtain⟨_,_,h,_⟩:=h;exact h.zq
theorem tT.more{z n g':Nat}(h:tT w s z g n m)(hm:m<n)(Z:g<g')(o:2<=M.bt s (M.pos s m)/\M.bt s (M.pos s m)<=8/\1<=M.bt s (M.pos s m+1)/\M.bt s (M.pos s m+1)<=200)(H:Full w g' 183 (M.bt s (M.pos s m+1)*4) (M.bt s (M.pos s m+1)*4) (qh s (M.pos s m+2))): tT (w.setCells g (m*2) [aj (M.bt s (M.pos s m):Int),dA g' (M.bt s (M.pos s m+1)) (M.bt s (M.pos s m+1))]) s z g n (m+1):=by
 obtain⟨h0,gs,W,J⟩:=h;have i:Full w g 178 (n*2) (m*2) (zh s (λj=>if j=m then g' else gs j)):=by
  obtain⟨u,c1,Y,G⟩:=W;refine⟨u,c1,Y,λj y=>?_⟩;rw[G j y];unfold zh;have:j / 2≠m:=by omega
  simp only[au this]
 refine⟨h0,λj=>if j=m then g' else gs j,?_,λk hk=>?_⟩
 .rw[show(m+1)*2=m*2+2 by omega];refine i.Lu ag _ _ ?_ ?_
  .simp[zh,mm]
  unfold zh;grind
 by_cases e:k=m
 .subst e;simp only[bf];grind[fJ,Full.block]
 simp only[au e];grind[fJ,Full.block]
def FP(s:ByteArray)(w w':aa)(e:Ending)(ok:Bool):Prop:=∃(ad:Option Addr) (n c:Nat),e=.returned (.tuple #[.slice ad n c,.bool ok]) /\
 (ok=true->n=M.bt s 0/\c=n/\1<=n/\n<=8/\∃g,ad=some ⟨g,0,none⟩/\tT w' s w.heap.size g n n)
def Tryz.Hc:(prog.info? 178).map (λi=>(i.zero,i.size,i.bytes))=some (some (.agg #[aj 0,.slice none 0 0]),2,32):=by kernel_rfl
theorem zZ(b:Nat)(s:ByteArray)(f r l:Int)(w:aa)(h:w.heap[b]? = some (iK s (0:Nat) f r l))(ht:M.tk s 0 1 8=false): Calls prog 56 #[.pointer (some (ay b 0))] w λe w'=>FP s w w' e false/\∃y u o,w'.heap[b]? = some (iK s (0:Nat) y u o)/\w.grownBy w' (some b):=by
 go_in;have H:Hid (w.heap[b]? = some (iK s (0:Nat) f r l)):=h;go_wp2_with fail
 refine du (pa b s 0 1 8 f r l _ _ _ H ag rfl rfl ht) ?_;rintro w1 ⟨i,J⟩;have G:Hid (w1.heap[b]? = some (iK s (0:Nat) f r l)):=i;go_wp2
 go_ret2
 exact⟨⟨_,_,_,rfl,λh=>by cases h⟩,f,r,l,G,J⟩
theorem yw(b:Nat)(s:ByteArray)(f r l:Int)(w:aa)(h:w.heap[b]? = some (iK s (0:Nat) f r l))(hs:s.size<=maxLen)(aC:b≠0)(hT:og w)(ht:M.tk s 0 1 8=true): Calls prog 56 #[.pointer (some (ay b 0))] w λe w'=>FP s w w' e (M.m9 s).2/\∃f' r' l',w'.heap[b]? = some (iK s ((M.m9 s).1:Nat) f' r' l')/\w.grownBy w' (some b):=by
 have hb:=ch h;have aO:s.size<=9223372036854775807:=by unfold maxLen at hs;omega
 have H:Hid (w.heap[b]? = some (iK s (0:Nat) f r l)):=h;have HS:Hid (s.size<=maxLen):=hs;have HT:Hid (M.tk s 0 1 8=true):=ht;have aL:Hid (og w):=hT;obtain⟨hp,q1,q2⟩:=M.gU ht;clear h hs ht hT;go_in;go_wp2_with fail
 refine du (kZ b s 0 1 8 f r l _ _ _ H.out HS.out rfl rfl HT.out) ?_;rintro w1 ⟨hh,hg⟩;have HH:Hid (w1.heap[b]? = some (iK s ((0+1:Nat):Int) f r l)):=hh;obtain⟨_,_,x2,_,_⟩:=fA hh;obtain⟨_,y2,_,_⟩:=iZ hh;clear hh;generalize hF:M.bt s 0=F at *;have HF:Hid (M.bt s 0=F):=hF;clear hF;obtain⟨i0,hi,aH,aF,aD⟩:=info_parts Tryz.Hc;go_wp2_with (at_make;refine wpList_make_full _ rfl _ _ 92 rfl 0 178 i0 _ 2 underlying92 hi aH aF _ _ _ _ F rfl rfl rfl rfl eR pY (dk _) ?_)
 intro w3 a0 a7;have u:(w1.setCell (ay b 2) (aj F)).grownBy w3 (some b):=eT a7;have gA:w.grownBy (w1.setCell (ay b 2) (aj F)) (some b):=bu hg (af rfl) _;have KB:Hid (w3.heap[b]? = some (iK s ((1:Nat):Int) F r l)):=by
  show _=_;rw[a7.block b (by have:=ch HH.out;simpa[World.setCell] using this) im];exact Eb HH.out _
 have KG:Hid (w.grownBy w3 (some b)):=ar gA u;have aK:w.heap.size<=w1.heap.size:=hg.size;have KW:Hid (tT w3 s w.heap.size w1.heap.size F 0):=tT.start aK (jF.owned a0);clear a0 a7 u gA HH x2 y2 hg;generalize w1.heap.size=g at *;have y:Hid (M.m9 s=((M.fns s F 1 F).1,(M.fns s F 1 F).2 && decide ((M.fns s F 1 F).1=s.size))):=by
  show _=_;unfold M.m9;rw[bf HT.out,HF.out]
 go_wp2
 go_loopw [23] (λi wr=>∃(k q:Nat) (r' l':Int),k<=F/\q<=s.size/\i=aj k/\Hid (wr.heap[b]? = some (iK s q F r' l'))/\Hid (w.grownBy wr (some b))/\Hid (tT wr s w.heap.size g F k)/\Hid (q=M.pos s k)/\Hid (M.fns s F q (F-k)=M.fns s F 1 F)) (λi _=>F-(intOf i).toNat)
 case atStart=>exact⟨0,1,r,l,ag,ag,rfl,KB,KG,KW,rfl,rfl⟩
 case round=>
  obtain⟨k,q,r',l',hk,hq,rfl,rB,rG,rW,rQ,rC⟩:=hrel;clear KB KG KW;by_cases aG:k<F
  .go_wp2_with fail
   refine(vt b s q F F r' l' _ rB.out HS.out hq aC (aL.out.kept rG.out aC) rfl q1 q2).mono ?_;rintro e w4 ⟨⟨x,ad,n,c,rfl,hA⟩,r4,l4,hh,u⟩;have aE:g<wr.heap.size:=rW.out.zq.lt;have HA:Hid ((M.fn s q F).2=true->x=(M.bt s q:Int)/\n=M.bt s (q+1)/\c=n/\∃g',g<g'/\ad=some (ay g' 0)/\Full w4 g' 183 (n*4) (n*4) (qh s (q+2))):=λh=>by
    obtain⟨a1,a2,a3,g',a4,a5,a6⟩:=hA h;exact⟨a1,a2,a3,g',ag,a5,a6⟩
   clear hA aE;have G:Hid (tT w4 s w.heap.size g F k):=rW.out.kept u hb;have Z:Hid (w4.heap[b]? = some (iK s ((M.fn s q F).1:Nat) F r4 l4)):=hh;have W:Hid (w.grownBy w4 (some b)):=ar rG.out u;clear hh u rB rG rW
   cases hok:(M.fn s q F).2
   .have Y:Hid (M.fns s F 1 F=((M.fn s q F).1,false)):=by
     show _=_;rw[<-rC.out,show F-k=(F-(k+1))+1 by omega];unfold M.fns;rw[au (by rw[hok];simp)]
    clear rC hok;simp only[];iterate 13 (first|go_values|go_skip|go_guarded|go_step|go_upon|go_back)
    refine wpList_store_mid rfl 178 (.tmp 33) (.tmp 31) rfl g (k*2) #[aj x,.slice ad n c] rfl rfl (G.out.zq.there _ _ fH) eX xI ?_;have a9:∃J,J=w4.setCells g (k*2) #[Value.int .i64 x,.slice ad n c].toList:=⟨_,rfl⟩;obtain⟨J,o⟩:=a9;have aA:Hid (J.heap[b]? = some (iK s ((M.fn s q F).1:Nat) F r4 l4)):=by show _=_;rw[o,fJ g b ag];exact Z.out
    have a8:Hid (w.grownBy J (some b)):=by show World.grownBy _ _ _;rw[o];exact iR g _ _ _ _ W ag
    rw[<-o];clear o Z W G;go_wp2
    go_ret2
    refine⟨?_,F,r4,l4,?_,a8⟩
    .rw[y.out,Y.out];exact⟨_,_,_,rfl,λh=>by cases h⟩
    rw[y.out,Y.out];exact aA
   have Y:Hid (M.fns s F (M.fn s q F).1 (F-(k+1))=M.fns s F 1 F):=by
    show _=_;rw[<-rC.out,show F-k=(F-(k+1))+1 by omega];conv=>rhs;unfold M.fns
    rw[bf hok]
   have aI:=(M.Mc (s:=s) (p:=q) (f:=F) hq).2;have aB:Hid ((M.fn s q F).2=true):=hok;have KQ:Hid ((M.fn s q F).1=M.pos s (k+1)):=by
    show _=_;rw[(M.uN hok).1,rQ.out,M.pos]
   clear rC hok;simp only[];iterate 13 (first|go_values|go_skip|go_guarded|go_step|go_upon|go_back)
   refine wpList_store_mid rfl 178 (.tmp 33) (.tmp 31) rfl g (k*2) #[aj x,.slice ad n c] rfl rfl (G.zq.there _ _ fH) eX xI ?_;have a9:∃J,J=w4.setCells g (k*2) #[Value.int .i64 x,.slice ad n c].toList:=⟨_,rfl⟩;obtain⟨J,o⟩:=a9;have aA:Hid (J.heap[b]? = some (iK s ((M.fn s q F).1:Nat) F r4 l4)):=by show _=_;rw[o,fJ g b ag];exact Z
   have a8:Hid (w.grownBy J (some b)):=by show World.grownBy _ _ _;rw[o];exact iR g _ _ _ _ W ag
   have aN:Hid (tT J s w.heap.size g F (k+1)):=by
    show tT _ _ _ _ _ _;obtain⟨a1,a2,a3,g',a4,a5,a6⟩:=HA aB;have aM:=rQ.out;have hy:=M.uN aB;rw[aM]at a1 a2 a6 hy;subst a1 a3 a5;rw[a2]at a6;rw[o,a2];exact G.more aG a4 hy.2 a6
   rw[<-o];clear o Z W G HA aB rQ;generalize (M.fn s q F).1=q' at *;go_wp2
   go_roundw
   case rel=>exact⟨k+1,q',r4,l4,ag,aI,iA,aA,a8,aN,KQ,Y⟩
   case measure=>simp[intOf];omega
  obtain rfl:k=F:=by omega
  have Y:Hid (M.fns s k 1 k=(q,true)):=by
   show _=_;rw[<-rC.out,Nat.sub_self];rfl
  clear rC;obtain⟨x0,x1,_,_,_⟩:=fA rB;by_cases he:q=s.size
  .have aJ:((q:Int) == (s.size:Int))=true:=fH
   have HE:Hid (q=s.size):=he;clear he;go_wp2
   go_quiet (fail)
   go_wp2
   go_ret2
   refine⟨?_,k,r',l',?_,df rG _⟩
   .rw[y.out,Y.out,HE.out];simp;exact⟨_,_,_,rfl,λ_=>⟨by rw[HF.out],rfl,q1,q2,g,rfl,rW.below (λ_ _ _=>rfl)⟩⟩
   rw[y.out,Y.out];exact rB
  have aJ:((q:Int) == (s.size:Int))=false:=fH
  go_wp2
  go_quiet (fail)
  go_wp2
  go_ret2
  refine⟨?_,k,r',l',?_,df rG _⟩
  .rw[y.out,Y.out];simp[he];exact⟨_,_,_,rfl,λh=>by cases h⟩
  rw[y.out,Y.out];exact rB
theorem yx(b:Nat)(s:ByteArray)(f r l:Int)(w:aa)(h:w.heap[b]? = some (iK s (0:Nat) f r l))(G:s.size<=maxLen)(i:b≠0)(y:og w): Calls prog 56 #[.pointer (some (ay b 0))] w λe w'=>FP s w w' e (M.m9 s).2/\∃u o H,w'.heap[b]? = some (iK s ((M.m9 s).1:Nat) u o H)/\w.grownBy w' (some b):=by
 by_cases ht:M.tk s 0 1 8=true
 .grind[yw]
 have e:M.m9 s=(0,false):=by unfold M.m9;rw[au ht]
 rw[e];grind[zZ]
def lR(sz:Nat)(v v':Value):Prop:=v'.ownBlock=v.ownBlock\/∃g,v'.ownBlock=some g/\sz<=g
theorem vq{P:Program}(w:aa)(t ty e:TypeId)(i:TypeInfo)(z:Value)(size bytes:Nat)(ht:P.underlying t=some (.slice e))(hi:P.info? e=some i)(hz:i.zero=some z)(y:i.size=size)(a4:i.bytes=bytes)(a2:z.cells.size=size)(a5:0<size)(ao:Option Addr)(n cap:Nat)(xs:List Value)(a1:w.ownsRow 0 e size (.slice ao n cap) n xs)(ad:Addr)(m c:Nat)(o:List Value)(hl:o.length=m*size)(H:∀j u,o[j]? = some u->w.cell? (ad.add j)=some u)(h1:∀u∈o,u.oneCell'=true)(a3:n+m<=maxLen)(G:(n+m)*bytes<=140737488355328)(hm:0<m): ∃J w',(Builtin.append_ #[t,t] ty #[.slice ao n cap,.slice (some ad) m c]).run P w=.ok J w'/\w'.ownsRow 0 e size J (n+m) (xs++o)/\w.grownBy w' (Value.slice ao n cap).ownBlock/\lR w.heap.size (.slice ao n cap) J:=by
 have a0:∀(J:Value) (w':aa),w'.ownsRow w.heap.size e size J (n+m) (xs++o)->∃g,J.ownBlock=some g/\w.heap.size<=g:=λJ w' h=>by
  obtain⟨g,c',rfl⟩:=ee h ag;exact⟨g,rfl,(dP h g rfl).1⟩
 rcases id a1 with⟨a7,⟨hv,h0⟩|⟨g,c',a8,hv,_,h2,h3,h4,h5,h6⟩⟩
 .injection hv with e1 e2 e3;subst e1 e2 e3;obtain rfl:xs=[]:=List.eq_nil_of_length_eq_zero ag;obtain⟨J,w',W,r1,r2,_⟩:=run_append_own (P:=P) w w.heap.size t ty e i z size bytes ht hi hz y a4 a2 a5 (.slice none 0 0) 0 [] (eg w _ e size) ad m c o hl H h1 a3 G (bq _);exact⟨J,w',W,gV r1 (dk _),r2,ah (a0 J w' r1)⟩
 injection hv with e1 e2 e3;subst e1 e3;by_cases Y:n+m<=cap
 .obtain⟨J,w',hr,r1,r2,_⟩:=run_append_own (P:=P) w 0 t ty e i z size bytes ht hi hz y a4 a2 a5 _ n xs a1 ad m c o hl H h1 a3 G (dk _);refine⟨J,w',hr,r1,r2,af ?_⟩;subst y;have Z:=run_append_room (P:=P) w t ty e i ht hi g n cap a8 h2 ad m c o hl H h1 Y (by rw[hl,h5,<-Nat.add_mul];exact Nat.mul_le_mul_right _ Y);rw[hr]at Z;injection Z with Z _;rw[Z];rfl
 have a9:∀j u,xs[j]? = some u->w.cell? (((ay g 0):Addr).add j)=some u:=λj u hu=>by
  have hj:j<n*size:=by
   have:=(cf.1 hu).1;omega
  rw[<-h6,dO,bf hj]at hu;have a6:dS w g j=some u:=by
   simp only[World.cell?,h2];simpa using hu
  grind[Addr.add]
 obtain⟨J,w',W,r1,r2⟩:=run_append_arg_grows (P:=P) w t ty e i z size bytes ht hi hz y a4 a2 a5 (ay g 0) n cap xs a7 a9 ad m c o hl H ag a3 G;exact⟨J,w',W,gV r1 (dk _),mN r2 g,ah (a0 J w' r1)⟩
theorem qF{P:Program}(w:aa){a:Act}{K:Act->aa->Prop}{Q:Exit->Act->aa->Prop}(s x:Operand)(t:TypeId)(ho:o.op=.call { callee:=.builtin .append,args:=#[s,x],argTypes:=#[t,t] })(e:TypeId)(i:TypeInfo)(z:Value)(size bytes:Nat)(ht:P.underlying t=some (.slice e))(hi:P.info? e=some i)(hz:i.zero=some z)(H:i.size=size)(a0:i.bytes=bytes)(a1:z.cells.size=size)(a3:0<size)(Y:Option Addr)(n cap:Nat)(xs:List Value)(hs:a.eval s=.slice Y n cap)(W:w.ownsRow 0 e size (.slice Y n cap) n xs)(ad:Addr)(m c:Nat)(y:List Value)(hx:a.eval x=.slice (some ad) m c)(hl:y.length=m*size)(J:∀j u,y[j]? = some u->w.cell? (ad.add j)=some u)(h1:∀u∈y,u.oneCell'=true)(a2:n+m<=maxLen)(G:(n+m)*bytes<=140737488355328)(hm:0<m)(h:∀Z w',w'.ownsRow 0 e size Z (n+m) (xs++y)->w.grownBy w' (Value.slice Y n cap).ownBlock->lR w.heap.size (.slice Y n cap) Z->K (a.put o.dst Z) w'):Oper.wp P o a w K Q:=by
 obtain⟨Z,w',hr,h2,h3,h4⟩:=vq (P:=P) w t o.type e i z size bytes ht hi hz H a0 a1 a3 Y n cap xs W ad m c y hl J h1 a2 G hm;unfold Oper.wp execOp;simp only[ho,resolve,invoke,builtin,Sem.run_bind,Sem.run_pure,Result.andThen_ok,List.map_toArray,List.map_cons,List.map_nil,hs,hx,hr];exact h Z w' h2 h3 h4
theorem fD{P:Program}(w:aa){ops:Array Oper}{a:Act}{K:Act->aa->Prop}{Q:Exit->Act->aa->Prop}{E:Prop}(a0:o.guard=none)(s x:Operand)(t:TypeId)(ho:o.op=.call { callee:=.builtin .append,args:=#[s,x],argTypes:=#[t,t] })(e:TypeId)(i:TypeInfo)(z:Value)(size bytes:Nat)(ht:P.underlying t=some (.slice e))(hi:P.info? e=some i)(hz:i.zero=some z)(H:i.size=size)(Z:i.bytes=bytes)(a1:z.cells.size=size)(a3:0<size)(Y:Option Addr)(n cap:Nat)(xs:List Value)(hs:a.eval s=.slice Y n cap)(W:w.ownsRow 0 e size (.slice Y n cap) n xs)(ad:Addr)(m c:Nat)(y:List Value)(hx:a.eval x=.slice (some ad) m c)(hl:y.length=m*size)(J:∀j u,y[j]? = some u->w.cell? (ad.add j)=some u)(h1:∀u∈y,u.oneCell'=true)(a2:n+m<=maxLen)(G:(n+m)*bytes<=140737488355328)(hm:0<m)(h:∀v' w',w'.ownsRow 0 e size v' (n+m) (xs++y)->w.grownBy w' (Value.slice Y n cap).ownBlock->lR w.heap.size (.slice Y n cap) v'->K (a.put o.dst v') w'): if Region.wanted o (yielded ops a.tmps)=true then Oper.wp P o a w K Q else E:=by
 rw[bf (by simp[Region.wanted,a0])];grind[qF]
def jH{P:Program}{ops:Array Oper}{rest:List Oper}{a:Act}{Q:Exit->Act->aa->Prop}(a1:o.guard=none)(s x:Operand)(t:TypeId)(ho:o.op=.call { callee:=.builtin .append,args:=#[s,x],argTypes:=#[t,t] })(e:TypeId)(i:TypeInfo)(z:Value)(size bytes:Nat)(ht:P.underlying t=some (.slice e))(hi:P.info? e=some i)(hz:i.zero=some z)(H:i.size=size)(a0:i.bytes=bytes)(a2:z.cells.size=size)(a4:0<size)(Y:Option Addr)(n cap:Nat)(xs:List Value)(hs:a.eval s=.slice Y n cap)(W:w.ownsRow 0 e size (.slice Y n cap) n xs)(ad:Addr)(m c:Nat)(y:List Value)(hx:a.eval x=.slice (some ad) m c)(hl:y.length=m*size)(J:∀j u,y[j]? = some u->w.cell? (ad.add j)=some u)(h1:∀u∈y,u.oneCell'=true)(a3:n+m<=maxLen)(G:(n+m)*bytes<=140737488355328)(hm:0<m)(h:∀Z w',w'.ownsRow 0 e size Z (n+m) (xs++y)->w.grownBy w' (Value.slice Y n cap).ownBlock->lR w.heap.size (.slice Y n cap) Z->wpList P ops Q rest (a.put o.dst Z) w'):wpList P ops Q (o :: rest) a w:=
 wpList_plain a1 λ_ hK=>qF w s x t ho e i z size bytes ht hi hz H a0 a2 a4 Y n cap xs hs W ad m c y hx hl J h1 a3 G hm λZ w' h2 h3 h4=>hK _ _ (h Z w' h2 h3 h4)
theorem Lh(eb tb kind t:Nat)(x:Int)(ad:Option Addr)(n cap:Nat)(ev:List tU)(E Tk:Nat->Value)(w:aa)(Y:Full w eb 144 44 44 E)(G:E 43=.slice ad n cap)(hT:Full w tb 160 7 7 Tk)(W:Tk 0=aj t)(i:w.ownsRow 0 48 3 (.slice ad n cap) n (mA ev))(hn:n<=100000): eL 173 #[P0 eb,aj kind,P0 tb,aj x] w λw'=>∃g c,w'.ownsRow 0 48 3 (dA g (n+1) c) (n+1) (mA (ev++[(kind,t,x)]))/\Full w' eb 144 44 44 (eC E 43 (dA g (n+1) c))/\dM (λk=>k=eb\/(Value.slice ad n cap).ownBlock=some k) w w'/\((Value.slice ad n cap).ownBlock=some g\/w.heap.size<=g):=by
 obtain⟨i0,hi,a5,a2,a1⟩:=info_parts Tryz.Ao;obtain⟨a6,aB⟩:=Y.cells 43 ag;have c0:=hT.cell 0 ag;rw[G]at a6;rw[W]at c0;have le:=Y.lt;have HE:Hid (Full w eb 144 44 44 E):=Y;have HO:Hid (w.ownsRow 0 48 3 (.slice ad n cap) n (mA ev)):=i;have J:∀k,(Value.slice ad n cap).ownBlock=some k->k≠eb/\k<w.heap.size:=λk J=>⟨eU i Y ek k J,(dP i k J).2.1⟩;have HK:=bj J;clear Y hT i G W J;have hX:mA (ev++[(kind,t,x)])=mA ev++[aj kind,aj t,aj x]:=jx Hj
 rw[hX];clear hX;generalize mA ev=L at *;delta eL;go_in;go_wp2_with fail
 go_region_law (refine fD _ rfl (.tmp 12) (.tmp 20) 45 rfl 48 i0 _ 3 24 underlying45 hi a5 a2 a1 rfl ek ad n cap L mB (dQ HO (λk h=>av _ _ _ (HK k h).2)) (ay w.heap.size 0) 1 1 [aj kind,aj t,aj x] mB rfl (by intro j u o;match j,o with|0,o=>(simp at o;subst o;simp[Addr.add,go_sem])|1,o=>(simp at o;subst o;simp[Addr.add,go_sem])|2,o=>(simp at o;subst o;simp[Addr.add,go_sem])) xI pY ag ek ?_;intro v' w6 ho H a0;obtain⟨g,c,rfl⟩:=ee ho ag;have a4:Hid ((Value.slice ad n cap).ownBlock=some g\/w.heap.size<=g):=(by rcases a0 with h|⟨g',h,hl⟩;exact af h.symm;exact ah (by have e:g=g':=(by injection h);simp at hl;omega));clear a0;have Z:=bj ho;have y:Hid (Full w6 eb 144 44 44 E):=(HE.block (av _ _ _ le)).block (H.block eb fH (λh=>(HK eb h.symm).1 rfl));have a7:Hid (dM (λk=>k=eb\/(Value.slice ad n cap).ownBlock=some k) w w6):=dM.trans (S1:=λk=>(Value.slice ad n cap).ownBlock=some k) (gP (dw _ w) _) ⟨H.os,H.tape,H.output,H.size,λk J hn=>H.block k J (λe=>hn e.symm)⟩ (λk h _=>ah h);obtain⟨a3,a9⟩:=y.cells 43 ag;clear ho H)
 all_goals
  go_wp2_with fail
  go_end0;refine⟨rfl,g,c,dQ Z (λk h=>?_),y.eC 43 _,bp a7 (af (af rfl)) _,a4⟩;exact ab _ _ _ _ (eU Z y ek k h)
theorem Lp(v:B.V)(g c n:Nat)(ad:Option Addr)(xs:List B.V)(w:aa)(hn:n=xs.length)(aA:n<=1000000000)(a2:∀j x,xs[j]? = some x->ad=some (ay g 0)/\w.cell? (ay g (j*2))=some (aj x.1)/\w.cell? (ay g (j*2+1))=some (aj x.2))(lg:xs≠[]->g<w.heap.size): Calls prog 231 #[.slice ad n c,vA v] w λe w'=>(∃z:Int,e=.returned (aj z)/\((z<0/\v∉xs)\/(0<=z/\v∈xs)))/\w.grownBy w' none:=by
 obtain⟨y,u⟩:=v;change Hid _ at a2 hn lg;go_in;go_wp2_with fail
 generalize W:w.alloc (.cells #[aj y,aj u] 149)=w1;have KG:Hid (w.grownBy w1 none):=by rw[<-W];exact ak _ _ _
 have a3:w1.heap[w.heap.size]? = some (.cells #[aj y,aj u] 149 (0,0)):=by rw[<-W];exact bl w _
 have HB:=bj a3;go_loopw [8] (λi wr=>∃j:Nat,i=aj j/\j<=n/\Hid (∀k x,k<j->xs[k]? = some x->x≠(y,u))/\Hid (w1.grownBy wr none)) (λi _=>n-(intOf i).toNat)
 case atStart=>exact⟨0,rfl,ag,(λk x hk=>dp hk ag),aw _ _⟩
 case round=>
  obtain⟨j,rfl,hj,rN,rG⟩:=hrel;by_cases aC:j<n
  .obtain⟨x,hx⟩:∃x,xs[j]? = some x:=⟨_,bz (gp hn.out)⟩;obtain⟨H,J⟩:=x;obtain⟨rfl,ca,cb⟩:=a2 j (H,J) hx;have Y:=eh hx;have a4:=lg (by intro e;rw[e]at Y;cases Y);have Z:=ar KG rG;have c0:dS wr g (j*2)=some (aj H):=(bd Z (a:=ay g (j*2)) a4).1.trans ca;have c1:dS wr g (j*2+1)=some (aj J):=(bd Z (a:=ay g (j*2+1)) a4).1.trans cb;have a0:=da rG HB im;have b0:dS wr w.heap.size 0=some (aj y):=fy a0
   have b1:dS wr w.heap.size 1=some (aj u):=fy a0
   have a9:(j:Int)<n:=ag
   have a1:∀w0,(binOp .eql 149 (vA (y,u)) (vA (H,J))).run prog w0=.ok (.bool (decide ((y,u)=(H,J)))) w0:=λw0=>NG (y,u) (H,J) w0;have HX:=bj hx;by_cases o:((y,u):B.V)=(H,J)
   .have hd:decide (((y,u):B.V)=(H,J))=true:=gG o
    rw[hd]at a1;have HV:=bj o;go_wp2
    go_quiet (fail)
    go_wp2
    go_ret;refine⟨⟨(j:Int),rfl,ah ⟨ag,?_⟩⟩,ar KG (df rG _)⟩;rw[HV.out];exact Y
   have hd:decide (((y,u):B.V)=(H,J))=false:=gG o
   rw[hd]at a1;have HV:=bj o;go_wp2
   go_quiet (fail)
   go_wp2_with fail
   have a7:Hid (∀k x,k<j+1->xs[k]? = some x->x≠(y,u)):=λk x hk G e=>by
    by_cases a6:k=j
    .subst a6;rw[HX.out]at G;injection G with G;exact HV (by rw[G,e])
    exact rN k x ag G e
   go_roundw
   case rel=>exact⟨j+1,iA,ag,a7,df rG _⟩
   case measure=>simp[intOf];omega
  have a8:¬(j:Int)<n:=ag
  go_wp2
  go_ret;refine⟨⟨-1,rfl,af ⟨ag,λhm=>?_⟩⟩,ar KG rG⟩;obtain⟨k,hk⟩:=List.getElem?_of_mem hm;have aB:=(cf.1 hk).1;exact rN k _ (gp hn.out) hk rfl
theorem wz(v:B.V)(g c n:Nat)(ad:Option Addr)(xs:List B.V)(w:aa)(hn:n=xs.length)(Y:n<=1000000000)(y:∀j x,xs[j]? = some x->ad=some (ay g 0)/\w.cell? (ay g (j*2))=some (aj x.1)/\w.cell? (ay g (j*2+1))=some (aj x.2))(lg:xs≠[]->g<w.heap.size): dD 224 #[.slice ad n c,vA v] w (.bool (decide (v∈xs))) λw'=>w.grownBy w' none:=by
 have HI:Hid (∀w1,w.grownBy w1 none->Calls prog 231 #[.slice ad n c,vA v] w1 λe w'=>(∃z:Int,e=.returned (aj z)/\((z<0/\v∉xs)\/(0<=z/\v∈xs)))/\w1.grownBy w' none):=λw1 i=>by
  refine Lp v g c n ad xs w1 hn Y (λj x hx=>?_) (λh=>dm (lg h) i.size);obtain⟨a1,a2,a3⟩:=y j x hx;have u:=eh hx;have J:=lg (by intro e;rw[e]at u;cases u);exact⟨a1,(bd i (a:=ay g (j*2)) J).1.trans a2,(bd i (a:=ay g (j*2+1)) J).1.trans a3⟩
 clear y lg hn;obtain⟨v1,v2⟩:=v;delta dD;go_in;go_wp2_with fail
 generalize o:w.alloc (.cells #[aj v1,aj v2] 149)=w1;have KG:Hid (w.grownBy w1 none):=by rw[<-o];exact ak _ _ _
 refine(HI w1 KG).mono ?_;rintro e w2 ⟨⟨z,rfl,hz⟩,i⟩;have G:=bj (ar KG i);rcases hz with⟨hz,H⟩|⟨hz,H⟩
 .have Z:=bj H;have W:¬0<=z:=ag
  go_wp2
  go_ret;exact⟨by simp[Z.out,W],G⟩
 have Z:=bj H;go_wp2
 go_ret;exact⟨by simp[Z.out],G⟩
def gT(xs:List B.V):List Value:=xs.flatMap (λv=>[.int .i64 (v.1:Int),.int .i64 v.2])
def vI(x:B.V)(xs:List B.V):gT (x :: xs)=aj x.1 :: aj x.2 :: gT xs:=rfl
theorem kF:∀e,(gT e).length=e.length*2
 | []=>rfl
 | x :: e=>by rw[vI,List.length_cons,List.length_cons,kF e,List.length_cons];omega
theorem qH(xs ys:List B.V):gT (xs++ys)=gT xs++gT ys:=by simp[gT,List.flatMap_append]
theorem ou:∀(xs:List B.V) (j:Nat) (x:B.V),xs[j]? = some x->(gT xs)[j*2]? = some (aj x.1)/\(gT xs)[j*2+1]? = some (aj x.2)
 | [],j,x,h=>by simp at h
 | y :: xs,0,x,h=>by
  simp at h;subst h
  exact⟨rfl,rfl⟩
 | y :: xs,j+1,x,h=>by
  have:=ou xs j x (gG h);rw[vI,show(j+1)*2=j*2+1+1 by omega];simpa using this
def A4{o n c:Nat}(hb:o<=g)(hn:n<=c)(hm:c<=maxLen)(hl:xs.length=n)(Y:jF w g 149 (c*2))(hx:∀j x,xs[j]? = some x->w.cell? (ay g (j*2))=some (aj x.1)/\w.cell? (ay g (j*2+1))=some (aj x.2)):w.ownsRow o 149 2 (dA g n c) n (gT xs):=by
 obtain⟨y,G,h2⟩:=Y;refine⟨by rw[kF,hl],ah ⟨g,c,y,rfl,hb,G,hn,hm,h2,?_⟩⟩;apply List.ext_getElem?
 intro i;by_cases hi:i<n*2
 .obtain⟨x,u⟩:∃x,xs[i / 2]? = some x:=⟨_,bz ag⟩;obtain⟨H,J⟩:=hx (i / 2) x u;obtain⟨Z,W⟩:=ou xs (i / 2) x u;rw[dO,bf hi];simp only[World.cell?,G]at H J;rcases(show i=i / 2*2\/i=i / 2*2+1 by omega) with e|e
  .rw[e,Z];simpa using H
  rw[e,W];simpa using J
 rw[dK fH,dK (kr kF)]
def qW{e n c:Nat}(h:w.ownsRow e 149 2 (dA g n c) n (gT xs)):e<=g/\n<=c/\c<=maxLen/\xs.length=n/\jF w g 149 (c*2)/\∀j x,xs[j]? = some x->w.cell? (ay g (j*2))=some (aj x.1)/\w.cell? (ay g (j*2+1))=some (aj x.2):=by
 rcases h with⟨hl,⟨h,_⟩|⟨g',c',i,J,h2,H,Z,Y,W,y⟩⟩
 .cases h
 cases J;rw[kF]at hl;refine⟨h2,Z,Y,ag,⟨i,H,W⟩,λj x G=>?_⟩;have hj:=(cf.1 G).1;obtain⟨u,o⟩:=ou xs j x G;rw[<-y,dO,mm]at u;rw[<-y,dO,mm]at o;simp only[World.cell?,H];exact⟨gG u,gG o⟩
end
section
open Go.Lib
def Gl:∀w:aa,(sizeOf 155).run prog w=.ok 1 w:=by
 intro w;obtain⟨i0,hi,i,e,o⟩:=info_parts Tryz.oF;simp[sizeOf,typeInfo,hi,e]
theorem B1(b n c i vb:Nat)(G:List Value)(y:Value)(w:aa)(hi:i<n)(aK:n+1<=c)(aL:c<=9223372036854775807)(a4:vb≠b)(aJ:G.length=n)(a6:∀j v,G[j]? = some v->w.cell? (ay b j)=some v)(Y:∀j,j<n+1->(w.cell? (ay b j)).isSome=true)(a3:∀j,j<n+1->w.frozen? (ay b j)=false)(aC:w.cell? (ay vb 0)=some y)(a8:∀v∈G,v.oneCell'=true)(aB:y.oneCell'=true)(tA tB:TypeId)(kA kB:Nat)(aG:w.shape? vb=some (tA,kA))(aD:w.shape? b=some (tB,kB))(aI:kB≠0)(a7:w.frozen? (ay vb 0)=false)(aH:w.frozen? (ay vb kA)=false): Calls prog 203 #[dA b n c,aj i,dA vb 1 1] w λe w'=> e=.returned (dA b (n+1) c)/\w'=(w.drew.setCells b (i+1) (G.drop i)).setCells b i [y]:=by
 have a5:(prog.info? 155).map (·.size)=some 1:=by
  obtain⟨i0,aA,h0,h1,h2⟩:=info_parts Tryz.oF;rw[aA];simp[h1]
 have aE:∀lb cb,(callFunc 222 #[dA vb 1 1,.slice (some (ay b (i+1))) lb cb]).run prog w=.ok (.value (.bool false)) w:=λlb cb=>by
  rw[run_callFunc_extern func222 eX eX eX (e:=Extern.SlicesOverlaps.overlaps #[136,136] #[4]) eX,
   Lib.run_overlaps_apart w 136 4 155 underlying136 1 Gl (ay vb 0) (ay b (i+1)) 1 1 lb cb a4 tA tB kA kB aG aD aI a7 aH]
  rfl
 have aF:(G.drop i).length=n-i:=by rw[List.length_drop,aJ]
 have aP:IntKind.i64.wrap ((i:Int)+1)=(i:Int)+1:=kr IntKind.wrap_i64
 have aQ:wrap64 ((i:Int)+1)=(i:Int)+1:=dN _ ⟨ag,ag⟩;have aR:(0:Int)<=i+1:=ag
 have aT:i<=n:=ag
 have aN:((i:Int)+1).toNat=i+1:=ag
 have aU:¬(c=i+1):=ag
 have aO:(i:Int)<=n+1:=ag
 have aS:¬(c=i):=ag
 have H:∀ty J sc,(Builtin.copy_ #[136,136] ty #[.slice (some (ay b (i+1))) (n-i) J,.slice (some (ay b i)) (n+1-i) sc]).run prog w.drew=.ok (goInt (G.drop i).length) (w.drew.setCells b (i+1) (G.drop i)):=λty J sc=>
  run_copy_cells w.drew _ _ ty 155 b (i+1) (n-i) J (ay b i) (n+1-i) sc (G.drop i) underlying136 a5 (by rw[aF];show n-i=min _ _;omega)
   (λj v o=>by rw[Addr.add_lit];exact a6 (i+j) v (by rwa [List.getElem?_drop]at o))
   (λj o=>Y _ ag) (λj o=>a3 _ ag) (λv hv=>a8 v (List.mem_of_mem_drop hv))
 obtain⟨Z,u⟩:∃Z,Z=w.drew.setCells b (i+1) (G.drop i):=⟨_,rfl⟩;have a1:∀k,k<n+1->(dS Z b k).isSome=true:=λk hk=>by
  rw[u];exact isSome_setCells b (G.drop i) (i+1) w.drew (λj o=>Y (i+1+j) ag) k (Y k hk)
 have a0:∀(W:aa),(∀x,W.cell? x=Z.cell? x)->(∀x,W.frozen? x=Z.frozen? x)->∀ty J,(Builtin.copy_ #[136,136] ty #[.slice (some (ay b i)) (n+1-i) J,dA vb 1 1]).run prog W=.ok (goInt [y].length) (W.setCells b i [y]):=λW a2 a9 ty J=>
  run_copy_cells W _ _ ty 155 b i (n+1-i) J (ay vb 0) 1 1 [y] underlying136 a5 (by simp only[Nat.min_def,eI];split<;>omega)
   (λj v o=>by
    rw[Addr.add_lit,a2,u,World.cell?_setCells_out b _ _ _ _ (λh _=>dp h a4)];match j,o with
    | 0,o=>simp at o;subst o;exact aC)
   (λj o=>by rw[a2];simp at o;exact a1 _ ag) (λj o=>by rw[a9,u,World.frozen?_setCells];simp at o;exact a3 _ ag) (λv hv=>by simp at hv;subst hv;exact aB)
 rw[<-u]at H;go_in;go_wp2_with (simp only[aE])
 go_region_law (refine step_copy_runI rfl _ _ 136 136 rfl _ _ (by simp[Act.eval,Act.put]) (by simp[Act.eval,Act.put]) (H _ _ _) ?_)
 go_wp2_with (at_builtin;refine wpList_copy_runI _ rfl _ _ 136 136 rfl _ _ rfl rfl (a0 _ (λ_=>rfl) (λ_=>rfl) _ _) ?_)
 go_ret;first|exact⟨rfl,rfl⟩|exact⟨rfl,by rw[u]⟩
theorem B3(b n c i vb:Nat)(cs:List Value)(y:Value)(w:aa)(hi:i<n)(hnc:n<=c)(hroom:c<n+1)(hbig:n<=1000000000)(hcl:cs.length=n)(hcs:∀j v,cs[j]? = some v->w.cell? (ay b j)=some v)(hvs:w.cell? (ay vb 0)=some y)(h1c:∀v∈cs,v.oneCell'=true)(h1v:y.oneCell'=true): Calls prog 203 #[dA b n c,aj i,dA vb 1 1] w λe w'=> e=.returned (dA w.heap.size (n+1) (grownCap w (n+1) c 155)) /\ w'=(((w.alloc (.cells ((cs.take i).toArray++Builtin.zeroCells (Value.pointer none).cells (n+1-i)++Builtin.zeroCells (Value.pointer none).cells (grownCap w (n+1) c 155-(n+1))) 155)).drew.setCells w.heap.size i [y]).drew).setCells w.heap.size (i+1) (cs.drop i):=by
 obtain⟨i0,hi0,hz0,hzs,hzb⟩:=info_parts Tryz.oF
 have hz3:(c:Int)<(n:Int)+1:=ag
 have hw1:IntKind.i64.wrap ((i:Int)+1)=(i:Int)+1:=kr IntKind.wrap_i64
 have hw2:wrap64 ((i:Int)+1)=(i:Int)+1:=dN _ ⟨ag,ag⟩
 have hw3:wrap64 ((n:Int)+1)=(n:Int)+1:=dN _ ⟨ag,ag⟩
 have hw4:wrap64 ((n:Int)+1-(i:Int))=(n:Int)+1-(i:Int):=dN _ ⟨ag,ag⟩
 have hb1:(0:Int)<=(i:Int)+1:=ag
 have htn:((i:Int)+1).toNat=i+1:=ag
 have hb3:(i:Int)<=(n:Int):=ag
 have hsz:(prog.info? 155).map (·.size)=some 1:=by rw[hi0];simp[hzs]
 have hbw:b<w.heap.size:=block_lt_of_cell (hcs 0 _ (bz ag))
 have hkk:(n:Int)+1-(i:Int)=((n+1-i:Nat):Int):=ag
 have hik:i+(n+1-i)=n+1:=ag
 have hold:(Builtin.firstCells i0.size i (dA b i c)).run prog w.drew=.ok (cs.take i).toArray w.drew:=by
  rw[hzs]
  exact run_firstCells_some w.drew 1 i (ay b 0) i c (cs.take i) eR (λj v hj=>by
   rw[Addr.add_lit]
   rw[dO]at hj
   simp_all)
 have hrz:∀ty,(Builtin.append_ #[136,3] ty #[dA b i c,aj ((n:Int)+1-(i:Int))]).run prog w =
   .ok (dA w.heap.size (n+1) (grownCap w (n+1) c 155)) (w.drew.alloc (.cells ((cs.take i).toArray++Builtin.zeroCells (Value.pointer none).cells (n+1-i)++Builtin.zeroCells (Value.pointer none).cells (grownCap w (n+1) c 155-(n+1))) 155)):=λty=>by
  have h:=Lib.run_append_grow_zeros w 136 3 ty 155 i0 _ .i64 .i64 underlying136 underlying3 hi0 hz0 (some (ay b 0)) i c (cs.take i) hold (n+1-i) ag ag ag ag eR (by rw[hzb,hik];exact growslice_fits hroom ag)
  grind
 obtain⟨G,hG⟩:∃G,G=grownCap w (n+1) c 155:=⟨_,rfl⟩
 obtain⟨ROW,hROW⟩:∃ROW:Array Value,ROW=(cs.take i).toArray++Builtin.zeroCells (Value.pointer none).cells (n+1-i)++Builtin.zeroCells (Value.pointer none).cells (G-(n+1)):=⟨_,rfl⟩
 rw[<-hG]at hrz ⊢
 rw[<-hROW]at hrz ⊢
 have hRl:n+1<=ROW.size:=by
  rw[hROW]
  simp[Builtin.zeroCells,Value.cells]
  omega
 obtain⟨W1,hW1⟩:∃W1,W1=w.drew.alloc (.cells ROW 155):=⟨_,rfl⟩
 rw[<-hW1]at hrz
 have hN:∀j,j<n+1->(W1.cell? (ay w.heap.size j)).isSome=true:=λj hj=>by
  rw[hW1,World.cell?_alloc_at (w:=w.drew) ROW _ w.heap.size j rfl,Array.getElem?_eq_getElem ag];rfl
 have hNf:∀j,W1.frozen? (ay w.heap.size j)=false:=λj=>by rw[hW1];exact World.frozen?_alloc_at (w:=w.drew) ROW _ w.heap.size j rfl
 have hOb:∀j v,w.cell? (ay b j)=some v->W1.cell? (ay b j)=some v:=λj v h=>by rw[hW1,World.cell?_alloc_past (w:=w.drew) _ b j hbw];exact h
 have hOv:∀j v,w.cell? (ay vb j)=some v->W1.cell? (ay vb j)=some v:=λj v h=>by rw[hW1,World.cell?_alloc_past (w:=w.drew) _ vb j (block_lt_of_cell hvs)];exact h
 have hcpA:∀(W:aa),(∀x,W.cell? x=W1.cell? x)->(∀x,W.frozen? x=W1.frozen? x)->∀ty dc,(Builtin.copy_ #[136,136] ty #[.slice (some (ay w.heap.size i)) (n+1-i) dc,dA vb 1 1]).run prog W=.ok (goInt [y].length) (W.setCells w.heap.size i [y]):=λW hWc hWf ty dc=>
  run_copy_cells W _ _ ty 155 w.heap.size i (n+1-i) dc (ay vb 0) 1 1 [y] underlying136 hsz (by simp only[Nat.min_def,eI];split<;>omega)
   (λj v hj=>by
    match j,hj with
    | 0,hj=>simp at hj;subst hj;rw[Addr.add_lit,hWc];exact hOv _ _ hvs)
   (λj hj=>by rw[hWc];simp at hj;exact hN _ ag) (λj hj=>by rw[hWf];exact hNf _) (λv hv=>by simp at hv;subst hv;exact h1v)
 have hGn:n+1<=G:=by rw[hG];exact grownCap_ge w _ _ _
 have hGi:¬(G=i):=ag
 have hGim:¬(G=i+1):=ag
 have hci:¬(c=i):=ag
 have hbN:b≠w.heap.size:=ag
 have hdl:(cs.drop i).length=n-i:=by rw[List.length_drop,hcl]
 have hcpB:∀(W:aa),(∀x,W.cell? x=(W1.setCells w.heap.size i [y]).cell? x)->(∀x,W.frozen? x=(W1.setCells w.heap.size i [y]).frozen? x)->∀ty dc sc,(Builtin.copy_ #[136,136] ty #[.slice (some (ay w.heap.size (i+1))) (n-i) dc,.slice (some (ay b i)) (n-i) sc]).run prog W=.ok (goInt (cs.drop i).length) (W.setCells w.heap.size (i+1) (cs.drop i)):=λW hWc hWf ty dc sc=>
  run_copy_cells W _ _ ty 155 w.heap.size (i+1) (n-i) dc (ay b i) (n-i) sc (cs.drop i) underlying136 hsz (by rw[hdl];show n-i=min _ _;omega)
   (λj v hj=>by
    rw[Addr.add_lit,hWc,World.cell?_setCells_out _ _ _ _ _ (λh _=>dp h hbN)]
    exact hOb _ v (hcs (i+j) v (by rwa [List.getElem?_drop]at hj)))
   (λj hj=>by rw[hWc];exact isSome_setCells w.heap.size [y] i W1 (λt ht=>by simp at ht;exact hN _ ag) _ (hN _ ag))
   (λj hj=>by rw[hWf,World.frozen?_setCells];exact hNf _) (λv hv=>h1c v (List.mem_of_mem_drop hv))
 subst hW1
 have hE1:∀x,((w.alloc (.cells ROW 155)).drew).cell? x=(w.drew.alloc (.cells ROW 155)).cell? x:=λx=>rfl
 have hE2:∀x,((w.alloc (.cells ROW 155)).drew).frozen? x=(w.drew.alloc (.cells ROW 155)).frozen? x:=λx=>rfl
 have hF1:∀x,(((w.alloc (.cells ROW 155)).drew.setCells w.heap.size i [y]).drew).cell? x=((w.drew.alloc (.cells ROW 155)).setCells w.heap.size i [y]).cell? x:=λx=>rfl
 have hF2:∀x,(((w.alloc (.cells ROW 155)).drew.setCells w.heap.size i [y]).drew).frozen? x=((w.drew.alloc (.cells ROW 155)).setCells w.heap.size i [y]).frozen? x:=λx=>rfl
 clear hkk hik hold hROW hG hRl
 go_in
 go_wp2_with (first
  | (at_builtin;refine Lib.wpList_append_run _ rfl _ _ _ _ rfl _ _ rfl rfl _ _ (hrz _) ?_)
  | (at_builtin;refine wpList_copy_runI _ rfl _ _ 136 136 rfl _ _ rfl rfl (hcpA _ hE1 hE2 _ _) ?_)
  | (at_builtin;refine wpList_copy_runI _ rfl _ _ 136 136 rfl _ _ rfl rfl (hcpB _ (λ_=>rfl) (λ_=>rfl) _ _ _) ?_))
 go_region_law (refine step_copy_runI rfl _ _ 136 136 rfl (.slice (some (ay w.heap.size (i+1))) (n-i) (G-(i+1))) (.slice (some (ay b i)) (n-i) (c-i)) (by simp[Act.eval,Act.put]) (by simp[Act.eval,Act.put]) (hcpB _ hF1 hF2 155 (G-(i+1)) (c-i)) ?_)
 go_wp2
 go_ret
 exact⟨rfl,rfl⟩
end
section
open Go.ChangeShapes Go.WideShapes Go.ChangeAt Go.WideMaps Go.WideElems Go.Joins
def MZ{c:Int}(h:(Lit.int .i64 c).wf=true):-9223372036854775808<=c/\c<=9223372036854775807:=by
 have e:IntKind.i64.min<=c/\c<=IntKind.i64.max:=by simpa[Lit.wf] using h
 exact⟨e.1,e.2⟩
def own:ownKnob prog.godebug=none:=by kernel_rfl
def Ny:prog.globalNamed (Rows.chainRow.named.headD "")=some 0:=by kernel_rfl
def M1:(prog.globals[0]?).map (·.type)=some 283:=by kernel_rfl
def J6:prog.cellsOf 9=1:=by kernel_rfl
def GX:(Rows.laid_turnstile_code_operandKinds:DataW Unit)=.agg ((List.range 23).map λi=>.lit (.string (M.KS i).data.toList)):=by rfl
def x7{W:aa}(h:laidMetH prog Rows.chainRow.laid W):og W:=by
 rw[MakeChecks.laidMetH_plain _ _ _ eX]at h;obtain⟨ps,⟨g0,t0,a3,f0,p0,q0,u,a1,J,Y,_,_⟩,_,_⟩:=h;obtain rfl:0=g0:=ki (Ny.symm.trans u);obtain rfl:283=t0:=ki (M1.symm.trans a1);obtain⟨Z,m1,rfl,G,a2,a4,a0⟩:=DataW.trod_array underlying283 Y;simp only[Prod.mk.injEq]at G;have y:∀e,e<23->W.cell? (ay 0 e)=some (.string (M.KS e)):=by
  intro e ho;have h1:=a0 e ho;have o:Z[e]? = some (Z[e]'(by omega)):=bz ag;rw[o,J6]at h1;obtain⟨S,e1,e2,_⟩:=DataW.trod_string underlying9 h1;have hS:S=M.KS e:=by
   have e3:=GX.symm.trans G.1;simp only[DataW.agg.injEq]at e3;have H:=congrArg (λl=>l[e]?) e3;simp only[eP,gX ho,o,Option.map_some,Option.some.injEq]at H;rw[e2]at H;simp only[DataW.lit.injEq,Lit.string.injEq]at H;have e5:=Array.toList_inj.1 H
   cases S;cases hk:M.KS e
   rw[hk]at e5;exact congrArg ByteArray.mk e5.symm
  rw[World.var?_cell u J e,<-hS];rw[Nat.mul_one]at e1;have e6:=congrArg (λl=>l[0]?) e1;simpa[dO,List.getElem?_drop] using e6
 refine⟨?_,y⟩;have:=y 0 ag;exact an W (ay 0 0) this
def Tryz.laidOut:laidOutB prog=true:=by kernel_rfl
