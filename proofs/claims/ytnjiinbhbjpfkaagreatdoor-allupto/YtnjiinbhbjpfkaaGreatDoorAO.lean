import Derived.Test.YtnjiinbhbjpfkaaGreatDoorAF
import Derived.Test.YtnjiinbhbjpfkaaGreatDoorAD
set_option maxRecDepth 100000
set_option maxHeartbeats 0
set_option linter.all false
namespace Go.Proofs.YtnjiinbhbjpfkaaGreatDoor
open Go.RowKit Go.Proofs.Tryz
section
variable {g m:Nat}{i u:Value}{s:ByteArray}{w w' w1:aa}
theorem rZ(b:Nat)(s S:ByteArray)(p R F L:Nat)(f r l:Int)(w:aa)(h:w.heap[b]?=some (jE s p f r l))(hs:s.size<=maxLen)(hS:S.size<=3)(hp:p<=s.size)(hr:Hid (r=R))(hf:Hid (f=F))(hl:Hid (l=L))(h1:1<=R)(h2:1<=F)(h3:R<=8)(h4:F<=8):dC 197 #[.pointer<|some<|az b 0,.string S] w (.bool (M.ops s R F L (M.fT S) p).2) λw'=>w'.heap[b]?=some (jE s ((M.ops s R F L (M.fT S) p).1:Nat) f r l)/\w.grownBy w' (some b):=by
 have HS:=mz hs;delta dC;go_in;go_wp2
 go_loopw[10] (λi wr=>∃k q:Nat,k<=S.size/\q<=s.size/\i=ah k/\Hid (wr.heap[b]?=some (jE s q f r l))/\w.grownBy wr (some b)/\Hid (M.ops s R F L ((M.fT S).drop k) q=M.ops s R F L (M.fT S) p)) (λi _=>S.size-(intOf i).toNat)
 case atStart=>exact⟨0,p,af,hp,rfl,h,aw _ _,rfl⟩
 case round=>
  obtain⟨k,q,hk,hq,rfl,G,Y,Z⟩:=hrel;by_cases a2:k<S.size
  .have y:Hid (M.ops s R F L (M.fT S) p=if S[k].toNat=116 then M.xw s q L else if M.tk s q 0 (M.lG R F S[k].toNat)=true then M.ops s R F L ((M.fT S).drop<|k+1) (q+1) else(q,false)):=by
    show _=_;rw[<-Z.out,M.oT S k a2];rfl
   by_cases ht:S[k].toNat=116
   .have o:Hid (M.ops s R F L (M.fT S) p=M.xw s q L):=by show _=_;rw[y.out,bf ht]
    go_wp2_with fail
    refine dq (yV b s q L f r l _ G HS hq hl) ?_;rintro w1 ⟨J,a0⟩;go_wp2
    go_ret;refine⟨?_,?_,ar Y a0⟩
    .rw[o.out];rfl
    rw[o.out];exact J
   have a1:((S[k].toNat:Int) == 116)=false:=fV
   rw[av ht]at y;go_wp2_with fail
   refine dq (zK b s S[k].toNat R F q f r l _ _ G hr hf h1 h2 h3 h4 rfl) ?_;rintro w1 rfl;go_wp2_with fail
   by_cases u:M.tk s q 0 (M.lG R F S[k].toNat)=true
   .have o:Hid (M.ops s R F L (M.fT S) p=M.ops s R F L ((M.fT S).drop<|k+1) (q+1)):=by show _=_;rw[y.out,bf u]
    have a3:=(M.gZ u).1;refine dq (lP b s q 0 _ f r l _ _ _ G HS rfl rfl u) ?_;rintro w2 ⟨J,H⟩;have HH:=mz J;go_wp2
    go_roundw
    case rel=>exact⟨k+1,q+1,af,af,iI,HH,ar Y H,o.symm⟩
    case measure=>simp[intOf];omega
   have o:Hid (M.ops s R F L (M.fT S) p=(q,false)):=by show _=_;rw[y.out,av u]
   refine dq (pB b s q 0 _ f r l _ _ _ G hq rfl rfl (iE u)) ?_;rintro w2 ⟨J,H⟩;have HH:=mz J;go_wp2
   go_ret;refine⟨?_,?_,ar Y H⟩
   .rw[o.out];rfl
   rw[o.out];exact HH
  obtain rfl:k=S.size:=by omega
  have o:Hid (M.ops s R F L (M.fT S) p=(q,true)):=by
   show _=_;rw[<-Z.out,M.tI];rfl
  go_wp2
  go_ret;refine⟨?_,?_,Y⟩
  .rw[o.out];rfl
  rw[o.out];exact G
def pf(w:aa):Prop:=0<w.heap.size/\∀op,op<23->w.cell? ⟨0,op,none⟩=some (.string<|M.KS op)
theorem pf.kept{b:Nat}(h:pf w)(o:w.grownBy w' (some b))(y:b≠0):pf w':=
 ⟨dm h.1 o.size,λi u=>(bd (a:=az 0 i)<|o.block 0 h.1 ey).trans<|h.2 i u⟩
def pf.alloc(h:pf w)(o:Obj):pf (w.alloc o):=h.kept (b:=1) (aj _ _ _) af
def yt(s:ByteArray)(p:Nat)(e:Ending)(ok:Bool):Prop:=∃a0 a1 a2 a3:Int,e=.returned (.tuple #[.agg #[.int .u8 a0,.int .u8 a1,.int .u8 a2,.int .u8 a3],.bool ok])/\(ok=true->a0=(M.bt s p:Int)/\a1=(M.bt s (p+1):Int)/\a2=(M.bt s (p+2):Int)/\a3=(M.bt s (p+3):Int))
def mM{b:Nat}{p f r l:Int}(h:w.heap[b]?=some (jE s p f r l))(o:Obj):(w.alloc o).heap[b]?=some (jE s p f r l):=(au _ _ _<|ch h).trans h
theorem qU{b k:Nat}{G o:Value}{T:TypeId}(h:w.heap[k]?=some (.cells #[G,u,i,o] T (0,0)))(H:w.grownBy w1 (some b))(J:k≠b):k<w1.heap.size/\w1.cell? (az k 0)=some G/\w1.cell? (az k 1)=some u/\w1.cell? (az k 2)=some i/\w1.cell? (az k 3)=some o/\w1.frozen? (az k 0)=false/\w1.frozen? (az k 1)=false/\w1.frozen? (az k 2)=false/\w1.frozen? (az k 3)=false:=by
 have y:=da H h ey;grind[ch,World.cell?,World.frozen?]
theorem ua(b:Nat)(s:ByteArray)(p:Nat)(f r l:Int)(w:aa)(h:w.heap[b]?=some (jE s p f r l))(y:p<=s.size)(ht:M.tk s p 0 22=false):Calls prog 147 #[.pointer<|some<|az b 0] w λe w'=>yt s p e false/\w'.heap[b]?=some (jE s p f r l)/\w.grownBy w' (some b):=by
 have hb:=ch h;let⟨c0,c1,_,_,_⟩:=fF h;have H:=mz h;go_in;go_wp2_with fail
 refine dq (pB b s p 0 22 f r l _ _ _ (mM H _) y rfl rfl ht) ?_;rintro w1 ⟨i,o⟩;let⟨hz,d0,Y,d2,J,Z,e1,W,G⟩:=qU (k:=w.heap.size) (bl w _) o af;have u:=mz i;go_wp2
 refine dg (v:=.tuple #[.agg #[dz 0,dz 0,dz 0,dz 0],.bool false]) (by simp[results,results147,go_sem, *]) rfl ⟨⟨0,0,0,0,rfl,λh=>by cases h⟩,?_,?_⟩
 .grind[Below.heap_setCell]
 repeat (refine bu ?_ (ak eG) _)
 exact ar (aj _ _ _) o
theorem tZ(b:Nat)(s:ByteArray)(p R F L:Nat)(f r l:Int)(w:aa)(h:w.heap[b]?=some (jE s p f r l))(hs:s.size<=maxLen)(W:b≠0)(Z:pf w)(hr:Hid (r=R))(hf:Hid (f=F))(hl:Hid (l=L))(h1:1<=R)(h2:1<=F)(h3:R<=8)(h4:F<=8)(ht:M.tk s p 0 22=true)(ho:Hid ((M.uX s (p+1) (M.bt s p) R F L).2=false)):Calls prog 147 #[.pointer<|some<|az b 0] w λe w'=>yt s p e false/\w'.heap[b]?=some (jE s ((M.uX s (p+1) (M.bt s p) R F L).1:Nat) f r l)/\w.grownBy w' (some b):=by
 have hb:=ch h;let⟨c0,c1,_,_,_⟩:=fF h;have H:=mz h;have HS:=mz hs;let⟨hp,_,a1⟩:=M.gZ ht;have HO:Hid (M.ops s R F L (M.fT<|M.KS<|M.bt s p) (p+1)=M.uX s (p+1) (M.bt s p) R F L):=by
  show _=_;rw[(M.pX _ af).1,M.BC _ _ _ _ _ _ af]
 have HK:Hid ((M.KS<|M.bt s p).size<=3):=by show _<=_;rw[(M.pX _ af).2];exact bm _
 have HT:=mz ht;have y:=mz Z;go_in;go_wp2_with fail
 refine dq (lP b s p 0 22 f r l _ _ _ (mM H _) HS rfl rfl HT) ?_;rintro w1 ⟨o,J⟩;have i:=(y.alloc _).kept J W;have hc:=i.2 (M.bt s p) af;have HH:=mz o;generalize Y:M.bt s p=q at*;have HQ:=mz Y;go_wp2_with fail
 refine dq (rZ b s (M.KS q) (p+1) R F L f r l _ HH HS HK af hr hf hl h1 h2 h3 h4) ?_;rintro w2 ⟨o,u⟩;rw[HO.out]at o⊢;rw[ho.out];let⟨hz,d0,d1,d2,d3,e0,e1,e2,e3⟩:=qU (k:=w.heap.size) (bl w _) (ar J u) af;have G:=mz o;go_wp2
 refine dg (v:=.tuple #[.agg #[dz 0,dz 0,dz 0,dz 0],.bool false]) (by simp[results,results147,go_sem, *]) rfl ⟨⟨0,0,0,0,rfl,λh=>by cases h⟩,?_,?_⟩
 .grind[Below.heap_setCell]
 repeat (refine bu ?_ (ak eG) _)
 exact ar (ar (aj _ _ _) J) u
theorem tY(b:Nat)(s:ByteArray)(p R F L:Nat)(f r l:Int)(w:aa)(h:w.heap[b]?=some (jE s p f r l))(hs:s.size<=maxLen)(Y:b≠0)(hT:pf w)(hr:Hid (r=R))(hf:Hid (f=F))(hl:Hid (l=L))(h1:1<=R)(h2:1<=F)(h3:R<=8)(h4:F<=8)(ht:M.tk s p 0 22=true)(Z:Hid ((M.uX s (p+1) (M.bt s p) R F L).2=true)):Calls prog 147 #[.pointer<|some<|az b 0] w λe w'=>yt s p e true/\w'.heap[b]?=some (jE s ((p+4:Nat):Int) f r l)/\w.grownBy w' (some b):=by
 have hb:=ch h;obtain⟨c0,c1,_,_,_⟩:=fF h;have H:Hid (w.heap[b]?=some (jE s p f r l)):=h;have HS:Hid (s.size<=maxLen):=hs;obtain⟨hp,_,a1⟩:=M.gZ ht;have HO:Hid (M.ops s R F L (M.fT<|M.KS<|M.bt s p) (p+1)=M.uX s (p+1) (M.bt s p) R F L):=by
  show _=_;rw[(M.pX _ af).1,M.BC _ _ _ _ _ _ af]
 have HK:Hid ((M.KS<|M.bt s p).size<=3):=by show _<=_;rw[(M.pX _ af).2];exact bm _
 have HT:Hid (M.tk s p 0 22=true):=ht;have y:Hid (pf w):=hT;clear h hs ht hT;go_in;go_wp2_with fail
 refine dq (lP b s p 0 22 f r l _ _ _ (mM H _) HS rfl rfl HT) ?_;rintro w1 ⟨i,G⟩;have o:=(y.alloc _).kept G Y;have hc:=o.2 (M.bt s p) af;have HH:Hid (w1.heap[b]?=some (jE s ((p+1:Nat):Int) f r l)):=i;clear i;generalize hq:M.bt s p=q at*;clear hq o;go_wp2_with fail
 refine dq (rZ b s (M.KS q) (p+1) R F L f r l _ HH HS HK af hr hf hl h1 h2 h3 h4) ?_;rintro w2 ⟨i,u⟩;rw[HO.out]at i⊢;rw[Z.out];rw[M.uk Z]at i;have J:=(M.E7 (s:=s) (p:=p+1) (op:=q) (r:=R) (f:=F) (l:=L) af).2;rw[M.uk Z]at J;obtain⟨hz,d0,d1,d2,d3,e0,e1,e2,e3⟩:=qU (k:=w.heap.size) (bl w _) (ar G u) af;have W:Hid (w2.heap[b]?=some (jE s ((p+4:Nat):Int) f r l)):=i;obtain⟨x0,x1,_,_,_⟩:=fF i;clear i;go_wp2
 go_quiet (fail)
 go_wp2_with fail
 have h4:(s.extract p<|p+1+3).size=4:=fV
 have HX:Hid (M.bt (s.extract p<|p+1+3) 0=M.bt s p/\M.bt (s.extract p<|p+1+3) 1=M.bt s (p+1)/\M.bt (s.extract p<|p+1+3) 2=M.bt s (p+2)/\M.bt (s.extract p<|p+1+3) 3=M.bt s (p+3)):=
  ⟨M.oV s p _ 0 af af,M.oV s p _ 1 af af,M.oV s p _ 2 af af,M.oV s p _ 3 af af⟩
 generalize s.extract p (p+1+3)=x at*;go_region
 go_wp2
 refine dg (v:=.tuple #[.agg #[dz (x[0].toNat:Int),dz (x[1].toNat:Int),dz (x[2].toNat:Int),dz (x[3].toNat:Int)],.bool true]) (by simp[results,results147,go_sem, *]) rfl ⟨⟨_,_,_,_,rfl,λ_=>?_⟩,?_,?_⟩
 .obtain⟨k0,k1,k2,k3⟩:=HX;rw[M.pc x 0 af]at k0;rw[M.pc x 1 af]at k1;rw[M.pc x 2 af]at k2;rw[M.pc x 3 af]at k3;rw[k0,k1,k2,k3];exact⟨rfl,rfl,rfl,rfl⟩
 .repeat (rw[ab _ _ _ _ fV])
  exact W
 repeat (refine bu ?_ (ak eG) _)
 exact df (ar (ar (aj _ _ _) G) u) _
theorem uc(b:Nat)(s:ByteArray)(p R F L:Nat)(f r l:Int)(w:aa)(h:w.heap[b]?=some (jE s p f r l))(J:s.size<=maxLen)(hp:p<=s.size)(o:b≠0)(H:pf w)(y:Hid (r=R))(W:Hid (f=F))(hl:Hid (l=L))(G:1<=R)(Z:1<=F)(Y:R<=8)(h4:F<=8):Calls prog 147 #[.pointer<|some<|az b 0] w λe w'=>yt s p e (M.ins s p R F L).2/\w'.heap[b]?=some (jE s ((M.ins s p R F L).1:Nat) f r l)/\w.grownBy w' (some b):=by
 by_cases ht:M.tk s p 0 22=true
 .have e:M.ins s p R F L=M.uX s (p+1) (M.bt s p) R F L:=by unfold M.ins;rw[bf ht]
  rw[e];by_cases u:(M.uX s (p+1) (M.bt s p) R F L).2=true
  .rw[u,M.uk u];exact tY b s p R F L f r l w h J o H y W hl G Z Y h4 ht u
  have i:(M.uX s (p+1) (M.bt s p) R F L).2=false:=iE u
  rw[i];exact tZ b s p R F L f r l w h J o H y W hl G Z Y h4 ht i
 have e:M.ins s p R F L=(p,false):=by unfold M.ins;rw[av ht]
 grind[ua]
def qI(s:ByteArray)(p:Nat):Nat->Value:=λj=>.int .u8 (M.bt s (p+j):Int)
def Cj(s:ByteArray)(p:Nat)(w w':aa)(e:Ending)(ok:Bool):Prop:=∃(x:Int) (ad:Option Addr) (n c:Nat),e=.returned (.tuple #[.agg #[.int .i64 x,.slice ad n c],.bool ok]) /\
 (ok=true->x=(M.bt s p:Int)/\n=M.bt s (p+1)/\c=n/\∃g,w.heap.size<=g/\ad=some ⟨g,0,none⟩/\Full w' g 183 (n*4) (n*4) (qI s<|p+2))
def Tryz.IH:(prog.info? 183).map (λi=>(i.zero,i.size,i.bytes))=some (some<|.agg #[dz 0,dz 0,dz 0,dz 0],4,4):=by kernel_rfl
theorem lN{b k:Nat}{T:TypeId}(h:w.heap[k]?=some (.cells #[u,i] T (0,0)))(y:w.grownBy w1 (some b))(G:k≠b):k<w1.heap.size/\w1.cell? (az k 0)=some u/\w1.cell? (az k 1)=some i/\w1.frozen? (az k 0)=false/\w1.frozen? (az k 1)=false:=by
 have o:=da y h ey;grind[ch,World.cell?,World.frozen?]
theorem x8(b:Nat)(s:ByteArray)(p F:Nat)(f r l:Int)(w:aa)(h:w.heap[b]?=some (jE s p f r l))(hs:s.size<=maxLen)(Y:b≠0)(hT:pf w)(hf:Hid (f=F))(h2:1<=F)(h4:F<=8)(aH:M.tk s p 2 8=true)(aB:M.tk s (p+1) 1 200=true):Calls prog 82 #[.pointer<|some<|az b 0] w λe w'=>Cj s p w w' e (M.fn s p F).2/\∃r' l',w'.heap[b]?=some (jE s ((M.fn s p F).1:Nat) f r' l')/\w.grownBy w' (some b):=by
 have hb:=ch h;have H:Hid (w.heap[b]?=some (jE s p f r l)):=h;have HS:Hid (s.size<=maxLen):=hs;have aJ:Hid (M.tk s p 2 8=true):=aH;have aG:Hid (M.tk s (p+1) 1 200=true):=aB;obtain⟨_,q1,q2⟩:=M.gZ aH;obtain⟨_,q3,q4⟩:=M.gZ aB;have Z:Hid (pf w):=hT;clear h hs aH aB hT;go_in;go_wp2_with fail
 refine dq (lP b s p 2 8 f r l _ _ _ (mM H _) HS rfl rfl aJ) ?_;rintro w1 ⟨G,hg⟩;have HH:Hid (w1.heap[b]?=some (jE s ((p+1:Nat):Int) f r l)):=G;obtain⟨_,_,_,x3,_⟩:=fF G;obtain⟨_,_,y3,y4⟩:=jn G;clear G;generalize hR:M.bt s p=R at*;have HR:Hid (M.bt s p=R):=hR;clear hR;go_wp2_with fail
 refine dq (lP b s (p+1) 1 200 f R l _ _ _ (uO HH _) HS rfl rfl aG) ?_;rintro w2 ⟨G,a8⟩;have aD:Hid (w2.heap[b]?=some (jE s ((p+1+1:Nat):Int) f R l)):=G;obtain⟨_,_,_,z3,z4⟩:=fF G;obtain⟨_,_,_,u4⟩:=jn G;clear G;generalize hL:M.bt s (p+1)=L at*;have HL:Hid (M.bt s (p+1)=L):=hL;clear hL x3 y3 y4;obtain⟨i0,hi,aS,aO,aN⟩:=info_parts Tryz.IH;go_wp2_with (at_make;go_loud (refine wpList_make_full _ rfl _ _ 176 rfl 0 183 i0 _ 4 underlying176 hi aS aO _ _ _ _ L rfl rfl rfl rfl ey pY (di _) ?_))
 intro w3 a9 aA;have u:(w2.setCell (az b 4)<|ah L).grownBy w3 (some b):=eT aA;have gA:w.grownBy (w2.setCell (az b 4)<|ah L) (some b):=bu (ar (bu (ar (aj _ _ _) hg) (ag rfl) _) a8) (ag rfl) _;have gB:(w.alloc<|.cells #[ah 0,.slice none 0 0] 178).grownBy w3 (some b):=ar (bu (ar (bu hg (ag rfl) _) a8) (ag rfl) _) u;have KB:Hid (w3.heap[b]?=some (jE s ((p+2:Nat):Int) f R L)):=by
  show _=_;rw[aA.block b (by have:=ch aD;simpa[World.setCell] using this) je];exact ze aD _
 have KG:Hid (w.grownBy w3<|some b):=ar gA u;have KR:Hid (w3.heap[w.heap.size]?=some (.cells #[ah 0,.slice none 0 0] 178 (0,0))):=da gB (bl w _) LQ;have KT:Hid (pf w3):=Z.kept KG Y;have KW:Hid (Full w3 w2.heap.size 183 (L*4) (0*4)<|qI s<|p+2):=(jQ.owned a9).full _;have aY:w.heap.size<w2.heap.size:=by have:=hg.size;have:=a8.size;simp[World.setCell]at*;omega
 have aL:Hid (pf w):=Z.out;clear a9 aA u gA gB HH aD z3 z4 u4 hg a8 Z;generalize w2.heap.size=g at*;have a6:Hid (M.fn s p F=M.code s R F L (p+2) L):=by
  show _=_;unfold M.fn;rw[bf aJ.out,bf aG.out,HR.out,HL.out]
 go_wp2
 go_loopw[36] (λi wr=>∃k q:Nat,k<=L/\q<=s.size/\i=ah k/\Hid (wr.heap[b]?=some (jE s q f R L))/\Hid (w.grownBy wr<|some b)/\Hid (wr.heap[w.heap.size]?=some (.cells #[ah 0,.slice none 0 0] 178 (0,0)))/\Hid (pf wr)/\Hid (Full wr g 183 (L*4) (k*4)<|qI s<|p+2)/\Hid (q=p+2+4*k)/\Hid (M.code s R F L q (L-k)=M.code s R F L (p+2) L)) (λi _=>L-(intOf i).toNat)
 case atStart=>exact⟨0,p+2,af,af,rfl,KB,KG,KR,KT,KW,rfl,rfl⟩
 case round=>
  obtain⟨k,q,hk,hq,rfl,rB,rG,rR,rT,rW,rQ,rC⟩:=hrel;clear KB KG KR KT KW;by_cases aW:k<L
  .go_wp2_with fail
   refine(uc b s q R F L f R L _ rB.out HS.out hq Y rT.out rfl hf rfl af h2 q2 h4).mono ?_;rintro e w4 ⟨⟨a0,a1,a2,a3,rfl,hA⟩,G,u⟩;have HA:Hid ((M.ins s q R F L).2=true->a0=(M.bt s q:Int)/\a1=(M.bt s (q+1):Int)/\a2=(M.bt s (q+2):Int)/\a3=(M.bt s (q+3):Int)):=hA;clear hA;have aQ:g≠b:=af
   have aR:w.heap.size≠b:=af
   have W:Hid (Full w4 g 183 (L*4) (k*4)<|qI s<|p+2):=rW.out.kept u aQ;have a5:Hid (w4.heap[b]?=some (jE s ((M.ins s q R F L).1:Nat) f R L)):=G;have a4:Hid (w.grownBy w4<|some b):=ar rG.out u;have a7:Hid (w4.heap[w.heap.size]?=some (.cells #[ah 0,.slice none 0 0] 178 (0,0))):=da u rR.out LQ;clear G u rB rG rR rT rW
   cases hok:(M.ins s q R F L).2
   .have HC:Hid (M.code s R F L (p+2) L=((M.ins s q R F L).1,false)):=by
     show _=_;rw[<-rC.out,show L-k=(L-(k+1))+1 by omega];unfold M.code;rw[av (by rw[hok];simp)]
    clear rC hok;simp only[];iterate 13 (first|go_values|go_skip|go_guarded|go_step|go_upon|go_back)
    refine wpList_store_mid rfl 183 (.tmp 46) (.tmp 44) rfl g (k*4) #[dz a0,dz a1,dz a2,dz a3] rfl rfl (W.out.Ac.there _ _ fV) eW yv ?_;have aC:∃y,y=w4.setCells g (k*4) #[Value.int .u8 a0,dz a1,dz a2,dz a3].toList:=⟨_,rfl⟩;obtain⟨y,o⟩:=aC;have aE:Hid (y.heap[b]?=some (jE s ((M.ins s q R F L).1:Nat) f R L)):=by show _=_;rw[o,fM g b af];exact a5
    have J:Hid (w.grownBy y<|some b):=by show World.grownBy _ _ _;rw[o];exact jb g _ _ _ _ a4 af
    have aF:Hid (y.heap[w.heap.size]?=some (.cells #[ah 0,.slice none 0 0] 178 (0,0))):=by show _=_;rw[o,fM g _ af];exact a7
    rw[<-o];clear o a5 a4 a7 W;obtain⟨aP,d0,d1,e0,e1⟩:=lN aF (aw y<|some b) aR;go_wp2
    refine dg (v:=.tuple #[.agg #[ah 0,.slice none 0 0],.bool false]) (by simp[results,results82,go_sem, *]) rfl ⟨?_,R,L,?_,?_⟩
    .rw[a6.out,HC.out];exact⟨_,_,_,_,rfl,λh=>by cases h⟩
    .rw[a6.out,HC.out];repeat (rw[ab _ _ _ _ fV])
     exact aE
    repeat (refine bu ?_ (ak eG) _)
    exact J
   have HC:Hid (M.code s R F L (M.ins s q R F L).1 (L-(k+1))=M.code s R F L (p+2) L):=by
    show _=_;rw[<-rC.out,show L-k=(L-(k+1))+1 by omega];conv=>rhs;unfold M.code
    rw[bf hok]
   have aT:=(M.AT (s:=s) (p:=q) (r:=R) (f:=F) (l:=L) hq).2;have aM:Hid ((M.ins s q R F L).2=true):=hok;have KQ:Hid ((M.ins s q R F L).1=p+2+4*(k+1)):=by
    show _=_;have:=M.xV hok;have:=rQ.out;omega
   clear rC hok;simp only[];iterate 13 (first|go_values|go_skip|go_guarded|go_step|go_upon|go_back)
   refine wpList_store_mid rfl 183 (.tmp 46) (.tmp 44) rfl g (k*4) #[dz a0,dz a1,dz a2,dz a3] rfl rfl (W.Ac.there _ _ fV) eW yv ?_;have aC:∃y,y=w4.setCells g (k*4) #[Value.int .u8 a0,dz a1,dz a2,dz a3].toList:=⟨_,rfl⟩;obtain⟨y,o⟩:=aC;have aE:Hid (y.heap[b]?=some (jE s ((M.ins s q R F L).1:Nat) f R L)):=by show _=_;rw[o,fM g b af];exact a5
   have J:Hid (w.grownBy y<|some b):=by show World.grownBy _ _ _;rw[o];exact jb g _ _ _ _ a4 af
   have aF:Hid (y.heap[w.heap.size]?=some (.cells #[ah 0,.slice none 0 0] 178 (0,0))):=by show _=_;rw[o,fM g _ af];exact a7
   have aK:Hid (pf y):=aL.kept J Y;have aV:Hid (Full y g 183 (L*4) ((k+1)*4)<|qI s<|p+2):=by
    show Full _ _ _ _ _ _;rw[o,show(k+1)*4=k*4+4 by omega];obtain⟨rfl,rfl,rfl,rfl⟩:=HA aM;have aU:=rQ.out;refine W.Mw af _ _ _ _ ?_ ?_ ?_ ?_<;>(unfold qI;rw[aU];congr 3;omega)
   rw[<-o];clear o a5 a4 a7 W HA aM rQ;generalize (M.ins s q R F L).1=q' at*;go_wp2
   go_roundw
   case rel=>exact⟨k+1,q',af,aT,iI,aE,J,aF,aK,aV,KQ,HC⟩
   case measure=>simp[intOf];omega
  obtain rfl:k=L:=by omega
  have HC:Hid (M.code s R F k (p+2) k=(q,true)):=by
   show _=_;rw[<-rC.out,Nat.sub_self];rfl
  clear rC;obtain⟨aP,d0,d1,e0,e1⟩:=lN rR (aw wr<|some b) af;obtain⟨_,_,_,x3,_⟩:=fF rB;go_wp2
  refine dg (v:=.tuple #[.agg #[ah R,dD g k k],.bool true]) (by simp[results,results82,go_sem, *]) rfl ⟨?_,R,k,?_,?_⟩
  .rw[a6.out,HC.out];refine⟨_,_,_,_,rfl,λ_=>⟨by rw[HR.out],by rw[HL.out],rfl,g,af,rfl,rW.block ?_⟩⟩;repeat (rw[ab _ _ _ _ fV])
  .rw[a6.out,HC.out];repeat (rw[ab _ _ _ _ fV])
   exact rB
  repeat (refine bu ?_ (ak eG) _)
  exact rG
theorem yf(b:Nat)(s:ByteArray)(p:Nat)(f r l:Int)(w:aa)(h:w.heap[b]?=some (jE s p f r l))(Y:p<=s.size)(o:M.tk s p 2 8=false):Calls prog 82 #[.pointer<|some<|az b 0] w λe w'=>Cj s p w w' e false/\∃J G,w'.heap[b]?=some (jE s p f J G)/\w.grownBy w' (some b):=by
 have hb:=ch h;have H:=mz h;go_in;go_wp2_with fail
 refine dq (pB b s p 2 8 f r l _ _ _ (mM H _) Y rfl rfl o) ?_;rintro w1 ⟨i,u⟩;have W:=mz i;let⟨_,_,_,Z,_⟩:=fF i;let⟨_,_,y3,y4⟩:=jn i;let⟨y,d0,d1,e0,e1⟩:=lN (bl w<|.cells #[ah 0,.slice none 0 0] 178) u af;go_wp2
 refine dg (v:=.tuple #[.agg #[ah 0,.slice none 0 0],.bool false]) (by simp[results,results82,go_sem, *]) rfl ⟨⟨_,_,_,_,rfl,λh=>by cases h⟩,0,l,?_,?_⟩
 .grind[Below.heap_setCell,uO]
 repeat (refine bu ?_ (by first|exact ag rfl|grind) _)
 exact ar (aj _ _ _) u
theorem ye(b:Nat)(s:ByteArray)(p:Nat)(f r l:Int)(w:aa)(h:w.heap[b]?=some (jE s p f r l))(Y:s.size<=maxLen)(o:M.tk s p 2 8=true)(u:M.tk s (p+1) 1 200=false):Calls prog 82 #[.pointer<|some<|az b 0] w λe w'=>Cj s p w w' e false/\∃r' l',w'.heap[b]?=some (jE s ((p+1:Nat):Int) f r' l')/\w.grownBy w' (some b):=by
 have hb:=ch h;have H:=mz h;have HS:=mz Y;have W:=mz o;have J:=mz u;let⟨hp,q1,q2⟩:=M.gZ o;go_in;go_wp2_with fail
 refine dq (lP b s p 2 8 f r l _ _ _ (mM H _) HS rfl rfl W) ?_;rintro w1 ⟨i,hg⟩;have HH:=mz i;let⟨_,_,_,x3,_⟩:=fF i;let⟨_,_,y3,y4⟩:=jn i;generalize hR:M.bt s p=R at*;go_wp2_with fail
 refine dq (pB b s (p+1) 1 200 f R l _ _ _ (uO HH _) af rfl rfl J) ?_;rintro w2 ⟨i,G⟩;have y:=mz i;let⟨_,_,_,_,z4⟩:=fF i;let⟨_,_,_,u4⟩:=jn i;have Z:(gG w #[ah 0,.slice none 0 0] 178).grownBy w2 (some b):=ar (bu hg (ag rfl) _) G;let⟨a0,d0,d1,e0,e1⟩:=lN (bl w<|.cells #[ah 0,.slice none 0 0] 178) Z af;go_wp2
 refine dg (v:=.tuple #[.agg #[ah 0,.slice none 0 0],.bool false]) (by simp[results,results82,go_sem, *]) rfl ⟨⟨_,_,_,_,rfl,λh=>by cases h⟩,R,0,?_,?_⟩
 .grind[Below.heap_setCell,ze]
 repeat (refine bu ?_ (by first|exact ag rfl|grind) _)
 exact ar (aj _ _ _) Z
theorem wa(b:Nat)(s:ByteArray)(p F:Nat)(f r l:Int)(w:aa)(h:w.heap[b]?=some (jE s p f r l))(y:s.size<=maxLen)(hp:p<=s.size)(u:b≠0)(G:pf w)(J:Hid (f=F))(Z:1<=F)(Y:F<=8):Calls prog 82 #[.pointer<|some<|az b 0] w λe w'=>Cj s p w w' e (M.fn s p F).2/\∃W H,w'.heap[b]?=some (jE s ((M.fn s p F).1:Nat) f W H)/\w.grownBy w' (some b):=by
 by_cases i:M.tk s p 2 8=true
 .by_cases o:M.tk s (p+1) 1 200=true
  .grind[x8]
  have e:M.fn s p F=(p+1,false):=by unfold M.fn;rw[bf i,av o]
  rw[e];grind[ye]
 have e:M.fn s p F=(p,false):=by unfold M.fn;rw[av i]
 grind[yf]
def zT(s:ByteArray)(gs:Nat->Nat):Nat->Value:=λj=>
 if j%2=0 then .int .i64 (M.bt s (M.pos s<|j/2):Int) else .slice (some ⟨gs<|j/2,0,none⟩) (M.bt s<|M.pos s (j/2)+1) (M.bt s<|M.pos s (j/2)+1)
def uy(w:aa)(s:ByteArray)(z g n m:Nat):Prop:=z<=g/\∃gs:Nat->Nat,Full w g 178 (n*2) (m*2) (zT s gs) /\
 ∀k,k<m->g<gs k/\2<=M.bt s (M.pos s k)/\M.bt s (M.pos s k)<=8/\1<=M.bt s (M.pos s k+1)/\M.bt s (M.pos s k+1)<=200/\Full w (gs k) 183 (M.bt s (M.pos s k+1)*4) (M.bt s (M.pos s k+1)*4) (qI s<|M.pos s k+2)
theorem uy.below{z n:Nat}(h:uy w s z g n m)(o:∀k,z<=k->k<w.heap.size->w'.heap[k]?=w.heap[k]?):uy w' s z g n m:=by
 obtain⟨i,gs,u,G⟩:=h;refine⟨i,gs,u.block<|o g i u.lt,λk y=>?_⟩;grind[Full.block,Full.lt]
theorem uy.kept{z n b:Nat}(h:uy w s z g n m)(o:w.grownBy w' (some b))(y:b<z):uy w' s z g n m:=
 h.below (λk u i=>o.block k i ey)
def uy.start{z n:Nat}(hz:z<=g)(h:jQ w g 178 (n*2)):uy w s z g n 0:=
 ⟨hz,λ_=>0,h.full _,λk e=>dr e<|Nat.not_lt_zero k⟩
theorem uy.Ac{w:aa}{s:ByteArray}{z g n m:Nat}(h:uy w s z g n m):jQ w g 178 (n*2):=by obtain⟨_,_,h,_⟩:=h;exact h.Ac
theorem uy.more{z n g':Nat}(h:uy w s z g n m)(hm:m<n)(Z:g<g')(o:2<=M.bt s (M.pos s m)/\M.bt s (M.pos s m)<=8/\1<=M.bt s (M.pos s m+1)/\M.bt s (M.pos s m+1)<=200)(H:Full w g' 183 (M.bt s (M.pos s m+1)*4) (M.bt s (M.pos s m+1)*4) (qI s<|M.pos s m+2)):uy (w.setCells g (m*2) [ah (M.bt s (M.pos s m):Int),dD g' (M.bt s<|M.pos s m+1)<|M.bt s<|M.pos s m+1]) s z g n (m+1):=by
 obtain⟨h0,gs,W,J⟩:=h;have i:Full w g 178 (n*2) (m*2) (zT s (λj=>if j=m then g' else gs j)):=by
  obtain⟨u,c1,Y,G⟩:=W;refine⟨u,c1,Y,λj y=>?_⟩;rw[G j y];unfold zT;have:j/2≠m:=by omega
  simp only[av this]
 refine⟨h0,λj=>if j=m then g' else gs j,?_,λk hk=>?_⟩
 .rw[show(m+1)*2=m*2+2 by omega];refine i.My af _ _ ?_ ?_
  .simp[zT,mL]
  unfold zT;grind
 by_cases e:k=m
 .subst e;simp only[bf];grind[fM,Full.block]
 simp only[av e];grind[fM,Full.block]
def GP(s:ByteArray)(w w':aa)(e:Ending)(ok:Bool):Prop:=∃(ad:Option Addr) (n c:Nat),e=.returned (.tuple #[.slice ad n c,.bool ok]) /\
 (ok=true->n=M.bt s 0/\c=n/\1<=n/\n<=8/\∃g,ad=some ⟨g,0,none⟩/\uy w' s w.heap.size g n n)
def Tryz.II:(prog.info? 178).map (λi=>(i.zero,i.size,i.bytes))=some (some<|.agg #[ah 0,.slice none 0 0],2,32):=by kernel_rfl
theorem AG(b:Nat)(s:ByteArray)(f r l:Int)(w:aa)(h:w.heap[b]?=some (jE s (0:Nat) f r l))(ht:M.tk s 0 1 8=false):Calls prog 56 #[.pointer<|some<|az b 0] w λe w'=>GP s w w' e false/\∃y u o,w'.heap[b]?=some (jE s (0:Nat) y u o)/\w.grownBy w' (some b):=by
 go_in;have H:=mz h;go_wp2_with fail
 refine dq (pB b s 0 1 8 f r l _ _ _ H af rfl rfl ht) ?_;rintro w1 ⟨i,J⟩;have G:=mz i;go_wp2
 go_ret2
 exact⟨⟨_,_,_,rfl,λh=>by cases h⟩,f,r,l,G,J⟩
theorem zg(b:Nat)(s:ByteArray)(f r l:Int)(w:aa)(h:w.heap[b]?=some (jE s (0:Nat) f r l))(hs:s.size<=maxLen)(aC:b≠0)(hT:pf w)(ht:M.tk s 0 1 8=true):Calls prog 56 #[.pointer<|some<|az b 0] w λe w'=>GP s w w' e (M.nK s).2/\∃f' r' l',w'.heap[b]?=some (jE s ((M.nK s).1:Nat) f' r' l')/\w.grownBy w' (some b):=by
 have hb:=ch h;have aO:s.size<=9223372036854775807:=by unfold maxLen at hs;omega
 have H:Hid (w.heap[b]?=some (jE s (0:Nat) f r l)):=h;have HS:Hid (s.size<=maxLen):=hs;have HT:Hid (M.tk s 0 1 8=true):=ht;have aL:Hid (pf w):=hT;obtain⟨hp,q1,q2⟩:=M.gZ ht;clear h hs ht hT;go_in;go_wp2_with fail
 refine dq (lP b s 0 1 8 f r l _ _ _ H.out HS.out rfl rfl HT.out) ?_;rintro w1 ⟨hh,hg⟩;have HH:Hid (w1.heap[b]?=some (jE s ((0+1:Nat):Int) f r l)):=hh;obtain⟨_,_,x2,_,_⟩:=fF hh;obtain⟨_,y2,_,_⟩:=jn hh;clear hh;generalize hF:M.bt s 0=F at*;have HF:Hid (M.bt s 0=F):=hF;clear hF;obtain⟨i0,hi,aH,aF,aD⟩:=info_parts Tryz.II;go_wp2_with (at_make;refine wpList_make_full _ rfl _ _ 92 rfl 0 178 i0 _ 2 underlying92 hi aH aF _ _ _ _ F rfl rfl rfl rfl ey pY (di _) ?_)
 intro w3 a0 a7;have u:(w1.setCell (az b 2)<|ah F).grownBy w3 (some b):=eT a7;have gA:w.grownBy (w1.setCell (az b 2)<|ah F) (some b):=bu hg (ag rfl) _;have KB:Hid (w3.heap[b]?=some (jE s ((1:Nat):Int) F r l)):=by
  show _=_;rw[a7.block b (by have:=ch HH.out;simpa[World.setCell] using this) je];exact ET HH.out _
 have KG:Hid (w.grownBy w3<|some b):=ar gA u;have aK:w.heap.size<=w1.heap.size:=hg.size;have KW:Hid (uy w3 s w.heap.size w1.heap.size F 0):=uy.start aK<|jQ.owned a0;clear a0 a7 u gA HH x2 y2 hg;generalize w1.heap.size=g at*;have y:Hid (M.nK s=((M.fns s F 1 F).1,(M.fns s F 1 F).2&&decide ((M.fns s F 1 F).1=s.size))):=by
  show _=_;unfold M.nK;rw[bf HT.out,HF.out]
 go_wp2
 go_loopw[23] (λi wr=>∃(k q:Nat) (r' l':Int),k<=F/\q<=s.size/\i=ah k/\Hid (wr.heap[b]?=some (jE s q F r' l'))/\Hid (w.grownBy wr<|some b)/\Hid (uy wr s w.heap.size g F k)/\Hid (q=M.pos s k)/\Hid (M.fns s F q (F-k)=M.fns s F 1 F)) (λi _=>F-(intOf i).toNat)
 case atStart=>exact⟨0,1,r,l,af,af,rfl,KB,KG,KW,rfl,rfl⟩
 case round=>
  obtain⟨k,q,r',l',hk,hq,rfl,rB,rG,rW,rQ,rC⟩:=hrel;clear KB KG KW;by_cases aG:k<F
  .go_wp2_with fail
   refine(wa b s q F F r' l' _ rB.out HS.out hq aC (aL.out.kept rG.out aC) rfl q1 q2).mono ?_;rintro e w4 ⟨⟨x,ad,n,c,rfl,hA⟩,r4,l4,hh,u⟩;have aE:g<wr.heap.size:=rW.out.Ac.lt;have HA:Hid ((M.fn s q F).2=true->x=(M.bt s q:Int)/\n=M.bt s (q+1)/\c=n/\∃g',g<g'/\ad=some (az g' 0)/\Full w4 g' 183 (n*4) (n*4) (qI s<|q+2)):=λh=>by
    obtain⟨a1,a2,a3,g',a4,a5,a6⟩:=hA h;exact⟨a1,a2,a3,g',af,a5,a6⟩
   clear hA aE;have G:Hid (uy w4 s w.heap.size g F k):=rW.out.kept u hb;have Z:Hid (w4.heap[b]?=some (jE s ((M.fn s q F).1:Nat) F r4 l4)):=hh;have W:Hid (w.grownBy w4<|some b):=ar rG.out u;clear hh u rB rG rW
   cases hok:(M.fn s q F).2
   .have Y:Hid (M.fns s F 1 F=((M.fn s q F).1,false)):=by
     show _=_;rw[<-rC.out,show F-k=(F-(k+1))+1 by omega];unfold M.fns;rw[av (by rw[hok];simp)]
    clear rC hok;simp only[];iterate 13 (first|go_values|go_skip|go_guarded|go_step|go_upon|go_back)
    refine wpList_store_mid rfl 178 (.tmp 33) (.tmp 31) rfl g (k*2) #[ah x,.slice ad n c] rfl rfl (G.out.Ac.there _ _ fV) eW yv ?_;have a9:∃J,J=w4.setCells g (k*2) #[Value.int .i64 x,.slice ad n c].toList:=⟨_,rfl⟩;obtain⟨J,o⟩:=a9;have aA:Hid (J.heap[b]?=some (jE s ((M.fn s q F).1:Nat) F r4 l4)):=by show _=_;rw[o,fM g b af];exact Z.out
    have a8:Hid (w.grownBy J<|some b):=by show World.grownBy _ _ _;rw[o];exact jb g _ _ _ _ W af
    rw[<-o];clear o Z W G;go_wp2
    go_ret2
    refine⟨?_,F,r4,l4,?_,a8⟩
    .rw[y.out,Y.out];exact⟨_,_,_,rfl,λh=>by cases h⟩
    rw[y.out,Y.out];exact aA
   have Y:Hid (M.fns s F (M.fn s q F).1 (F-(k+1))=M.fns s F 1 F):=by
    show _=_;rw[<-rC.out,show F-k=(F-(k+1))+1 by omega];conv=>rhs;unfold M.fns
    rw[bf hok]
   have aI:=(M.M9 (s:=s) (p:=q) (f:=F) hq).2;have aB:Hid ((M.fn s q F).2=true):=hok;have KQ:Hid ((M.fn s q F).1=M.pos s (k+1)):=by
    show _=_;rw[(M.vw hok).1,rQ.out,M.pos]
   clear rC hok;simp only[];iterate 13 (first|go_values|go_skip|go_guarded|go_step|go_upon|go_back)
   refine wpList_store_mid rfl 178 (.tmp 33) (.tmp 31) rfl g (k*2) #[ah x,.slice ad n c] rfl rfl (G.Ac.there _ _ fV) eW yv ?_;have a9:∃J,J=w4.setCells g (k*2) #[Value.int .i64 x,.slice ad n c].toList:=⟨_,rfl⟩;obtain⟨J,o⟩:=a9;have aA:Hid (J.heap[b]?=some (jE s ((M.fn s q F).1:Nat) F r4 l4)):=by show _=_;rw[o,fM g b af];exact Z
   have a8:Hid (w.grownBy J<|some b):=by show World.grownBy _ _ _;rw[o];exact jb g _ _ _ _ W af
   have aN:Hid (uy J s w.heap.size g F<|k+1):=by
    show uy _ _ _ _ _ _;obtain⟨a1,a2,a3,g',a4,a5,a6⟩:=HA aB;have aM:=rQ.out;have hy:=M.vw aB;rw[aM]at a1 a2 a6 hy;subst a1 a3 a5;rw[a2]at a6;rw[o,a2];exact G.more aG a4 hy.2 a6
   rw[<-o];clear o Z W G HA aB rQ;generalize (M.fn s q F).1=q' at*;go_wp2
   go_roundw
   case rel=>exact⟨k+1,q',r4,l4,af,aI,iI,aA,a8,aN,KQ,Y⟩
   case measure=>simp[intOf];omega
  obtain rfl:k=F:=by omega
  have Y:Hid (M.fns s k 1 k=(q,true)):=by
   show _=_;rw[<-rC.out,Nat.sub_self];rfl
  clear rC;obtain⟨x0,x1,_,_,_⟩:=fF rB;by_cases he:q=s.size
  .have aJ:((q:Int) == (s.size:Int))=true:=fV
   have HE:Hid (q=s.size):=he;clear he;go_wp2
   go_quiet (fail)
   go_wp2
   go_ret2
   refine⟨?_,k,r',l',?_,df rG _⟩
   .rw[y.out,Y.out,HE.out];simp;exact⟨_,_,_,rfl,λ_=>⟨by rw[HF.out],rfl,q1,q2,g,rfl,rW.below<|λ_ _ _=>rfl⟩⟩
   rw[y.out,Y.out];exact rB
  have aJ:((q:Int) == (s.size:Int))=false:=fV
  go_wp2
  go_quiet (fail)
  go_wp2
  go_ret2
  refine⟨?_,k,r',l',?_,df rG _⟩
  .rw[y.out,Y.out];simp[he];exact⟨_,_,_,rfl,λh=>by cases h⟩
  rw[y.out,Y.out];exact rB
theorem zh(b:Nat)(s:ByteArray)(f r l:Int)(w:aa)(h:w.heap[b]?=some (jE s (0:Nat) f r l))(G:s.size<=maxLen)(i:b≠0)(y:pf w):Calls prog 56 #[.pointer<|some<|az b 0] w λe w'=>GP s w w' e (M.nK s).2/\∃u o H,w'.heap[b]?=some (jE s ((M.nK s).1:Nat) u o H)/\w.grownBy w' (some b):=by
 by_cases ht:M.tk s 0 1 8=true
 .grind[zg]
 have e:M.nK s=(0,false):=by unfold M.nK;rw[av ht]
 rw[e];grind[AG]
def Tryz.FN:(prog.info? 4).map (λi=>(i.zero,i.size,i.bytes))=some (some<|.bool false,1,1):=by kernel_rfl
theorem vO(Q:Nat->Prop)(eb sb pb n nr:Nat)(R:Nat->B.V)(w:aa)(q0:w.cell? (az sb 0)=some (dD pb n n))(q1:w.cell? (az sb 1)=some (.func (.func 59) #[P0 eb] #[]))(hV:LY Q w eb nr R)(hQ:∀k,Q k->k<w.heap.size)(hn:n<=200)(hR:∀i,i<nr->(R i).1≠0->(R i).1<=n):Calls prog 135 #[P0 sb] w λe w'=>∃cb rd ad cap,e=.returned (P0 cb)/\Below w.heap.size w w'/\(∀k,pr cb rd ad k->w.heap.size<=k)/\nA w' cb rd sb n ad cap (B.begun R nr):=by
 have ls:=gT q0;have aA:=bj hV;have HQ:=bj hQ;have HR:=bj hR;obtain⟨i0,hi,aB,a8,a6⟩:=info_parts Tryz.FN;go_in;go_wp2_with (at_make;go_loud (refine wpList_make_full _ rfl _ _ 231 rfl w.heap.size 4 i0 _ 1 Tryz.underlying231 hi aB a8 _ _ _ _ n rfl rfl rfl rfl ey pY eG ?_))
 intro J H y;have a2:Full J w.heap.size 4 n n (λj=>.bool<|(λ_=>false:Nat->Bool)<|j+1):=by
  rcases H.2 with⟨h,_⟩|⟨g',aC,a5,G,h2,h3,h4,h5,h6,h7⟩
  .cases h
  injection G with G _ hc;injection G with G;injection G with G _ _;have a9:g'=w.heap.size:=iE G.symm
  subst a9 hc;refine⟨a5,h3,af,λj hj=>?_⟩;have e1:=congrArg (λl=>l[j]?) h7;rw[toList_madeCells_one]at e1;simp only[dP,List.getElem?_replicate]at e1;rw[mL,mL]at e1;simpa using e1
 have a0:=bj y;have Z:=bj a2;have aF:=dm ls y.size;have s1:=(ay y (a:=az sb 1) ls).1.trans q1;go_wp2_with fail
 have aD:=Z.lt;have a3:nA (J.alloc<|.cells #[P0 sb,dD w.heap.size n n,.slice none 0 0,ah 0] 275) J.heap.size w.heap.size sb n none 0 ⟨λ_=>false,[],0⟩:=
  ⟨bl _ _,Z.block<|au _ _ _ Z.lt,gj.nil _ _⟩
 have a7:=bj a3;have o:Hid (Below w.heap.size w<|J.alloc<|.cells #[P0 sb,dD w.heap.size n n,.slice none 0 0,ah 0] 275):=(vN a0).alloc a0.size _;refine(aA _ J.heap.size w.heap.size sb n none 0 ⟨λ_=>false,[],0⟩ (λk W=>o.block k<|HQ k W) a7 (λk W h=>?_) hn (by grind[B.sw]) HR).mono ?_
 .have:=HQ k W;rcases h with h|h|h
  .omega
  .omega
  cases h
 rintro e w5 ⟨rfl,u,ad,cap,a4,a1⟩;have Y:Hid (Below w.heap.size w w5/\(∀k,pr J.heap.size w.heap.size ad k->w.heap.size<=k)/\nA w5 J.heap.size w.heap.size sb n ad cap (B.begun R nr)):=by
  refine⟨⟨u.1.trans o.os,u.2.1.trans o.tape,u.2.2.1.trans o.output,dQ o.size u.size,λk W=>(u.same fV<|λh=>?_).trans<|o.block k W⟩,λk W=>?_,a1⟩
  .rcases h with h|h|h
   .omega
   .omega
   cases h
  rcases W with h|h|h
  .omega
  .omega
  rcases a4 k h with G|G
  .cases G
  simp at G;omega
 go_wp2
 go_ret;exact⟨_,_,ad,cap,rfl,Y.1,Y.2.1,Y.2.2⟩
theorem vH(cb o sb n:Nat)(ad:Option Addr)(cap:Nat)(c:B.Cy)(w:aa)(i:nA w cb o sb n ad cap c):dC 137 #[P0 cb] w (.bool (decide (c.nx=n))) λw'=>w.grownBy w' none:=by
 let⟨_,c1,_,u,_,_⟩:=i.c1;have G:(((c.nx:Nat):Int) == (n:Int))=decide (c.nx=n):=by
  by_cases h:c.nx=n
  .simp[h]
  have:¬((c.nx:Int)=n):=by omega
  simp[h,this]
 generalize decide (c.nx=n)=d at*;generalize c.nx=x at*;delta dC;go_in;go_wp2
 go_quiet (fail)
 go_wp2
 go_ret;simp[df,aw]
def nA.step{cb e sb n:Nat}{ad:Option Addr}{cap:Nat}{c:B.Cy}(h:nA w cb e sb n ad cap c)(o:e≠cb)(u:∀k,(Value.slice ad c.st.length cap).ownBlock=some k->k≠cb):nA (w.setCell (az cb 3)<|ah<|(c.nx:Int)+1) cb e sb n ad cap (B.look c):=by
 refine⟨?_,h.r.off o,h.q.block<|λk i=>ab _ _ _ _<|u k i⟩;simp[World.setCell,dp,h.b,B.look]
theorem ki(on:Nat->Bool)(c:B.Cy)(p:Nat)(h:B.mC on c p=true):on p=true:=B.ki h
end
namespace F
variable {ad:Option Addr}{cb pb sb:Nat}{f:Fb}{on:Nat->Bool}{w:aa}
theorem E4(on:Nat->Bool)(f:Fb)(M:Nat->List B.V)(i:Nat)(j:Nat):jT (B.free on<|i+1) f M j=eE (eE (eE (jT on f M) (i*3)<|dz 0) (i*3+1)<|ah 0) (i*3+2) (.slice none 0 0) j:=by
 by_cases o:j=i*3+2
 .subst o;rw[gU,tH,B.uu];rfl
 rw[eP _ _ _ _ o];by_cases y:j=i*3+1
 .subst y;rw[gU,zk,B.uu];rfl
 rw[eP _ _ _ _ y];by_cases u:j=i*3
 .subst u;rw[gU,zl,B.uu];rfl
 grind[eP,jT,B.zQ]
theorem Db(cb rd sb pb n:Nat)(ad:Option Addr)(cap:Nat)(c:B.Cy)(on:Nat->Bool)(f:Fb)(M:Nat->List B.V)(w:aa)(o:nA w cb rd sb n ad cap c)(hP:pt w pb n on f M)(h0:w.cell? ⟨sb,0,none⟩=some (.slice (some ⟨pb,0,none⟩) n n))(hx:c.nx<n)(hn:n<=200):Calls prog 190 #[P0 cb] w λe w'=>e=.returned (.tuple #[])/\nA w' cb rd sb n ad cap (B.look c)/\pt w' pb n (B.mC on c) f M/\dN (λk=>k=pb\/k=cb) w w':=by
 have KC:=bj o;have y:=bj hP;obtain⟨c0,c1,_,c3,_,f3⟩:=o.c1;have m0:=o.r.cell c.nx hx;have G:pb≠cb:=by obtain⟨cu,h,_⟩:=hP.p;exact eI h o.b eo
 have a4:pb≠rd:=by obtain⟨cu,h,_⟩:=hP.p;obtain⟨Y,W,_⟩:=o.r;exact eI h W eo
 have a7:(c.nx:Int)<(n:Int):=af
 have a8:IntKind.i64.wrap ((c.nx:Int)+1)=((c.nx:Int)+1):=by simp[IntKind.wrap,IntKind.bits,IntKind.signed];omega
 have a5:wrap64 ((c.nx:Int)+1)=((c.nx:Int)+1):=dL _ ⟨af,af⟩;have hq:∀k,(Value.slice ad c.st.length cap).ownBlock=some k->k≠cb/\k≠pb:=λk u=>by
  obtain⟨cu,h⟩:=o.q.ty k u;refine⟨eI h o.b eo,?_⟩;obtain⟨Y,W,_⟩:=hP.p;grind
 have HQ:=bj hq;have a0:rd≠cb:=by obtain⟨Y,W,_⟩:=o.r;exact eI W o.b eo
 have Z:∀p,1<=p->p<=n->on p=true->f.b p≠cb/\f.b p≠pb:=λp a b d=>by
  obtain⟨cu,h,_⟩:=hP.s p a b d;refine⟨eI h o.b eo,?_⟩;obtain⟨Y,W,_⟩:=hP.p;grind
 have a2:=bj Z
 cases hm:c.m (c.nx+1)
 .obtain⟨p0,z0⟩:=y.out.p.cells (c.nx*3) af;obtain⟨p1,z1⟩:=y.out.p.cells (c.nx*3+1) af;obtain⟨p2,z2⟩:=y.out.p.cells (c.nx*3+2) af;generalize jT on f M (c.nx*3)=y0 at p0;generalize jT on f M (c.nx*3+1)=y1 at p1;generalize jT on f M (c.nx*3+2)=y2 at p2;rw[hm]at m0;have HM:=bj hm;have a6:=bj<|bh c0<|bh c1 c3;generalize J:c.nx=x at*;go_in;go_wp2_with fail
  go_quiet (fail)
  go_wp2_with fail
  go_region
  go_wp2_with fail
  go_end0;subst J;have H:B.mC on c=B.free on (c.nx+1):=by unfold B.mC;rw[av (by rw[HM.out];decide)]
  have a1:∀k,k≠pb->((((w.drewN<|nq+1).setCell ⟨pb,c.nx*3,none⟩<|.int .u8 0).setCell ⟨pb,c.nx*3+1,none⟩<|.int .i64 0).setCell ⟨pb,c.nx*3+2,none⟩<|.slice none 0 0).heap[k]?=w.heap[k]?:=λk u=>by
   rw[ab _ _ _ _ u,ab _ _ _ _ u,ab _ _ _ _ u];rfl
  refine⟨rfl,nA.step (KC.out.block<|λk u=>a1 k ?_) a0<|λk u=>(HQ.out k u).1,⟨?_,λp a b d=>?_,λp q a b d e g h=>y.out.i p q a b d e (ki _ _ _ g)<|ki _ _ _ h,λp a=>y.out.l p<|ki _ _ _ a,λp a=>y.out.k p<|ki _ _ _ a⟩,?_⟩
  .rcases u with h|h|h
   .rw[h];exact λe=>G e.symm
   .rw[h];exact λe=>a4 e.symm
   exact(HQ.out k<|eZ dJ h).2
  .rw[H];have hP:Full (w.drewN<|nq+1) pb 228 (n*3) (n*3) (jT on f M):=y.out.p;exact((((hP.eE (c.nx*3)<|.int .u8 0).eE (c.nx*3+1)<|.int .i64 0).eE (c.nx*3+2)<|.slice none 0 0).congr (λj _=>(E4 on f M c.nx j).symm)).off G
  .have h:=a2.out p a b<|ki _ _ _ d;exact((y.out.s p a b<|ki _ _ _ d).block<|a1 _ h.2).off h.1
  exact bq (bq (bq (bq (uY (dx _ _) _) (ag<|ag rfl) _) (ag<|ag rfl) _) (ag<|ag rfl) _) (ag<|ak rfl) _
 rw[hm]at m0;have HM:=bj hm;generalize J:c.nx=x at*;go_in;go_wp2_with fail
 go_quiet (fail)
 go_wp2_with fail
 go_end0;subst J;have H:B.mC on c=on:=by unfold B.mC;rw[bf HM.out]
 rw[H];have o:nA (w.drewN nq) cb rd sb n ad cap c:=KC.out.block<|λ_ _=>rfl;have hP:pt (w.drewN nq) pb n on f M:=y.out.block rfl (λ_ _ _ _=>rfl);refine⟨rfl,o.step a0<|λk u=>(HQ.out k u).1,hP.block (ab _ _ _ _ G)<|λp a b d=>ab _ _ _ _ (a2.out p a b d).1,bq (uY (dx _ _) _) (ag<|ak rfl) _⟩
def LI(w0 w:aa)(cb rd sb n pb:Nat)(ad:Option Addr)(c:B.Cy)(st:List Nat)(on:Nat->Bool)(f:Fb)(M:Nat->List B.V)(l:List B.V):Prop:=
 dN (pr cb rd ad) w0 w/\pt w pb n on f M/\∃ad' cap',yr ad ad' w0.heap.size/\nA w cb rd sb n ad' cap' ⟨(B.gF c.m st l).1,(B.gF c.m st l).2,c.nx⟩
theorem LI.kept{w0 w w':aa}{cb u sb n pb:Nat}{ad:Option Addr}{c:B.Cy}{y:List Nat}{on:Nat->Bool}{f:Fb}{M:Nat->List B.V}{l:List B.V}(h:LI w0 w cb u sb n pb ad c y on f M l)(i:w.grownBy w' none):LI w0 w' cb u sb n pb ad c y on f M l:=by
 obtain⟨H,J,o,e,W,G⟩:=h;exact⟨H.jj i,J.kept i,o,e,W,G.kept i⟩
theorem uj{y n m:Nat}{cap:Nat}{c:B.Cy}{M:Nat->List B.V}(hP:pt w pb m on f M)(W:nA w cb y sb n ad cap c):¬pr cb y ad pb/\∀p,1<=p->p<=m->on p=true->¬pr cb y ad (f.b p):=by
 have o:∀(k:Nat) (u:Array Value) (T:TypeId),w.heap[k]?=ny u T->T≠275/\T≠4/\T≠3->¬pr cb y ad k:=by
  intro k u T J G h;let⟨H,T',i,e⟩:=W.ty k h;rw[J]at i;injection i with i;injection i with _ i _
  subst i;rcases e with e|e|e
  .grind
  .grind
  exact G.2.2 e
 refine⟨?_,λp a b d=>?_⟩
 .let⟨H,h,_⟩:=hP.p;grind
 let⟨H,h,_⟩:=hP.s p a b d;grind
theorem Ej{w0:aa}{Y n:Nat}{c:B.Cy}{y:List Nat}{M:Nat->List B.V}{l:List B.V}(v:B.V)(h:LI w0 w cb Y sb n pb ad c y on f M l)(hn:n<=200)(hs:y.length+B.jW c.m n<=n)(hl:∀v,v∈l->v.1≠0->v.1<=n)(hv:v.1≠0->v.1<=n):eN 188 #[P0 cb,vA v] w λw'=>LI w0 w' cb Y sb n pb ad c y on f M<|l++[v]:=by
 obtain⟨h1,hP,J,i,h2,h3⟩:=h;have u:(B.gF c.m y l).2.length<=200:=by have:=B.lS (n:=n) l c.m y hl;omega
 have o:=uj hP h3;refine dq (sV cb Y sb n J i _ v w h3 hv hn u) ?_;rintro w' ⟨Z,G,h4,h5,W⟩;refine⟨rfl,h1.trans W<|λk hk hl=>(h2.Ls hk).resolve_right af,hP.block (W.same hP.p.lt o.1)<|λp a b d=>W.same (hP.s p a b d).lt<|o.2 p a b d,Z,G,h2.trans h4 h1.size,?_⟩;grind[B.qP]
theorem Cu(cb rd sb pb n p:Nat)(ad:Option Addr)(cap:Nat)(c:B.Cy)(st:List Nat)(on:Nat->Bool)(f:Fb)(M:Nat->List B.V)(w:aa)(hC:nA w cb rd sb n ad cap c)(hP:pt w pb n on f M)(h0:w.cell? (az sb 0)=some (dD pb n n))(hsb:¬pr cb rd ad sb)(hst:c.st=st++[p])(hp:1<=p/\p<=n/\on p=true)(hv:∀v,v∈M p->v.1≠0->v.1<=n)(hs:st.length+B.jW c.m n<=n)(hn:n<=200):eN 189 #[P0 cb] w λw'=>pt w' pb n on f M/\dN (pr cb rd ad) w w'/\∃ad' cap',yr ad ad' w.heap.size/\nA w' cb rd sb n ad' cap' (B.Cv M c st p):=by
 obtain⟨k,rfl⟩:∃k,p=k+1:=⟨p-1,af⟩;have hkd:=hp.2.2
 have hC2:w.heap[cb]?=some (.cells #[P0 sb,dD rd n n,.slice ad (st.length+1) cap,ah c.nx] 275 (0,0)):=by have:=hC.b;rw[hst,db,fh]at this;exact this
 have hq:gj w 3 (.slice ad ((n6 st).length+1) cap) (n6 st++[ah k]):=by
  have:=hC.q;rw[hst,Bi,db,fh,<-xC st]at this;exact this
 obtain⟨g,off,rfl,lg,hcap,hlast,hq2⟩:=hq.pop;rw[xC]at hcap hlast hq2;obtain⟨e0,_,e2,_⟩:dW w cb 0=some (P0 sb)/\True/\dW w cb 2=some (.slice (some<|az g off) (st.length+1) cap)/\True:=by simp[World.cell?,hC2]
 have z2:w.frozen? (az cb 2)=false:=pk hC2
 have p2:=hP.p.cell (k*3+2) af;rw[tH,hkd]at p2;have hsl:qg true (f.b<|k+1) (M<|k+1).length=dD (f.b<|k+1) (M<|k+1).length (M<|k+1).length:=rfl;rw[hsl]at p2;have hne:=uj hP hC;have npc:¬pb=cb:=λe=>hne.1<|ag e;have ngc:g≠cb:=by
  obtain⟨cu,h⟩:=hq.ty g rfl;exact eI h hC2 eo
 have ncg:¬cb=g:=λe=>ngc e.symm;have hl8:=hP.l _ hkd;have hsb2:st.length<=200:=af
 have hcl:st.length<=cap:=af
 have KT:Hid (LI w (w.setCell (az cb 2)<|.slice (some<|az g off) st.length cap) cb rd sb n pb (some<|az g off) c st on f M []):=by
  refine⟨bq (dx _ _) (ag<|ag rfl) _,hP.block (ab _ _ _ _<|λe=>npc e)<|λp a b d=>ab _ _ _ _<|λe=>hne.2 p a b d<|ag e,some<|az g off,cap,yr.refl _ _,⟨?_,hC.r.off (by obtain⟨cu',h',_⟩:=hC.r;grind),hq2.block<|λx hx=>ab _ _ _ _ ?_⟩⟩
  .simp[World.setCell,dp,hC2,B.gF]
  have e:g=x:=by injection hx
  subst e;exact ngc
 have HV:=bj hv;have HST:=bj hs;have HPL:=bj hp;have hki:(k:Int)<n:=af
 have hli:(st.length:Int)<st.length+1:=af
 have hsub:(st.length:Int)+1-1=(st.length:Int):=af
 have hwr:IntKind.i64.wrap (st.length:Int)=st.length:=by simp[IntKind.wrap,IntKind.bits,IntKind.signed];omega
 have hwr2:wrap64 (st.length:Int)=st.length:=dL _ ⟨af,af⟩;generalize hln:st.length=ln at*;change Hid _ at hln;clear hC hP hC2 hq hq2 hst hne hs hv hsl hp hsb;delta eN;go_in;go_wp2_with fail
 generalize hW:w.setCell (az cb 2) (.slice (some<|az g off) ln cap)=w1 at*;clear hW e0 e2 z2 h0 p2 hlast;go_loopw[40] (λi wr=>∃j:Nat,j<=(M<|k+1).length/\i=ah j/\Hid (LI w wr cb rd sb n pb (some<|az g off) c st on f M<|(M<|k+1).take j)) (λi _=>(M<|k+1).length-(intOf i).toNat)
 case atStart=>grind
 case round=>
  obtain⟨j,hj,rfl,hX⟩:=hrel;by_cases hlt:j<(M<|k+1).length
  .have hF:=hX.2.1.s (k+1) HPL.1 HPL.2.1 HPL.2.2;have r0:=hF.cell (j*2) af;have r1:=hF.cell (j*2+1) af;rw[pF]at r0;rw[pE]at r1;clear hF;have hmem:mh M (k+1) j∈M (k+1):=by
    show(M<|k+1).getD j (0,0)∈M (k+1);rw[cw,bw hlt];exact List.getElem_mem hlt
   have htk:(M<|k+1).take (j+1)=(M<|k+1).take j++[mh M (k+1) j]:=by
    rw[List.take_succ_eq_append_getElem hlt];congr 1
    show[_]=[(M<|k+1).getD j (0,0)];rw[cw,bw hlt];rfl
   generalize hvv:mh M (k+1) j=vv at*;change Hid _ at htk hmem;clear hvv;have hji:(j:Int)<((M<|k+1).length:Int):=af
   generalize hll:(M<|k+1).length=ml at*;clear hll;go_wp2_with fail
   refine dq (Ej vv (hX.kept<|aj _ _ _) hn (eZ hln.out HST) (λv hv h0=>HV v (List.mem_of_mem_take hv) h0)<|HV vv hmem) λw5 hV5=>?_;rw[<-htk.out]at hV5;change Hid _ at hV5;clear r0 r1;go_wp2
   go_roundw
   case rel=>exact⟨j+1,af,iI,hV5⟩
   case measure=>simp[intOf];omega
  have hjl:j=(M<|k+1).length:=af
  have hX2:=hX.out;rw[hjl,List.take_length]at hX2;change Hid _ at hX2;go_wp2
  go_end0;obtain⟨x1,x2,ad',cap',x3,x4⟩:=hX2;exact⟨rfl,x2,x1,ad',cap',x3,x4⟩
theorem wG(cb o sb pb n:Nat)(ad:Option Addr)(cap:Nat)(c:B.Cy)(on:Nat->Bool)(f:Fb)(M:Nat->List B.V)(T:Nat->Prop)(w:aa)(H:nA w cb o sb n ad cap c)(hP:pt w pb n on f M)(G:w.cell? ⟨sb,0,none⟩=some (.slice (some ⟨pb,0,none⟩) n n))(u:¬pr cb o ad sb)(y:B.gE on n M c T)(hs:c.st.length+B.jW c.m n<=n)(hx:c.nx<n)(hn:n<=200):Calls prog 136 #[P0 cb] w λe w'=>e=.returned (.tuple #[])/\pt w' pb n (B.unit M on c).1 f M/\dN (λk=>k=pb\/pr cb o ad k) w w'/\∃a1 Y,yr ad a1 w.heap.size/\nA w' cb o sb n a1 Y (B.unit M on c).2:=by
 let⟨_,_,e2,_,_,_⟩:=H.c1;have lc:=ch H.b;rcases List.eq_nil_or_concat c.st with i|⟨st,p,i⟩
 .have HL:=bj<|Db cb o sb pb n ad cap c on f M w H hP G hx hn;rw[B.og i];rw[i]at e2;go_in;go_wp2_with fail
  refine HL.mono ?_;rintro e w1 ⟨rfl,h1,W,Z⟩;have J:=bj<|bh W<|bh (Z.mono (S1:=λk=>k=pb\/pr cb o ad k)<|λk hk _=>hk.imp id<|λh=>ag h) h1;go_wp2_with fail
  go_end0;exact⟨rfl,J.1,J.2.1,ad,cap,yr.refl _ _,J.2.2⟩
 rw[List.concat_eq_append]at i;have a0:=y.hc p<|y.hd p ey
 have HL:=bj<|Cu cb o sb pb n p ad cap c st on f M w H hP G u i (y.ha p a0) (λv hv G=>(y.ha _<|(y.hb p a0 v hv).2 G).2.1) ey hn;rw[B.od i];rw[i,db,fh]at e2;have a4:(0:Int)<(st.length:Int)+1:=af
 go_in;go_wp2_with fail
 refine HL.mono ?_;rintro e w1 ⟨rfl,h1,W,Z⟩;have J:=bj<|bh h1<|bh (W.mono (S1:=λk=>k=pb\/pr cb o ad k)<|λk hk _=>ak hk) Z;go_wp2_with fail
 go_end0;exact⟨rfl,J⟩
end F
section
def sG(a:Nat):wrap64 (wrap64 (a:Int)+1)=wrap64 ((a+1:Nat):Int):=by unfold wrap64;omega
def Jt(w:aa)(cb:Nat):Nat:=match w.cell? ⟨cb,2,none⟩ with|some (.slice _ n _)=>n|_=>0
def MI(w:aa)(cb:Nat):Nat:=match w.cell? ⟨cb,3,none⟩ with|some (.int _ n)=>n.toNat|_=>0
def yh(w:aa)(rd:Nat):Nat->Nat
 |0=>0
 |k+1=>yh w rd k+(match w.cell? ⟨rd,k,none⟩ with|some (.bool true)=>0|_=>1)
def todo(w:aa)(cb rd n:Nat):Nat:=Jt w cb+yh w rd n+(n-MI w cb)
theorem wZ{w:aa}{e n:Nat}{m:Nat->Bool}(h:Full w e 4 n n (λj=>.bool<|m<|j+1)):∀k,k<=n->yh w e k=B.jW m k
 |0,_=>rfl
 | k+1,hk=>by
  rw[yh,B.jW,wZ h k af,h.cell k af]
  grind
def Bf{w:aa}{cb e sb n:Nat}{ad:Option Addr}{cap:Nat}{c:B.Cy}(h:nA w cb e sb n ad cap c):todo w cb e n=c.st.length+B.jW c.m n+(n-c.nx):=by
 let⟨_,_,o,i,_⟩:=h.c1;unfold todo Jt MI;rw[wZ h.r n<|bm _,o,i];simp
theorem Cp{on:Nat->Bool}{n:Nat}{M:Nat->List B.V}{c:B.Cy}{T:Nat->Prop}(h:B.gE on n M c T)(hx:c.nx<n):(B.unit M on c).2.st.length+B.jW (B.unit M on c).2.m n+(n-(B.unit M on c).2.nx)+1=c.st.length+B.jW c.m n+(n-c.nx)/\(B.unit M on c).2.st.length+B.jW (B.unit M on c).2.m n<=c.st.length+B.jW c.m n:=by
 rcases List.eq_nil_or_concat c.st with e|⟨i,p,e⟩
 .rw[B.og e];show c.st.length+B.jW c.m n+(n-(c.nx+1))+1=_/\c.st.length+B.jW c.m n<=_;omega
 rw[List.concat_eq_append]at e;have:=B.lS (n:=n) (M p) c.m i<|λv u y=>(h.ha _<|(h.hb p (h.hc p<|h.hd p ey) v u).2 y).2.1;rw[B.od e];show(B.gF c.m i<|M p).2.length+B.jW (B.gF c.m i<|M p).1 n+(n-c.nx)+1=_/\(B.gF c.m i<|M p).2.length+B.jW (B.gF c.m i<|M p).1 n<=_;grind
theorem DJ{kd:B.Kd}{nr n:Nat}{s:B.St}(h:B.jP kd nr n s):(B.begun s.2.1 nr).st.length+B.jW (B.begun s.2.1 nr).m n<=n:=by
 have:=B.lS (n:=n) (B.jm s.2.1 nr) (λ_=>false) [] (λv e o=>by
  obtain⟨i,hi,rfl⟩:=B.mm.1 e;exact(B.mn h<|B.jS i hi o).2.2)
 rw[B.sw]at this;show(B.gF (λ_=>false) []<|B.jm s.2.1 nr).2.length+B.jW (B.gF (λ_=>false) []<|B.jm s.2.1 nr).1 n<=n;grind
end
namespace F
variable {eb pb sb:Nat}{vb:Vs}{w:aa}
structure DS(w:aa) (Q:Nat->Prop) (eb sb pb n nr:Nat) (kd:B.Kd) (vb:Vs) (s:B.St):Prop where
 hv:LY Q w eb nr s.2.1
 hq:∀k,Q k->k<w.heap.size/\k≠sb
 hs:kG w sb pb eb n kd vb s.2.2
 hh:B.jP kd nr n s
 n1:1<=n
 n2:n<=200
theorem DS.kept{w w':aa}{Q:Nat->Prop}{eb sb pb n nr:Nat}{kd:B.Kd}{vb:Vs}{s:B.St}(h:DS w Q eb sb pb n nr kd vb s)(o:w.grownBy w' none):DS w' Q eb sb pb n nr kd vb s:=
 ⟨h.hv.block<|λk i=>o.block k (h.hq k i).1 ey,λk i=>⟨dm (h.hq k i).1 o.size,(h.hq k i).2⟩,h.hs.kept o,h.hh,h.n1,h.n2⟩
def DS.roots{Q:Nat->Prop}{n nr:Nat}{kd:B.Kd}{s:B.St}(h:DS w Q eb sb pb n nr kd vb s):∀i,i<nr->(s.2.1 i).1≠0->(s.2.1 i).1<=n:=λi hi e=>(B.mn h.hh<|B.jS i hi e).2.2
theorem kG.cells{n:Nat}{kd:B.Kd}{M:Nat->List B.V}(h:kG w sb pb eb n kd vb M):w.cell? (az sb 1)=some (.func (.func 59) #[P0 eb] #[])/\w.cell? (az sb 2)=some (An kd vb)/\w.cell? (az sb 3)=some (ah<|wrap64 (kd.un:Int))/\w.cell? (az sb 4)=some (ah<|wrap64 (kd.fo:Int))/\w.cell? (az sb 5)=some (ah<|wrap64 (kd.cc:Int))/\w.frozen? (az sb 2)=false/\w.frozen? (az sb 3)=false/\w.frozen? (az sb 4)=false/\w.frozen? (az sb 5)=false:=by
 simp[World.cell?,World.frozen?,h.b]
def O6(w wr:aa)(cb rd sb pb n nr:Nat)(kd:B.Kd)(vb:Vs)(s:B.St)(o:Obj):Prop:=
 ∃c on ad cap,nA wr cb rd sb n ad cap c/\pt wr pb n on vb.f s.2.2/\B.gE on n s.2.2 c (B.Reach nr s)/\c.st.length+B.jW c.m n<=n/\(∀p,on p=true->kd.on p=true)/\(∀k,pr cb rd ad k->w.heap.size<=k)/\dN (λk=>k=sb\/k=pb) w wr/\wr.heap[sb]?=some o
theorem Dx(Q:Nat->Prop)(eb sb pb n nr:Nat)(kd:B.Kd)(vb:Vs)(s:B.St)(w:aa)(hR:DS w Q eb sb pb n nr kd vb s):eN 219 #[P0 sb] w λw'=>∃on:Nat->Bool,(∀p,1<=p->p<=n->(on p=true↔B.Reach nr s p))/\(∀p,on p=true->kd.on p=true)/\(∀p,B.Reach nr s p->on p=true)/\dN (λk=>k=sb\/k=pb) w w'/\kG w' sb pb eb n ⟨on,none,kd.un,kd.fo+1,kd.cc⟩ vb s.2.2:=by
 have KR:=bj hR;let⟨c1,c2,c3,c4,c5,z2,z3,z4,z5⟩:=hR.hs.cells;have ls:=ch hR.hs.b;have hn:=hR.n2;have hn1:=hR.n1;have a5:sb≠pb:=by let⟨cu,h,_⟩:=hR.hs.p.p;exact eI hR.hs.b h eo
 have HB:=bj hR.hs.b;generalize hy:wrap64 (kd.fo:Int)=y at*;generalize aH:An kd vb=cv at*;have HY:=bj hy;delta eN;go_in;go_wp2_with fail
 generalize hW:(w.setCell (az sb 4)<|ah<|wrap64<|y+1).setCell (az sb 2) (.pointer none)=w2;have aM:w2.heap.size=w.heap.size:=by rw[<-hW];simp[World.setCell]
 have Y:∀k,k≠sb->w2.heap[k]?=w.heap[k]?:=λk G=>by grind[Below.heap_setCell]
 have Z:w2.heap[sb]?=some (.cells #[dD pb n n,.func (.func 59) #[P0 eb] #[],.pointer none,ah<|wrap64 (kd.un:Int),ah<|wrap64<|y+1,ah<|wrap64 (kd.cc:Int)] 207 (0,0)):=by
  rw[<-hW];have:=HB.out;simp[World.setCell,dp,this]
 have a8:Hid (dN (λk=>k=sb\/k=pb) w w2):=by
  show dN _ _ _;rw[<-hW];exact bq (bq (dx _ _) (ag<|ag rfl) _) (ag<|ag rfl) _
 have d0:dW w2 sb 0=some (dD pb n n):=fj Z
 have d1:dW w2 sb 1=some (.func (.func 59) #[P0 eb] #[]):=fj Z
 generalize ho:(.cells #[dD pb n n,.func (.func 59) #[P0 eb] #[],.pointer none,ah<|wrap64 (kd.un:Int),ah<|wrap64<|y+1,ah<|wrap64 (kd.cc:Int)] 207 (0,0):Obj)=o at*;have HO:=bj ho;have aA:=bj Z;have a0:Hid (pt w2 pb n kd.on vb.f s.2.2):=KR.hs.p.block (Y pb<|λe=>a5 e.symm) (λp a b d=>Y _ (by
  let⟨cu,h,_⟩:=KR.hs.p.s p a b d;exact eI h HB eo))
 have a7:=bj<|KR.hv.block<|λk G=>Y k (KR.hq k G).2;clear hW Y ho Z c1 c2 c3 c4 c5 z2 z3 z4 z5;refine(vO Q eb sb pb n nr s.2.1 w2 d0 d1 a7 (λk G=>by have:=(KR.hq k G).1;omega) hn KR.roots).mono ?_;rintro e w3 ⟨cb,rd,ad,cap,rfl,u,a3,aC⟩;have aF:Hid (O6 w w3 cb rd sb pb n nr kd vb s o):=by
  refine⟨_,kd.on,ad,cap,aC,a0.block (u.block pb a0.p.lt)<|λp a b d=>u.block _ (a0.s p a b d).lt,B.oQ KR.hh,DJ KR.hh,λ_ h=>h,λk G=>by grind,?_,(u.block sb af).trans aA⟩;exact a8.trans (S1:=λ_=>False) ⟨u.os,u.tape,u.output,u.size,λk G _=>u.block k G⟩<|λ_ h _=>h.elim
 go_wp2
 go_loopw[] (λwr=>Hid<|O6 w wr cb rd sb pb n nr kd vb s o) (λwr=>todo wr cb rd n)
 case atStart=>exact aF
 case round=>
  obtain⟨c,on,a9,a1,h1,h2,W,h4,h5,h6,h7,h8⟩:=hrel;have HT:=bj<|Bf h1;have H:=bj<|bh h1<|bh h2<|bh W<|bh h4<|bh h5<|bh h6<|bh h7 h8;have HE:=bj<|vH cb rd sb n a9 a1 c wr h1;by_cases hx:c.nx=n
  .have hd:decide (c.nx=n)=true:=iE hx
   rw[hd]at HE;have aB:=bj hx;go_wp2_with fail
   refine dq HE λw4 J=>?_;have i:=bj J;go_wp2
   go_end0;obtain⟨h1,h2,W,h4,h5,h6,h7,h8⟩:=H;refine⟨rfl,on,λp a b=>?_,h5,λp hp=>(W.ha p hp).2.2,h7.jj i,⟨?_,h2.kept i,λc hc=>by cases hc⟩⟩
   .rw[<-W.last (W.hg af) p];exact⟨W.hi p a af,λhm=>(W.ha p<|W.hc p hm).2.2⟩
   have:=da i h8 je;rw[this,<-HO.out,<-HY.out,sG];rfl
  have hd:decide (c.nx=n)=false:=iE hx
  rw[hd]at HE;have a6:c.nx<n:=gD H.2.2.1.hh
  have a2:=bj a6;go_wp2_with fail
  refine dq HE λw4 J=>?_;have i:=bj J;go_wp2_with fail
  have aD:dW w4 sb 0=some (dD pb n n):=by
   have:=da i H.2.2.2.2.2.2.2 je;rw[<-HO.out]at this;simp[World.cell?,this]
  refine(wG cb rd sb pb n a9 a1 c on vb.f s.2.2 (B.Reach nr s) w4 (H.1.kept i) (H.2.1.kept i) aD (λh=>?_) H.2.2.1 H.2.2.2.1 a2 hn).mono ?_
  .have:=H.2.2.2.2.2.1 sb h;omega
  rintro e w5 ⟨rfl,u1,u2,aL,a4,u3,u4⟩;have aK:=Cp H.2.2.1 a2;have aJ:=Bf u4;have aO:=i.size;have aN:=H.2.2.2.2.2.2.1.size;have aI:Hid (O6 w w5 cb rd sb pb n nr kd vb s o):=by
   obtain⟨h1,h2,W,h4,h5,h6,h7,h8⟩:=H;refine⟨_,_,aL,a4,u4,u1,B.qf W a2,af,λp hp=>h5 p<|B.nG hp,λk G=>?_,(h7.jj i).trans u2<|λk G hl=>?_,(u2.same af<|λh=>?_).trans<|da i h8 je⟩
   .rcases u3.Ls G with h|h
    .exact h6 k h
    omega
   .rcases G with h|h
    .exact ak h
    exact dr (h6 k h) af
   rcases h with h|h
   .exact a5 h
   exact dr (h6 sb h) af
  have aG:Hid (todo w5 cb rd n<todo wr cb rd n):=by show _<_;have:=HT.out;omega
  go_wp2
  go_roundw
  case rel=>exact aI
  case measure=>exact aG
end F
section
theorem uH{u H:Nat}(hF:(u=98/\H=112)\/(u=86/\H=113)\/(u=98/\H=114)\/(u=98/\H=115)\/(u=86/\H=116))(op a b c fb tb eb v1 v2:Nat)(y:B.V)(R:Int->aa->Prop)(w:aa)(c1:w.cell? (az v1 0)=some (Fv u #[]))(c2:w.cell? (az v2 0)=some (Fv H #[]))(H1:∀w1,w.grownBy w1 none->dC u #[ee op a b c fb tb eb] w1 (vA y) λw'=>w1.grownBy w' none)(H2:y.1=0->∀w1,w.grownBy w1 none->Calls prog H #[ee op a b c fb tb eb,ah y.2] w1 λe w'=>∃why:Int,e=.returned (ah why)/\R why w')(H3:y.1≠0->∀w1,w.grownBy w1 none->R 1 w1):Calls prog 167 #[ee op a b c fb tb eb,P0 v1,P0 v2] w λe w'=>∃why:Int,e=.returned (ah why)/\R why w':=by
 rcases hF with⟨rfl,rfl⟩|⟨rfl,rfl⟩|⟨rfl,rfl⟩|⟨rfl,rfl⟩|⟨rfl,rfl⟩
 all_goals
  change Hid _ at H1 H2 H3;have a8:=gT c1;have Y:=gT c2;go_in;go_wp2_with fail
  have a6:=bj<|iU w op a b c fb tb eb;have a0:=bj<|aj w (.cells #[dz op,dz a,dz b,dz c,P0 fb,P0 tb,P0 eb] 186) none;generalize hW:w.alloc (.cells #[dz op,dz a,dz b,dz c,P0 fb,P0 tb,P0 eb] 186)=w1 at*;clear hW;refine dq (H1 w1 a0) λw2 G=>?_;have a4:=bj<|ar a0 G;have a5:=bj<|dw G a6;clear G;go_wp2_with fail
  refine dq (gp y _) λw3 o=>?_;have i:=bj<|ar a4 o;have W:=bj<|dw o a5;clear o;by_cases J:y.1=0
  .have hd:decide (y.1=0)=true:=iE J
   simp only[hd];change Hid _ at J;clear hd;let⟨x0,x1,x2,x3,x4,x5,x6⟩:=fe W;have d2:=(ay i (a:=az v2 0) Y).1.trans c2;go_wp2_with fail
   refine(H2 J w3 i).mono ?_;rintro e w4 ⟨why,rfl,Z⟩;change Hid _ at Z;go_wp2
   go_ret;exact⟨why,rfl,Z⟩
  have hd:decide (y.1=0)=false:=iE J
  simp only[hd];have J:=bj J;clear J hd;go_wp2
  go_ret;exact⟨1,rfl,H3 J w3 i⟩
theorem IW(op a b c fb tb eb u:Nat)(R:aa->Prop)(w:aa)(hw:w.cell? (az u 0)=some (Fv 106 #[]))(H:∀w1,w.grownBy w1 none->eN 106 #[ee op a b c fb tb eb] w1 λw'=>R w'):dC 163 #[ee op a b c fb tb eb,P0 u] w (ah 0) λw'=>R w':=by
 have y:=bj H;have G:=gT hw;delta dC;go_in;go_wp2_with fail
 refine dq (y _<|aj _ _ _) λw2 i=>?_;have o:=bj i;go_wp2
 go_ret;simp_all
theorem IV(op a b c fb tb eb u:Nat)(R:aa->Prop)(w:aa)(hw:w.cell? (az u 0)=some (Fv 109 #[]))(H:∀w1,w.grownBy w1 none->eN 109 #[ee op a b c fb tb eb] w1 λw'=>R w'):dC 163 #[ee op a b c fb tb eb,P0 u] w (ah 0) λw'=>R w':=by
 have y:=bj H;have G:=gT hw;delta dC;go_in;go_wp2_with fail
 refine dq (y _<|aj _ _ _) λw2 i=>?_;have o:=bj i;go_wp2
 go_ret;simp_all
theorem JO(op a b c fb tb eb:Nat)(R:aa->Prop)(w:aa)(le:eb<w.heap.size)(H:∀w1,w.grownBy w1 none->eN 110 #[Pt eb 32,P0 tb] w1 λw'=>R w'):eN 109 #[ee op a b c fb tb eb] w λw'=>R w':=by
 have W:=bj H;delta eN;go_in;go_wp2_with fail
 have i:=bj<|iU w op a b c fb tb eb;have o:=bj<|aj w (.cells #[dz op,dz a,dz b,dz c,P0 fb,P0 tb,P0 eb] 186) none;generalize J:w.alloc (.cells #[dz op,dz a,dz b,dz c,P0 fb,P0 tb,P0 eb] 186)=w1 at*;let⟨Z,Y,x2,x3,x4,x5,x6⟩:=fe i;go_region_with (go_at_call 110;refine dq (W w1.drew<|bo o) λw2 u=>?_;have y:=bj u;clear u)
 all_goals
  go_wp2
  go_end0;exact⟨rfl,y⟩
theorem Nl(op a b c fb tb eb:Nat)(x:Int)(R:aa->Prop)(w:aa)(H:∀w1,w.grownBy w1 none->eN 173 #[P0 eb,ah 1,P0 tb,ah x] w1 λw'=>R w'):dC 115 #[ee op a b c fb tb eb,ah x] w (ah 0) λw'=>R w':=by
 have u:=bj H;delta dC;go_in;go_wp2_with fail
 refine dq (u _<|aj _ _ _) λw2 i=>?_;have o:=bj i;go_wp2
 go_ret;simp_all
theorem He(op a b c fb tb eb:Nat)(x:Int)(R:aa->Prop)(w:aa)(H:∀w1,w.grownBy w1 none->eN 168 #[P0 eb,P0 tb,ah x] w1 λw'=>R w'):dC 112 #[ee op a b c fb tb eb,ah x] w (ah 0) λw'=>R w':=by
 have u:=bj H;delta dC;go_in;go_wp2_with fail
 refine dq (u _<|aj _ _ _) λw2 i=>?_;have o:=bj i;go_wp2
 go_ret;simp_all
theorem Og(op a b c fb tb eb:Nat)(y:B.V)(R:aa->Prop)(w:aa)(H1:∀w1,w.grownBy w1 none->dC 98 #[ee op a b c fb tb eb] w1 (vA y) λw'=>w1.grownBy w' none)(H:∀w1,w.grownBy w1 none->eN 107 #[P0 tb,vA y] w1 λw'=>R w'/\∀k,w.heap.size<=k->k<w1.heap.size->w'.heap[k]?=w1.heap[k]?):eN 106 #[ee op a b c fb tb eb] w λw'=>R w':=by
 have Y:=bj H1;have HH:=bj H;delta eN;go_in;go_wp2_with fail
 have u:=bj<|iU w op a b c fb tb eb;have J:=bj<|aj w (.cells #[dz op,dz a,dz b,dz c,P0 fb,P0 tb,P0 eb] 186) none;generalize hW:w.alloc (.cells #[dz op,dz a,dz b,dz c,P0 fb,P0 tb,P0 eb] 186)=w1 at*;go_region_held3 (λw'=>dW w' (fp w) 0=some (dz op)/\dW w' (fp w) 1=some (dz a)/\dW w' (fp w) 2=some (dz b)/\dW w' (fp w) 3=some (dz c)/\dW w' (fp w) 4=some (P0 fb)/\dW w' (fp w) 5=some (P0 tb)/\dW w' (fp w) 6=some (P0 eb)) (first|exact fe u|exact fe i|exact fe Z) (first|(go_at_call 98;refine dq (Y w1.drew<|bo J) λw2 o=>?_;have a0:=bj<|ar (bo J) o;have i:=bj<|dw o (show w1.drew.heap[fp w]?=_ from u);clear o)|(go_at_call 107;refine dq (HH w2 a0) ?_;rintro w3 ⟨W,G⟩;have a1:=bj W;have Z:=bj<|(G (fp w) (bm _)<|ch i).trans i;clear W G))
 all_goals
  go_wp2
  go_end0;exact⟨rfl,a1⟩
theorem GC(k:Nat)(u:k<=200)(w:aa):dC 220 #[ah k] w (vA (k+1,0)) λw'=>w.grownBy w' none:=by
 have o:IntKind.i64.wrap ((k:Int)+1)=((k:Int)+1):=by simp[IntKind.wrap,IntKind.bits,IntKind.signed];omega
 delta dC;go_in;go_wp2
 refine dg (v:=vA (k+1,0)) (by simp[results,results220,go_sem]) rfl ⟨rfl,?_⟩;grind[aw,bo,ax,bu]
def told_none{kd:B.Kd}(v:B.V)(h:kd.cy=none):B.told kd v=kd:=by
 obtain⟨on,e,u,o,cc⟩:=kd;have i:e=none:=h;subst i;rfl
theorem Ct{kd:B.Kd}{c:B.Cy}(v:B.V)(h:kd.cy=some c):B.told kd v=⟨kd.on,some ⟨(B.seen c.m c.st v).1,(B.seen c.m c.st v).2,c.nx⟩,kd.un,kd.fo,kd.cc⟩:=by
 grind[B.told]
theorem Ko(eb g c n:Nat)(ad:Option Addr)(H:Nat->Int)(xs:List Nat)(w:aa)(he:w.cell? (az eb 32)=some (.slice ad n c))(le:eb<w.heap.size)(hn:n=xs.length)(a9:n<=1000000000)(Z:∀j x,xs[j]?=some x->ad=some (az g 0)/\w.cell? (az g j)=some (P0 x))(lg:xs≠[]->g<w.heap.size)(J:∀x,x∈xs->w.cell? (az x 0)=some (ah<|H x)/\x<w.heap.size):dC 43 #[P0 eb] w (dD w.heap.size n n) λw'=>w'.ownsRow w.heap.size 3 1 (dD w.heap.size n n) n (xs.map<|λx=>ah<|H x)/\w.grownBy w' none:=by
 let⟨i0,hi,a2,a0,W⟩:=info_parts Tryz.Jy;have HC:=bj Z;have HN:=bj hn;have HG:=bj lg;have HM:=bj J;clear Z hn lg J;delta dC;go_in;go_wp2_with (at_make;go_loud (refine wpList_make_full _ rfl _ _ 54 rfl (fp w) 3 i0 _ 1 underlying54 hi a2 a0 _ _ _ _ n rfl rfl rfl rfl ey pY (bm _) ?_))
 intro w3 G o;have Y:jQ w3 (fp w) 3 n:=by
  have:=jQ.owned G;rwa [Nat.mul_one]at this
 have aA:=(ay o (a:=az eb 32) le).1.trans he;have a4:=bj Y;have a5:=bj o;clear G o Y he hi a2 a0 W i0;go_wp2_with fail
 go_loopw[19] (λi wr=>∃j:Nat,i=ah j/\j<=n/\Hid (jQ wr (fp w) 3 n)/\Hid (iY w wr)/\Hid (∀p x,p<j->xs[p]?=some x->wr.cell? (az (fp w) p)=some (ah<|H x))) (λi _=>n-(intOf i).toNat)
 case atStart=>exact⟨0,rfl,af,a4,a5,(λp x hp=>dr hp af)⟩
 case round=>
  obtain⟨j,rfl,hj,rB,rG,rC⟩:=hrel;by_cases a6:j<n
  .obtain⟨x,hx⟩:∃x,xs[j]?=some x:=⟨_,bw<|gD HN.out⟩;obtain⟨rfl,a1⟩:=HC j x hx;have u:=eh hx;have cj:wr.cell? (az g j)=some (P0 x):=(ay rG (a:=az g j)<|HG ey).1.trans a1;let⟨m1,m2⟩:=HM x u;have cx:=(ay rG (a:=az x 0) m2).1.trans m1;let⟨⟨y,cy⟩,zy⟩:=rB.cell j a6;have a8:(j:Int)<(n:Int):=af
   have KC:Hid (∀p z,p<j+1->xs[p]?=some z->(iA wr (fp w) j<|ah<|H x).cell? (az (fp w) p)=some (ah<|H z)):=λp z hp hz=>by
    by_cases a3:p=j
    .grind[bj,World.cell?_setCell_same]
    rw[dK _ _ _ _ ey];exact rC p z af hz
   clear a1 u m1 m2 hx;go_wp2_with fail
   go_roundw
   case rel=>exact⟨j+1,iI,af,rB.set _ _ _,bu rG (ak eG) _,KC⟩
   case measure=>simp[intOf];omega
  have a7:¬(j:Int)<(n:Int):=af
  obtain rfl:j=n:=by omega
  go_wp2_with fail
  go_ret;refine⟨rfl,nT (bm _) (bm _) pY (by rw[eD,<-HN.out]) rB<|λp y hy=>?_,rG⟩;rw[fB]at hy;obtain⟨z,hz,rfl⟩:=Option.map_eq_some_iff.1 hy;exact rC p z (by have:=(cf.1 hz).1;have:=HN.out;omega) hz
