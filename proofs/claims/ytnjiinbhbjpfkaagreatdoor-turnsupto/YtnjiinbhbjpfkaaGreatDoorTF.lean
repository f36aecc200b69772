import Derived.Test.YtnjiinbhbjpfkaaGreatDoorTB
set_option maxRecDepth 100000
set_option maxHeartbeats 0
set_option linter.all false
namespace Go.Proofs.YtnjiinbhbjpfkaaGreatDoor
open Go.RowKit Go.Proofs.Tryz
section
variable {g m:Nat}{s:ByteArray}{w w':aa}
def qh(s:ByteArray)(p:Nat):Nat->Value:=λj=>.int .u8 (M.bt s (p+j):Int)
def BH(s:ByteArray)(p:Nat)(w w':aa)(e:Ending)(ok:Bool):Prop:=∃(x:Int) (ad:Option Addr) (n c:Nat),e=.returned (.tuple #[.agg #[.int .i64 x,.slice ad n c],.bool ok]) /\
 (ok=true->x=(M.bt s p:Int)/\n=M.bt s (p+1)/\c=n/\∃g,w.heap.size<=g/\ad=some ⟨g,0,none⟩/\Full w' g 183 (n*4) (n*4) (qh s (p+2)))
def Tryz.Hb:(prog.info? 183).map (λi=>(i.zero,i.size,i.bytes))=some (some (.agg #[dy 0,dy 0,dy 0,dy 0]),4,4):=by kernel_rfl
def kX{w1:aa}{b k:Nat}{u i:Value}{T:TypeId}(h:w.heap[k]? = some (.cells #[u,i] T (0,0)))(y:w.grownBy w1 (some b))(G:k≠b): k<w1.heap.size/\w1.cell? (ay k 0)=some u/\w1.cell? (ay k 1)=some i/\w1.frozen? (ay k 0)=false/\w1.frozen? (ay k 1)=false:=by
 have o:=da y h eR;grind[ch,World.cell?,World.frozen?]
theorem xp(b:Nat)(s:ByteArray)(p F:Nat)(f r l:Int)(w:aa)(h:w.heap[b]? = some (iK s p f r l))(hs:s.size<=maxLen)(Y:b≠0)(hT:og w)(hf:Hid (f=F))(h2:1<=F)(h4:F<=8)(aH:M.tk s p 2 8=true)(aB:M.tk s (p+1) 1 200=true): Calls prog 82 #[.pointer (some (ay b 0))] w λe w'=>BH s p w w' e (M.fn s p F).2/\∃r' l',w'.heap[b]? = some (iK s ((M.fn s p F).1:Nat) f r' l')/\w.grownBy w' (some b):=by
 have hb:=ch h;have H:Hid (w.heap[b]? = some (iK s p f r l)):=h;have HS:Hid (s.size<=maxLen):=hs;have aJ:Hid (M.tk s p 2 8=true):=aH;have aG:Hid (M.tk s (p+1) 1 200=true):=aB;obtain⟨_,q1,q2⟩:=M.gU aH;obtain⟨_,q3,q4⟩:=M.gU aB;have Z:Hid (og w):=hT;clear h hs aH aB hT;go_in;go_wp2_with fail
 refine du (kZ b s p 2 8 f r l _ _ _ (mn H _) HS rfl rfl aJ) ?_;rintro w1 ⟨G,hg⟩;have HH:Hid (w1.heap[b]? = some (iK s ((p+1:Nat):Int) f r l)):=G;obtain⟨_,_,_,x3,_⟩:=fA G;obtain⟨_,_,y3,y4⟩:=iZ G;clear G;generalize hR:M.bt s p=R at *;have HR:Hid (M.bt s p=R):=hR;clear hR;go_wp2_with fail
 refine du (kZ b s (p+1) 1 200 f R l _ _ _ (uk HH _) HS rfl rfl aG) ?_;rintro w2 ⟨G,a8⟩;have aD:Hid (w2.heap[b]? = some (iK s ((p+1+1:Nat):Int) f R l)):=G;obtain⟨_,_,_,z3,z4⟩:=fA G;obtain⟨_,_,_,u4⟩:=iZ G;clear G;generalize hL:M.bt s (p+1)=L at *;have HL:Hid (M.bt s (p+1)=L):=hL;clear hL x3 y3 y4;obtain⟨i0,hi,aS,aO,aN⟩:=info_parts Tryz.Hb;go_wp2_with (at_make;go_loud (refine wpList_make_full _ rfl _ _ 176 rfl 0 183 i0 _ 4 underlying176 hi aS aO _ _ _ _ L rfl rfl rfl rfl eR pY (dk _) ?_))
 intro w3 a9 aA;have u:(w2.setCell (ay b 4) (aj L)).grownBy w3 (some b):=eT aA;have gA:w.grownBy (w2.setCell (ay b 4) (aj L)) (some b):=bu (ar (bu (ar (ak _ _ _) hg) (af rfl) _) a8) (af rfl) _;have gB:(w.alloc (.cells #[aj 0,.slice none 0 0] 178)).grownBy w3 (some b):=ar (bu (ar (bu hg (af rfl) _) a8) (af rfl) _) u;have KB:Hid (w3.heap[b]? = some (iK s ((p+2:Nat):Int) f R L)):=by
  show _=_;rw[aA.block b (by have:=ch aD;simpa[World.setCell] using this) im];exact yv aD _
 have KG:Hid (w.grownBy w3 (some b)):=ar gA u;have KR:Hid (w3.heap[w.heap.size]? = some (.cells #[aj 0,.slice none 0 0] 178 (0,0))):=da gB (bl w _) F1;have KT:Hid (og w3):=Z.kept KG Y;have KW:Hid (Full w3 w2.heap.size 183 (L*4) (0*4) (qh s (p+2))):=(jF.owned a9).full _;have aY:w.heap.size<w2.heap.size:=by have:=hg.size;have:=a8.size;simp[World.setCell]at *;omega
 have aL:Hid (og w):=Z.out;clear a9 aA u gA gB HH aD z3 z4 u4 hg a8 Z;generalize w2.heap.size=g at *;have a6:Hid (M.fn s p F=M.code s R F L (p+2) L):=by
  show _=_;unfold M.fn;rw[bf aJ.out,bf aG.out,HR.out,HL.out]
 go_wp2
 go_loopw [36] (λi wr=>∃k q:Nat,k<=L/\q<=s.size/\i=aj k/\Hid (wr.heap[b]? = some (iK s q f R L))/\Hid (w.grownBy wr (some b))/\Hid (wr.heap[w.heap.size]? = some (.cells #[aj 0,.slice none 0 0] 178 (0,0)))/\Hid (og wr)/\Hid (Full wr g 183 (L*4) (k*4) (qh s (p+2)))/\Hid (q=p+2+4*k)/\Hid (M.code s R F L q (L-k)=M.code s R F L (p+2) L)) (λi _=>L-(intOf i).toNat)
 case atStart=>exact⟨0,p+2,ag,ag,rfl,KB,KG,KR,KT,KW,rfl,rfl⟩
 case round=>
  obtain⟨k,q,hk,hq,rfl,rB,rG,rR,rT,rW,rQ,rC⟩:=hrel;clear KB KG KR KT KW;by_cases aW:k<L
  .go_wp2_with fail
   refine(tu b s q R F L f R L _ rB.out HS.out hq Y rT.out rfl hf rfl ag h2 q2 h4).mono ?_;rintro e w4 ⟨⟨a0,a1,a2,a3,rfl,hA⟩,G,u⟩;have HA:Hid ((M.ins s q R F L).2=true->a0=(M.bt s q:Int)/\a1=(M.bt s (q+1):Int)/\a2=(M.bt s (q+2):Int)/\a3=(M.bt s (q+3):Int)):=hA;clear hA;have aQ:g≠b:=ag
   have aR:w.heap.size≠b:=ag
   have W:Hid (Full w4 g 183 (L*4) (k*4) (qh s (p+2))):=rW.out.kept u aQ;have a5:Hid (w4.heap[b]? = some (iK s ((M.ins s q R F L).1:Nat) f R L)):=G;have a4:Hid (w.grownBy w4 (some b)):=ar rG.out u;have a7:Hid (w4.heap[w.heap.size]? = some (.cells #[aj 0,.slice none 0 0] 178 (0,0))):=da u rR.out F1;clear G u rB rG rR rT rW
   cases hok:(M.ins s q R F L).2
   .have HC:Hid (M.code s R F L (p+2) L=((M.ins s q R F L).1,false)):=by
     show _=_;rw[<-rC.out,show L-k=(L-(k+1))+1 by omega];unfold M.code;rw[au (by rw[hok];simp)]
    clear rC hok;simp only[];iterate 13 (first|go_values|go_skip|go_guarded|go_step|go_upon|go_back)
    refine wpList_store_mid rfl 183 (.tmp 46) (.tmp 44) rfl g (k*4) #[dy a0,dy a1,dy a2,dy a3] rfl rfl (W.out.zq.there _ _ fH) eX xI ?_;have aC:∃y,y=w4.setCells g (k*4) #[Value.int .u8 a0,dy a1,dy a2,dy a3].toList:=⟨_,rfl⟩;obtain⟨y,o⟩:=aC;have aE:Hid (y.heap[b]? = some (iK s ((M.ins s q R F L).1:Nat) f R L)):=by show _=_;rw[o,fJ g b ag];exact a5
    have J:Hid (w.grownBy y (some b)):=by show World.grownBy _ _ _;rw[o];exact iR g _ _ _ _ a4 ag
    have aF:Hid (y.heap[w.heap.size]? = some (.cells #[aj 0,.slice none 0 0] 178 (0,0))):=by show _=_;rw[o,fJ g _ ag];exact a7
    rw[<-o];clear o a5 a4 a7 W;obtain⟨aP,d0,d1,e0,e1⟩:=kX aF (aw y (some b)) aR;go_wp2
    refine dg (v:=.tuple #[.agg #[aj 0,.slice none 0 0],.bool false]) (by simp[results,results82,go_sem, *]) rfl ⟨?_,R,L,?_,?_⟩
    .rw[a6.out,HC.out];exact⟨_,_,_,_,rfl,λh=>by cases h⟩
    .rw[a6.out,HC.out];repeat (rw[ab _ _ _ _ fH])
     exact aE
    repeat (refine bu ?_ (ah eB) _)
    exact J
   have HC:Hid (M.code s R F L (M.ins s q R F L).1 (L-(k+1))=M.code s R F L (p+2) L):=by
    show _=_;rw[<-rC.out,show L-k=(L-(k+1))+1 by omega];conv=>rhs;unfold M.code
    rw[bf hok]
   have aT:=(M.An (s:=s) (p:=q) (r:=R) (f:=F) (l:=L) hq).2;have aM:Hid ((M.ins s q R F L).2=true):=hok;have KQ:Hid ((M.ins s q R F L).1=p+2+4*(k+1)):=by
    show _=_;have:=M.xi hok;have:=rQ.out;omega
   clear rC hok;simp only[];iterate 13 (first|go_values|go_skip|go_guarded|go_step|go_upon|go_back)
   refine wpList_store_mid rfl 183 (.tmp 46) (.tmp 44) rfl g (k*4) #[dy a0,dy a1,dy a2,dy a3] rfl rfl (W.zq.there _ _ fH) eX xI ?_;have aC:∃y,y=w4.setCells g (k*4) #[Value.int .u8 a0,dy a1,dy a2,dy a3].toList:=⟨_,rfl⟩;obtain⟨y,o⟩:=aC;have aE:Hid (y.heap[b]? = some (iK s ((M.ins s q R F L).1:Nat) f R L)):=by show _=_;rw[o,fJ g b ag];exact a5
   have J:Hid (w.grownBy y (some b)):=by show World.grownBy _ _ _;rw[o];exact iR g _ _ _ _ a4 ag
   have aF:Hid (y.heap[w.heap.size]? = some (.cells #[aj 0,.slice none 0 0] 178 (0,0))):=by show _=_;rw[o,fJ g _ ag];exact a7
   have aK:Hid (og y):=aL.kept J Y;have aV:Hid (Full y g 183 (L*4) ((k+1)*4) (qh s (p+2))):=by
    show Full _ _ _ _ _ _;rw[o,show(k+1)*4=k*4+4 by omega];obtain⟨rfl,rfl,rfl,rfl⟩:=HA aM;have aU:=rQ.out;refine W.Lt ag _ _ _ _ ?_ ?_ ?_ ?_<;>(unfold qh;rw[aU];congr 3;omega)
   rw[<-o];clear o a5 a4 a7 W HA aM rQ;generalize (M.ins s q R F L).1=q' at *;go_wp2
   go_roundw
   case rel=>exact⟨k+1,q',ag,aT,iA,aE,J,aF,aK,aV,KQ,HC⟩
   case measure=>simp[intOf];omega
  obtain rfl:k=L:=by omega
  have HC:Hid (M.code s R F k (p+2) k=(q,true)):=by
   show _=_;rw[<-rC.out,Nat.sub_self];rfl
  clear rC;obtain⟨aP,d0,d1,e0,e1⟩:=kX rR (aw wr (some b)) ag;obtain⟨_,_,_,x3,_⟩:=fA rB;go_wp2
  refine dg (v:=.tuple #[.agg #[aj R,dA g k k],.bool true]) (by simp[results,results82,go_sem, *]) rfl ⟨?_,R,k,?_,?_⟩
  .rw[a6.out,HC.out];refine⟨_,_,_,_,rfl,λ_=>⟨by rw[HR.out],by rw[HL.out],rfl,g,ag,rfl,rW.block ?_⟩⟩;repeat (rw[ab _ _ _ _ fH])
  .rw[a6.out,HC.out];repeat (rw[ab _ _ _ _ fH])
   exact rB
  repeat (refine bu ?_ (ah eB) _)
  exact rG
theorem xu(b:Nat)(s:ByteArray)(p:Nat)(f r l:Int)(w:aa)(h:w.heap[b]? = some (iK s p f r l))(Y:p<=s.size)(o:M.tk s p 2 8=false): Calls prog 82 #[.pointer (some (ay b 0))] w λe w'=>BH s p w w' e false/\∃J G,w'.heap[b]? = some (iK s p f J G)/\w.grownBy w' (some b):=by
 have hb:=ch h;have H:Hid (w.heap[b]? = some (iK s p f r l)):=h;go_in;go_wp2_with fail
 refine du (pa b s p 2 8 f r l _ _ _ (mn H _) Y rfl rfl o) ?_;rintro w1 ⟨i,u⟩;have W:Hid (w1.heap[b]? = some (iK s p f r l)):=i;obtain⟨_,_,_,Z,_⟩:=fA i;obtain⟨_,_,y3,y4⟩:=iZ i;obtain⟨y,d0,d1,e0,e1⟩:=kX (bl w (.cells #[aj 0,.slice none 0 0] 178)) u ag;go_wp2
 refine dg (v:=.tuple #[.agg #[aj 0,.slice none 0 0],.bool false]) (by simp[results,results82,go_sem, *]) rfl ⟨⟨_,_,_,_,rfl,λh=>by cases h⟩,0,l,?_,?_⟩
 .grind[Below.heap_setCell,uk]
 repeat (refine bu ?_ (by first|exact af rfl|grind) _)
 exact ar (ak _ _ _) u
theorem xr(b:Nat)(s:ByteArray)(p:Nat)(f r l:Int)(w:aa)(h:w.heap[b]? = some (iK s p f r l))(Y:s.size<=maxLen)(o:M.tk s p 2 8=true)(u:M.tk s (p+1) 1 200=false): Calls prog 82 #[.pointer (some (ay b 0))] w λe w'=>BH s p w w' e false/\∃r' l',w'.heap[b]? = some (iK s ((p+1:Nat):Int) f r' l')/\w.grownBy w' (some b):=by
 have hb:=ch h;have H:Hid (w.heap[b]? = some (iK s p f r l)):=h;have HS:Hid (s.size<=maxLen):=Y;have W:Hid (M.tk s p 2 8=true):=o;have J:Hid (M.tk s (p+1) 1 200=false):=u;obtain⟨hp,q1,q2⟩:=M.gU o;go_in;go_wp2_with fail
 refine du (kZ b s p 2 8 f r l _ _ _ (mn H _) HS rfl rfl W) ?_;rintro w1 ⟨i,hg⟩;have HH:Hid (w1.heap[b]? = some (iK s ((p+1:Nat):Int) f r l)):=i;obtain⟨_,_,_,x3,_⟩:=fA i;obtain⟨_,_,y3,y4⟩:=iZ i;generalize hR:M.bt s p=R at *;go_wp2_with fail
 refine du (pa b s (p+1) 1 200 f R l _ _ _ (uk HH _) ag rfl rfl J) ?_;rintro w2 ⟨i,G⟩;have y:Hid (w2.heap[b]? = some (iK s ((p+1:Nat):Int) f R l)):=i;obtain⟨_,_,_,_,z4⟩:=fA i;obtain⟨_,_,_,u4⟩:=iZ i;have Z:(w.alloc (.cells #[aj 0,.slice none 0 0] 178)).grownBy w2 (some b):=ar (bu hg (af rfl) _) G;obtain⟨a0,d0,d1,e0,e1⟩:=kX (bl w (.cells #[aj 0,.slice none 0 0] 178)) Z ag;go_wp2
 refine dg (v:=.tuple #[.agg #[aj 0,.slice none 0 0],.bool false]) (by simp[results,results82,go_sem, *]) rfl ⟨⟨_,_,_,_,rfl,λh=>by cases h⟩,R,0,?_,?_⟩
 .grind[Below.heap_setCell,yv]
 repeat (refine bu ?_ (by first|exact af rfl|grind) _)
 exact ar (ak _ _ _) Z
def vt(b:Nat)(s:ByteArray)(p F:Nat)(f r l:Int)(w:aa)(h:w.heap[b]? = some (iK s p f r l))(y:s.size<=maxLen)(hp:p<=s.size)(u:b≠0)(G:og w)(J:Hid (f=F))(Z:1<=F)(Y:F<=8): Calls prog 82 #[.pointer (some (ay b 0))] w λe w'=>BH s p w w' e (M.fn s p F).2/\∃W H,w'.heap[b]? = some (iK s ((M.fn s p F).1:Nat) f W H)/\w.grownBy w' (some b):=by
 by_cases i:M.tk s p 2 8=true
 .by_cases o:M.tk s (p+1) 1 200=true
  .grind[xp]
  have e:M.fn s p F=(p+1,false):=by unfold M.fn;rw[bf i,au o]
  rw[e];grind[xr]
 have e:M.fn s p F=(p,false):=by unfold M.fn;rw[au i]
 grind[xu]
def zh(s:ByteArray)(gs:Nat->Nat):Nat->Value:=λj=>
 if j % 2=0 then .int .i64 (M.bt s (M.pos s (j / 2)):Int) else .slice (some ⟨gs (j / 2),0,none⟩) (M.bt s (M.pos s (j / 2)+1)) (M.bt s (M.pos s (j / 2)+1))
def tT(w:aa)(s:ByteArray)(z g n m:Nat):Prop:=z<=g/\∃gs:Nat->Nat,Full w g 178 (n*2) (m*2) (zh s gs) /\
 ∀k,k<m->g<gs k/\2<=M.bt s (M.pos s k)/\M.bt s (M.pos s k)<=8/\1<=M.bt s (M.pos s k+1)/\M.bt s (M.pos s k+1)<=200/\Full w (gs k) 183 (M.bt s (M.pos s k+1)*4) (M.bt s (M.pos s k+1)*4) (qh s (M.pos s k+2))
def tT.below{z n:Nat}(h:tT w s z g n m)(o:∀k,z<=k->k<w.heap.size->w'.heap[k]? = w.heap[k]?):tT w' s z g n m:=by
 obtain⟨i,gs,u,G⟩:=h;refine⟨i,gs,u.block (o g i u.lt),λk y=>?_⟩;grind[Full.block,Full.lt]
def tT.kept{z n b:Nat}(h:tT w s z g n m)(o:w.grownBy w' (some b))(y:b<z):tT w' s z g n m:=
 h.below (λk u i=>o.block k i eR)
def tT.start{z n:Nat}(hz:z<=g)(h:jF w g 178 (n*2)):tT w s z g n 0:=
 ⟨hz,λ_=>0,h.full _,λk e=>dp e (Nat.not_lt_zero k)⟩
theorem tT.zq{w:aa}{s:ByteArray}{z g n m:Nat}(h:tT w s z g n m):jF w g 178 (n*2):=by obtain⟨_,_,h,_⟩:=h;exact h.zq
def tT.more{z n g':Nat}(h:tT w s z g n m)(hm:m<n)(Z:g<g')(o:2<=M.bt s (M.pos s m)/\M.bt s (M.pos s m)<=8/\1<=M.bt s (M.pos s m+1)/\M.bt s (M.pos s m+1)<=200)(H:Full w g' 183 (M.bt s (M.pos s m+1)*4) (M.bt s (M.pos s m+1)*4) (qh s (M.pos s m+2))): tT (w.setCells g (m*2) [aj (M.bt s (M.pos s m):Int),dA g' (M.bt s (M.pos s m+1)) (M.bt s (M.pos s m+1))]) s z g n (m+1):=by
 obtain⟨h0,gs,W,J⟩:=h;have i:Full w g 178 (n*2) (m*2) (zh s (λj=>if j=m then g' else gs j)):=by
  obtain⟨u,c1,Y,G⟩:=W;refine⟨u,c1,Y,λj y=>?_⟩;rw[G j y];unfold zh;have:j / 2≠m:=by omega
  simp only[au this]
 refine⟨h0,λj=>if j=m then g' else gs j,?_,λk hk=>?_⟩
 .rw[show(m+1)*2=m*2+2 by omega];refine i.Lu ag _ _ ?_ ?_
  .simp[zh,mm]
  unfold zh;grind
 by_cases e:k=m
 .subst e;simp only[bf];grind[fJ,Full.block]
 simp only[au e];grind[fJ,Full.block]
def FP(s:ByteArray)(w w':aa)(e:Ending)(ok:Bool):Prop:=∃(ad:Option Addr) (n c:Nat),e=.returned (.tuple #[.slice ad n c,.bool ok]) /\
 (ok=true->n=M.bt s 0/\c=n/\1<=n/\n<=8/\∃g,ad=some ⟨g,0,none⟩/\tT w' s w.heap.size g n n)
def Tryz.Hc:(prog.info? 178).map (λi=>(i.zero,i.size,i.bytes))=some (some (.agg #[aj 0,.slice none 0 0]),2,32):=by kernel_rfl
theorem zZ(b:Nat)(s:ByteArray)(f r l:Int)(w:aa)(h:w.heap[b]? = some (iK s (0:Nat) f r l))(ht:M.tk s 0 1 8=false): Calls prog 56 #[.pointer (some (ay b 0))] w λe w'=>FP s w w' e false/\∃y u o,w'.heap[b]? = some (iK s (0:Nat) y u o)/\w.grownBy w' (some b):=by
 go_in;have H:Hid (w.heap[b]? = some (iK s (0:Nat) f r l)):=h;go_wp2_with fail
 refine du (pa b s 0 1 8 f r l _ _ _ H ag rfl rfl ht) ?_;rintro w1 ⟨i,J⟩;have G:Hid (w1.heap[b]? = some (iK s (0:Nat) f r l)):=i;go_wp2
 go_ret2
 exact⟨⟨_,_,_,rfl,λh=>by cases h⟩,f,r,l,G,J⟩
theorem yw(b:Nat)(s:ByteArray)(f r l:Int)(w:aa)(h:w.heap[b]? = some (iK s (0:Nat) f r l))(hs:s.size<=maxLen)(aC:b≠0)(hT:og w)(ht:M.tk s 0 1 8=true): Calls prog 56 #[.pointer (some (ay b 0))] w λe w'=>FP s w w' e (M.m9 s).2/\∃f' r' l',w'.heap[b]? = some (iK s ((M.m9 s).1:Nat) f' r' l')/\w.grownBy w' (some b):=by
 have hb:=ch h;have aO:s.size<=9223372036854775807:=by unfold maxLen at hs;omega
 have H:Hid (w.heap[b]? = some (iK s (0:Nat) f r l)):=h;have HS:Hid (s.size<=maxLen):=hs;have HT:Hid (M.tk s 0 1 8=true):=ht;have aL:Hid (og w):=hT;obtain⟨hp,q1,q2⟩:=M.gU ht;clear h hs ht hT;go_in;go_wp2_with fail
 refine du (kZ b s 0 1 8 f r l _ _ _ H.out HS.out rfl rfl HT.out) ?_;rintro w1 ⟨hh,hg⟩;have HH:Hid (w1.heap[b]? = some (iK s ((0+1:Nat):Int) f r l)):=hh;obtain⟨_,_,x2,_,_⟩:=fA hh;obtain⟨_,y2,_,_⟩:=iZ hh;clear hh;generalize hF:M.bt s 0=F at *;have HF:Hid (M.bt s 0=F):=hF;clear hF;obtain⟨i0,hi,aH,aF,aD⟩:=info_parts Tryz.Hc;go_wp2_with (at_make;refine wpList_make_full _ rfl _ _ 92 rfl 0 178 i0 _ 2 underlying92 hi aH aF _ _ _ _ F rfl rfl rfl rfl eR pY (dk _) ?_)
 intro w3 a0 a7;have u:(w1.setCell (ay b 2) (aj F)).grownBy w3 (some b):=eT a7;have gA:w.grownBy (w1.setCell (ay b 2) (aj F)) (some b):=bu hg (af rfl) _;have KB:Hid (w3.heap[b]? = some (iK s ((1:Nat):Int) F r l)):=by
  show _=_;rw[a7.block b (by have:=ch HH.out;simpa[World.setCell] using this) im];exact Eb HH.out _
 have KG:Hid (w.grownBy w3 (some b)):=ar gA u;have aK:w.heap.size<=w1.heap.size:=hg.size;have KW:Hid (tT w3 s w.heap.size w1.heap.size F 0):=tT.start aK (jF.owned a0);clear a0 a7 u gA HH x2 y2 hg;generalize w1.heap.size=g at *;have y:Hid (M.m9 s=((M.fns s F 1 F).1,(M.fns s F 1 F).2 && decide ((M.fns s F 1 F).1=s.size))):=by
  show _=_;unfold M.m9;rw[bf HT.out,HF.out]
 go_wp2
 go_loopw [23] (λi wr=>∃(k q:Nat) (r' l':Int),k<=F/\q<=s.size/\i=aj k/\Hid (wr.heap[b]? = some (iK s q F r' l'))/\Hid (w.grownBy wr (some b))/\Hid (tT wr s w.heap.size g F k)/\Hid (q=M.pos s k)/\Hid (M.fns s F q (F-k)=M.fns s F 1 F)) (λi _=>F-(intOf i).toNat)
 case atStart=>exact⟨0,1,r,l,ag,ag,rfl,KB,KG,KW,rfl,rfl⟩
 case round=>
  obtain⟨k,q,r',l',hk,hq,rfl,rB,rG,rW,rQ,rC⟩:=hrel;clear KB KG KW;by_cases aG:k<F
  .go_wp2_with fail
   refine(vt b s q F F r' l' _ rB.out HS.out hq aC (aL.out.kept rG.out aC) rfl q1 q2).mono ?_;rintro e w4 ⟨⟨x,ad,n,c,rfl,hA⟩,r4,l4,hh,u⟩;have aE:g<wr.heap.size:=rW.out.zq.lt;have HA:Hid ((M.fn s q F).2=true->x=(M.bt s q:Int)/\n=M.bt s (q+1)/\c=n/\∃g',g<g'/\ad=some (ay g' 0)/\Full w4 g' 183 (n*4) (n*4) (qh s (q+2))):=λh=>by
    obtain⟨a1,a2,a3,g',a4,a5,a6⟩:=hA h;exact⟨a1,a2,a3,g',ag,a5,a6⟩
   clear hA aE;have G:Hid (tT w4 s w.heap.size g F k):=rW.out.kept u hb;have Z:Hid (w4.heap[b]? = some (iK s ((M.fn s q F).1:Nat) F r4 l4)):=hh;have W:Hid (w.grownBy w4 (some b)):=ar rG.out u;clear hh u rB rG rW
   cases hok:(M.fn s q F).2
   .have Y:Hid (M.fns s F 1 F=((M.fn s q F).1,false)):=by
     show _=_;rw[<-rC.out,show F-k=(F-(k+1))+1 by omega];unfold M.fns;rw[au (by rw[hok];simp)]
    clear rC hok;simp only[];iterate 13 (first|go_values|go_skip|go_guarded|go_step|go_upon|go_back)
    refine wpList_store_mid rfl 178 (.tmp 33) (.tmp 31) rfl g (k*2) #[aj x,.slice ad n c] rfl rfl (G.out.zq.there _ _ fH) eX xI ?_;have a9:∃J,J=w4.setCells g (k*2) #[Value.int .i64 x,.slice ad n c].toList:=⟨_,rfl⟩;obtain⟨J,o⟩:=a9;have aA:Hid (J.heap[b]? = some (iK s ((M.fn s q F).1:Nat) F r4 l4)):=by show _=_;rw[o,fJ g b ag];exact Z.out
    have a8:Hid (w.grownBy J (some b)):=by show World.grownBy _ _ _;rw[o];exact iR g _ _ _ _ W ag
    rw[<-o];clear o Z W G;go_wp2
    go_ret2
    refine⟨?_,F,r4,l4,?_,a8⟩
    .rw[y.out,Y.out];exact⟨_,_,_,rfl,λh=>by cases h⟩
    rw[y.out,Y.out];exact aA
   have Y:Hid (M.fns s F (M.fn s q F).1 (F-(k+1))=M.fns s F 1 F):=by
    show _=_;rw[<-rC.out,show F-k=(F-(k+1))+1 by omega];conv=>rhs;unfold M.fns
    rw[bf hok]
   have aI:=(M.Mc (s:=s) (p:=q) (f:=F) hq).2;have aB:Hid ((M.fn s q F).2=true):=hok;have KQ:Hid ((M.fn s q F).1=M.pos s (k+1)):=by
    show _=_;rw[(M.uN hok).1,rQ.out,M.pos]
   clear rC hok;simp only[];iterate 13 (first|go_values|go_skip|go_guarded|go_step|go_upon|go_back)
   refine wpList_store_mid rfl 178 (.tmp 33) (.tmp 31) rfl g (k*2) #[aj x,.slice ad n c] rfl rfl (G.zq.there _ _ fH) eX xI ?_;have a9:∃J,J=w4.setCells g (k*2) #[Value.int .i64 x,.slice ad n c].toList:=⟨_,rfl⟩;obtain⟨J,o⟩:=a9;have aA:Hid (J.heap[b]? = some (iK s ((M.fn s q F).1:Nat) F r4 l4)):=by show _=_;rw[o,fJ g b ag];exact Z
   have a8:Hid (w.grownBy J (some b)):=by show World.grownBy _ _ _;rw[o];exact iR g _ _ _ _ W ag
   have aN:Hid (tT J s w.heap.size g F (k+1)):=by
    show tT _ _ _ _ _ _;obtain⟨a1,a2,a3,g',a4,a5,a6⟩:=HA aB;have aM:=rQ.out;have hy:=M.uN aB;rw[aM]at a1 a2 a6 hy;subst a1 a3 a5;rw[a2]at a6;rw[o,a2];exact G.more aG a4 hy.2 a6
   rw[<-o];clear o Z W G HA aB rQ;generalize (M.fn s q F).1=q' at *;go_wp2
   go_roundw
   case rel=>exact⟨k+1,q',r4,l4,ag,aI,iA,aA,a8,aN,KQ,Y⟩
   case measure=>simp[intOf];omega
  obtain rfl:k=F:=by omega
  have Y:Hid (M.fns s k 1 k=(q,true)):=by
   show _=_;rw[<-rC.out,Nat.sub_self];rfl
  clear rC;obtain⟨x0,x1,_,_,_⟩:=fA rB;by_cases he:q=s.size
  .have aJ:((q:Int) == (s.size:Int))=true:=fH
   have HE:Hid (q=s.size):=he;clear he;go_wp2
   go_quiet (fail)
   go_wp2
   go_ret2
   refine⟨?_,k,r',l',?_,df rG _⟩
   .rw[y.out,Y.out,HE.out];simp;exact⟨_,_,_,rfl,λ_=>⟨by rw[HF.out],rfl,q1,q2,g,rfl,rW.below (λ_ _ _=>rfl)⟩⟩
   rw[y.out,Y.out];exact rB
  have aJ:((q:Int) == (s.size:Int))=false:=fH
  go_wp2
  go_quiet (fail)
  go_wp2
  go_ret2
  refine⟨?_,k,r',l',?_,df rG _⟩
  .rw[y.out,Y.out];simp[he];exact⟨_,_,_,rfl,λh=>by cases h⟩
  rw[y.out,Y.out];exact rB
def yx(b:Nat)(s:ByteArray)(f r l:Int)(w:aa)(h:w.heap[b]? = some (iK s (0:Nat) f r l))(G:s.size<=maxLen)(i:b≠0)(y:og w): Calls prog 56 #[.pointer (some (ay b 0))] w λe w'=>FP s w w' e (M.m9 s).2/\∃u o H,w'.heap[b]? = some (iK s ((M.m9 s).1:Nat) u o H)/\w.grownBy w' (some b):=by
 by_cases ht:M.tk s 0 1 8=true
 .grind[yw]
 have e:M.m9 s=(0,false):=by unfold M.m9;rw[au ht]
 rw[e];grind[zZ]
end
section
def rq(k:Nat)(c:Array Value)(w:aa):dD 105 #[Fv k c] w (Fv 163 #[P0 w.heap.size]) λw'=>w'=w.alloc (.cells #[Fv k c] 199):=by
 delta dD;go_in;go_wp2
 go_ret;simp_all
def CJ(k:Nat)(c:Array Value)(w:aa):dD 83 #[Fv k c] w (Fv 163 #[P0 (w.heap.size+1)]) λw'=>w'=(w.alloc (.cells #[Fv k c] 187)).alloc (.cells #[Fv 148 #[P0 w.heap.size]] 199):=by
 delta dD;go_in;go_wp2_with fail
 refine du (rq _ _ _) ?_;rintro w1 rfl;go_wp2
 go_ret;simp_all
def As(k:Nat)(c:Array Value)(w:aa):dD 95 #[Fv k c] w (Fv 163 #[P0 (w.heap.size+1)]) λw'=>w'=(w.alloc (.cells #[Fv k c] 193)).alloc (.cells #[Fv 153 #[P0 w.heap.size]] 199):=by
 delta dD;go_in;go_wp2_with fail
 refine du (rq _ _ _) ?_;rintro w1 rfl;go_wp2
 go_ret;simp_all
def Ct(k:Nat)(c:Array Value)(w:aa):dD 99 #[Fv k c] w (Fv 163 #[P0 (w.heap.size+1)]) λw'=>w'=(w.alloc (.cells #[Fv k c] 195)).alloc (.cells #[Fv 155 #[P0 w.heap.size]] 199):=by
 delta dD;go_in;go_wp2_with fail
 refine du (rq _ _ _) ?_;rintro w1 rfl;go_wp2
 go_ret;simp_all
def vu(k:Nat)(c:Array Value)(w:aa):dD 87 #[Fv k c] w (Fv 151 #[P0 w.heap.size]) λw'=>w'=w.alloc (.cells #[Fv k c] 190):=by
 delta dD;go_in;go_wp2
 go_ret;simp_all
def BW(k k2:Nat)(c i:Array Value)(w:aa):dD 111 #[Fv k c,Fv k2 i] w (Fv 167 #[P0 w.heap.size,P0 (w.heap.size+1)]) λw'=>w'=(w.alloc (.cells #[Fv k c] 187)).alloc (.cells #[Fv k2 i] 202):=by
 delta dD;go_in;go_wp2
 go_ret;simp_all
def tw(b:Nat):Array Value:=#[Fv 163 #[P0 (b+1)],Fv 163 #[P0 (b+3)],Fv 151 #[P0 (b+4)],Fv 151 #[P0 (b+5)],Fv 151 #[P0 (b+6)],Fv 151 #[P0 (b+7)],Fv 163 #[P0 (b+9)],Fv 163 #[P0 (b+11)],Fv 163 #[P0 (b+13)],Fv 163 #[P0 (b+15)],Fv 101 #[],Fv 102 #[],Fv 163 #[P0 (b+17)],Fv 104 #[],Fv 163 #[P0 (b+18)],Fv 108 #[],Fv 163 #[P0 (b+19)],Fv 167 #[P0 (b+20),P0 (b+21)],Fv 167 #[P0 (b+22),P0 (b+23)],Fv 167 #[P0 (b+24),P0 (b+25)],Fv 167 #[P0 (b+26),P0 (b+27)],Fv 167 #[P0 (b+28),P0 (b+29)],Fv 163 #[P0 (b+31)]]
def nJ(b:Nat):List (Value×TypeId):=[(Fv 84 #[],187),(Fv 148 #[P0 b],199),(Fv 86 #[],187),(Fv 148 #[P0 (b+2)],199),(Fv 88 #[],190),(Fv 89 #[],190),(Fv 90 #[],190),(Fv 91 #[],190),(Fv 93 #[],187),(Fv 148 #[P0 (b+8)],199),(Fv 96 #[],193),(Fv 153 #[P0 (b+10)],199),(Fv 97 #[],193),(Fv 153 #[P0 (b+12)],199),(Fv 100 #[],195),(Fv 155 #[P0 (b+14)],199),(Fv 103 #[],195),(Fv 155 #[P0 (b+16)],199),(Fv 106 #[],199),(Fv 109 #[],199),(Fv 98 #[],187),(Fv 112 #[],202),(Fv 86 #[],187),(Fv 113 #[],202),(Fv 98 #[],187),(Fv 114 #[],202),(Fv 98 #[],187),(Fv 115 #[],202),(Fv 86 #[],187),(Fv 116 #[],202),(Fv 117 #[],187),(Fv 148 #[P0 (b+30)],199)]
section
variable (k:Nat)(c:Array Value)(b:Nat)(w w0:aa)(l:List (Value × TypeId))(h:Hid (w = jR w0 l))(hz:Hid (w.heap.size = b))
def pM(x y:Value×TypeId):((jR w0 l).alloc (.cells #[x.1] x.2)).alloc (.cells #[y.1] y.2)=jR w0 (l++[x,y]):=by
 induction l generalizing w0 with
 | nil=>rfl
 | cons z r e=>exact e _
def vU(x:Value×TypeId):(jR w0 l).alloc (.cells #[x.1] x.2)=jR w0 (l++[x]):=by
 induction l generalizing w0 with
 | nil=>rfl
 | cons z r e=>exact e _
include h hz
def tN:dD 83 #[Fv k c] w (Fv 163 #[P0 (b+1)]) λw'=>Hid (w'=jR w0 (l++[(Fv k c,187),(Fv 148 #[P0 b],199)]))/\Hid (w'.heap.size=b+2):=by
 refine du (CJ k c w) ?_;rintro w' rfl;have i:=hz.out;subst i;refine⟨rfl,?_,?_⟩
 .show _=_;rw[<-pM,<-h.out]
 simp_all
def yV:dD 95 #[Fv k c] w (Fv 163 #[P0 (b+1)]) λw'=>Hid (w'=jR w0 (l++[(Fv k c,193),(Fv 153 #[P0 b],199)]))/\Hid (w'.heap.size=b+2):=by
 refine du (As k c w) ?_;rintro w' rfl;have i:=hz.out;subst i;refine⟨rfl,?_,?_⟩
 .show _=_;rw[<-pM,<-h.out]
 simp_all
def Bb:dD 99 #[Fv k c] w (Fv 163 #[P0 (b+1)]) λw'=>Hid (w'=jR w0 (l++[(Fv k c,195),(Fv 155 #[P0 b],199)]))/\Hid (w'.heap.size=b+2):=by
 refine du (Ct k c w) ?_;rintro w' rfl;have i:=hz.out;subst i;refine⟨rfl,?_,?_⟩
 .show _=_;rw[<-pM,<-h.out]
 simp_all
def na:dD 87 #[Fv k c] w (Fv 151 #[P0 b]) λw'=>Hid (w'=jR w0 (l++[(Fv k c,190)]))/\Hid (w'.heap.size=b+1):=by
 refine du (vu k c w) ?_;rintro w' rfl;have i:=hz.out;subst i;refine⟨rfl,?_,?_⟩
 .show _=_;rw[<-vU,<-h.out]
 simp_all
def Fj:dD 105 #[Fv k c] w (Fv 163 #[P0 b]) λw'=>Hid (w'=jR w0 (l++[(Fv k c,199)]))/\Hid (w'.heap.size=b+1):=by
 refine du (rq k c w) ?_;rintro w' rfl;have i:=hz.out;subst i;refine⟨rfl,?_,?_⟩
 .show _=_;rw[<-vU,<-h.out]
 simp_all
def qJ(k2:Nat)(i:Array Value):dD 111 #[Fv k c,Fv k2 i] w (Fv 167 #[P0 b,P0 (b+1)]) λw'=>Hid (w'=jR w0 (l++[(Fv k c,187),(Fv k2 i,202)]))/\Hid (w'.heap.size=b+2):=by
 refine du (BW k k2 c i w) ?_;rintro w' rfl;have o:=hz.out;subst o;refine⟨rfl,?_,?_⟩
 .show _=_;rw[<-pM,<-h.out]
 simp_all
end
def zu(w:aa):dD 57 #[] w (.agg (tw (w.heap.size+1))) λw'=>∃w1,Hid (w1=jR (w.alloc (.cells (Array.replicate 23 Value.nilFunc) 133)) (nJ (w.heap.size+1)))/\w'=w1.setCells w.heap.size 0 (tw (w.heap.size+1)).toList:=by
 delta dD;go_in;go_wp2_with fail
 have aH:Hid (w.alloc (.cells (Array.replicate 23 Value.nilFunc) 133)=jR (w.alloc (.cells (Array.replicate 23 Value.nilFunc) 133)) []):=rfl;have aW:Hid ((w.alloc (.cells (Array.replicate 23 Value.nilFunc) 133)).heap.size=w.heap.size+1):=by show _=_;simp
 refine du (tN 84 #[] _ _ _ _ aH aW) ?_;rintro w1 ⟨aJ,aN⟩;clear aH aW;go_wp2_with fail
 refine du (tN 86 #[] _ _ _ _ aJ aN) ?_;rintro w2 ⟨aE,aP⟩;clear aJ aN;go_wp2_with fail
 refine du (na 88 #[] _ _ _ _ aE aP) ?_;rintro w3 ⟨aU,aM⟩;clear aE aP;go_wp2_with fail
 refine du (na 89 #[] _ _ _ _ aU aM) ?_;rintro w4 ⟨aL,aV⟩;clear aU aM;go_wp2_with fail
 refine du (na 90 #[] _ _ _ _ aL aV) ?_;rintro w5 ⟨aR,aF⟩;clear aL aV;go_wp2_with fail
 refine du (na 91 #[] _ _ _ _ aR aF) ?_;rintro w6 ⟨aC,aG⟩;clear aR aF;go_wp2_with fail
 refine du (tN 93 #[] _ _ _ _ aC aG) ?_;rintro w7 ⟨aO,aQ⟩;clear aC aG;go_wp2_with fail
 refine du (yV 96 #[] _ _ _ _ aO aQ) ?_;rintro w8 ⟨aI,aD⟩;clear aO aQ;go_wp2_with fail
 refine du (yV 97 #[] _ _ _ _ aI aD) ?_;rintro w9 ⟨aS,aT⟩;clear aI aD;go_wp2_with fail
 refine du (Bb 100 #[] _ _ _ _ aS aT) ?_;rintro b7 ⟨J,a0⟩;clear aS aT;go_wp2_with fail
 refine du (Bb 103 #[] _ _ _ _ J a0) ?_;rintro b4 ⟨a9,a1⟩;clear J a0;go_wp2_with fail
 refine du (Fj 106 #[] _ _ _ _ a9 a1) ?_;rintro b6 ⟨u,a7⟩;clear a9 a1;go_wp2_with fail
 refine du (Fj 109 #[] _ _ _ _ u a7) ?_;rintro b3 ⟨a3,a4⟩;clear u a7;go_wp2_with fail
 refine du (qJ 98 #[] _ _ _ _ a3 a4 112 #[]) ?_;rintro b0 ⟨y,H⟩;clear a3 a4;go_wp2_with fail
 refine du (qJ 86 #[] _ _ _ _ y H 113 #[]) ?_;rintro b2 ⟨Y,Z⟩;clear y H;go_wp2_with fail
 refine du (qJ 98 #[] _ _ _ _ Y Z 114 #[]) ?_;rintro b1 ⟨a5,a8⟩;clear Y Z;go_wp2_with fail
 refine du (qJ 98 #[] _ _ _ _ a5 a8 115 #[]) ?_;rintro b8 ⟨G,W⟩;clear a5 a8;go_wp2_with fail
 refine du (qJ 86 #[] _ _ _ _ G W 116 #[]) ?_;rintro b5 ⟨a2,a6⟩;clear G W;go_wp2_with fail
 refine du (tN 117 #[] _ _ _ _ a2 a6) ?_;rintro o ⟨i,aK⟩;clear a2 a6;simp only[];iterate 4 (first|go_values|go_skip|go_guarded|go_step|go_upon|go_back)
 have aB:o.there w.heap.size 0 (tw (w.heap.size+1)).size:=by
  have aX:o.heap[w.heap.size]? = some (.cells (Array.replicate 23 Value.nilFunc) 133 (0,0)):=by
   rw[i.out];exact((pt (nJ (w.heap.size+1)) (w.alloc (.cells (Array.replicate 23 Value.nilFunc) 133))).block _ eB).trans (bl w _)
  exact jF.there (n:=23) (T:=133) ⟨_,aX,eB⟩ 0 _ (by simp[tw])
 refine wpList_store_mid rfl 133 (.tmp 0) (.tmp 20) rfl w.heap.size 0 (tw (w.heap.size+1)) rfl rfl aB eX (by simp[tw,Value.oneCell']) ?_;have aZ:∃w5,w5=o.setCells w.heap.size 0 (tw (w.heap.size+1)).toList:=⟨_,rfl⟩;obtain⟨w5,aA⟩:=aZ;have aY:(loadVar 133 (ay w.heap.size 0)).run prog w5=.ok (.agg (tw (w.heap.size+1))) w5:=by
  have:=run_loadVar_mid (P:=prog) w5 w.heap.size 0 133 (tw (w.heap.size+1)).toList _ (by rw[aA];exact World.rangeAt_setCells_same _ _ _ _ (gG aB)) underlying133 rfl eX;simpa using this
 rw[<-aA];have HQ:Hid (o=jR (w.alloc (.cells (Array.replicate 23 Value.nilFunc) 133)) (nJ (w.heap.size+1))):=i;clear i aK aB;go_wp2
 refine dg (v:=.agg (tw (w.heap.size+1))) (wS results57 _ rfl aY) rfl ⟨rfl,o,HQ,aA⟩
def C4(b:Nat)(w:aa)(J:Hid (w.heap.size=b)):dD 57 #[] w (.agg #[Fv 163 #[P0 (b+2)],Fv 163 #[P0 (b+4)],Fv 151 #[P0 (b+5)],Fv 151 #[P0 (b+6)],Fv 151 #[P0 (b+7)],Fv 151 #[P0 (b+8)],Fv 163 #[P0 (b+10)],Fv 163 #[P0 (b+12)],Fv 163 #[P0 (b+14)],Fv 163 #[P0 (b+16)],Fv 101 #[],Fv 102 #[],Fv 163 #[P0 (b+18)],Fv 104 #[],Fv 163 #[P0 (b+19)],Fv 108 #[],Fv 163 #[P0 (b+20)],Fv 167 #[P0 (b+21),P0 (b+22)],Fv 167 #[P0 (b+23),P0 (b+24)],Fv 167 #[P0 (b+25),P0 (b+26)],Fv 167 #[P0 (b+27),P0 (b+28)],Fv 167 #[P0 (b+29),P0 (b+30)],Fv 163 #[P0 (b+32)]]) λw'=>Below w.heap.size w w'/\w'.heap.size=b+33/\∀k x,(nJ (b+1))[k]? = some x->w'.heap[b+1+k]? = some (.cells #[x.1] x.2 (0,0)):=by
 refine du (zu w) ?_;rintro w' ⟨w1,G,rfl⟩;have u:=J.out;subst u;have i:=pt (nJ (w.heap.size+1)) (w.alloc (.cells (Array.replicate 23 Value.nilFunc) 133));have hz:=Ah (nJ (w.heap.size+1)) (w.alloc (.cells (Array.replicate 23 Value.nilFunc) 133));rw[<-G.out]at i hz;have y:w1.heap.size=w.heap.size+33:=by rw[hz];simp[nJ]
 refine⟨rfl,?_,?_,?_⟩
 .have:w.grownBy (w1.setCells w.heap.size 0 (tw (w.heap.size+1)).toList) none:=iR _ _ _ _ _ (ar (ak _ _ _) ⟨i.os,i.tape,i.output,i.size,λk o _=>i.block k o⟩) (bq _);exact⟨this.os,this.tape,this.output,this.size,λk o=>this.block k o eR⟩
 .grind[nC]
 intro k x H;rw[fJ _ _ ag,G.out];have:=EH (nJ (w.heap.size+1)) (w.alloc (.cells (Array.replicate 23 Value.nilFunc) 133)) k x H;simp_all
end
namespace F
structure Fb where
 b:Nat->Nat
 k:Nat->Nat
def JM(k:Bool)(t:Nat):Nat:=if k=true then(if t=0 then 1 else 2) else 0
def vz(k:Bool)(t:Nat):Value:=.int .u8 (JM k t)
def E9(k:Bool)(t:Nat):Nat:=if k=true then t-1 else 0
def jI(kd:Nat->Bool)(vb:Fb)(M:Nat->List B.V):Nat->Value:=λj=>
 if j % 3=0 then vz (kd (j / 3+1)) (vb.k (j / 3+1)) else if j % 3=1 then .int .i64 (E9 (kd (j / 3+1)) (vb.k (j / 3+1)):Nat) else qo (kd (j / 3+1)) (vb.b (j / 3+1)) (M (j / 3+1)).length
theorem A3(kd:Nat->Bool)(vb:Fb)(M:Nat->List B.V)(k:Nat):jI kd vb M (k*3)=vz (kd (k+1)) (vb.k (k+1)):=by
 unfold jI;rw[mm,show k*3 / 3=k by omega]
theorem A2(kd:Nat->Bool)(vb:Fb)(M:Nat->List B.V)(k:Nat):jI kd vb M (k*3+1)=aj (E9 (kd (k+1)) (vb.k (k+1)):Nat):=by
 unfold jI;rw[eD,mm,show(k*3+1) / 3=k by omega]
theorem uu(kd:Nat->Bool)(vb:Fb)(M:Nat->List B.V)(k:Nat):jI kd vb M (k*3+2)=qo (kd (k+1)) (vb.b (k+1)) (M (k+1)).length:=by
 unfold jI;rw[eD,eD,show(k*3+2) / 3=k by omega]
structure oW(w:aa) (pb n:Nat) (on:Nat->Bool) (f:Fb) (M:Nat->List B.V):Prop where
 p:Full w pb 228 (n*3) (n*3) (jI on f M)
 s:∀p,1<=p->p<=n->on p=true->Full w (f.b p) 149 ((M p).length*2) ((M p).length*2) (eQ (lM M p))
 i:∀p q,1<=p->p<=n->1<=q->q<=n->on p=true->on q=true->f.b p=f.b q->p=q
 l:∀p,on p=true->(M p).length<=8
 k:∀p,on p=true->f.k p≠0->(M p).length=1
theorem oW.block{w w':aa}{pb n:Nat}{on:Nat->Bool}{f:Fb}{M:Nat->List B.V}(h:oW w pb n on f M)(o:w'.heap[pb]? = w.heap[pb]?)(e:∀p,1<=p->p<=n->on p=true->w'.heap[f.b p]? = w.heap[f.b p]?):oW w' pb n on f M:=
 ⟨h.p.block o,λp a b c=>(h.s p a b c).block (e p a b c),h.i,h.l,h.k⟩
def oW.kept{w w':aa}{pb n:Nat}{on:Nat->Bool}{f:Fb}{M:Nat->List B.V}(h:oW w pb n on f M)(i:w.grownBy w' none):oW w' pb n on f M:=
 h.block (i.block pb h.p.lt im) (λp a b c=>i.block _ (h.s p a b c).lt im)
structure Vs where
 f:Fb
 cb:Nat
 rd:Nat
 ad:Option Addr
 cap:Nat
def BJ:Vs:=⟨⟨λ_=>0,λ_=>0⟩,0,0,none,0⟩
def zE(kd:B.Kd)(vb:Vs):Value:=if kd.cy.isSome=true then P0 vb.cb else .pointer none
structure kD(w:aa) (sb pb eb n:Nat) (kd:B.Kd) (vb:Vs) (M:Nat->List B.V):Prop where
 b:w.heap[sb]? = some (.cells #[.slice (some ⟨pb,0,none⟩) n n,.func (.func 59) #[P0 eb] #[],zE kd vb,.int .i64 (wrap64 (kd.un:Int)),.int .i64 (wrap64 (kd.fo:Int)),.int .i64 (wrap64 (kd.cc:Int))] 207 (0,0))
 p:oW w pb n kd.on vb.f M
 c:∀c,kd.cy=some c->mV w vb.cb vb.rd sb n vb.ad vb.cap c
def Own(n:Nat)(kd:B.Kd)(vb:Vs)(k:Nat):Prop:=(∃p,1<=p/\p<=n/\kd.on p=true/\vb.f.b p=k)\/(kd.cy.isSome=true/\oT vb.cb vb.rd vb.ad k)
theorem kD.block{w w':aa}{sb pb eb n:Nat}{kd:B.Kd}{vb:Vs}{M:Nat->List B.V}(h:kD w sb pb eb n kd vb M)(u:w'.heap[sb]? = w.heap[sb]?)(y:w'.heap[pb]? = w.heap[pb]?)(i:∀k,Own n kd vb k->w'.heap[k]? = w.heap[k]?):kD w' sb pb eb n kd vb M:=
 ⟨u.trans h.b,h.p.block y (λp a b c=>i _ (af ⟨p,a,b,c,rfl⟩)),λc e=>(h.c c e).block (λk o=>i k (ah ⟨jx e,o⟩))⟩
theorem kD.lt{w:aa}{sb pb eb n:Nat}{kd:B.Kd}{vb:Vs}{M:Nat->List B.V}(h:kD w sb pb eb n kd vb M)(k:Nat)(e:Own n kd vb k):k<w.heap.size:=by
 rcases e with⟨p,a,b,c,rfl⟩|⟨i,e⟩
 .exact(h.p.s p a b c).lt
 obtain⟨c,i⟩:=Option.isSome_iff_exists.1 i;exact(h.c c i).lt k e
def kD.kept{w w':aa}{sb pb eb n:Nat}{kd:B.Kd}{vb:Vs}{M:Nat->List B.V}(h:kD w sb pb eb n kd vb M)(i:w.grownBy w' none):kD w' sb pb eb n kd vb M:=
 h.block (i.block sb (ch h.b) im) (i.block pb h.p.p.lt im) (λk o=>i.block k (h.lt k o) im)
theorem kD.ty{w:aa}{sb pb eb n:Nat}{kd:B.Kd}{vb:Vs}{M:Nat->List B.V}(h:kD w sb pb eb n kd vb M)(k:Nat)(i:Own n kd vb k):∃e T,w.heap[k]? = some (.cells e T (0,0))/\(T=149\/T=275\/T=4\/T=3):=by
 rcases i with⟨p,a,b,c,rfl⟩|⟨o,i⟩
 .obtain⟨e,u,_⟩:=h.p.s p a b c;exact⟨_,_,u,af rfl⟩
 obtain⟨c,o⟩:=Option.isSome_iff_exists.1 o;obtain⟨e,T,u,y⟩:=(h.c c o).ty k i;exact⟨e,T,u,ah y⟩
def JL(k:Bool)(t:Nat):((JM k t:Int) == 0)=!k:=by
 unfold JM
 cases k
 .rfl
 by_cases h:t=0
 .simp[h]
 simp[h]
def Am(k:Bool)(t:Nat)(c1:Int)(v:Value)(w:aa):Calls prog 140 #[.agg #[vz k t,.int .i64 c1,v]] w λe w'=>e=.returned (.bool (!k))/\w.grownBy w' none:=by
 have h:=JL k t;show Calls prog 140 #[.agg #[.int .u8 (JM k t:Nat),.int .i64 c1,v]] w _;generalize JM k t=y at *;rw[<-h];clear h;go_in;go_wp2_with fail
 go_ret;exact⟨rfl,ak _ _ _⟩
end F
section
variable {ad:Option Addr}{cap cb e sb:Nat}{w:aa}
def Tryz.ES:(prog.info? 4).map (λi=>(i.zero,i.size,i.bytes))=some (some (.bool false),1,1):=by kernel_rfl
def u9(Q:Nat->Prop)(eb sb pb n nr:Nat)(R:Nat->B.V)(w:aa)(q0:w.cell? (ay sb 0)=some (dA pb n n))(q1:w.cell? (ay sb 1)=some (.func (.func 59) #[P0 eb] #[]))(hV:Kx Q w eb nr R)(hQ:∀k,Q k->k<w.heap.size)(hn:n<=200)(hR:∀i,i<nr->(R i).1≠0->(R i).1<=n): Calls prog 135 #[P0 sb] w λe w'=>∃cb rd ad cap,e=.returned (P0 cb)/\Below w.heap.size w w'/\(∀k,oT cb rd ad k->w.heap.size<=k)/\mV w' cb rd sb n ad cap (B.begun R nr):=by
 have ls:=gM q0;have aA:=bj hV;have HQ:=bj hQ;have HR:=bj hR;obtain⟨i0,hi,aB,a8,a6⟩:=info_parts Tryz.ES;go_in;go_wp2_with (at_make;go_loud (refine wpList_make_full _ rfl _ _ 231 rfl w.heap.size 4 i0 _ 1 Tryz.underlying231 hi aB a8 _ _ _ _ n rfl rfl rfl rfl eR pY eB ?_))
 intro J H y;have a2:Full J w.heap.size 4 n n (λj=>.bool ((λ_=>false:Nat->Bool) (j+1))):=by
  rcases H.2 with⟨h,_⟩|⟨g',aC,a5,G,h2,h3,h4,h5,h6,h7⟩
  .cases h
  injection G with G _ hc;injection G with G;injection G with G _ _;have a9:g'=w.heap.size:=gG G.symm
  subst a9 hc;refine⟨a5,h3,ag,λj hj=>?_⟩;have e1:=congrArg (λl=>l[j]?) h7;rw[toList_madeCells_one]at e1;simp only[dO,List.getElem?_replicate]at e1;rw[mm,mm]at e1;simpa using e1
 have a0:=bj y;have Z:=bj a2;have aF:=dm ls y.size;have s1:=(bd y (a:=ay sb 1) ls).1.trans q1;go_wp2_with fail
 have aD:=Z.lt;have a3:mV (J.alloc (.cells #[P0 sb,dA w.heap.size n n,.slice none 0 0,aj 0] 275)) J.heap.size w.heap.size sb n none 0 ⟨λ_=>false,[],0⟩:=
  ⟨bl _ _,Z.block (av _ _ _ Z.lt),gd.nil _ _⟩
 have a7:=bj a3;have o:Hid (Below w.heap.size w (J.alloc (.cells #[P0 sb,dA w.heap.size n n,.slice none 0 0,aj 0] 275))):=(uZ a0).alloc a0.size _;refine(aA _ J.heap.size w.heap.size sb n none 0 ⟨λ_=>false,[],0⟩ (λk W=>o.block k (HQ k W)) a7 (λk W h=>?_) hn (by grind[B.xz]) HR).mono ?_
 .have:=HQ k W;rcases h with h|h|h
  .omega
  .omega
  cases h
 rintro e w5 ⟨rfl,u,ad,cap,a4,a1⟩;have Y:Hid (Below w.heap.size w w5/\(∀k,oT J.heap.size w.heap.size ad k->w.heap.size<=k)/\mV w5 J.heap.size w.heap.size sb n ad cap (B.begun R nr)):=by
  refine⟨⟨u.1.trans o.os,u.2.1.trans o.tape,u.2.2.1.trans o.output,dU o.size u.size,λk W=>(u.same fH (λh=>?_)).trans (o.block k W)⟩,λk W=>?_,a1⟩
  .rcases h with h|h|h
   .omega
   .omega
   cases h
  rcases W with h|h|h
  .omega
  .omega
  rcases a4 k h with G|G
  .cases G
  simp at G;omega
 go_wp2
 go_ret;exact⟨_,_,ad,cap,rfl,Y.1,Y.2.1,Y.2.2⟩
def uV(cb o sb n:Nat)(ad:Option Addr)(cap:Nat)(c:B.Cy)(w:aa)(i:mV w cb o sb n ad cap c): dD 137 #[P0 cb] w (.bool (decide (c.nx=n))) λw'=>w.grownBy w' none:=by
 obtain⟨_,c1,_,u,_,_⟩:=i.c1;have G:(((c.nx:Nat):Int) == (n:Int))=decide (c.nx=n):=by
  by_cases h:c.nx=n
  .simp[h]
  have:¬((c.nx:Int)=n):=by omega
  simp[h,this]
 generalize decide (c.nx=n)=d at *;generalize c.nx=x at *;delta dD;go_in;go_wp2
 go_quiet (fail)
 go_wp2
 go_ret;simp[df,aw]
def mV.step{n:Nat}{c:B.Cy}(h:mV w cb e sb n ad cap c)(o:e≠cb)(u:∀k,(Value.slice ad c.st.length cap).ownBlock=some k->k≠cb):mV (w.setCell (ay cb 3) (aj ((c.nx:Int)+1))) cb e sb n ad cap (B.look c):=by
 refine⟨?_,h.r.off o,h.q.block (λk i=>ab _ _ _ _ (u k i))⟩;simp[World.setCell,dh,h.b,B.look]
theorem jP(on:Nat->Bool)(c:B.Cy)(p:Nat)(h:B.ma on c p=true):on p=true:=B.jP h
def rE(a:Nat):wrap64 (wrap64 (a:Int)+1)=wrap64 ((a+1:Nat):Int):=by unfold wrap64;omega
def Iw(w:aa)(cb:Nat):Nat:=match w.cell? ⟨cb,2,none⟩ with|some (.slice _ n _)=>n|_=>0
def LG(w:aa)(cb:Nat):Nat:=match w.cell? ⟨cb,3,none⟩ with|some (.int _ n)=>n.toNat|_=>0
def xw(w:aa)(rd:Nat):Nat->Nat
 | 0=>0
 | k+1=>xw w rd k+(match w.cell? ⟨rd,k,none⟩ with|some (.bool true)=>0|_=>1)
def todo(w:aa)(cb rd n:Nat):Nat:=Iw w cb+xw w rd n+(n-LG w cb)
theorem wj{w:aa}{e n:Nat}{m:Nat->Bool}(h:Full w e 4 n n (λj=>.bool (m (j+1)))):∀k,k<=n->xw w e k=B.mU m k
 | 0,_=>rfl
 | k+1,hk=>by
  rw[xw,B.mU,wj h k ag,h.cell k ag]
  cases m (k+1)<;>rfl
def AJ{n:Nat}{c:B.Cy}(h:mV w cb e sb n ad cap c):todo w cb e n=c.st.length+B.mU c.m n+(n-c.nx):=by
 obtain⟨_,_,o,i,_⟩:=h.c1;unfold todo Iw LG;rw[wj h.r n (bq _),o,i];simp
def BK{on:Nat->Bool}{n:Nat}{M:Nat->List B.V}{c:B.Cy}{T:Nat->Prop}(h:B.kQ on n M c T)(hx:c.nx<n): (B.unit M on c).2.st.length+B.mU (B.unit M on c).2.m n+(n-(B.unit M on c).2.nx)+1=c.st.length+B.mU c.m n+(n-c.nx)/\(B.unit M on c).2.st.length+B.mU (B.unit M on c).2.m n<=c.st.length+B.mU c.m n:=by
 rcases List.eq_nil_or_concat c.st with e|⟨i,p,e⟩
 .rw[B.pD e];show c.st.length+B.mU c.m n+(n-(c.nx+1))+1=_/\c.st.length+B.mU c.m n<=_;omega
 rw[List.concat_eq_append]at e;have:=B.nQ (n:=n) (M p) c.m i (λv u y=>(h.ha _ ((h.hb p (h.hc p (h.hd p (by rw[e];simp))) v u).2 y)).2.1);rw[B.pC e];show(B.ib c.m i (M p)).2.length+B.mU (B.ib c.m i (M p)).1 n+(n-c.nx)+1=_/\(B.ib c.m i (M p)).2.length+B.mU (B.ib c.m i (M p)).1 n<=_;rw[e,cw,eI];omega
def C0{kd:B.Kd}{nr n:Nat}{s:B.St}(h:B.jO kd nr n s):(B.begun s.2.1 nr).st.length+B.mU (B.begun s.2.1 nr).m n<=n:=by
 have:=B.nQ (n:=n) (B.jm s.2.1 nr) (λ_=>false) [] (λv e o=>by
  obtain⟨i,hi,rfl⟩:=B.mH.1 e;exact(B.mI h (B.kx i hi o)).2.2)
 rw[B.xz]at this;show(B.ib (λ_=>false) [] (B.jm s.2.1 nr)).2.length+B.mU (B.ib (λ_=>false) [] (B.jm s.2.1 nr)).1 n<=n;simp at this;omega
def FF(k:Nat)(u:k<=200)(w:aa):dD 220 #[aj k] w (vA (k+1,0)) λw'=>w.grownBy w' none:=by
 have o:IntKind.i64.wrap ((k:Int)+1)=((k:Int)+1):=by simp[IntKind.wrap,IntKind.bits,IntKind.signed];omega
 delta dD;go_in;go_wp2
 refine dg (v:=vA (k+1,0)) (by simp[results,results220,go_sem]) rfl ⟨rfl,?_⟩;repeat (first|exact aw _ _|refine bo ?_|refine ax ?_ _|refine bu ?_ (ah eB) _)
end
namespace B
variable {L:List V}{v:V}
def GB(L:List V):Nat->V:=λi=>L.getD i (0,0)
def oi(L:List V)(M:Nat->List V):St:=(0,GB L,M)
def lS(kd:Kd)(n:Nat)(L:List V)(M:Nat->List V):Prop:=jO kd L.length n (oi L M)
def nK(L:List V)(M:Nat->List V)(p:Nat):Prop:=Reach L.length (oi L M) p
def pG{i:Nat}(h:i<L.length):GB L i∈L:=by
 grind[GB,List.getElem?_eq_getElem,List.getElem_mem]
def A8(h:v∈L):∃i,i<L.length/\GB L i=v:=by
 obtain⟨i,hi,e⟩:=List.getElem_of_mem h;refine⟨i,hi,?_⟩;grind[GB,List.getElem?_eq_getElem]
theorem pk{M:Nat->List V}(h:v∈L)(e:v.1≠0):nK L M v.1:=by
 obtain⟨i,hi,rfl⟩:=A8 h;exact kx (s:=oi L M) i hi e
theorem mr{M:Nat->List V}{k:Nat}(i:nK L M k)(o:v∈M k)(e:v.1≠0):nK L M v.1:=km (s:=oi L M) i o e
def pR(L:List V)(M:Nat->List V)(v:V):Prop:=v.1=0\/v∈L\/∃p,nK L M p/\v∈M p
section
variable {kd:Kd}{n:Nat}{L L':List V}{M:Nat → List V}{v:V}
def pR.mem(h:v∈L):pR L M v:=Or.inr (Or.inl h)
theorem pR.vO(h:pR L M v)(e:v.1≠0):nK L M v.1:=by
 rcases h with h|h|⟨p,i,h⟩
 .omega
 .grind[pk]
 grind[mr]
def pR.AF(h:pR L M v)(e:lS kd n L M):sG kd.on n v:=by
 rcases h with h|h|⟨p,o,h⟩
 .exact Or.inl h
 .obtain⟨i,hi,rfl⟩:=A8 h;exact e.h1 i hi
 exact e.h2 p o v h
theorem uo(h:∀v,v∈L'->pR L M v){p:Nat}(u:nK L' M p):nK L M p:=
 u (nK L M) (λ_ hi e=>(h _ (pG hi)).vO e) (λ_ i _ o e=>mr i o e)
def CG(e:lS kd n L M)(h:∀v,v∈L'->pR L M v):lS kd n L' M:=
 EY (s:=oi L M) (s':=oi L' M) e rfl (λ_ i=>uo h i) (λ_ hi=>(h _ (pG hi)).AF e)
def CH(o:lS kd n L M){p:Nat}(i:Nat)(u:nK L M p)(e:pR L M v):lS (told kd ((M p).getD i (0,0))) n L (lay M p ((M p).set i v)):=
 EZ (s:=oi L M) o 0 p i v u (e.AF o) e.vO
def Ec{p i:Nat}(u:nK L M p)(o:pR L M v){k:Nat}(e:nK L (lay M p ((M p).set i v)) k):nK L M k:=
 sh (s:=oi L M) (x:=0) u o.vO e
theorem qS(e:lS kd n L M){p:Nat}(i:nK L M p):kd.on p=true/\1<=p/\p<=n:=mI (s:=oi L M) e i
def uq{p:Nat}{l:List V}(W:∀v,v∈l->pR L M v)(J:∀v,v∈L'->v=(p,0)\/pR L M v){k:Nat}(G:nK L' (lay M p l) k):k=p\/nK L M k:=by
 refine G (λk=>k=p\/nK L M k) (λi hi y=>?_) (λk G u H y=>?_)
 .rcases J _ (pG hi) with h|h
  .left
   show(GB L' i).1=p;rw[h]
  exact Or.inr (h.vO y)
 have o:u∈lay M p l k:=H;grind[iB,gh,mr,B.pR.vO]
def CI(Y:lS kd n L M){p:Nat}{l:List V}(h1:1<=p)(h2:p<=n)(h3:kd.on p=false)(hl:∀v,v∈l->pR L M v)(hL:∀v,v∈L'->v=(p,0)\/pR L M v):lS (laid kd p) n L' (lay M p l):=by
 refine⟨λi hi=>?_,λk o u H=>?_,λc hc=>?_⟩
 .show sG (mark kd.on p) n (GB L' i);rcases hL _ (pG hi) with h|h
  .rw[h];exact Or.inr ⟨h1,h2,kh _ _,rfl⟩
  exact(h.AF Y).up (λk=>kL p)
 .have y:u∈lay M p l k:=H;show sG (mark kd.on p) n u;by_cases e:k=p
  .subst e;rw[iB]at y;exact((hl u y).AF Y).up (λj=>kL k)
  rw[gh _ _ _ _ e]at y;rcases uq hl hL o with h|h
  .omega
  exact(Y.h2 k h u y).up (λj=>kL p)
 have W:kd.cy.map (λc:Cy=>(⟨mark c.m p,c.st,c.nx⟩:Cy))=some c:=hc;rw[Option.map_eq_some_iff]at W;obtain⟨c0,a6,rfl⟩:=W;obtain⟨hx,T,hT,G⟩:=Y.h3 c0 a6;have G:kQ kd.on n M c0 T:=G;have hn:∀k,T k->k≠p:=by
  rintro k o rfl;have:=(G.ha k o).2.2;rw[h3]at this;cases this
 refine⟨hx,λk=>k=p\/T k,λk o=>(uq hl hL o).imp id (hT k),λk o=>?_,λk o u H=>?_,λk o=>?_,λk o=>kL _ (G.hd k o),G.he,λk o=>?_,G.hg,G.hh,λk a1 a2 a3=>?_⟩
 .rcases o with rfl|o
  .exact⟨h1,h2,kh _ _⟩
  have:=G.ha k o;exact⟨this.1,this.2.1,kL _ this.2.2⟩
 .have y:u∈lay M p l k:=H;rcases o with rfl|o
  .rw[iB]at y;exact⟨((hl u y).AF Y).up (λj=>kL k),λJ=>Or.inr (hT _ ((hl u y).vO J))⟩
  rw[gh _ _ _ _ (hn k o)]at y;have:=G.hb k o u y;exact⟨this.1.up (λk=>kL p),λJ=>Or.inr (this.2 J)⟩
 .grind[mark,fZ,B.kQ.hc]
 .intro S s1 s2 _ s4;have a7:∀k,k∈c0.st->∀v,v∈lay M p l k->v.1≠0->S v.1:=s2;have a8:∀k,mark c0.m p k=false->S k->∀v,v∈lay M p l k->v.1≠0->S v.1:=s4;rcases o with rfl|o
  .grind[kh]
  refine(G.hf k o (λk=>S k/\T k) (λk o=>⟨s1 k (kL _ o),G.hc k o⟩) (λk o u H J=>?_) (λv hv=>by grind) (λk hm o u H J=>?_)).1
  .have a4:=G.hc k (G.hd k o);exact⟨a7 k o u (by grind[gh]) J,(G.hb k a4 u H).2 J⟩
  have Z:=hn k o.2;exact⟨a8 k (by grind[fZ]) o.1 u (by grind[gh]) J,(G.hb k o.2 u H).2 J⟩
 by_cases e:k=p
 .grind[kh]
 have a0:mark kd.on p k=true:=a3;rw[fZ _ _ _ e]at a0;exact kL _ (G.hi k a1 a2 a0)
end
end B
namespace M
def nx(s:ByteArray)(hi:Nat)(q:Nat)(bad:Bool):Nat×Bool:=
 if bad=true then(q,true) else if tk s q 0 hi=true then(q+1,false) else(q,true)
def Df(r f k:Nat):Nat:=if k=114 then r-1 else if k=102 then f-1 else if k=115 then 8 else if k=45 then 0 else 255
def tb(s:ByteArray)(l q:Nat):Bool:=decide (q+1<s.size/\l<256*bt s q+bt s (q+1))
def sZ(s:ByteArray)(r f l m i k q:Nat)(bad:Bool):Nat×Bool:=
 nx s (Df r f k) q (bad || (decide (i=2/\m=116) && tb s l q))
def vD(s:ByteArray)(r f l m:Nat):List Nat->Nat->Nat×Bool->Nat×Bool
 | [],_,st=>st
 | k :: ks,i,st=>vD s r f l m ks (i+1) (sZ s r f l m i k st.1 st.2)
def Em(s:ByteArray)(hi q:Nat):nx s hi q true=(q,true):=by simp[nx]
def yF{s:ByteArray}{hi q:Nat}{bad:Bool}(h:q<=s.size):q<=(nx s hi q bad).1/\(nx s hi q bad).1<=s.size:=by
 unfold nx;split
 .exact⟨Nat.le_refl _,h⟩
 split
 .rename_i e;have:=gU e;simp;omega
 exact⟨Nat.le_refl _,h⟩
def BB(s:ByteArray)(r f l m i k q:Nat):sZ s r f l m i k q true=(q,true):=by simp[sZ,Em]
def FA(s:ByteArray)(r f l m:Nat)(e:List Nat):∀i q,vD s r f l m e i (q,true)=(q,true):=by
 induction e with
 | nil=>intro i q;rfl
 | cons k e o=>intro i q;unfold vD;simp only[BB];exact o _ _
def GZ:∀e,e<23->(k1 e=116->k2 e=116)/\(k0 e=114\/k0 e=102\/k0 e=115\/k0 e=107\/k0 e=45)/\(k1 e≠116->(k1 e=114\/k1 e=102\/k1 e=115\/k1 e=107\/k1 e=45)/\(k2 e=114\/k2 e=102\/k2 e=115\/k2 e=107\/k2 e=45)):=by decide
def Ap(r f k:Nat)(h:k=114\/k=102\/k=115\/k=107\/k=45):Df r f k=ko r f k:=by
 rcases h with rfl|rfl|rfl|rfl|rfl<;>rfl
theorem Bp(r f:Nat):Df r f 116=255:=rfl
theorem xZ(s:ByteArray)(q:Nat):tk s q 0 255=decide (q<s.size):=by
 have:=Fy s q;unfold tk;congr 1
 apply propext
 constructor
 .intro h;exact h.1
 intro h;exact⟨h,ag,ag⟩
def Fz(s:ByteArray)(p op r f l:Nat)(h:op<23): vD s r f l (k1 op) (kd.getD op []) 1 (p,false)=((tJ s p op r f l).1,!(tJ s p op r f l).2):=by
 obtain⟨h1,h2,h3⟩:=uG op h;obtain⟨m1,m2,m3⟩:=GZ op h;rw[h1];simp only[vD];unfold tJ;have Y:sZ s r f l (k1 op) 1 (k0 op) p false=nx s (ko r f (k0 op)) p false:=by
  unfold sZ;rw[Ap _ _ _ m2];simp
 by_cases o:tk s p 0 (ko r f (k0 op))=true
 .have p1:=(gU o).1;have i:sZ s r f l (k1 op) 1 (k0 op) p false=(p+1,false):=by rw[Y];simp[nx,o]
  rw[if_pos o,i];by_cases ht:k1 op=116
  .rw[if_pos ht];have W:sZ s r f l (k1 op) (1+1) (k1 op) (p+1) false=nx s 255 (p+1) (tb s l (p+1)):=by
    unfold sZ;rw[ht,Bp];simp
   have y:∀q bad,sZ s r f l (k1 op) (1+1+1) (k2 op) q bad=nx s 255 q bad:=by
    intro q bad;unfold sZ;rw[m1 ht,Bp];simp
   simp only[W,y];unfold wI;by_cases c1:s.size<p+1+2
   .rw[if_pos c1];have e:tb s l (p+1)=false:=by unfold tb;simp;omega
    rw[e];by_cases H:p+1<s.size
    .have:s.size=p+2:=by omega
     simp[nx,xZ,this]
    have:s.size=p+1:=by omega
    simp[nx,xZ,this]
   rw[if_neg c1];by_cases H:l<256*bt s (p+1)+bt s (p+1+1)
   .have J:tb s l (p+1)=true:=by unfold tb;simp;omega
    rw[if_pos H,J];simp[nx]
   have e:tb s l (p+1)=false:=by unfold tb;simp;omega
   rw[if_neg H,e];have d1:p+1<s.size:=ag
   have d2:p+1+1<s.size:=ag;simp[nx,xZ,d1,d2]
  obtain⟨m4,m5⟩:=m3 ht;rw[if_neg ht];have W:sZ s r f l (k1 op) (1+1) (k1 op) (p+1) false=nx s (ko r f (k1 op)) (p+1) false:=by
   unfold sZ;rw[Ap _ _ _ m4];simp[ht]
  have y:∀q bad,sZ s r f l (k1 op) (1+1+1) (k2 op) q bad=nx s (ko r f (k2 op)) q bad:=by
   intro q bad;unfold sZ;rw[Ap _ _ _ m5];simp
  simp only[W,y];by_cases G:tk s (p+1) 0 (ko r f (k1 op))=true
  .by_cases Z:tk s (p+1+1) 0 (ko r f (k2 op))=true
   .simp[nx,G,Z]
   simp[nx,G,Z]
  simp[nx,G]
 have i:sZ s r f l (k1 op) 1 (k0 op) p false=(p,true):=by rw[Y];simp[nx,o]
 rw[if_neg o,i];simp[BB]
end M
section
def Js(eb g c n:Nat)(ad:Option Addr)(H:Nat->Int)(xs:List Nat)(w:aa)(he:w.cell? (ay eb 32)=some (.slice ad n c))(le:eb<w.heap.size)(hn:n=xs.length)(a9:n<=1000000000)(Z:∀j x,xs[j]? = some x->ad=some (ay g 0)/\w.cell? (ay g j)=some (P0 x))(lg:xs≠[]->g<w.heap.size)(J:∀x,x∈xs->w.cell? (ay x 0)=some (aj (H x))/\x<w.heap.size): dD 43 #[P0 eb] w (dA w.heap.size n n) λw'=>w'.ownsRow w.heap.size 3 1 (dA w.heap.size n n) n (xs.map (λx=>aj (H x)))/\w.grownBy w' none:=by
 obtain⟨i0,hi,a2,a0,W⟩:=info_parts Tryz.IC;have HC:=bj Z;have HN:=bj hn;have HG:=bj lg;have HM:=bj J;clear Z hn lg J;delta dD;go_in;go_wp2_with (at_make;go_loud (refine wpList_make_full _ rfl _ _ 54 rfl w.heap.size 3 i0 _ 1 underlying54 hi a2 a0 _ _ _ _ n rfl rfl rfl rfl (kr W) pY (bq _) ?_))
 intro w3 G o;have Y:jF w3 w.heap.size 3 n:=by
  have:=jF.owned G;rwa [Nat.mul_one]at this
 have aA:=(bd o (a:=ay eb 32) le).1.trans he;have a4:=bj Y;have a5:=bj o;clear G o Y he hi a2 a0 W i0;go_wp2_with fail
 go_loopw [19] (λi wr=>∃j:Nat,i=aj j/\j<=n/\Hid (jF wr w.heap.size 3 n)/\Hid (w.grownBy wr none)/\Hid (∀p x,p<j->xs[p]? = some x->wr.cell? (ay w.heap.size p)=some (aj (H x)))) (λi _=>n-(intOf i).toNat)
 case atStart=>exact⟨0,rfl,ag,a4,a5,(λp x hp=>dp hp ag)⟩
 case round=>
  obtain⟨j,rfl,hj,rB,rG,rC⟩:=hrel;by_cases a6:j<n
  .obtain⟨x,hx⟩:∃x,xs[j]? = some x:=⟨_,bz (gp HN.out)⟩;obtain⟨rfl,a1⟩:=HC.out j x hx;have u:=eh hx;have cj:wr.cell? (ay g j)=some (P0 x):=(bd rG.out (a:=ay g j) (HG.out (by intro e;rw[e]at u;cases u))).1.trans a1;obtain⟨m1,m2⟩:=HM.out x u;have cx:=(bd rG.out (a:=ay x 0) m2).1.trans m1;obtain⟨⟨y,cy⟩,zy⟩:=rB.out.cell j a6;have a8:(j:Int)<(n:Int):=ag
   have KC:Hid (∀p z,p<j+1->xs[p]? = some z->(wr.setCell (ay w.heap.size j) (aj (H x))).cell? (ay w.heap.size p)=some (aj (H z))):=λp z hp hz=>by
    by_cases a3:p=j
    .subst a3;rw[(bj hx).out]at hz;injection hz with hz;subst hz;exact World.cell?_setCell_same _ _ _ cy
    rw[dH _ _ _ _ AA];exact rC.out p z ag hz
   clear a1 u m1 m2 hx;go_wp2_with fail
   go_roundw
   case rel=>exact⟨j+1,iA,ag,rB.out.set _ _ _,bu rG.out (ah eB) _,KC⟩
   case measure=>simp[intOf];omega
  have a7:¬(j:Int)<(n:Int):=ag
  obtain rfl:j=n:=by omega
  go_wp2_with fail
  go_ret;refine⟨rfl,nD (bq _) (bq _) pY (by rw[ef,<-HN.out]) rB.out (λp y hy=>?_),rG.out⟩;rw[eP]at hy;obtain⟨z,hz,rfl⟩:=Option.map_eq_some_iff.1 hy;exact rC.out p z (by have:=(cf.1 hz).1;have:=HN.out;omega) hz
