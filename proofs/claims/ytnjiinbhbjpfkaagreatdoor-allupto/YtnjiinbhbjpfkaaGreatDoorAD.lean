import Derived.Test.YtnjiinbhbjpfkaaGreatDoorAB
set_option maxRecDepth 100000
set_option maxHeartbeats 0
set_option linter.all false
namespace Go.Proofs.YtnjiinbhbjpfkaaGreatDoor
open Go.RowKit Go.Proofs.Tryz
section
variable {ad:Option Addr}{cap cb e sb sz:Nat}{l:List B.V}{o:Oper}{w w':aa}
def Tryz.Jy:(prog.info? 3).map (λi=>(i.zero,i.size,i.bytes))=some (some<|ah 0,1,8):=by kernel_rfl
def nA.c1{n:Nat}{c:B.Cy}(h:nA w cb e sb n ad cap c):w.cell? (az cb 0)=some (P0 sb)/\w.cell? (az cb 1)=some (dD e n n)/\w.cell? (az cb 2)=some (.slice ad c.st.length cap)/\w.cell? (az cb 3)=some (ah c.nx)/\w.frozen? (az cb 2)=false/\w.frozen? (az cb 3)=false:=by
 simp[World.cell?,World.frozen?,h.b]
def yr(ad ad':Option Addr)(sz:Nat):Prop:=∀k,fk ad'=some k->fk ad=some k\/sz<=k
theorem yr.refl(ad:Option Addr)(sz:Nat):yr ad ad sz:=λ_ h=>ag h
theorem yr.trans{a b c:Option Addr}(h:yr a b sz)(u:yr b c e)(y:sz<=e):yr a c sz:=λk o=>by
 rcases u k o with i|i
 .exact h k i
 omega
def yr.Ls{o:Nat}{i:Option Addr}{k:Nat}(h:yr ad i sz)(u:pr cb o i k):pr cb o ad k\/sz<=k:=by
 rcases u with e|e|e
 .exact ag<|ag e
 .exact ag<|ak<|ag e
 exact(h k e).imp (λh=>ak<|ak h) id
def E8{S:Nat->Prop}{r:Option Nat}(h:w.grownBy w' r)(o:∀k,r=some k->k<w.heap.size->S k):dN S w w':=
 ⟨h.os,h.tape,h.output,h.size,λk i hn=>h.block k i<|λe=>hn<|o k e.symm i⟩
theorem sV(cb u sb n:Nat)(ad:Option Addr)(cap:Nat)(c:B.Cy)(v:B.V)(w:aa)(hC:nA w cb u sb n ad cap c)(hv:v.1≠0->v.1<=n)(hn:n<=200)(bX:c.st.length<=200):Calls prog 188 #[P0 cb,vA v] w λe w'=>e=.returned (.tuple #[])/\∃b5 a0,yr ad b5 w.heap.size/\nA w' cb u sb n b5 a0 ⟨(B.seen c.m c.st v).1,(B.seen c.m c.st v).2,c.nx⟩/\dN (pr cb u ad) w w':=by
 have KC:=bj hC;have aC:=bj<|oU v;obtain⟨v1,v2⟩:=v;by_cases h0:v1=0
 .subst h0;have aT:B.seen c.m c.st (0,v2)=(c.m,c.st):=by unfold B.seen;rw[av eG]
  rw[aT];have hi:=aC.out;simp only[ne_eq,not_true,decide_false]at hi;have HI:=bj hi;clear aT hC hv hi aC;go_in;go_wp2_with fail
  have o:=bj<|aj w (.cells #[.int .i64 ((0:Nat):Int),.int .i64 v2] 149) none;first|go_region_with (go_at_call 198;refine(HI _).mono ?_;rintro e w2 ⟨rfl,i⟩;have a5:=bj<|ar o ⟨i.os,i.tape,i.output,i.size,i.block⟩;clear i)|fail
  all_goals
   go_wp2_with fail
   go_end0;exact⟨rfl,ad,cap,yr.refl _ _,KC.kept a5,eA a5⟩
 obtain⟨k,hk⟩:∃k,v1=k+1:=⟨v1-1,af⟩;subst hk;have aM:k<n:=by have:=hv eG;simp only at this;omega
 have hi:=aC.out;have hd:decide (k+1≠0)=true:=eG
 rw[show((k+1,v2):B.V).1=k+1 from rfl,hd]at hi;have HI:=bj hi;have aL:=bj<|oq k v2 af;obtain⟨_,c1,_⟩:=hC.c1;have lc:=ch hC.b;have lr:=hC.r.lt;have r0:=hC.r.cell k aM;clear hC hv hi hd aC h0;generalize b0:c.m (k+1)=b at*;have aY:=bj b0;clear b0;have bV:(k:Int)<n:=af
 go_in;go_wp2_with fail
 generalize hW:w.alloc (.cells #[.int .i64<|(k:Int)+1,.int .i64 v2] 149)=w1;have o:Hid (w.grownBy w1 none):=by rw[<-hW];exact aj _ _ _
 have a9:w1.heap[w.heap.size]?=some (.cells #[.int .i64<|(k:Int)+1,.int .i64 v2] 149 (0,0)):=by rw[<-hW];exact bl w _
 have lx:=ch a9;have v0:w1.cell? ⟨w.heap.size,0,none⟩=some (.int .i64<|(k:Int)+1):=fj a9
 have v1:w1.cell? ⟨w.heap.size,1,none⟩=some (.int .i64 v2):=fj a9
 clear hW a9;have d1:=(ay o (a:=⟨cb,1,none⟩) lc).1.trans c1;have q0:=(ay o (a:=⟨u,k,none⟩) lr).1.trans r0;have HS:Hid (∀w':aa,w1.grownBy w' none->(w'.cell? ⟨w.heap.size,0,none⟩=some (.int .i64<|(k:Int)+1)/\w'.cell? ⟨w.heap.size,1,none⟩=some (.int .i64 v2)/\w'.cell? ⟨cb,1,none⟩=some (.slice (some ⟨u,0,none⟩) n n)/\w'.cell? ⟨u,k,none⟩=some (.bool b))/\(w.heap.size<w'.heap.size/\cb<w'.heap.size/\u<w'.heap.size)):=
  λw' Z=>⟨⟨(ay Z (a:=⟨w.heap.size,0,none⟩) lx).1.trans v0,(ay Z (a:=⟨w.heap.size,1,none⟩) lx).1.trans v1,(ay Z (a:=⟨cb,1,none⟩) (by show cb<_;omega)).1.trans d1,(ay Z (a:=⟨u,k,none⟩) (by show u<_;omega)).1.trans q0⟩,gD Z.size,gD Z.size,gD Z.size⟩
 clear c1 r0 d1 q0 v0 v1;obtain⟨⟨v0,v1,d1,q0⟩,z1,z2,z3⟩:=HS w1<|aw _ _;go_cut[16] from 4 to 15 (λx wx=>x=.bool (!b)/\Hid (w1.grownBy wx none))
 case first=>
  first|go_region_with (first|(go_at_call 198;refine(HI _).mono ?_;rintro e w2 ⟨rfl,i⟩;have a5:Hid (w1.grownBy w2 none):=⟨i.os,i.tape,i.output,i.size,i.block⟩;obtain⟨⟨aB,a8,aH,aI⟩,aK,aJ,aG⟩:=HS w2 a5;clear i)|(go_at_call 201;refine(aL _).mono ?_;rintro e w3 ⟨rfl,a1⟩;have J:=bj<|ar a5 ⟨a1.os,a1.tape,a1.output,a1.size,a1.block⟩;obtain⟨⟨bS,bM,bQ,bP⟩,bR,bO,bN⟩:=HS w3 J;clear a1))|fail
  all_goals
   go_wp2_with fail
   go_meet
   case rel=>exact⟨rfl,J⟩
 case rest=>
  obtain⟨rfl,J⟩:=hcut;clear v0 v1 d1 q0 z1 z2 z3
  cases b
  .have aO:Hid (B.seen c.m c.st (k+1,v2)=(B.mark c.m<|k+1,c.st++[k+1])):=by show _=_;unfold B.seen;rw[bf ⟨eG,aY⟩]
   obtain⟨⟨v0,v1,d1,q0⟩,z1,z2,z3⟩:=HS wc J;have f0:wc.frozen? ⟨u,k,none⟩=false:=by
    have h:=(KC.kept o).kept J;exact(h.r.cells k aM).2
   go_wp2_with fail
   generalize bK:wc=wd at*;clear bK;go_cut[] from 17 to 23 (λwx=>∃w4,Hid (w1.grownBy w4 none)/\wx=w4.setCell ⟨u,k,none⟩ (.bool true))
   case first=>
    go_region_with (go_at_call 201;refine(aL _).mono ?_;rintro e w4 ⟨rfl,a2⟩;have Y:=bj<|ar J ⟨a2.os,a2.tape,a2.output,a2.size,a2.block⟩;obtain⟨⟨aB,a8,aH,aI⟩,aK,aJ,aG⟩:=HS w4 Y;have bW:=(((KC.kept o).kept Y).r.cells k aM).2;clear a2)
    all_goals
     go_wp2_with fail
     go_meet
     case rel=>exact⟨w4,Y,rfl⟩
   case rest=>
    obtain⟨w4,Y,a6⟩:=hcut;have G:=(KC.kept o).kept Y;obtain⟨⟨aB,a8,aH,aI⟩,aK,aJ,aG⟩:=HS w4 Y;have bE:wc.heap.size=w4.heap.size:=by rw[a6];simp[World.setCell]
    have a7:∀x,x≠u->wc.heap[x]?=w4.heap[x]?:=λx y=>by rw[a6,ab _ _ _ _ y]
    have b6:cb≠u:=by obtain⟨cu,h,_⟩:=G.r;exact eI G.b h eo
    have aV:w.heap.size≠u:=af
    have aA:=bj<|(a7 cb b6).trans G.b;have HR:Hid (Full wc u 4 n n<|λj=>.bool<|B.mark c.m (k+1)<|j+1):=by
     have h1:=G.r.eE k<|.bool true;rw[<-a6]at h1;refine h1.congr<|λj _=>?_;by_cases e:j=k
     .subst e;rw[gU,B.kF]
     rw[eP _ _ _ _ e,B.gg _ _ _ af]
    have HQ:Hid (gj wc 3 (.slice ad c.st.length cap)<|n6 c.st):=G.q.block (λx y=>a7 x (by
     obtain⟨cu,h⟩:=G.q.ty x y;obtain⟨bY,h',_⟩:=G.r;exact eI h h' eo))
    have bB:Hid (dN (pr cb u ad) w wc):=by
     show dN _ _ _;rw[a6];exact bq (eA<|ar o Y) (ag<|ak<|ag rfl) _
    have x0:=(bd (a:=⟨w.heap.size,0,none⟩)<|a7 _ aV).trans aB;have x1:=(bd (a:=⟨w.heap.size,1,none⟩)<|a7 _ aV).trans a8;have y2:wc.cell? ⟨cb,2,none⟩=some (.slice ad c.st.length cap):=fj aA.out
    have g2:wc.frozen? ⟨cb,2,none⟩=false:=pk aA.out
    have bU:w.heap.size<wc.heap.size:=af
    have aF:cb<wc.heap.size:=af
    have bZ:w.heap.size<=wc.heap.size:=af
    have aE:(n6 c.st).length=c.st.length:=xC _;have hL:n6 (c.st++[k+1])=n6 c.st++[.int .i64 k]:=kh Bi
    have HL:=bj hL;have bD:Hid (fk ad≠some cb):=λe=>by
     obtain⟨cu,h⟩:=HQ.ty cb<|eZ dJ e;exact eI aA h eo rfl
    have a4:=bj aE;clear G a7 a6 aB a8 aH aI v0 v1 d1 q0 f0 z1 z2 z3 aK aJ aG bE hL aE;obtain⟨i0,hi,bC,aS,bL⟩:=info_parts Tryz.Jy;have bF:Hid (∀w':aa,wc.grownBy w' none->w'.cell? ⟨cb,2,none⟩=some (.slice ad c.st.length cap)/\w'.frozen? ⟨cb,2,none⟩=false/\cb<w'.heap.size):=λw' Z=>⟨(ay Z (a:=⟨cb,2,none⟩) aF).1.trans y2,(ay Z (a:=⟨cb,2,none⟩) aF).2.trans g2,dm aF Z.size⟩;have b4:(n6 c.st).length+1<=maxLen:=by rw[a4.out];unfold maxLen;omega
    have aU:((n6 c.st).length+1)*8<=140737488355328:=lD a4.out
    have aW:=bj<|bh b4 aU;clear b4 aU;rw[<-a4.out]at y2;go_wp2_with fail
    go_region_law (first|(refine mf _ rfl (.tmp 28) (.tmp 31) 54 rfl 3 i0 _ 8 underlying54 hi bC aS bL rfl (.slice ad (n6 c.st).length cap) (n6 c.st) mS (b7) ⟨w5.heap.size,0,none⟩ 1 (.int .i64 k) mS (by simp[go_sem]) rfl aW.1 aW.2 ?_;intro g off a0 w6 b3 aN aP;have aZ:=bj b3;have aR:=bj aN;have b9:=bj aP;have H:=(aN.block cb fV (by rw[dJ];exact λe=>bD e.symm)).trans<|(au _ _ _ z5).trans<|da W aA je;have y6:w6.cell? ⟨cb,2,none⟩=some (.slice ad c.st.length cap):=(by simp[World.cell?,H]);have g6:w6.frozen? ⟨cb,2,none⟩=false:=(by simp[World.frozen?,H]);have aD:=bj H;clear b3 aN aP H)|(go_simp;go_at_call 201;refine(aL _).mono ?_;rintro e w5 ⟨rfl,a3⟩;have W:Hid (wc.grownBy w5 none):=⟨a3.os,a3.tape,a3.output,a3.size,a3.block⟩;obtain⟨y5,g5,z5⟩:=bF w5 W;have b7:Hid (gj (w5.alloc<|.cells #[.int .i64 k] 3) 3 (.slice ad (n6 c.st).length cap)<|n6 c.st):=(by rw[a4.out];exact HQ.block<|λx y=>(au _ _ _<|dm (HQ.lt x y) W.size).trans<|W.block x (HQ.lt x y) je);rw[<-a4.out]at y5;clear a3;simp only[]))
    all_goals
     go_wp2_with fail
     go_end0;have bA:=W.size;have aX:=a4.out;obtain⟨bJ,b1,bI⟩:=id HR;have aQ:∀(x:Nat) (b2:Array Value) (T:TypeId),wc.heap[x]?=some (.cells b2 T (0,0))->T≠3->x≠cb->(w6.setCell ⟨cb,2,none⟩<|.slice (some ⟨g,off,none⟩) ((n6 c.st).length+1) a0).heap[x]?=wc.heap[x]?:=by
      intro x b2 T y hT b8;have bG:x<w5.heap.size:=dm (ch y) bA;rw[ab _ _ _ _ b8,aR.block x fV<|λe=>?_,au _ _ _ bG]
      .exact W.block x (ch y) je
      obtain⟨cu,h⟩:=HQ.ty x (by rw[dJ];rw[dJ]at e;exact e.symm);rw[y]at h;injection h with h;injection h with _ h _;exact hT h
     have bH:g≠cb:=by
      obtain⟨cu,h⟩:=aZ.ty g rfl;exact eI h aD eo
     refine⟨rfl,some ⟨g,off,none⟩,a0,λx y=>?_,?_,?_⟩
     .have e:g=x:=by injection y
      subst e;rcases b9 with h|h
      .rw[dJ]at h;exact ag h
      right;simp at h;omega
     .rw[aO.out];refine⟨?_,⟨bJ,(aQ u _ _ b1 eo<|λe=>b6 e.symm).trans b1,bI⟩,?_⟩
      .simp[World.setCell,dp,aD.out,aX]
      show gj _ _ (.slice _ (c.st++[k+1]).length _) (n6<|c.st++[k+1]);rw[HL.out,db,fh,<-aX];refine aZ.block<|λx y=>ab _ _ _ _ ?_;have e:g=x:=by injection y
      subst e;exact bH
     refine bq ?_ (ag<|ag rfl) _;refine((bB.jj W).jj<|aj _ _ _).trans (E8 (S:=pr cb u ad) aR<|λx y _=>ak<|ak (by rw[dJ]at y;exact y))<|λ_ h _=>h
  have aO:Hid (B.seen c.m c.st (k+1,v2)=(c.m,c.st)):=by show _=_;unfold B.seen;rw[av<|by simp[aY.out]]
  go_wp2_with fail
  go_end0;have Z:=ar o J;exact⟨rfl,ad,cap,yr.refl _ _,by rw[aO.out];exact KC.kept Z,eA Z⟩
theorem Dj(cb W sb n k:Nat)(ad:Option Addr)(cap:Nat)(c:B.Cy)(x:Int)(w:aa)(J:nA w cb W sb n ad cap c)(hk:k<n)(hn:n<=200):eN 221 #[P0 cb,vA (k+1,x)] w λw'=>nA w' cb W sb n ad cap ⟨B.mark c.m<|k+1,c.st,c.nx⟩/\w.grownBy w' (some W):=by
 have KC:=bj J;let⟨_,c1,_⟩:=J.c1;have lc:=ch J.b;have a1:(k:Int)<n:=af
 delta eN;go_in;go_wp2_with fail
 generalize hW:w.alloc (.cells #[ah<|(k:Int)+1,ah x] 149)=w1;have u:Hid (iY w w1):=by rw[<-hW];exact aj _ _ _
 have G:w1.heap[fp w]?=ny #[ah<|(k:Int)+1,ah x] 149:=by rw[<-hW];exact bl w _
 have v0:dW w1 (fp w) 0=some (ah<|(k:Int)+1):=fj G
 have v1:dW w1 (fp w) 1=some (ah x):=fj G
 have d1:=(ay u (a:=az cb 1) lc).1.trans c1
 go_region_with (go_at_call 201;refine dq ((bj<|oq k x af).out _) λw4 o=>?_;have H:Hid (iY w1 w4):=⟨o.os,o.tape,o.output,o.size,o.block⟩;have i:=(KC.kept u).kept H;let⟨q0,f0⟩:=i.r.cells k hk;have a6:=i.c1.2.1;clear o i)
 all_goals
  go_wp2
  go_end0;have i:=(KC.kept u).kept H
  refine⟨rfl,⟨(ab _ _ _ _ (by let⟨cu,h,_⟩:=i.r;exact eI i.b h eo)).trans i.b,(i.r.eE k<|.bool true).congr (λj _=>?_),i.q.block<|λy hy=>ab _ _ _ _ ?_⟩,?_⟩
  .show _=Value.bool (B.mark c.m (k+1)<|j+1);by_cases e:j=k
   .subst e;rw[gU,B.kF]
   rw[eP _ _ _ _ e,B.gg _ _ _ af]
  .let⟨cu,h⟩:=i.q.ty y hy;let⟨a4,h',_⟩:=i.r;exact eI h h' eo
  exact bu (eT<|ar u H) (ag rfl) _
theorem gT{b o:Nat}{v:Value}(h:w.cell? (az b o)=some v):b<w.heap.size:=by
 grind[Nat.lt_or_ge,Array.getElem?_eq_none,World.cell?]
def yB(w0 w:aa)(cb rd sb n:Nat)(ad:Option Addr)(c:B.Cy)(l:List B.V):Prop:=
 dN (pr cb rd ad) w0 w/\∃ad' cap',yr ad ad' w0.heap.size/\nA w cb rd sb n ad' cap' ⟨(B.gF c.m c.st l).1,(B.gF c.m c.st l).2,c.nx⟩
def G3{n:Nat}{c:B.Cy}(h:nA w cb e sb n ad cap c):yB w w cb e sb n ad c []:=⟨dx _ _,ad,cap,yr.refl _ _,h⟩
theorem yB.kept{w0 w w':aa}{cb o sb n:Nat}{ad:Option Addr}{c:B.Cy}{l:List B.V}(h:yB w0 w cb o sb n ad c l)(u:w.grownBy w' none):yB w0 w' cb o sb n ad c l:=by
 obtain⟨H,i,e,G,y⟩:=h;exact⟨H.jj u,i,e,G,y.kept u⟩
def CH{n:Nat}{c:B.Cy}(hn:n<=200)(i:c.st.length+B.jW c.m n<=n)(e:∀v,v∈l->v.1≠0->v.1<=n):(B.gF c.m c.st l).2.length<=200:=by
 have:=B.lS (n:=n) l c.m c.st e;omega
theorem yD{w0:aa}{y n:Nat}{c:B.Cy}(v:B.V)(h:yB w0 w cb y sb n ad c l)(hn:n<=200)(hs:c.st.length+B.jW c.m n<=n)(W:∀v,v∈l->v.1≠0->v.1<=n)(hv:v.1≠0->v.1<=n):eN 188 #[P0 cb,vA v] w λw'=>yB w0 w' cb y sb n ad c<|l++[v]:=by
 obtain⟨H,u,i,J,h3⟩:=h;refine dq (sV cb y sb n u i _ v w h3 hv hn<|CH hn hs W) ?_;rintro w' ⟨G,o,h4,h5,Z⟩;refine⟨rfl,H.trans Z<|λk Y W=>(J.Ls Y).resolve_right af,G,o,J.trans h4 H.size,?_⟩;grind[B.qP]
def LY(Q:Nat->Prop)(w:aa)(eb nr:Nat)(R:Nat->B.V):Prop:=
 ∀(w1:aa) (cb rd sb n:Nat) (ad:Option Addr) (cap:Nat) (c:B.Cy),(∀k,Q k->w1.heap[k]?=w.heap[k]?)->nA w1 cb rd sb n ad cap c->(∀k,Q k->¬pr cb rd ad k)->n<=200->c.st.length+B.jW c.m n<=n->(∀i,i<nr->(R i).1≠0->(R i).1<=n) ->
  Calls prog 59 #[P0 eb,.func (.func 188) #[P0 cb] #[]] w1 λe w2=>e=.returned (.tuple #[])/\yB w1 w2 cb rd sb n ad c (B.jm R nr)
theorem LY.block{Q:Nat->Prop}{eb nr:Nat}{R:Nat->B.V}(h:LY Q w eb nr R)(i:∀k,Q k->w'.heap[k]?=w.heap[k]?):LY Q w' eb nr R:=
 λw1 y u sb n ad cap c o=>h w1 y u sb n ad cap c<|λk e=>(o k e).trans<|i k e
def mu(sz:Nat)(v v':Value):Prop:=v'.ownBlock=v.ownBlock\/∃g,v'.ownBlock=some g/\sz<=g
theorem vY{P:Program}(w:aa)(t ty e:TypeId)(i:TypeInfo)(z:Value)(size bytes:Nat)(ht:P.underlying t=some (.slice e))(hi:P.info? e=some i)(hz:i.zero=some z)(y:i.size=size)(a4:i.bytes=bytes)(a2:z.cells.size=size)(a5:0<size)(ao:Option Addr)(n cap:Nat)(xs:List Value)(a1:w.ownsRow 0 e size (.slice ao n cap) n xs)(ad:Addr)(m c:Nat)(o:List Value)(hl:o.length=m*size)(H:∀j u,o[j]?=some u->w.cell? (ad.add j)=some u)(h1:∀u∈o,u.oneCell'=true)(a3:n+m<=maxLen)(G:(n+m)*bytes<=140737488355328)(hm:0<m):∃J w',(Builtin.append_ #[t,t] ty #[.slice ao n cap,.slice (some ad) m c]).run P w=.ok J w'/\w'.ownsRow 0 e size J (n+m) (xs++o)/\w.grownBy w' (Value.slice ao n cap).ownBlock/\mu w.heap.size (.slice ao n cap) J:=by
 have a0:∀(J:Value) (w':aa),w'.ownsRow (fp w) e size J (n+m) (xs++o)->∃g,J.ownBlock=some g/\w.heap.size<=g:=λJ w' h=>by
  obtain⟨g,c',rfl⟩:=ef h af;exact⟨g,rfl,(dR h g rfl).1⟩
 rcases id a1 with⟨a7,⟨hv,h0⟩|⟨g,c',a8,hv,_,h2,h3,h4,h5,h6⟩⟩
 .injection hv with e1 e2 e3;subst e1 e2 e3;obtain rfl:xs=[]:=List.eq_nil_of_length_eq_zero af;let⟨J,w',W,r1,r2,_⟩:=run_append_own (P:=P) w (fp w) t ty e i z size bytes ht hi hz y a4 a2 a5 (.slice none 0 0) 0 [] (eg w _ e size) ad m c o hl H h1 a3 G<|bm _;exact⟨J,w',W,ib r1<|di _,r2,ak<|a0 J w' r1⟩
 injection hv with e1 e2 e3;subst e1 e3;by_cases Y:n+m<=cap
 .let⟨J,w',hr,r1,r2,_⟩:=run_append_own (P:=P) w 0 t ty e i z size bytes ht hi hz y a4 a2 a5 _ n xs a1 ad m c o hl H h1 a3 G<|di _;refine⟨J,w',hr,r1,r2,ag ?_⟩;subst y;have Z:=run_append_room (P:=P) w t ty e i ht hi g n cap a8 h2 ad m c o hl H h1 Y (by rw[hl,h5,<-Nat.add_mul];exact Nat.mul_le_mul_right _ Y);rw[hr]at Z;injection Z with Z _;rw[Z];rfl
 have a9:∀j u,xs[j]?=some u->w.cell? (((az g 0):Addr).add j)=some u:=λj u hu=>by
  have hj:j<n*size:=by
   have:=(cf.1 hu).1;omega
  rw[<-h6,dP,bf hj]at hu;have a6:dW w g j=some u:=by
   simp only[World.cell?,h2];simpa using hu
  grind[Addr.add]
 let⟨J,w',W,r1,r2⟩:=run_append_arg_grows (P:=P) w t ty e i z size bytes ht hi hz y a4 a2 a5 (az g 0) n cap xs a7 a9 ad m c o hl H af a3 G;exact⟨J,w',W,ib r1<|di _,m9 r2 g,ak<|a0 J w' r1⟩
theorem rh{P:Program}(w:aa){a:Act}{K:Act->aa->Prop}{Q:Exit->Act->aa->Prop}(s x:Operand)(t:TypeId)(ho:o.op=.call {callee:=.builtin .append,args:=#[s,x],argTypes:=#[t,t]})(e:TypeId)(i:TypeInfo)(z:Value)(size bytes:Nat)(ht:P.underlying t=some (.slice e))(hi:P.info? e=some i)(hz:i.zero=some z)(H:i.size=size)(a0:i.bytes=bytes)(a1:z.cells.size=size)(a3:0<size)(Y:Option Addr)(n cap:Nat)(xs:List Value)(hs:a.eval s=.slice Y n cap)(W:w.ownsRow 0 e size (.slice Y n cap) n xs)(ad:Addr)(m c:Nat)(y:List Value)(hx:a.eval x=.slice (some ad) m c)(hl:y.length=m*size)(J:∀j u,y[j]?=some u->w.cell? (ad.add j)=some u)(h1:∀u∈y,u.oneCell'=true)(a2:n+m<=maxLen)(G:(n+m)*bytes<=140737488355328)(hm:0<m)(h:∀Z w',w'.ownsRow 0 e size Z (n+m) (xs++y)->w.grownBy w' (Value.slice Y n cap).ownBlock->mu w.heap.size (.slice Y n cap) Z->K (a.put o.dst Z) w'):Oper.wp P o a w K Q:=by
 let⟨Z,w',hr,h2,h3,h4⟩:=vY (P:=P) w t o.type e i z size bytes ht hi hz H a0 a1 a3 Y n cap xs W ad m c y hl J h1 a2 G hm;unfold Oper.wp execOp;simp only[ho,resolve,invoke,builtin,Sem.run_bind,Sem.run_pure,Result.andThen_ok,List.map_toArray,List.map_cons,List.map_nil,hs,hx,hr];exact h Z w' h2 h3 h4
theorem fH{P:Program}(w:aa){ops:Array Oper}{a:Act}{K:Act->aa->Prop}{Q:Exit->Act->aa->Prop}{E:Prop}(a0:o.guard=none)(s x:Operand)(t:TypeId)(ho:o.op=.call {callee:=.builtin .append,args:=#[s,x],argTypes:=#[t,t]})(e:TypeId)(i:TypeInfo)(z:Value)(size bytes:Nat)(ht:P.underlying t=some (.slice e))(hi:P.info? e=some i)(hz:i.zero=some z)(H:i.size=size)(Z:i.bytes=bytes)(a1:z.cells.size=size)(a3:0<size)(Y:Option Addr)(n cap:Nat)(xs:List Value)(hs:a.eval s=.slice Y n cap)(W:w.ownsRow 0 e size (.slice Y n cap) n xs)(ad:Addr)(m c:Nat)(y:List Value)(hx:a.eval x=.slice (some ad) m c)(hl:y.length=m*size)(J:∀j u,y[j]?=some u->w.cell? (ad.add j)=some u)(h1:∀u∈y,u.oneCell'=true)(a2:n+m<=maxLen)(G:(n+m)*bytes<=140737488355328)(hm:0<m)(h:∀v' w',w'.ownsRow 0 e size v' (n+m) (xs++y)->w.grownBy w' (Value.slice Y n cap).ownBlock->mu w.heap.size (.slice Y n cap) v'->K (a.put o.dst v') w'):if Region.wanted o (yielded ops a.tmps)=true then Oper.wp P o a w K Q else E:=by
 rw[bf<|by simp[Region.wanted,a0]];grind[rh]
def jR{P:Program}{ops:Array Oper}{rest:List Oper}{a:Act}{Q:Exit->Act->aa->Prop}(a1:o.guard=none)(s x:Operand)(t:TypeId)(ho:o.op=.call {callee:=.builtin .append,args:=#[s,x],argTypes:=#[t,t]})(e:TypeId)(i:TypeInfo)(z:Value)(size bytes:Nat)(ht:P.underlying t=some (.slice e))(hi:P.info? e=some i)(hz:i.zero=some z)(H:i.size=size)(a0:i.bytes=bytes)(a2:z.cells.size=size)(a4:0<size)(Y:Option Addr)(n cap:Nat)(xs:List Value)(hs:a.eval s=.slice Y n cap)(W:w.ownsRow 0 e size (.slice Y n cap) n xs)(ad:Addr)(m c:Nat)(y:List Value)(hx:a.eval x=.slice (some ad) m c)(hl:y.length=m*size)(J:∀j u,y[j]?=some u->w.cell? (ad.add j)=some u)(h1:∀u∈y,u.oneCell'=true)(a3:n+m<=maxLen)(G:(n+m)*bytes<=140737488355328)(hm:0<m)(h:∀Z w',w'.ownsRow 0 e size Z (n+m) (xs++y)->w.grownBy w' (Value.slice Y n cap).ownBlock->mu w.heap.size (.slice Y n cap) Z->wpList P ops Q rest (a.put o.dst Z) w'):wpList P ops Q (o :: rest) a w:=
 wpList_plain a1 λ_ hK=>rh w s x t ho e i z size bytes ht hi hz H a0 a2 a4 Y n cap xs hs W ad m c y hx hl J h1 a3 G hm λZ w' h2 h3 h4=>hK _ _<|h Z w' h2 h3 h4
theorem Mm(eb tb kind t:Nat)(x:Int)(ad:Option Addr)(n cap:Nat)(ev:List uz)(E Tk:Nat->Value)(w:aa)(Y:Full w eb 144 44 44 E)(G:E 43=.slice ad n cap)(hT:Full w tb 160 7 7 Tk)(W:Tk 0=ah t)(i:w.ownsRow 0 48 3 (.slice ad n cap) n (nB ev))(hn:n<=100000):eN 173 #[P0 eb,ah kind,P0 tb,ah x] w λw'=>∃g c,w'.ownsRow 0 48 3 (dD g (n+1) c) (n+1) (nB<|ev++[(kind,t,x)])/\Full w' eb 144 44 44 (eE E 43<|dD g (n+1) c)/\dN (λk=>k=eb\/(Value.slice ad n cap).ownBlock=some k) w w'/\((Value.slice ad n cap).ownBlock=some g\/w.heap.size<=g):=by
 let⟨i0,hi,a5,a2,a1⟩:=info_parts Tryz.AU;let⟨a6,aB⟩:=Y.cells 43 af;have c0:=hT.cell 0 af;rw[G]at a6;rw[W]at c0;have le:=Y.lt;have HE:=bj Y;have HO:=bj i;have J:∀k,(Value.slice ad n cap).ownBlock=some k->k≠eb/\k<w.heap.size:=λk J=>⟨eU i Y eo k J,(dR i k J).2.1⟩;have HK:=bj J;clear Y hT i G W J;have hX:nB (ev++[(kind,t,x)])=nB ev++[ah kind,ah t,ah x]:=kh IQ
 rw[hX];clear hX;generalize nB ev=L at*;delta eN;go_in;go_wp2_with fail
 go_region_law (refine fH _ rfl (.tmp 12) (.tmp 20) 45 rfl 48 i0 _ 3 24 underlying45 hi a5 a2 a1 rfl eo ad n cap L mS (dS HO<|λk h=>au _ _ _ (HK k h).2) (az (fp w) 0) 1 1 [ah kind,ah t,ah x] mS rfl (by intro j u o;match j,o with|0,o=>(simp at o;subst o;simp[Addr.add,go_sem])|1,o=>(simp at o;subst o;simp[Addr.add,go_sem])|2,o=>(simp at o;subst o;simp[Addr.add,go_sem])) yv pY af eo ?_;intro v' w6 ho H a0;obtain⟨g,c,rfl⟩:=ef ho af;have a4:Hid ((Value.slice ad n cap).ownBlock=some g\/w.heap.size<=g):=(by rcases a0 with h|⟨g',h,hl⟩;exact ag h.symm;exact ak (by have e:g=g':=(by injection h);simp at hl;omega));clear a0;have Z:=bj ho;have y:Hid (Full w6 eb 144 44 44 E):=(HE.block<|au _ _ _ le).block<|H.block eb fV<|λh=>(HK eb h.symm).1 rfl;have a7:Hid (dN (λk=>k=eb\/(Value.slice ad n cap).ownBlock=some k) w w6):=dN.trans (S1:=λk=>(Value.slice ad n cap).ownBlock=some k) (gV (dx _ w) _) ⟨H.os,H.tape,H.output,H.size,λk J hn=>H.block k J<|λe=>hn e.symm⟩<|λk h _=>ak h;let⟨a3,a9⟩:=y.cells 43 af;clear ho H)
 all_goals
  go_wp2_with fail
  go_end0;refine⟨rfl,g,c,dS Z<|λk h=>?_,y.eE 43 _,bq a7 (ag<|ag rfl) _,a4⟩;exact ab _ _ _ _<|eU Z y eo k h
theorem ofInt64(a:Nat)(e:a<65536):(BitVec.ofInt 64 (a:Int)).toNat=a:=by
 grind
theorem BB(a b:Nat)(y:a<256)(u:b<256):bits .or .i64 ((a:Int)*256) (b:Int)=256*(a:Int)+(b:Int):=by
 have o:a*256 ||| b=256*a+b:=by
  have:=Nat.shiftLeft_add_eq_or_of_lt (i:=8) (b:=b) af a;rw[Nat.shiftLeft_eq,show(2:Nat) ^ 8=256 from rfl]at this;omega
 have e:((a:Int)*256)=((a*256:Nat):Int):=af
 rw[e];show IntKind.i64.wrap ((BitVec.ofInt 64 ((a*256:Nat):Int) ||| BitVec.ofInt 64 (b:Int)).toNat:Int)=_;grind[BitVec.toNat_or,ofInt64,IntWalk.i64_left,IntWalk.wrap64_in]
theorem xx(b:Nat)(s:ByteArray)(p:Nat)(f r l:Int)(w:aa)(h:w.heap[b]?=some (jE s p f r l))(i:s.size<=9223372036854775807)(y:p<=s.size)(o:s.size<p+2):dC 216 #[.pointer<|some<|az b 0] w (.bool false) λw'=>∃n,w'=(w.drewN n).setCell (az b 1) (ah s.size):=by
 let⟨c0,c1,_,_,_⟩:=fF h;let⟨u,_⟩:=jn h;delta dC;go_in;go_wp2
 go_quiet (fail)
 go_wp2
 go_ret;exact⟨rfl,_,rfl⟩
theorem At(b:Nat)(s:ByteArray)(p:Nat)(f r l:Int)(w:aa)(h:w.heap[b]?=some (jE s p f r l))(hs:s.size<=9223372036854775807)(h1:p+2<=s.size)(h2:256*(s[p].toNat:Int)+(s[p+1].toNat:Int)<=l):dC 216 #[.pointer<|some<|az b 0] w (.bool true) λw'=>∃n,w'=(w.drewN n).setCell (az b 1) (ah<|p+2):=by
 let⟨c0,c1,_,_,c4⟩:=fF h;let⟨f1,_⟩:=jn h;have i:s[p].toNat<256:=fL _;have o:s[p+1].toNat<256:=fL _;have hp:p<s.size:=af
 have H:p+1<s.size:=af
 have a0:IntKind.i64.wrap ((p:Int)+1)=(p:Int)+1:=jA
 have G:IntKind.i64.wrap (s[p].toNat:Int)=(s[p].toNat:Int):=jA
 have Z:IntKind.i64.wrap ((s[p].toNat:Int)*256)=(s[p].toNat:Int)*256:=jA
 have u:IntKind.i64.wrap (s[p+1].toNat:Int)=(s[p+1].toNat:Int):=jA
 have Y:=BB s[p].toNat s[p+1].toNat i o;have W:((p:Int)+1).toNat=p+1:=af
 have J:(p:Int)+1<(s.size:Int):=af
 have y:(0:Int)<=p+1:=af
 delta dC;go_in;go_wp2
 go_quiet (fail)
 go_wp2
 go_quiet (fail)
 go_wp2
 go_ret;exact⟨rfl,_,rfl⟩
theorem Cx(b:Nat)(s:ByteArray)(p:Nat)(f r l:Int)(w:aa)(h:w.heap[b]?=some (jE s p f r l))(hs:s.size<=9223372036854775807)(h1:p+2<=s.size)(h2:l<256*(s[p].toNat:Int)+(s[p+1].toNat:Int)):dC 216 #[.pointer<|some<|az b 0] w (.bool false) λw'=>∃n,w'=w.drewN n:=by
 let⟨c0,c1,_,_,c4⟩:=fF h;have i:s[p].toNat<256:=fL _;have o:s[p+1].toNat<256:=fL _;have hp:p<s.size:=af
 have H:p+1<s.size:=af
 have a0:IntKind.i64.wrap ((p:Int)+1)=(p:Int)+1:=jA
 have G:IntKind.i64.wrap (s[p].toNat:Int)=(s[p].toNat:Int):=jA
 have Z:IntKind.i64.wrap ((s[p].toNat:Int)*256)=(s[p].toNat:Int)*256:=jA
 have u:IntKind.i64.wrap (s[p+1].toNat:Int)=(s[p+1].toNat:Int):=jA
 have Y:=BB s[p].toNat s[p+1].toNat i o;have W:((p:Int)+1).toNat=p+1:=af
 have J:(p:Int)+1<(s.size:Int):=af
 have y:(0:Int)<=p+1:=af
 delta dC;go_in;go_wp2
 go_quiet (fail)
 go_wp2
 go_quiet (fail)
 go_wp2
 go_ret;exact⟨rfl,_,World.drewN_drewN _ _ _⟩
theorem yV(b:Nat)(s:ByteArray)(p L:Nat)(f r l:Int)(w:aa)(h:w.heap[b]?=some (jE s p f r l))(H:s.size<=maxLen)(J:p<=s.size)(W:l=L):dC 216 #[.pointer<|some<|az b 0] w (.bool (M.xw s p L).2) λw'=>w'.heap[b]?=some (jE s ((M.xw s p L).1:Nat) f r l)/\w.grownBy w' (some b):=by
 have i:s.size<=9223372036854775807:=by unfold maxLen at H;omega
 by_cases o:s.size<p+2
 .have e:M.xw s p L=(s.size,false):=by unfold M.xw;rw[bf o]
  rw[e];refine dq (xx b s p f r l w h i J o) ?_;rintro w' ⟨n,rfl⟩;exact⟨rfl,uP (w:=w.drewN n) h _,bu (df (aw _ _) _) (ag rfl) _⟩
 have G:=M.pc s p af;have u:=M.pc s (p+1) af;by_cases y:L<256*M.bt s p+M.bt s (p+1)
 .have e:M.xw s p L=(p,false):=by unfold M.xw;rw[av o,bf y]
  rw[e];refine dq (Cx b s p f r l w h i af af) ?_;simp_all[df,aw]
 have e:M.xw s p L=(p+2,true):=by unfold M.xw;rw[av o,av y]
 rw[e];refine dq (At b s p f r l w h i af af) ?_;rintro w' ⟨n,rfl⟩;exact⟨rfl,uP (w:=w.drewN n) h _,bu (df (aw _ _) _) (ag rfl) _⟩
theorem zK(b:Nat)(s:ByteArray)(k R F:Nat)(p f r l i:Int)(w:aa)(h:w.heap[b]?=some (jE s p f r l))(hr:r=R)(W:f=F)(J:1<=R)(h2:1<=F)(Y:R<=8)(h4:F<=8)(Z:i=k):Calls prog 217 #[.pointer<|some ⟨b,0,none⟩,.int .u8 i] w λe w'=>e=.returned (.int .i64<|M.lG R F k)/\w'=w:=by
 let⟨_,_,c2,c3,_⟩:=fF h;have H:(M.lG R F k:Int)=if i=114 then r-1 else if i=102 then f-1 else if i=115 then 8 else if i=107 then 255 else 0:=by
  unfold M.lG;repeat' split
  all_goals omega
 rw[H]
 by_cases y:i=114
 .subst y;go_in;go_wp2
  go_ret;simp_all
 have q1:(i == 114)=false:=iE y
 rw[av y]
 by_cases G:i=102
 .subst G;go_in;go_wp2
  go_ret;simp_all
 have q2:(i == 102)=false:=iE G
 rw[av G]
 by_cases u:i=115
 .subst u;go_in;go_wp2
  go_ret;simp_all
 have q3:(i == 115)=false:=iE u
 rw[av u]
 by_cases o:i=107
 .subst o;go_in;go_wp2
  go_ret;simp_all
 have q4:(i == 107)=false:=iE o
 rw[av o]
 go_in;go_wp2
 go_ret;simp_all
end
namespace B
variable {L:List V}{v:V}
def xH(L:List V):Nat->V:=λi=>L.getD i (0,0)
def n6(L:List V)(M:Nat->List V):St:=(0,xH L,M)
def kQ(kd:Kd)(n:Nat)(L:List V)(M:Nat->List V):Prop:=jP kd L.length n<|n6 L M
def nz(L:List V)(M:Nat->List V)(p:Nat):Prop:=Reach L.length (n6 L M) p
theorem qi{i:Nat}(h:i<L.length):xH L i∈L:=by
 grind[xH,List.getElem?_eq_getElem,List.getElem_mem]
theorem BE(h:v∈L):∃i,i<L.length/\xH L i=v:=by
 let⟨i,hi,e⟩:=List.getElem_of_mem h;refine⟨i,hi,?_⟩;grind[xH,List.getElem?_eq_getElem]
theorem pH{M:Nat->List V}(h:v∈L)(e:v.1≠0):nz L M v.1:=by
 obtain⟨i,hi,rfl⟩:=BE h;exact jS (s:=n6 L M) i hi e
theorem lU{M:Nat->List V}{k:Nat}(i:nz L M k)(o:v∈M k)(e:v.1≠0):nz L M v.1:=kK (s:=n6 L M) i o e
def px(L:List V)(M:Nat->List V)(v:V):Prop:=v.1=0\/v∈L\/∃p,nz L M p/\v∈M p
section
variable {kd:Kd}{n:Nat}{L L':List V}{M:Nat->List V}{v:V}
def px.mem(h:v∈L):px L M v:=Or.inr<|Or.inl h
theorem px.vS(h:px L M v)(e:v.1≠0):nz L M v.1:=by
 rcases h with h|h|⟨p,i,h⟩
 .omega
 .grind[pH]
 grind[lU]
def px.Al(h:px L M v)(e:kQ kd n L M):qX kd.on n v:=by
 rcases h with h|h|⟨p,o,h⟩
 .exact Or.inl h
 .obtain⟨i,hi,rfl⟩:=BE h;exact e.h1 i hi
 exact e.h2 p o v h
theorem uQ(h:∀v,v∈L'->px L M v){p:Nat}(u:nz L' M p):nz L M p:=
 u (nz L M) (λ_ hi e=>(h _<|qi hi).vS e) (λ_ i _ o e=>lU i o e)
def Dn(e:kQ kd n L M)(h:∀v,v∈L'->px L M v):kQ kd n L' M:=
 FV (s:=n6 L M) (s':=n6 L' M) e rfl (λ_ i=>uQ h i) (λ_ hi=>(h _<|qi hi).Al e)
def Dq(o:kQ kd n L M){p:Nat}(i:Nat)(u:nz L M p)(e:px L M v):kQ (told kd<|(M p).getD i (0,0)) n L (lay M p<|(M p).set i v):=
 FX (s:=n6 L M) o 0 p i v u (e.Al o) e.vS
def EU{p i:Nat}(u:nz L M p)(o:px L M v){k:Nat}(e:nz L (lay M p<|(M p).set i v) k):nz L M k:=
 sU (s:=n6 L M) (x:=0) u o.vS e
theorem nJ(e:kQ kd n L M){p:Nat}(i:nz L M p):kd.on p=true/\1<=p/\p<=n:=mn (s:=n6 L M) e i
theorem uR{p:Nat}{l:List V}(W:∀v,v∈l->px L M v)(J:∀v,v∈L'->v=(p,0)\/px L M v){k:Nat}(G:nz L' (lay M p l) k):k=p\/nz L M k:=by
 refine G (λk=>k=p\/nz L M k) (λi hi y=>?_)<|λk G u H y=>?_
 .rcases J _ (qi hi) with h|h
  .left
   show(xH L' i).1=p;rw[h]
  exact Or.inr<|h.vS y
 have o:u∈lay M p l k:=H;grind[iG,gm,lU,B.px.vS]
def Dr(H:kQ kd n L M){p:Nat}{l:List V}(h1:1<=p)(h2:p<=n)(h3:kd.on p=false)(y:∀v,v∈l->px L M v)(Z:∀v,v∈L'->v=(p,0)\/px L M v):kQ (laid kd p) n L' (lay M p l):=by
 refine⟨λi hi=>?_,λk Y u W=>?_,λc hc=>?_⟩
 .show qX (mark kd.on p) n (xH L' i);rcases Z _ (qi hi) with h|h
  .rw[h];exact Or.inr ⟨h1,h2,kF _ _,rfl⟩
  exact(h.Al H).up<|λk=>ld p
 .have o:u∈lay M p l k:=W;show qX (mark kd.on p) n u;by_cases e:k=p
  .subst e;rw[iG]at o;exact((y u o).Al H).up<|λj=>ld k
  rw[gm _ _ _ _ e]at o;rcases uR y Z Y with h|h
  .omega
  exact(H.h2 k h u o).up<|λj=>ld p
 have J:kd.cy.map (λc:Cy=>(⟨mark c.m p,c.st,c.nx⟩:Cy))=some c:=hc;rw[Option.map_eq_some_iff]at J;obtain⟨c0,a0,rfl⟩:=J;let⟨hx,T,hT,hs⟩:=H.h3 c0 a0;have hs:gE kd.on n M c0 T:=hs;exact⟨hx,λk=>k=p\/T k,λk Y=>(uR y Z Y).imp id<|hT k,hs.new h1 h2 h3<|λu W=>⟨(y u W).Al H,λh0=>hT _<|(y u W).vS h0⟩⟩
end
